/- Own work. -/
import Derived.Test.YtblfffbmklkhmaaGreatAw3
import Derived.Test.YtblfffbmklkhmaaGreatAw4
namespace Go.Proofs.YtblfffbmklkhmaaGreat
open Go.RowKit
theorem Tryz.info253 : (Tryz.prog.info? 253).map (fun i => (i.zero, i.size, i.bytes)) = some (some (.agg #[.int .u8 0, .int .i64 0, .int .i64 0, .int .u8 0, .bool false]), 5, 40) := by kernel_rfl
/-- A declaration, as the program keeps it. -/
structure PDc where
  pr : Int
  kd : Int
  nu : Int
  va : Int
  im : Bool
/-- From i to j there is this declaration. -/
def DeclAt (s : ByteArray) (i j : Nat) (d : PDc) : Prop :=
  isP (bt s i) = true ∧ d.pr = bt s i ∧ bt s (i + 1) = 58 ∧ ∃ k, ValAt s (i + 2) k d.kd d.nu d.va ∧ i + 2 < k ∧ ((d.im = true ∧ bt s k = 33 ∧ j = k + 1) ∨ (d.im = false ∧ bt s k ≠ 33 ∧ j = k))
/-- The cells hold these declarations. -/
def Decs : List Value → List PDc → Prop
  | xs, [] => xs = []
  | xs, d :: ds => ∃ ys, xs = .int .u8 d.pr :: .int .i64 d.kd :: .int .i64 d.nu :: .int .u8 d.va :: .bool d.im :: ys ∧ Decs ys ds
theorem Decs.snoc {xs : List Value} {ds : List PDc} (h : Decs xs ds) (p kd nv vr : Int) (im : Bool) : Decs (xs ++ [.int .u8 p, .int .i64 kd, .int .i64 nv, .int .u8 vr, .bool im]) (ds ++ [⟨p, kd, nv, vr, im⟩]) := by
  induction ds generalizing xs with
  | nil => simp only [Decs] at h; subst h; exact ⟨[], rfl, rfl⟩
  | cons k ks ih =>
    obtain ⟨ys, rfl, hy⟩ := h
    exact ⟨_, rfl, ih hy⟩
/-- From i to j there are declarations, each with a semicolon behind it. -/
def DcPre (s : ByteArray) : Nat → Nat → List PDc → Prop
  | i, j, [] => i = j
  | i, j, d :: ds => ∃ l, DeclAt s i l d ∧ i < l ∧ bt s l = 59 ∧ DcPre s (l + 1) j ds
theorem DcPre.snoc {s : ByteArray} {i j l : Nat} {ds : List PDc} {d : PDc} (h : DcPre s i j ds) (hc : DeclAt s j l d) (hl : j < l) (hs : bt s l = 59) : DcPre s i (l + 1) (ds ++ [d]) := by
  induction ds generalizing i with
  | nil => simp only [DcPre] at h; subst h; exact ⟨l, hc, hl, hs, rfl⟩
  | cons x ss ih =>
    obtain ⟨l', h1, h2, h3, h4⟩ := h
    exact ⟨l', h1, h2, h3, ih h4⟩
def DcsAt (s : ByteArray) (i j : Nat) (ds : List PDc) : Prop := ∃ pre l d, ds = pre ++ [d] ∧ DcPre s i l pre ∧ DeclAt s l j d ∧ l < j ∧ bt s j ≠ 59
/-- From i to j there is a block of these declarations. -/
def BlkAt (s : ByteArray) (i j : Nat) (ds : List PDc) : Prop :=
  bt s i = 123 ∧ ((bt s (i + 1) = 125 ∧ ds = [] ∧ j = i + 2) ∨ (bt s (i + 1) ≠ 125 ∧ ∃ k, DcsAt s (i + 1) k ds ∧ bt s k = 125 ∧ j = k + 1))
def DeclPost (w : World) (b : Nat) (s : ByteArray) (i : Nat) (m : Int) (e : Ending) (w' : World) : Prop :=
  (∃ (p kd nv vr : Int) (im : Bool) (j : Nat), e = .returned (.tuple #[.agg #[.int .u8 p, .int .i64 kd, .int .i64 nv, .int .u8 vr, .bool im], .bool true]) ∧ At w w' b s j m ∧ Hid (Sim s 10 i 16 j ∧ i < j ∧ DeclAt s i j ⟨p, kd, nv, vr, im⟩)) ∨
  (∃ (j : Nat), e = .returned (.tuple #[.agg #[.int .u8 0, .int .i64 0, .int .i64 0, .int .u8 0, .bool false], .bool false]) ∧ At w w' b s j m ∧ Hid (Bad s 10 i j))
theorem prop_yes {s : ByteArray} {i : Nat} (h : isP (bt s i) = true ∧ i < s.size) : Sim s 10 i 11 (i + 1) := sim_go h.2 (by simp [nxt, propN, h.1]) (by decide) (fun k => by simp [cnt])
theorem prop_no {s : ByteArray} {i : Nat} (h : isP (bt s i) = false) : Bad s 10 i i := bad_no (by decide) (by simp [nxt, propN, h])
theorem colon_yes {s : ByteArray} {i : Nat} (h : (bt s i : Int) = 58 ∧ i < s.size) : Sim s 11 i 12 (i + 1) := by
  have h1 : bt s i = 58 := by omega
  exact sim_go h.2 (by simp [nxt, wh, h1]) (by decide) (fun k => by simp [cnt])
theorem colon_no {s : ByteArray} {i : Nat} (h : (bt s i : Int) ≠ 58) : Bad s 11 i i := by
  have h1 : ¬ bt s i = 58 := by omega
  exact bad_no (by decide) (by simp [nxt, wh, h1])
theorem bang_yes {s : ByteArray} {i : Nat} (h : (bt s i : Int) = 33 ∧ i < s.size) : Sim s 15 i 16 (i + 1) := by
  have h1 : bt s i = 33 := by omega
  exact sim_go h.2 (by simp [nxt, markN, h1]) (by decide) (fun k => by simp [cnt])
theorem bang_no {s : ByteArray} {i : Nat} (h : (bt s i : Int) ≠ 33) : Sim s 15 i 16 i := by
  have h1 : ¬ bt s i = 33 := by omega
  exact sim_same (by decide) (by decide) (by simp [nxt, markN, h1]) (fun k => by simp [cnt])
set_option maxHeartbeats 2000000 in
theorem declaration_any (w : World) (b : Nat) (s : ByteArray) (i : Nat) (m : Int) (h : Rd w b s i m) :
    Calls Tryz.prog 194 #[.pointer (some ⟨b, 0, none⟩)] w fun e w' => DeclPost w b s i m e w' := by
  have hb := h.lt
  go_enter Tryz.func194, Tryz.ntmps194
  go_wp2_with fail
  refine (property_any _ b s i m (by exact h.alloc _)).mono ?_
  rintro e w1 (⟨rfl, ha, hf⟩ | ⟨rfl, ha, hf⟩)
  · go_wp2_with fail
    refine (take_any _ b s (i + 1) m 58 (by exact ha.rd) (by decide)).mono ?_
    rintro e w2 (⟨rfl, ha2, hf2⟩ | ⟨rfl, ha2, hf2⟩)
    · have ha3 := ha.trans ha2
      go_wp2_with fail
      refine (value_any _ b s (i + 2) m (by exact ha3.rd)).mono ?_
      rintro e w3 (⟨kd, nv, vr, j, rfl, ha4, hf4⟩ | ⟨kd, nv, vr, j, rfl, ha4, hf4⟩)
      · have ha5 := ha3.trans ha4
        have hz5 : w.heap.size < w3.heap.size := by have := ha5.size; simp only [World.size_alloc] at this; omega
        have HS : Hid (Sim s 10 i 15 j ∧ i < j ∧ isP (bt s i) = true ∧ bt s (i + 1) = 58 ∧ ValAt s (i + 2) j kd nv vr ∧ i + 2 < j) := ⟨((prop_yes hf.out).trans (colon_yes hf2.out)).trans hf4.out.1, by have := hf4.out.2.1; omega, hf.out.1, by have := hf2.out.1; omega, hf4.out.2.2, hf4.out.2.1⟩
        go_wp2_with fail
        have ha6 := ha5.alloc (Obj.cells #[Value.int IntKind.i64 kd, Value.int IntKind.i64 nv, Value.int IntKind.u8 vr] 219)
        refine (take_any _ b s j m 33 (by exact ha6.rd) (by decide)).mono ?_
        rintro e w4 (⟨rfl, ha7, hf7⟩ | ⟨rfl, ha7, hf7⟩)
        · have ha8 := ha6.trans ha7
          obtain ⟨hc, hz⟩ := ha8.cells w.heap.size (by simp) (by omega)
          obtain ⟨hc', hz'⟩ := ha7.cells w3.heap.size (by simp) (by omega)
          go_wp2_with fail
          exact bodyPost_ret (v := .tuple #[.agg #[.int .u8 (bt s i), .int .i64 kd, .int .i64 nv, .int .u8 vr, .bool true], .bool true]) (by simp [results, Tryz.results194, go_sem, hc]) rfl (Or.inl ⟨_, kd, nv, vr, true, j + 1, rfl, ha8.ofAlloc.set5 hb (Nat.le_refl _) _ _ _ _ _, HS.out.1.trans (bang_yes hf7.out), by have := HS.out.2.1; omega, HS.out.2.2.1, rfl, HS.out.2.2.2.1, j, HS.out.2.2.2.2.1, HS.out.2.2.2.2.2, Or.inl ⟨rfl, by have := hf7.out.1; omega, rfl⟩⟩)
        · have ha8 := ha6.trans ha7
          obtain ⟨hc, hz⟩ := ha8.cells w.heap.size (by simp) (by omega)
          obtain ⟨hc', hz'⟩ := ha7.cells w3.heap.size (by simp) (by omega)
          go_wp2_with fail
          exact bodyPost_ret (v := .tuple #[.agg #[.int .u8 (bt s i), .int .i64 kd, .int .i64 nv, .int .u8 vr, .bool false], .bool true]) (by simp [results, Tryz.results194, go_sem, hc]) rfl (Or.inl ⟨_, kd, nv, vr, false, j, rfl, ha8.ofAlloc.set5 hb (Nat.le_refl _) _ _ _ _ _, HS.out.1.trans (bang_no hf7.out), HS.out.2.1, HS.out.2.2.1, rfl, HS.out.2.2.2.1, j, HS.out.2.2.2.2.1, HS.out.2.2.2.2.2, Or.inr ⟨rfl, by have := hf7.out; omega, rfl⟩⟩)
      · have ha5 := ha3.trans ha4
        have hz5 : w.heap.size < w3.heap.size := by have := ha5.size; simp only [World.size_alloc] at this; omega
        obtain ⟨hc, hz⟩ := ha5.cells w.heap.size (by simp) (by omega)
        go_wp2_with fail
        exact bodyPost_ret (v := .tuple #[.agg #[.int .u8 0, .int .i64 0, .int .i64 0, .int .u8 0, .bool false], .bool false]) (by simp [results, Tryz.results194, go_sem, hc, hz5]) rfl (Or.inr ⟨j, rfl, (ha5.ofAlloc.set5 hb (Nat.le_refl _) _ _ _ _ _).alloc _, ((prop_yes hf.out).trans (colon_yes hf2.out)).bad hf4.out⟩)
    · have ha3 := ha.trans ha2
      obtain ⟨hc, hz⟩ := ha3.cells w.heap.size (by simp) (by omega)
      go_wp2_with fail
      exact bodyPost_ret (v := .tuple #[.agg #[.int .u8 0, .int .i64 0, .int .i64 0, .int .u8 0, .bool false], .bool false]) (by simp [results, Tryz.results194, go_sem, hc]) rfl (Or.inr ⟨i + 1, rfl, ha3.ofAlloc.set5 hb (Nat.le_refl _) _ _ _ _ _, (prop_yes hf.out).bad (colon_no hf2.out)⟩)
  · obtain ⟨hc, hz⟩ := ha.cells w.heap.size (by simp) (by omega)
    go_wp2_with fail
    exact bodyPost_ret (v := .tuple #[.agg #[.int .u8 0, .int .i64 0, .int .i64 0, .int .u8 0, .bool false], .bool false]) (by simp [results, Tryz.results194, go_sem, hc]) rfl (Or.inr ⟨i, rfl, ha.ofAlloc.set5 hb (Nat.le_refl _) _ _ _ _ _, prop_no hf.out⟩)
structure DeclsRel (w : World) (b : Nat) (s : ByteArray) (i : Nat) (m : Int) (gk : Nat) (v : Value) (more : Bool) (wr : World) (j : Nat) (ds : List PDc) (xs : List Value) : Prop where
  at' : At w wr b s j m
  own : wr.ownsRow w.heap.size 253 5 v ds.length xs
  decs : Decs xs ds
  le : i ≤ j
  few : ds.length ≤ j - i
  gk : more = true → s.size - j < gk
  go : more = true → Sim s 10 i 10 j ∧ DcPre s i j ds
  done : more = false → Sim s 10 i 16 j ∧ bt s j ≠ 59 ∧ i < j ∧ DcsAt s i j ds
def DeclsPost (w : World) (b : Nat) (s : ByteArray) (i : Nat) (m : Int) (e : Ending) (w' : World) : Prop :=
  (∃ (a : Option Addr) (c j : Nat) (ds : List PDc) (xs : List Value), e = .returned (.tuple #[.slice a ds.length c, .bool true]) ∧ At w w' b s j m ∧ w'.ownsRow w.heap.size 253 5 (.slice a ds.length c) ds.length xs ∧ Hid (Decs xs ds ∧ Sim s 10 i 16 j ∧ bt s j ≠ 59 ∧ i < j ∧ DcsAt s i j ds)) ∨
  (∃ (j : Nat), e = .returned (.tuple #[.slice none 0 0, .bool false]) ∧ At w w' b s j m ∧ Hid (Bad s 10 i j))
theorem one5d (a b c d : Int) (e : Bool) : ∀ u ∈ [Value.int .u8 a, Value.int .i64 b, Value.int .i64 c, Value.int .u8 d, Value.bool e], u.oneCell' = true := by
  intro u hu
  simp only [List.mem_cons, List.not_mem_nil, or_false] at hu
  rcases hu with rfl | rfl | rfl | rfl | rfl <;> rfl
theorem semi_yes {s : ByteArray} {i : Nat} (h : (bt s i : Int) = 59 ∧ i < s.size) : Sim s 16 i 10 (i + 1) := by
  have h1 : bt s i = 59 := by omega
  exact sim_go h.2 (by simp [nxt, closeN, h1]) (by decide) (fun k => by simp [cnt])
set_option maxHeartbeats 4000000 in
theorem declarations_any (w : World) (b : Nat) (s : ByteArray) (i : Nat) (m : Int) (h : Rd w b s i m) :
    Calls Tryz.prog 180 #[.pointer (some ⟨b, 0, none⟩)] w fun e w' => DeclsPost w b s i m e w' := by
  have hb := h.lt
  have htop := h.top
  obtain ⟨i0, hi, iz0, iz1, iz2⟩ := info_parts Tryz.info253
  go_enter Tryz.func180, Tryz.ntmps180
  go_wp2_with fail
  go_loopg [4, 5] (s.size - i + 1) (fun gk v mv wr => ∃ (j : Nat) (ds : List PDc) (xs : List Value) (more : Bool), mv = .bool more ∧ DeclsRel w b s i m gk v more wr j ds xs)
  case atStart =>
    exact ⟨i, [], [], true, rfl, h.at0, World.ownsRow_nil _ _ _ _, rfl, Nat.le_refl _, by simp, fun _ => by omega, fun _ => ⟨fun _ => rfl, rfl⟩, fun e => by cases e⟩
  case round =>
    obtain ⟨j, ds, xs, more, rfl, R⟩ := hrel
    have hle := R.at'.rd.le
    obtain ⟨a, c, hv⟩ := own_shape R.own
    subst hv
    cases more
    · have R2 := R
      clear R
      go_wp2
      go_ret2
      exact Or.inl ⟨a, c, j, ds, xs, rfl, R2.at', R2.own, R2.decs, R2.done rfl⟩
    · go_wp2_with fail
      refine (declaration_any _ b s j m (by exact R.at'.rd)).mono ?_
      rintro e w2 (⟨p, kd, nv, vr, im, l, rfl, ha2, hf2⟩ | ⟨l, rfl, ha2, hf2⟩)
      · have ha3 := R.at'.trans ha2
        have hz1 := R.at'.size
        have hz2 := ha3.size
        have own2 := ha2.owns R.own (by omega)
        have hlen := R.few
        go_wp2_with (at_builtin; refine wpList_append_own _ rfl (.tmp 16) (.tmp 18) 136 rfl w.heap.size 253 i0 (.agg #[.int .u8 0, .int .i64 0, .int .i64 0, .int .u8 0, .bool false]) 5 40 Tryz.underlying136 hi iz0 iz1 iz2 rfl (by decide) _ _ _ rfl ((own2.alloc _).alloc _) ⟨w2.heap.size + 1, 0, none⟩ 1 1 [.int .u8 p, .int .i64 kd, .int .i64 nv, .int .u8 vr, .bool im] rfl rfl ?c1 ?c2 ?c3 ?c4 ?c5 ?_)
        case c1 => exact new_cells (w2.alloc _) _ (by simp) _ _ _ rfl
        case c2 => exact one5d _ _ _ _ _
        case c3 => unfold maxLen; omega
        case c4 => omega
        case c5 => simp; omega
        · intro v' w3 hown3 hg3 _
          have at3 : At w w3 b s l m := ((ha3.alloc _).alloc _).app hb ((own2.alloc _).alloc _) hg3
          have HV : Hid (Sim s 10 i 16 l ∧ j < l ∧ DcPre s i j ds ∧ DeclAt s j l ⟨p, kd, nv, vr, im⟩) := ⟨(R.go rfl).1.trans hf2.out.1, hf2.out.2.1, (R.go rfl).2, hf2.out.2.2⟩
          have hle := R.le
          have hgk := R.gk rfl
          have hjl := hf2.out.2.1
          have HDC : Hid (Decs (xs ++ [.int .u8 p, .int .i64 kd, .int .i64 nv, .int .u8 vr, .bool im]) (ds ++ [⟨p, kd, nv, vr, im⟩])) := R.decs.snoc _ _ _ _ _
          have hfew : (ds ++ [(⟨p, kd, nv, vr, im⟩ : PDc)]).length ≤ l - i := by simp; omega
          have own3 : w3.ownsRow w.heap.size 253 5 v' (ds ++ [(⟨p, kd, nv, vr, im⟩ : PDc)]).length (xs ++ [.int .u8 p, .int .i64 kd, .int .i64 nv, .int .u8 vr, .bool im]) := by simpa using hown3
          clear hown3 hg3 own2 R hf2
          go_wp2_with fail
          refine (take_any _ b s l m 59 (by exact at3.rd) (by decide)).mono ?_
          rintro e w4 (⟨rfl, ha4, hf4⟩ | ⟨rfl, ha4, hf4⟩)
          · have R4 : DeclsRel w b s i m (s.size - l) v' true w4 (l + 1) (ds ++ [⟨p, kd, nv, vr, im⟩]) (xs ++ [.int .u8 p, .int .i64 kd, .int .i64 nv, .int .u8 vr, .bool im]) :=
              ⟨at3.trans ha4, ha4.owns own3 (by omega), HDC.out, by omega, by omega, fun _ => by have := hf4.out.2; omega, fun _ => ⟨HV.out.1.trans (semi_yes hf4.out), HV.out.2.2.1.snoc HV.out.2.2.2 HV.out.2.1 (by have := hf4.out.1; omega)⟩, fun e => by cases e⟩
            have hls := hf4.out.2
            clear own3
            go_wp2
            go_roundg (s.size - l)
            case measure => omega
            case rel => exact ⟨l + 1, _, _, _, rfl, R4⟩
          · have R4 : DeclsRel w b s i m 0 v' false w4 l (ds ++ [⟨p, kd, nv, vr, im⟩]) (xs ++ [.int .u8 p, .int .i64 kd, .int .i64 nv, .int .u8 vr, .bool im]) :=
              ⟨at3.trans ha4, ha4.owns own3 (by omega), HDC.out, by omega, by omega, fun e => (by cases e), fun e => (by cases e), fun _ => ⟨HV.out.1, by have := hf4.out; omega, by have := HV.out.2.1; omega, ds, j, _, rfl, HV.out.2.2.1, HV.out.2.2.2, HV.out.2.1, by have := hf4.out; omega⟩⟩
            clear own3
            go_wp2
            go_roundg 0
            case measure => omega
            case rel => exact ⟨l, _, _, _, rfl, R4⟩
      · have ha3 := R.at'.trans ha2
        go_wp2_with fail
        go_ret2
        exact Or.inr ⟨l, rfl, ha3.alloc _, (R.go rfl).1.bad hf2.out⟩
def BlockPost (w : World) (b : Nat) (s : ByteArray) (i : Nat) (m : Int) (e : Ending) (w' : World) : Prop :=
  (∃ (a : Option Addr) (c j : Nat) (ds : List PDc) (xs : List Value), e = .returned (.tuple #[.slice a ds.length c, .bool true]) ∧ At w w' b s j m ∧ w'.ownsRow w.heap.size 253 5 (.slice a ds.length c) ds.length xs ∧ Hid (Decs xs ds ∧ Sim s 3 i 0 j ∧ i < j ∧ BlkAt s i j ds)) ∨
  (∃ (a : Option Addr) (n c j : Nat), e = .returned (.tuple #[.slice a n c, .bool false]) ∧ At w w' b s j m ∧ Hid (Bad s 3 i j))
theorem brace_yes {s : ByteArray} {i : Nat} (h : (bt s i : Int) = 123 ∧ i < s.size) : Sim s 3 i 9 (i + 1) ∧ bt s i = 123 := by
  have h1 : bt s i = 123 := by omega
  exact ⟨sim_go h.2 (by simp [nxt, moreN, isS, h1]) (by decide) (fun k => by simp [cnt, isS, h1]), h1⟩
theorem brace_no {s : ByteArray} {i : Nat} (h : (bt s i : Int) ≠ 123) (hA : isA (bt s i) = false) (hS : isS (bt s i) = false) (h44 : bt s i ≠ 44) : Bad s 3 i i := by
  simp only [isA, decide_eq_false_iff_not] at hA
  have h1 : ¬ bt s i = 123 := by omega
  have h2 : ¬ bt s i = 33 := by omega
  have h3 : ¬ bt s i = 46 := by omega
  have h4 : ¬ bt s i = 35 := by omega
  have h5 : ¬ bt s i = 58 := by omega
  exact bad_no (by decide) (by simp [nxt, moreN, partN, hS, h44, h1, h2, h3, h4, h5])
theorem shut_yes {s : ByteArray} {i : Nat} (h : (bt s i : Int) = 125 ∧ i < s.size) : Sim s 9 i 0 (i + 1) ∧ Sim s 16 i 0 (i + 1) := by
  have h1 : bt s i = 125 := by omega
  exact ⟨sim_go h.2 (by simp [nxt, h1]) (by decide) (fun k => by simp [cnt]), sim_go h.2 (by simp [nxt, closeN, h1]) (by decide) (fun k => by simp [cnt])⟩
theorem shut_no9 {s : ByteArray} {i : Nat} (h : (bt s i : Int) ≠ 125) : Sim s 9 i 10 i := by
  have h1 : ¬ bt s i = 125 := by omega
  exact sim_same (by decide) (by decide) (by simp [nxt, h1]) (fun k => by simp [cnt])
theorem shut_no16 {s : ByteArray} {i : Nat} (h : (bt s i : Int) ≠ 125) (h59 : bt s i ≠ 59) : Bad s 16 i i := by
  have h1 : ¬ bt s i = 125 := by omega
  exact bad_no (by decide) (by simp [nxt, closeN, h1, h59])
set_option maxHeartbeats 1000000 in
theorem block_any (w : World) (b : Nat) (s : ByteArray) (i : Nat) (m : Int) (h : Rd w b s i m) (hN : Hid (isA (bt s i) = false ∧ isS (bt s i) = false ∧ bt s i ≠ 44)) :
    Calls Tryz.prog 159 #[.pointer (some ⟨b, 0, none⟩)] w fun e w' => BlockPost w b s i m e w' := by
  have hb := h.lt
  go_enter Tryz.func159, Tryz.ntmps159
  go_wp2_with fail
  refine (take_any _ b s i m 123 (by exact h) (by decide)).mono ?_
  rintro e w1 (⟨rfl, ha, hf⟩ | ⟨rfl, ha, hf⟩)
  · go_wp2_with fail
    refine (take_any _ b s (i + 1) m 125 (by exact ha.rd) (by decide)).mono ?_
    rintro e w2 (⟨rfl, ha2, hf2⟩ | ⟨rfl, ha2, hf2⟩)
    · go_wp2_with fail
      go_ret2
      exact Or.inl ⟨none, 0, i + 2, [], [], rfl, ha.trans ha2, World.ownsRow_nil _ _ _ _, rfl, (brace_yes hf.out).1.trans (shut_yes hf2.out).1, by omega, (brace_yes hf.out).2, Or.inl ⟨by have := hf2.out.1; omega, rfl, rfl⟩⟩
    · have ha3 := ha.trans ha2
      go_wp2_with fail
      refine (declarations_any _ b s (i + 1) m (by exact ha3.rd)).mono ?_
      rintro e w3 (⟨a, c, j, ds, xs, rfl, ha4, ho4, hf4⟩ | ⟨j, rfl, ha4, hf4⟩)
      · have ha5 := ha3.trans ha4
        have HS : Hid (Sim s 3 i 16 j ∧ i < j ∧ bt s i = 123 ∧ bt s j ≠ 59 ∧ Decs xs ds ∧ DcsAt s (i + 1) j ds ∧ bt s (i + 1) ≠ 125) := ⟨((brace_yes hf.out).1.trans (shut_no9 hf2.out)).trans hf4.out.2.1, by have := hf4.out.2.2.2.1; omega, (brace_yes hf.out).2, hf4.out.2.2.1, hf4.out.1, hf4.out.2.2.2.2, by have := hf2.out; omega⟩
        have hsz3 := ha3.size
        go_wp2_with fail
        refine (take_any _ b s j m 125 (by exact ha5.rd) (by decide)).mono ?_
        rintro e w4 (⟨rfl, ha6, hf6⟩ | ⟨rfl, ha6, hf6⟩)
        · go_wp2_with fail
          go_ret2
          exact Or.inl ⟨a, c, j + 1, ds, xs, rfl, ha5.trans ha6, own_mono (ha6.owns ho4 (by omega)) hsz3, HS.out.2.2.2.2.1, HS.out.1.trans (shut_yes hf6.out).2, by have := HS.out.2.1; omega, HS.out.2.2.1, Or.inr ⟨HS.out.2.2.2.2.2.2, j, HS.out.2.2.2.2.2.1, by have := hf6.out.1; omega, rfl⟩⟩
        · go_wp2_with fail
          go_ret2
          exact Or.inr ⟨a, ds.length, c, j, rfl, ha5.trans ha6, HS.out.1.bad (shut_no16 hf6.out HS.out.2.2.2.1)⟩
      · go_wp2_with fail
        go_ret2
        exact Or.inr ⟨none, 0, 0, j, rfl, ha3.trans ha4, ((brace_yes hf.out).1.trans (shut_no9 hf2.out)).bad hf4.out⟩
  · go_wp2_with fail
    go_ret2
    exact Or.inr ⟨none, 0, 0, i, rfl, ha, brace_no hf.out hN.out.1 hN.out.2.1 hN.out.2.2⟩
end Go.Proofs.YtblfffbmklkhmaaGreat

namespace Go.Proofs.YtblfffbmklkhmaaGreat
open Go.RowKit
theorem Tryz.info138 : (Tryz.prog.info? 138).map (fun i => (i.zero, i.size, i.bytes)) = some (some (.agg #[.int .i64 0, .slice none 0 0, .slice none 0 0]), 3, 56) := by kernel_rfl
def LayerAt (s : ByteArray) (i j : Nat) : Prop := (bt s i = 64 ∧ j = i + 2) ∨ (bt s i ≠ 64 ∧ j = i)
/-- The layer of the rule at a place. -/
def layV (s : ByteArray) (i : Nat) : Int := if bt s i = 64 then (bt s (i + 1) : Int) - 48 else 10
/-- A rule, as the program keeps it. -/
structure PRu where
  ly : Int
  ss : List (List PCp)
  ds : List PDc
def LayerPost (w : World) (b : Nat) (s : ByteArray) (i : Nat) (m : Int) (e : Ending) (w' : World) : Prop :=
  (∃ (v : Int) (j : Nat), e = .returned (.tuple #[.int .i64 v, .bool true]) ∧ At w w' b s j m ∧ Hid (LayerAt s i j ∧ (∀ nr nc mn, V s 18 ⟨nr, nc, mn⟩ i = V s 2 ⟨nr, 1, mn⟩ j) ∧ v = layV s i)) ∨
  (∃ (v : Int) (j : Nat), e = .returned (.tuple #[.int .i64 v, .bool false]) ∧ At w w' b s j m ∧ Hid (Bad s 18 i j))
theorem layer_at {s : ByteArray} {i : Nat} (h : (bt s i : Int) = 64 ∧ i < s.size) : (∀ nr nc mn, V s 18 ⟨nr, nc, mn⟩ i = V s 1 ⟨nr, 1, mn⟩ (i + 1)) ∧ bt s i = 64 := by
  have h1 : bt s i = 64 := by omega
  refine ⟨fun nr nc mn => ?_, h1⟩
  rw [V_go h.2 (m' := 1) (by simp [nxt, h1]) (by decide)]
  simp [cnt]
theorem layer_no {s : ByteArray} {i : Nat} (h : (bt s i : Int) ≠ 64) : (∀ nr nc mn, V s 18 ⟨nr, nc, mn⟩ i = V s 2 ⟨nr, 1, mn⟩ i) ∧ bt s i ≠ 64 := by
  have h1 : ¬ bt s i = 64 := by omega
  exact ⟨fun nr nc mn => V_same (by decide) (by decide) (by simp [nxt, h1]) (by simp [cnt]), h1⟩
theorem layer_digit {s : ByteArray} {i : Nat} (h : isD (bt s i) = true ∧ i < s.size) : ∀ nr mn, V s 1 ⟨nr, 1, mn⟩ i = V s 2 ⟨nr, 1, mn⟩ (i + 1) := fun nr mn => by
  rw [V_go h.2 (m' := 2) (by simp [nxt, h.1, wh]) (by decide)]
  simp [cnt]
theorem layer_nodigit {s : ByteArray} {i : Nat} (h : isD (bt s i) = false) : Bad s 1 i i := bad_no (by decide) (by simp [nxt, h, wh])
set_option maxHeartbeats 1000000 in
theorem layer_any (w : World) (b : Nat) (s : ByteArray) (i : Nat) (m : Int) (h : Rd w b s i m) :
    Calls Tryz.prog 157 #[.pointer (some ⟨b, 0, none⟩)] w fun e w' => LayerPost w b s i m e w' := by
  go_enter Tryz.func157, Tryz.ntmps157
  go_wp2_with fail
  refine (take_any _ b s i m 64 (by exact h) (by decide)).mono ?_
  rintro e w1 (⟨rfl, ha, hf⟩ | ⟨rfl, ha, hf⟩)
  · go_wp2_with fail
    refine (digit_any _ b s (i + 1) m (by exact ha.rd)).mono ?_
    rintro e w2 (⟨rfl, ha2, hf2⟩ | ⟨rfl, ha2, hf2⟩)
    · go_wp2_with fail
      go_ret2
      exact Or.inl ⟨_, i + 2, rfl, ha.trans ha2, Or.inl ⟨(layer_at hf.out).2, rfl⟩, fun nr nc mn => by rw [(layer_at hf.out).1, layer_digit hf2.out], by unfold layV; rw [if_pos (layer_at hf.out).2]⟩
    · go_wp2_with fail
      go_ret2
      exact Or.inr ⟨_, i + 1, rfl, ha.trans ha2, fun k => by rw [(layer_at hf.out).1 k.nr k.nc k.mn, layer_nodigit hf2.out]⟩
  · go_wp2_with fail
    go_ret2
    exact Or.inl ⟨_, i, rfl, ha, Or.inr ⟨(layer_no hf.out).2, rfl⟩, (layer_no hf.out).1, by unfold layV; rw [if_neg (layer_no hf.out).2]⟩
/-- From i to j there is a rule with these selectors. -/
def RuleAt (s : ByteArray) (i j : Nat) (r : PRu) : Prop :=
  ∃ l q, LayerAt s i l ∧ SelsAt s l q r.ss ∧ l < q ∧ bt s q = 123 ∧ q < j ∧ Sim s 3 q 0 j ∧ r.ly = layV s i ∧ BlkAt s q j r.ds
def RulePost (w : World) (b : Nat) (s : ByteArray) (i : Nat) (m : Int) (e : Ending) (w' : World) : Prop :=
  (∃ (lv : Int) (a : Option Addr) (c : Nat) (ss : List (List PCp)) (xs : List Value) (a' : Option Addr) (c' : Nat) (ds : List PDc) (ys : List Value) (j : Nat) (m' : Int),
    e = .returned (.tuple #[.agg #[.int .i64 lv, .slice a ss.length c, .slice a' ds.length c'], .bool true]) ∧ At w w' b s j m' ∧ w'.ownsRow w.heap.size 141 1 (.slice a ss.length c) ss.length xs ∧ Sels w' w.heap.size xs ss ∧ w'.ownsRow w.heap.size 253 5 (.slice a' ds.length c') ds.length ys ∧
    Hid (Decs ys ds ∧ RuleAt s i j ⟨lv, ss, ds⟩ ∧ i < j ∧ ∃ nc', ∀ nr nc, V s 18 ⟨nr, nc, m⟩ i = V s 0 ⟨nr, nc', m'⟩ j)) ∨
  (∃ (j : Nat) (m' : Int), e = .returned (.tuple #[.agg #[.int .i64 0, .slice none 0 0, .slice none 0 0], .bool false]) ∧ At w w' b s j m' ∧ Hid (∀ nr nc, V s 18 ⟨nr, nc, m⟩ i = ((j : Int), -1)))
theorem sels_set3 {w : World} {base : Nat} {xs : List Value} {ss : List (List PCp)} (h : Sels w base xs ss) {B : Nat} (hB : B < base) (v0 v1 v2 : Value) :
    Sels (((w.setCell ⟨B, 0, none⟩ v0).setCell ⟨B, 1, none⟩ v1).setCell ⟨B, 2, none⟩ v2) base xs ss :=
  h.keep (((keeps_set _ (by exact hB) _ _).trans (keeps_set _ (by exact hB) _ _)).trans (keeps_set _ (by exact hB) _ _)) (((keeps_set _ (by exact hB) _ _).trans (keeps_set _ (by exact hB) _ _)).trans (keeps_set _ (by exact hB) _ _))
set_option maxHeartbeats 2000000 in
theorem rule_any (w : World) (b : Nat) (s : ByteArray) (i : Nat) (m : Int) (h : Rd w b s i m) :
    Calls Tryz.prog 124 #[.pointer (some ⟨b, 0, none⟩)] w fun e w' => RulePost w b s i m e w' := by
  have hb := h.lt
  go_enter Tryz.func124, Tryz.ntmps124
  go_wp2_with fail
  refine (layer_any _ b s i m (by exact h.alloc _)).mono ?_
  rintro e w1 (⟨lv, l, rfl, ha, hf⟩ | ⟨lv, l, rfl, ha, hf⟩)
  · have hz1 : w.heap.size < w1.heap.size := by have := ha.size; simp only [World.size_alloc] at this; omega
    go_wp2_with fail
    refine (selectors_any _ b s l m (by exact ha.rd)).mono ?_
    rintro e w2 (⟨a, c, ss, xs, q, m2, rfl, ha2, ho2, hs2, hf2⟩ | ⟨q, m2, rfl, ha2, hf2⟩)
    · have ha3 := ha.trans ha2
      go_wp2_with fail
      refine (block_any _ b s q m2 (by exact ha3.rd) ⟨hf2.out.2.2.1, hf2.out.2.2.2.1, hf2.out.2.2.2.2.1⟩).mono ?_
      rintro e w3 (⟨a', c', j, ds, ys, rfl, ha4, ho4, hf4⟩ | ⟨a', n', c', j, rfl, ha4, hf4⟩)
      · have ha5 := ha3.trans ha4
        obtain ⟨hc, hz⟩ := ha5.cells w.heap.size (by simp) (by omega)
        have own3 := ha4.owns ho2 (by omega)
        have hz2' : w.heap.size < w2.heap.size := by have := ha3.size; simp only [World.size_alloc] at this; omega
        have sel3 := hs2.keep (keeps_at ha4 (by omega) _) (keeps_at ha4 (by omega) _)
        go_wp2_with fail
        refine bodyPost_ret (v := .tuple #[.agg #[.int .i64 lv, .slice a ss.length c, .slice a' ds.length c'], .bool true]) (by simp [results, Tryz.results124, go_sem, hc]) rfl
          (Or.inl ⟨lv, a, c, ss, xs, a', c', ds, ys, j, m2, rfl, ha5.ofAlloc.set3 hb (Nat.le_refl _) _ _ _, own_mono (own_set3 own3 hz1 _ _ _) (by omega), (sels_set3 sel3 hz1 _ _ _).mono (by omega), own_mono (own_set3 ho4 hz2' _ _ _) (by omega), ?_⟩)
        obtain ⟨p1, p2, p3, p4, p5, nc, p6⟩ := hf2.out
        obtain ⟨q0, q1, q2, q3⟩ := hf4.out
        obtain ⟨r1, r2, r3⟩ := hf.out
        have hil : i ≤ l := by rcases r1 with ⟨_, r⟩ | ⟨_, r⟩ <;> omega
        exact ⟨q0, ⟨l, q, r1, p1, p2, q3.1, q2, q1, r3, q3⟩, by omega, nc, fun nr nc' => by rw [r2, p6, q1]⟩
      · have ha5 := ha3.trans ha4
        obtain ⟨hc, hz⟩ := ha5.cells w.heap.size (by simp) (by omega)
        go_wp2_with fail
        refine bodyPost_ret (v := .tuple #[.agg #[.int .i64 0, .slice none 0 0, .slice none 0 0], .bool false]) (by simp [results, Tryz.results124, go_sem, hc]) rfl (Or.inr ⟨j, m2, rfl, ha5.ofAlloc.set3 hb (Nat.le_refl _) _ _ _, ?_⟩)
        obtain ⟨p1, p2, p3, p4, p5, nc, p6⟩ := hf2.out
        exact fun nr nc' => by rw [hf.out.2.1, p6, hf4.out]
    · have ha3 := ha.trans ha2
      obtain ⟨hc, hz⟩ := ha3.cells w.heap.size (by simp) (by omega)
      go_wp2_with fail
      exact bodyPost_ret (v := .tuple #[.agg #[.int .i64 0, .slice none 0 0, .slice none 0 0], .bool false]) (by simp [results, Tryz.results124, go_sem, hc]) rfl (Or.inr ⟨q, m2, rfl, ha3.ofAlloc.set3 hb (Nat.le_refl _) _ _ _, fun nr nc' => by rw [hf.out.2.1, hf2.out]⟩)
  · obtain ⟨hc, hz⟩ := ha.cells w.heap.size (by simp) (by omega)
    go_wp2_with fail
    exact bodyPost_ret (v := .tuple #[.agg #[.int .i64 0, .slice none 0 0, .slice none 0 0], .bool false]) (by simp [results, Tryz.results124, go_sem, hc]) rfl (Or.inr ⟨l, m, rfl, ha.ofAlloc.set3 hb (Nat.le_refl _) _ _ _, fun nr nc => hf.out _⟩)
end Go.Proofs.YtblfffbmklkhmaaGreat
