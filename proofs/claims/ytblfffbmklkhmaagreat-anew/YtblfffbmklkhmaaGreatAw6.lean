/- Own work. -/
import Derived.Test.YtblfffbmklkhmaaGreatAw5
import Derived.RegionTactic
import Derived.Deep.DeepCutAuto
import Derived.Test.YtblfffbmklkhmaaGreatAw1
import Derived.Deep.LoopGhost
import Derived.Test.YtblfffbmklkhmaaGreatAw4
import Derived.Deep.RegionLaw
import Derived.Laws.AppendOwnNone
namespace Go.Proofs.YtblfffbmklkhmaaGreat
open Go.RowKit
/-- The cells hold rules with these selectors. -/
def Ruls (w : World) (base : Nat) : List Value → List PRu → Prop
  | xs, [] => xs = []
  | xs, r :: rs => ∃ (a : Option Addr) (c : Nat) (a' : Option Addr) (c' : Nat) (ps qs ys : List Value), xs = .int .i64 r.ly :: .slice a r.ss.length c :: .slice a' r.ds.length c' :: ys ∧ w.ownsRow base 141 1 (.slice a r.ss.length c) r.ss.length ps ∧ Sels w base ps r.ss ∧ (w.ownsRow base 253 5 (.slice a' r.ds.length c') r.ds.length qs ∧ Decs qs r.ds) ∧ Ruls w base ys rs
theorem Ruls.keep {w w' : World} {base : Nat} (hk : ∀ e, e ≠ 138 → Keeps w w' base e) : ∀ {xs : List Value} {rs : List PRu}, Ruls w base xs rs → Ruls w' base xs rs
  | _, [], h => h
  | _, _ :: _, ⟨a, c, a', c', ps, qs, ys, h1, h2, h3, h5, h4⟩ => ⟨a, c, a', c', ps, qs, ys, h1, (hk _ (by decide)).owns h2, h3.keep (hk _ (by decide)) (hk _ (by decide)), ⟨(hk _ (by decide)).owns h5.1, h5.2⟩, Ruls.keep hk h4⟩
theorem Ruls.mono {w : World} {base base' : Nat} (hb : base' ≤ base) : ∀ {xs : List Value} {rs : List PRu}, Ruls w base xs rs → Ruls w base' xs rs
  | _, [], h => h
  | _, _ :: _, ⟨a, c, a', c', ps, qs, ys, h1, h2, h3, h5, h4⟩ => ⟨a, c, a', c', ps, qs, ys, h1, own_mono h2 hb, h3.mono hb, ⟨own_mono h5.1 hb, h5.2⟩, Ruls.mono hb h4⟩
theorem Ruls.snoc {w : World} {base : Nat} (lv : Int) (a : Option Addr) (c : Nat) (a' : Option Addr) (c' : Nat) (ss : List (List PCp)) (ds : List PDc) (ps qs : List Value) (ho : w.ownsRow base 141 1 (.slice a ss.length c) ss.length ps) (hk : Sels w base ps ss) (hd : w.ownsRow base 253 5 (.slice a' ds.length c') ds.length qs ∧ Decs qs ds) :
    ∀ {xs : List Value} {rs : List PRu}, Ruls w base xs rs → Ruls w base (xs ++ [.int .i64 lv, .slice a ss.length c, .slice a' ds.length c']) (rs ++ [⟨lv, ss, ds⟩])
  | _, [], h => by simp only [Ruls] at h; subst h; exact ⟨a, c, a', c', ps, qs, [], rfl, ho, hk, hd, rfl⟩
  | _, _ :: _, ⟨a1, c1, a2, c2, ps', qs', ys, h1, h2, h3, h5, h4⟩ => ⟨a1, c1, a2, c2, ps', qs', _, by rw [h1]; rfl, h2, h3, h5, Ruls.snoc lv a c a' c' ss ds ps qs ho hk hd h4⟩
/-- From i to j there are rules with these selectors. -/
def RulsAt (s : ByteArray) : Nat → Nat → List PRu → Prop
  | i, j, [] => i = j
  | i, j, ss :: rs => ∃ l, RuleAt s i l ss ∧ i < l ∧ RulsAt s l j rs
theorem RulsAt.snoc {s : ByteArray} {i j l : Nat} {rs : List PRu} {ss : PRu} (h : RulsAt s i j rs) (hc : RuleAt s j l ss) (hl : j < l) : RulsAt s i l (rs ++ [ss]) := by
  induction rs generalizing i with
  | nil => simp only [RulsAt] at h; subst h; exact ⟨l, hc, hl, rfl⟩
  | cons x rs ih =>
    obtain ⟨l', h1, h2, h3⟩ := h
    exact ⟨l', h1, h2, ih h3⟩
structure SheetRel (w : World) (b : Nat) (s : ByteArray) (gk : Nat) (v : Value) (wr : World) (j : Nat) (mP : Int) (rs : List PRu) (xs : List Value) : Prop where
  at' : At (w.alloc (.cells #[.slice none 0 0] 82)) wr b s j mP
  own : wr.ownsRow (w.heap.size + 1) 138 3 v rs.length xs
  ruls : Ruls wr (w.heap.size + 1) xs rs
  few : rs.length ≤ j
  gk : s.size - j ≤ gk
  text : RulsAt s 0 j rs
  run : ∃ nc, V s 0 ⟨0, 0, -1⟩ 0 = V s 0 ⟨rs.length, nc, mP⟩ j
def SheetPost (w : World) (b : Nat) (s : ByteArray) (e : Ending) (w' : World) : Prop :=
  (∃ (a : Option Addr) (c : Nat) (rs : List PRu) (xs : List Value) (m' : Int), e = .returned (.tuple #[.agg #[.slice a rs.length c], .bool true]) ∧ At w w' b s s.size m' ∧ w'.ownsRow w.heap.size 138 3 (.slice a rs.length c) rs.length xs ∧ Ruls w' w.heap.size xs rs ∧
    Hid (RulsAt s 0 s.size rs ∧ V s 0 ⟨0, 0, -1⟩ 0 = (-1, m'))) ∨
  (∃ (j : Nat) (m' : Int), e = .returned (.tuple #[.agg #[.slice none 0 0], .bool false]) ∧ At w w' b s j m' ∧ Hid (V s 0 ⟨0, 0, -1⟩ 0 = ((j : Int), -1)))
theorem one3r (a : Int) (b : Option Addr) (n k : Nat) (b' : Option Addr) (n' k' : Nat) : ∀ u ∈ [Value.int .i64 a, Value.slice b n k, Value.slice b' n' k'], u.oneCell' = true := by
  intro u hu
  simp only [List.mem_cons, List.not_mem_nil, or_false] at hu
  rcases hu with rfl | rfl | rfl <;> rfl
theorem keeps_drewN (w : World) (n base : Nat) (e : TypeId) : Keeps w (w.drewN n) base e := fun _ _ _ hh => hh
theorem own_drewN {w : World} {base : Nat} {e : TypeId} {size : Nat} {v : Value} {n : Nat} {xs : List Value} (h : w.ownsRow base e size v n xs) (k : Nat) : (w.drewN k).ownsRow base e size v n xs := (keeps_drewN w k base e).owns h
set_option maxHeartbeats 4000000 in
theorem sheet_any (w : World) (b : Nat) (s : ByteArray) (h : Rd w b s 0 (-1)) :
    Calls Tryz.prog 77 #[.pointer (some ⟨b, 0, none⟩)] w fun e w' => SheetPost w b s e w' := by
  have hb := h.lt
  have htop := h.top
  obtain ⟨i0, hi, iz0, iz1, iz2⟩ := info_parts Tryz.info138
  go_enter Tryz.func77, Tryz.ntmps77
  go_wp2_with fail
  go_loopg [4] (s.size) (fun gk v wr => ∃ (j : Nat) (mP : Int) (rs : List PRu) (xs : List Value), SheetRel w b s gk v wr j mP rs xs)
  case atStart => exact ⟨0, -1, [], [], h.allocAt _, World.ownsRow_nil _ _ _ _, rfl, by simp, by omega, rfl, 0, rfl⟩
  case round =>
    obtain ⟨j, mP, rs, xs, R⟩ := hrel
    have hle := R.at'.rd.le
    obtain ⟨a, c, hv⟩ := own_shape R.own
    subst hv
    go_wp2_with fail
    refine (ended_any _ b s j mP (by exact R.at'.rd)).mono ?_
    rintro e w0 ⟨rfl, n0, rfl⟩
    by_cases hend : s.size ≤ j
    · obtain rfl : j = s.size := by omega
      have R2 := R
      have hz1 : w.heap.size < wr.heap.size := by have := R.at'.size; simp only [World.size_alloc] at this; omega
      obtain ⟨hc, hz⟩ := R.at'.cells w.heap.size (by simp) (by omega)
      clear R
      go_wp2
      refine bodyPost_ret (v := .tuple #[.agg #[.slice a rs.length c], .bool true]) (by simp [results, Tryz.results77, go_sem, hc]) rfl (Or.inl ⟨a, c, rs, xs, mP, rfl, ?_, ?_, ?_, ?_⟩)
      · exact (R2.at'.ofAlloc.drewN n0).setNew hb (Nat.le_refl _) _
      · exact own_mono (ownsRow_setCell_below (own_drewN R2.own n0) (by simp) _) (by omega)
      · exact (R2.ruls.keep (fun e _ => (keeps_drewN wr n0 _ _).trans (keeps_set _ (by simp) _ _))).mono (by omega)
      · obtain ⟨nc, r1⟩ := R2.run
        exact ⟨R2.text, by rw [r1, V_end (Nat.le_refl _)]; simp⟩
    · have hd : decide (s.size ≤ j) = false := by simpa using hend
      have hlt : j < s.size := by omega
      by_cases h4 : rs.length = 20
      · have g4 : ((rs.length : Int) == 20) = true := by simp [h4]
        have H4 : Hid (rs.length = 20) := h4
        clear h4
        go_wp2_with fail
        refine (noteMany_any _ b s j mP (by exact R.at'.rd.drewN _)).mono ?_
        rintro e w1 ⟨rfl, haN'⟩
        have haN : At wr w1 b s j (note mP j) := (R.at'.rd.at0.drewN n0).trans haN'
        have hM : Hid (∀ nc, V s 0 ⟨rs.length, nc, mP⟩ j = V s 18 ⟨rs.length + 1, 1, note mP j⟩ j) := fun nc => by rw [V_rule hlt]; simp [noteIf, H4.out]
        generalize note mP j = M at haN haN' hM
        go_wp2_with fail
        refine (rule_any _ b s j M (by exact haN.rd)).mono ?_
        rintro e w2 (⟨lv, a2, c2, ss, ps, a3, c3, ds, qs, l, M2, rfl, ha2, ho2, hs2, hd2, hf2⟩ | ⟨l, M2, rfl, ha2, hf2⟩)
        · have ha3 := (R.at'.trans haN).trans ha2
          have hz1 := (R.at'.trans haN).size
          simp only [World.size_alloc] at hz1
          have hz2 : w.heap.size < w2.heap.size := by have := ha3.size; simp only [World.size_alloc] at this; omega
          have own2 := (haN.trans ha2).owns R.own (by omega)
          have hlen := R.few
          go_wp2_with (at_builtin; refine wpList_append_own _ rfl (.tmp 23) (.tmp 25) 80 rfl (w.heap.size + 1) 138 i0 (.agg #[.int .i64 0, .slice none 0 0, .slice none 0 0]) 3 56 Tryz.underlying80 hi iz0 iz1 iz2 rfl (by decide) _ _ _ rfl ((own2.alloc _).alloc _) ⟨w2.heap.size + 1, 0, none⟩ 1 1 [.int .i64 lv, .slice a2 ss.length c2, .slice a3 ds.length c3] rfl rfl ?c1x ?c2x ?c3x ?c4x ?c5x ?_)
          case c1x => exact new_cells (w2.alloc _) _ (by simp) _ _ _ rfl
          case c2x => exact one3r _ _ _ _ _ _ _
          case c3x => unfold maxLen; omega
          case c4x => omega
          case c5x => simp; omega
          · intro v' w3 hown3 hg3 _
            have own3 : w3.ownsRow (w.heap.size + 1) 138 3 v' (rs ++ [(⟨lv, ss, ds⟩ : PRu)]).length (xs ++ [.int .i64 lv, .slice a2 ss.length c2, .slice a3 ds.length c3]) := by simpa using hown3
            have hk2 : ∀ e, Keeps wr w2 (w.heap.size + 1) e := fun e => keeps_at (haN.trans ha2) (by omega) _
            have hk3 : ∀ e, e ≠ 138 → Keeps w2 w3 (w.heap.size + 1) e := fun e he => ((keeps_alloc _ _ _ _).trans (keeps_alloc _ _ _ _)).trans (keeps_app he ((own2.alloc _).alloc _) hg3)
            have ruls3 : Ruls w3 (w.heap.size + 1) (xs ++ [.int .i64 lv, .slice a2 ss.length c2, .slice a3 ds.length c3]) (rs ++ [⟨lv, ss, ds⟩]) :=
              Ruls.snoc lv a2 c2 a3 c3 ss ds ps qs ((hk3 141 (by decide)).owns (own_mono ho2 hz1)) ((hs2.mono hz1).keep (hk3 _ (by decide)) (hk3 _ (by decide))) ⟨(hk3 253 (by decide)).owns (own_mono hd2 hz1), hf2.out.1⟩ (R.ruls.keep (fun e he => (hk2 e).trans (hk3 e he)))
            have at3 : At (w.alloc (.cells #[.slice none 0 0] 82)) w3 b s l M2 := ((ha3.alloc _).alloc _).app (by simp; omega) (by simpa using ((own2.alloc _).alloc _)) hg3
            obtain ⟨q0, q1, q2, nc', q3⟩ := hf2.out
            obtain ⟨nc, r1⟩ := R.run
            have R3 : SheetRel w b s (s.size - l) v' w3 l M2 (rs ++ [⟨lv, ss, ds⟩]) (xs ++ [.int .i64 lv, .slice a2 ss.length c2, .slice a3 ds.length c3]) := by
              refine ⟨at3, own3, ruls3, by simp; omega, Nat.le_refl _, R.text.snoc q1 q2, nc', ?_⟩
              rw [r1, hM.out nc, q3]
              simp
            have hgk := R.gk
            have hls := at3.rd.le
            clear hown3 hg3 own2 R hk2 hk3 q0 q1 q3 hf2 r1 own3 ruls3
            go_wp2
            go_roundg (s.size - l)
            case measure => omega
            case rel => exact ⟨l, M2, _, _, R3⟩
        · have ha3 := (R.at'.trans haN).trans ha2
          have hz2 : w.heap.size < w2.heap.size := by have := ha3.size; simp only [World.size_alloc] at this; omega
          obtain ⟨hc, hz⟩ := ha3.cells w.heap.size (by simp) (by omega)
          obtain ⟨nc, r1⟩ := R.run
          have HR : Hid (V s 0 ⟨0, 0, -1⟩ 0 = ((l : Int), -1)) := by unfold Hid; rw [r1, hM.out nc, hf2.out]
          clear r1
          go_wp2_with fail
          exact bodyPost_ret (v := .tuple #[.agg #[.slice none 0 0], .bool false]) (by simp [results, Tryz.results77, go_sem, hc, hz2]) rfl (Or.inr ⟨l, M2, rfl, (ha3.ofAlloc.setNew hb (Nat.le_refl _) _).alloc _, HR.out⟩)
      · have g4 : ((rs.length : Int) == 20) = false := by simp; omega
        obtain ⟨M, haN, hM⟩ : ∃ M, At wr (wr.drewN n0) b s j M ∧ Hid (∀ nc, V s 0 ⟨rs.length, nc, mP⟩ j = V s 18 ⟨rs.length + 1, 1, M⟩ j) := ⟨mP, R.at'.rd.at0.drewN n0, fun nc => by rw [V_rule hlt]; simp [noteIf, h4]⟩
        clear h4
        go_wp2_with fail
        refine (rule_any _ b s j M (by exact haN.rd)).mono ?_
        rintro e w2 (⟨lv, a2, c2, ss, ps, a3, c3, ds, qs, l, M2, rfl, ha2, ho2, hs2, hd2, hf2⟩ | ⟨l, M2, rfl, ha2, hf2⟩)
        · have ha3 := (R.at'.trans haN).trans ha2
          have hz1 := (R.at'.trans haN).size
          simp only [World.size_alloc] at hz1
          have hz2 : w.heap.size < w2.heap.size := by have := ha3.size; simp only [World.size_alloc] at this; omega
          have own2 := (haN.trans ha2).owns R.own (by omega)
          have hlen := R.few
          go_wp2_with (at_builtin; refine wpList_append_own _ rfl (.tmp 23) (.tmp 25) 80 rfl (w.heap.size + 1) 138 i0 (.agg #[.int .i64 0, .slice none 0 0, .slice none 0 0]) 3 56 Tryz.underlying80 hi iz0 iz1 iz2 rfl (by decide) _ _ _ rfl ((own2.alloc _).alloc _) ⟨w2.heap.size + 1, 0, none⟩ 1 1 [.int .i64 lv, .slice a2 ss.length c2, .slice a3 ds.length c3] rfl rfl ?c1y ?c2y ?c3y ?c4y ?c5y ?_)
          case c1y => exact new_cells (w2.alloc _) _ (by simp) _ _ _ rfl
          case c2y => exact one3r _ _ _ _ _ _ _
          case c3y => unfold maxLen; omega
          case c4y => omega
          case c5y => simp; omega
          · intro v' w3 hown3 hg3 _
            have own3 : w3.ownsRow (w.heap.size + 1) 138 3 v' (rs ++ [(⟨lv, ss, ds⟩ : PRu)]).length (xs ++ [.int .i64 lv, .slice a2 ss.length c2, .slice a3 ds.length c3]) := by simpa using hown3
            have hk2 : ∀ e, Keeps wr w2 (w.heap.size + 1) e := fun e => keeps_at (haN.trans ha2) (by omega) _
            have hk3 : ∀ e, e ≠ 138 → Keeps w2 w3 (w.heap.size + 1) e := fun e he => ((keeps_alloc _ _ _ _).trans (keeps_alloc _ _ _ _)).trans (keeps_app he ((own2.alloc _).alloc _) hg3)
            have ruls3 : Ruls w3 (w.heap.size + 1) (xs ++ [.int .i64 lv, .slice a2 ss.length c2, .slice a3 ds.length c3]) (rs ++ [⟨lv, ss, ds⟩]) :=
              Ruls.snoc lv a2 c2 a3 c3 ss ds ps qs ((hk3 141 (by decide)).owns (own_mono ho2 hz1)) ((hs2.mono hz1).keep (hk3 _ (by decide)) (hk3 _ (by decide))) ⟨(hk3 253 (by decide)).owns (own_mono hd2 hz1), hf2.out.1⟩ (R.ruls.keep (fun e he => (hk2 e).trans (hk3 e he)))
            have at3 : At (w.alloc (.cells #[.slice none 0 0] 82)) w3 b s l M2 := ((ha3.alloc _).alloc _).app (by simp; omega) (by simpa using ((own2.alloc _).alloc _)) hg3
            obtain ⟨q0, q1, q2, nc', q3⟩ := hf2.out
            obtain ⟨nc, r1⟩ := R.run
            have R3 : SheetRel w b s (s.size - l) v' w3 l M2 (rs ++ [⟨lv, ss, ds⟩]) (xs ++ [.int .i64 lv, .slice a2 ss.length c2, .slice a3 ds.length c3]) := by
              refine ⟨at3, own3, ruls3, by simp; omega, Nat.le_refl _, R.text.snoc q1 q2, nc', ?_⟩
              rw [r1, hM.out nc, q3]
              simp
            have hgk := R.gk
            have hls := at3.rd.le
            clear hown3 hg3 own2 R hk2 hk3 q0 q1 q3 hf2 r1 own3 ruls3
            go_wp2
            go_roundg (s.size - l)
            case measure => omega
            case rel => exact ⟨l, M2, _, _, R3⟩
        · have ha3 := (R.at'.trans haN).trans ha2
          have hz2 : w.heap.size < w2.heap.size := by have := ha3.size; simp only [World.size_alloc] at this; omega
          obtain ⟨hc, hz⟩ := ha3.cells w.heap.size (by simp) (by omega)
          obtain ⟨nc, r1⟩ := R.run
          have HR : Hid (V s 0 ⟨0, 0, -1⟩ 0 = ((l : Int), -1)) := by unfold Hid; rw [r1, hM.out nc, hf2.out]
          clear r1
          go_wp2_with fail
          exact bodyPost_ret (v := .tuple #[.agg #[.slice none 0 0], .bool false]) (by simp [results, Tryz.results77, go_sem, hc, hz2]) rfl (Or.inr ⟨l, M2, rfl, (ha3.ofAlloc.setNew hb (Nat.le_refl _) _).alloc _, HR.out⟩)
end Go.Proofs.YtblfffbmklkhmaaGreat

namespace Go.Proofs.YtblfffbmklkhmaaGreat
open Go.RowKit
/-- The document's answer to Check. -/
def chk (s : ByteArray) : Int × Int :=
  if 400 < s.size then (1, 0) else if 0 ≤ (V s 0 ⟨0, 0, -1⟩ 0).1 then (2, (V s 0 ⟨0, 0, -1⟩ 0).1) else if (V s 0 ⟨0, 0, -1⟩ 0).2 = -1 then (0, 0) else (3, (V s 0 ⟨0, 0, -1⟩ 0).2)
def ReadPost (w : World) (s : ByteArray) (e : Ending) (w' : World) : Prop :=
  ∃ (a : Option Addr) (n c : Nat), e = .returned (.tuple #[.agg #[.slice a n c], .int .i64 (chk s).1, .int .i64 (chk s).2]) ∧ Below w.heap.size w w' ∧
    ((chk s).1 = 0 → ∃ rs xs, n = rs.length ∧ w'.ownsRow w.heap.size 138 3 (.slice a n c) n xs ∧ Ruls w' w.heap.size xs rs ∧ RulsAt s 0 s.size rs)
theorem At.below {w w0 w1 : World} {b : Nat} {s : ByteArray} {j : Nat} {m : Int} (h : At w0 w1 b s j m) (hw : Below w.heap.size w w0) (hb : w.heap.size ≤ b) : Below w.heap.size w w1 :=
  hw.grown h.gb hw.size (fun k e => by injection e with e; omega)
set_option maxHeartbeats 2000000 in
theorem read_any (w : World) (s : ByteArray) (hs : s.size ≤ maxLen) :
    Calls Tryz.prog 42 #[.string s] w fun e w' => ReadPost w s e w' := by
  unfold maxLen at hs
  by_cases h400 : 400 < s.size
  · have HC : Hid (chk s = (1, 0)) := by unfold Hid chk; rw [if_pos h400]
    go_enter Tryz.func42, Tryz.ntmps42
    go_wp2
    refine bodyPost_ret (v := .tuple #[.agg #[.slice none 0 0], .int .i64 1, .int .i64 0]) (by simp [results, Tryz.results42, go_sem]) rfl ⟨none, 0, 0, by rw [HC.out], ?_, ?_⟩
    · exact (Below.refl _ _).alloc (Nat.le_refl _) _
    · rw [HC.out]; intro h; simp at h
  · have h400' : s.size ≤ 400 := by omega
    have hr : Rd ((w.alloc (.cells #[.slice none 0 0] 82)).alloc (.cells #[.string s, .int .i64 0, .int .i64 (-1)] 146)) (w.heap.size + 1) s 0 (-1) := by
      refine ⟨?_, Nat.zero_le _, h400', by omega, by omega⟩
      have := heap_alloc_new (w.alloc (.cells #[.slice none 0 0] 82)) (.cells #[.string s, .int .i64 0, .int .i64 (-1)] 146)
      simpa using this
    have hb0 : Below w.heap.size w ((w.alloc (.cells #[.slice none 0 0] 82)).alloc (.cells #[.string s, .int .i64 0, .int .i64 (-1)] 146)) := ((Below.refl _ _).alloc (Nat.le_refl _) _).alloc (by simp) _
    go_enter Tryz.func42, Tryz.ntmps42
    go_wp2_with fail
    refine (sheet_any _ (w.heap.size + 1) s (by exact hr)).mono ?_
    rintro e w1 (⟨a, c, rs, xs, m, rfl, ha, ho, hR, hf⟩ | ⟨j, m, rfl, ha, hf⟩)
    · have hb1 := ha.below hb0 (by omega)
      have hz1 : w.heap.size + 1 < w1.heap.size := by have := ha.size; simp at this; omega
      have hz1' : w.heap.size < w1.heap.size := by omega
      obtain ⟨hc, hz⟩ := ha.cells w.heap.size (by simp; omega) (by omega)
      have c2 := ha.rd.c2
      have ho' : w1.ownsRow (w.heap.size + 2) 138 3 (.slice a rs.length c) rs.length xs := own_mono ho (by simp)
      have hR' : Ruls w1 (w.heap.size + 2) xs rs := hR.mono (by simp)
      clear ho hR
      have hlo := ha.rd.lo
      by_cases hm : m = -1
      · subst hm
        have HC : Hid (chk s = (0, 0)) := by unfold Hid chk; rw [if_neg h400, hf.out.2]; simp
        have gd : ((-1 : Int) != -1) = false := by decide
        go_wp2
        refine bodyPost_ret (v := .tuple #[.agg #[.slice a rs.length c], .int .i64 0, .int .i64 0]) (by simp [results, Tryz.results42, go_sem, hc, hz1']) rfl ⟨a, rs.length, c, by rw [HC.out], ?_, fun _ => ⟨rs, xs, rfl, ?_, ?_, hf.out.1⟩⟩
        · exact (hb1.setCell (by simp) _).alloc (by simp [World.setCell]; omega) _
        · exact own_mono ((ownsRow_setCell_below ho' (by simp) _).alloc _) (by omega)
        · exact (hR'.keep (fun e _ => (keeps_set _ (by simp) _ _).trans (keeps_alloc _ _ _ _))).mono (by omega)
      · have HC : Hid (chk s = (3, m)) := by unfold Hid chk; rw [if_neg h400, hf.out.2]; simp [hm]
        have gd : (m != -1) = true := by simp [hm]
        clear hm
        go_wp2
        go_region
        all_goals go_wp2
        all_goals refine bodyPost_ret (v := .tuple #[.agg #[.slice none 0 0], .int .i64 3, .int .i64 m]) (by simp [results, Tryz.results42, go_sem, hc, hz1']) rfl ⟨none, 0, 0, by rw [HC.out], ?_, ?_⟩
        all_goals first | (rw [HC.out]; intro h; simp at h; done) | skip
        all_goals repeat' (first | exact hb1 | refine Below.drew ?_ | refine Below.alloc ?_ (by simp [World.setCell]; omega) _ | refine Below.setCell ?_ (by simp) _)
    · have hb1 := ha.below hb0 (by omega)
      have hz1 : w.heap.size + 1 < w1.heap.size := by have := ha.size; simp at this; omega
      have hz1' : w.heap.size < w1.heap.size := by omega
      obtain ⟨hc, hz⟩ := ha.cells w.heap.size (by simp; omega) (by omega)
      have c1 := ha.rd.c1
      have HC : Hid (chk s = (2, (j : Int))) := by unfold Hid chk; rw [if_neg h400, hf.out]; simp
      go_wp2
      go_region
      all_goals go_wp2
      all_goals refine bodyPost_ret (v := .tuple #[.agg #[.slice none 0 0], .int .i64 2, .int .i64 j]) (by simp [results, Tryz.results42, go_sem, hc, hz1']) rfl ⟨none, 0, 0, by rw [HC.out], ?_, ?_⟩
      all_goals first | (rw [HC.out]; intro h; simp at h; done) | skip
      all_goals repeat' (first | exact hb1 | refine Below.drew ?_ | refine Below.alloc ?_ (by simp [World.setCell]; omega) _ | refine Below.setCell ?_ (by simp) _)
end Go.Proofs.YtblfffbmklkhmaaGreat

namespace Go.Proofs.YtblfffbmklkhmaaGreat
open Go.RowKit
def pwp (p : PPt) : Nat := pw p.kd
def pws (ks : List PPt) : Nat := (ks.map pwp).sum
def cw (ty : Nat) (ks : List PPt) : Nat := (if ty = 0 then 0 else 1) + pws ks
def cws (cs : List PCp) : Nat := (cs.map fun x => cw x.ty x.ps).sum
theorem pw_le (k : Int) : pw k ≤ 1000000 := by unfold pw; (repeat' split) <;> omega
theorem pws_le (ks : List PPt) : pws ks ≤ 1000000 * ks.length := by
  induction ks with
  | nil => simp [pws]
  | cons k ks ih => simp only [pws, List.map_cons, List.sum_cons, List.length_cons] at *; have := pw_le k.kd; unfold pwp at *; omega
theorem pws_take {ks : List PPt} {i : Nat} (h : i < ks.length) : pws (ks.take (i + 1)) = pws (ks.take i) + pw ks[i].kd := by
  unfold pws
  rw [List.take_succ_eq_append_getElem h, List.map_append, List.sum_append]
  simp [pwp]
theorem pws_take_le (ks : List PPt) (i : Nat) : pws (ks.take i) ≤ 1000000 * ks.length := by
  have := pws_le (ks.take i)
  have : (ks.take i).length ≤ ks.length := List.length_take_le' _ _
  omega
theorem cw_le (ty : Nat) (ks : List PPt) : cw ty ks ≤ 1 + 1000000 * ks.length := by
  have := pws_le ks
  unfold cw; split <;> omega
theorem cws_take {cs : List PCp} {i : Nat} (h : i < cs.length) : cws (cs.take (i + 1)) = cws (cs.take i) + cw cs[i].ty cs[i].ps := by
  unfold cws
  rw [List.take_succ_eq_append_getElem h, List.map_append, List.sum_append]
  simp
/-- No list is longer than a sheet. -/
def Short (cs : List PCp) : Prop := cs.length ≤ 400 ∧ ∀ x ∈ cs, x.ps.length ≤ 400
theorem cws_le {cs : List PCp} (h : ∀ x ∈ cs, x.ps.length ≤ 400) : cws cs ≤ 400000001 * cs.length := by
  induction cs with
  | nil => simp [cws]
  | cons x cs ih =>
    have h1 := ih (fun y hy => h y (List.mem_cons_of_mem _ hy))
    have h2 := h x List.mem_cons_self
    have h3 := cw_le x.ty x.ps
    simp only [cws, List.map_cons, List.sum_cons, List.length_cons] at *
    omega
theorem cws_take_le {cs : List PCp} (h : Short cs) (i : Nat) : cws (cs.take i) ≤ 160000000400 := by
  have h1 := cws_le (cs := cs.take i) (fun x hx => h.2 x (List.mem_of_mem_take hx))
  have : (cs.take i).length ≤ cs.length := List.length_take_le' _ _
  have := h.1
  omega
theorem kinds_at : ∀ {xs : List Value} {ks : List PPt} {i : Nat}, Kinds xs ks → (h : i < ks.length) → xs[i * 5]? = some (.bool ks[i].nt) ∧ xs[i * 5 + 1]? = some (.int .i64 ks[i].kd) ∧ xs[i * 5 + 2]? = some (.int .u8 ks[i].lt) ∧ xs[i * 5 + 3]? = some (.int .i64 ks[i].st) ∧ xs[i * 5 + 4]? = some (.int .i64 ks[i].sr)
  | _, k :: ks, 0, ⟨ys, h1, _⟩, _ => by subst h1; exact ⟨rfl, rfl, rfl, rfl, rfl⟩
  | _, k :: ks, i + 1, ⟨ys, h1, h2⟩, h => by
    obtain ⟨e1, e2, e3, e4, e5⟩ := kinds_at (i := i) h2 (by simpa using h)
    subst h1
    rw [show (i + 1) * 5 = i * 5 + 5 from by omega]
    exact ⟨by simpa using e1, by simpa using e2, by simpa using e3, by simpa using e4, by simpa using e5⟩
/-- A row's cells, at its own block. -/
theorem own_cells {w : World} {base : Nat} {e : TypeId} {size : Nat} {a : Option Addr} {n c : Nat} {xs : List Value} (h : w.ownsRow base e size (.slice a n c) n xs) (hn : 0 < n) :
    ∃ g, a = some ⟨g, 0, none⟩ ∧ g < w.heap.size ∧ ∀ j u, xs[j]? = some u → w.cell? ⟨g, j, none⟩ = some u := by
  rcases h.2 with ⟨h1, h2⟩ | ⟨g, cap, cur, hv, _, hh, _, _, _, ht⟩
  · omega
  · injection hv with h1 h2 h3
    refine ⟨g, h1, (Array.getElem?_eq_some_iff.1 hh).1, fun j u hu => ?_⟩
    have := h.cells (g := g) (by rw [h1]; rfl) j u hu
    rw [Go.WideShapes.add_plain] at this
    simpa using this
set_option maxHeartbeats 400000 in
theorem partw_any (w : World) (nt : Bool) (kd lt st sr : Int) :
    Calls Tryz.prog 166 #[.agg #[.bool nt, .int .i64 kd, .int .u8 lt, .int .i64 st, .int .i64 sr]] w fun e w' => e = .returned (.int .i64 (pw kd)) ∧ Below w.heap.size w w' := by
  by_cases h3 : kd = 3
  · have g3 : (kd == 3) = true := by simp [h3]
    have HR : Hid (pw kd = 1000000) := by unfold Hid pw; rw [if_pos h3]
    clear h3
    go_enter Tryz.func166, Tryz.ntmps166
    go_wp2
    go_ret
    rw [HR.out]
    exact ⟨rfl, (Below.refl _ _).alloc (Nat.le_refl _) _⟩
  have g3 : (kd == 3) = false := by simp [h3]
  by_cases h1 : kd = 1
  · have g1 : (kd == 1) = true := by simp [h1]
    have HR : Hid (pw kd = 1) := by unfold Hid pw; rw [if_neg h3, if_pos h1]
    clear h1 h3
    go_enter Tryz.func166, Tryz.ntmps166
    go_wp2
    go_ret
    rw [HR.out]
    exact ⟨rfl, (Below.refl _ _).alloc (Nat.le_refl _) _⟩
  · have g1 : (kd == 1) = false := by simp [h1]
    have HR : Hid (pw kd = 1000) := by unfold Hid pw; rw [if_neg h3, if_neg h1]
    clear h1 h3
    go_enter Tryz.func166, Tryz.ntmps166
    go_wp2
    go_ret
    rw [HR.out]
    exact ⟨rfl, (Below.refl _ _).alloc (Nat.le_refl _) _⟩
def WOut (w : World) (n : Nat) (e : Ending) (w' : World) : Prop := e = .returned (.int .i64 n) ∧ Below w.heap.size w w'
set_option maxRecDepth 100000 in
set_option maxHeartbeats 2000000 in
theorem compw_any (w : World) (base : Nat) (sg : Int) (ty : Nat) (a : Option Addr) (c : Nat) (ks : List PPt) (ps : List Value) (ho : w.ownsRow base 192 5 (.slice a ks.length c) ks.length ps) (hk : Kinds ps ks) (hl : ks.length ≤ 400) :
    Calls Tryz.prog 134 #[.agg #[.int .u8 sg, .int .u8 ty, .slice a ks.length c]] w fun e w' => WOut w (cw ty ks) e w' := by
  have HO : Hid (w.ownsRow base 192 5 (.slice a ks.length c) ks.length ps ∧ Kinds ps ks) := ⟨ho, hk⟩
  clear ho hk
  go_enter Tryz.func134, Tryz.ntmps134
  go_upto_if 8 with fail
  go_cut [3] (fun sv wc => sv = .int .i64 ((if ty = 0 then 0 else 1 : Nat) : Int) ∧ wc = w.alloc (.cells #[.int .u8 sg, .int .u8 ty, .slice a ks.length c] 190))
  case first =>
    by_cases h0 : ty = 0
    · have g0 : ((ty : Int) != 0) = false := by simp [h0]
      have H0 : Hid (ty = 0) := h0
      clear h0
      go_wp2
      go_meet
      case rel => exact ⟨by rw [if_pos H0.out]; rfl, rfl⟩
    · have g0 : ((ty : Int) != 0) = true := by simp; omega
      have H0 : Hid (¬ ty = 0) := h0
      clear h0
      go_wp2
      go_meet
      case rel => exact ⟨by rw [if_neg H0.out]; rfl, rfl⟩
  case rest =>
    obtain ⟨rfl, rfl⟩ := hcut
    have hb01 : (if ty = 0 then 0 else 1 : Nat) ≤ 1 := by split <;> omega
    have HT : Hid (∀ n, cw ty ks = n ↔ (if ty = 0 then 0 else 1 : Nat) + pws ks = n) := fun n => Iff.rfl
    generalize (if ty = 0 then 0 else 1 : Nat) = t0 at hb01 HT
    go_wp2_with fail
    go_loopg [3, 12] ks.length (fun gk sv iv wr => ∃ i : Nat, iv = .int .i64 i ∧ i ≤ ks.length ∧ ks.length - i ≤ gk ∧ sv = .int .i64 ((t0 + pws (ks.take i) : Nat) : Int) ∧ Below w.heap.size w wr)
    case atStart => exact ⟨0, rfl, Nat.zero_le _, by omega, by simp [pws], (Below.refl _ _).alloc (Nat.le_refl _) _⟩
    case round =>
      obtain ⟨i, rfl, hi, hgk, rfl, hB⟩ := hrel
      by_cases hlt : i < ks.length
      · have hd : decide ((i : Int) < (ks.length : Int)) = true := by simp; omega
        obtain ⟨g, hg, hgl, hc⟩ := own_cells HO.out.1 (by omega)
        subst hg
        obtain ⟨e0, e1, e2, e3, e4⟩ := kinds_at HO.out.2 hlt
        have c0 := (hB.cell (p := ⟨g, i * 5, none⟩) hgl).trans (hc _ _ e0)
        have c1 := (hB.cell (p := ⟨g, i * 5 + 1, none⟩) hgl).trans (hc _ _ e1)
        have c2 := (hB.cell (p := ⟨g, i * 5 + 2, none⟩) hgl).trans (hc _ _ e2)
        have c3 := (hB.cell (p := ⟨g, i * 5 + 3, none⟩) hgl).trans (hc _ _ e3)
        have c4 := (hB.cell (p := ⟨g, i * 5 + 4, none⟩) hgl).trans (hc _ _ e4)
        have HP : Hid (pws (ks.take (i + 1)) = pws (ks.take i) + pw ks[i].kd) := pws_take hlt
        have hb1 := pws_take_le ks i
        have hb2 := pw_le ks[i].kd
        clear e0 e1 e2 e3 e4 hc
        generalize ks[i].kd = kd at c1 HP hb2
        generalize ks[i].nt = nt at c0
        generalize ks[i].lt = lt at c2
        generalize ks[i].st = st at c3
        generalize ks[i].sr = sr at c4
        generalize pws (ks.take i) = p0 at HP hb1
        go_wp2_with fail
        refine (partw_any _ nt kd lt st sr).mono ?_
        rintro e w2 ⟨rfl, hb⟩
        generalize pw kd = p1 at HP hb2
        have hB2 : Below w.heap.size w w2 := (hB.alloc hB.size _).trans (hb.mono (by have := hB.size; simp; omega))
        clear c0 c1 c2 c3 c4 hb
        go_wp2
        go_roundg (ks.length - (i + 1))
        case measure => omega
        case rel => exact ⟨i + 1, by go_num, by omega, Nat.le_refl _, by rw [HP.out]; congr 1; omega, hB2⟩
      · have hd : decide ((i : Int) < (ks.length : Int)) = false := by simp; omega
        obtain rfl : i = ks.length := by omega
        go_wp2
        go_ret
        refine ⟨?_, hB⟩
        rw [(HT.out (t0 + pws ks)).2 rfl, List.take_length]
        rfl
end Go.Proofs.YtblfffbmklkhmaaGreat

namespace Go.Proofs.YtblfffbmklkhmaaGreat
open Go.RowKit
section
variable {wr wq : World} {b : Nat} {vL : Value} {hm lv : Int} {vS vD : Value} {k : Nat} {ys : List Value}
end
theorem keeps_below {w w' : World} (h : Below w.heap.size w w') (base : Nat) (e : TypeId) : Keeps w w' base e := fun g _ _ hh => (h.block g (Array.getElem?_eq_some_iff.1 hh).1).trans hh
end Go.Proofs.YtblfffbmklkhmaaGreat

namespace Go.Proofs.YtblfffbmklkhmaaGreat
open Go.RowKit
theorem Tryz.info3 : (Tryz.prog.info? 3).map (fun i => (i.zero, i.size, i.bytes)) = some (some (.int .i64 0), 1, 8) := by kernel_rfl
def isLetter (s : ByteArray) : Bool := decide (s.size = 1) && isL (bt s 0)
abbrev ints (l : List Nat) : List Value := l.map fun k : Nat => .int .i64 (k : Int)
theorem ints_one (l : List Nat) : ∀ u ∈ ints l, u.oneCell' = true := by
  intro u hu
  obtain ⟨k, _, rfl⟩ := List.mem_map.1 hu
  rfl
/-- A list of numbers that the call has made. -/
def LPost (w : World) (l : List Nat) (e : Ending) (w' : World) : Prop := ∃ (a : Option Addr) (c : Nat), e = .returned (.slice a l.length c) ∧ w'.ownsRow w.heap.size 3 1 (.slice a l.length c) l.length (ints l) ∧ Below w.heap.size w w'
def noneOf (n : Int) (l : List Nat) : List Nat := l.filter fun k : Nat => decide ((k : Int) ≠ n)
theorem noneOf_take {l : List Nat} {i : Nat} (h : i < l.length) (n : Int) : noneOf n (l.take (i + 1)) = noneOf n (l.take i) ++ if ((l[i] : Nat) : Int) = n then [] else [l[i]] := by
  unfold noneOf
  rw [List.take_succ_eq_append_getElem h, List.filter_append]
  congr 1
  by_cases e : ((l[i] : Nat) : Int) = n <;> simp [e]
/-- A list with one more at a place. -/
def insL (l : List Nat) (k v : Nat) : List Nat := l.take k ++ [v] ++ l.drop k
theorem one_int (v : Nat) : ∀ u ∈ [Value.int .i64 (v : Int)], u.oneCell' = true := by
  intro u hu
  simp at hu
  subst hu
  rfl
end Go.Proofs.YtblfffbmklkhmaaGreat
