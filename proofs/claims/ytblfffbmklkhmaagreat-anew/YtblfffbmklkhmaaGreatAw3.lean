/- Own work. -/
import Derived.Test.YtblfffbmklkhmaaGreatAw2
import Derived.Deep.LoopGhost
namespace Go.Proofs.YtblfffbmklkhmaaGreat
open Go.RowKit
theorem Tryz.info192 : (Tryz.prog.info? 192).map (fun i => (i.zero, i.size, i.bytes)) = some (some (.agg #[.bool false, .int .i64 0, .int .u8 0, .int .i64 0, .int .i64 0]), 5, 40) := by kernel_rfl
/-- The cells hold parts of these kinds. -/
def Kinds : List Value → List PPt → Prop
  | xs, [] => xs = []
  | xs, p :: ks => ∃ ys, xs = .bool p.nt :: .int .i64 p.kd :: .int .u8 p.lt :: .int .i64 p.st :: .int .i64 p.sr :: ys ∧ Kinds ys ks
theorem Kinds.snoc {xs : List Value} {ks : List PPt} (h : Kinds xs ks) (nt : Bool) (kd lt st sr : Int) : Kinds (xs ++ [.bool nt, .int .i64 kd, .int .u8 lt, .int .i64 st, .int .i64 sr]) (ks ++ [⟨nt, kd, lt, st, sr⟩]) := by
  induction ks generalizing xs with
  | nil => simp only [Kinds] at h; subst h; exact ⟨[], rfl, rfl⟩
  | cons k ks ih =>
    obtain ⟨ys, rfl, hy⟩ := h
    exact ⟨_, rfl, ih hy⟩
/-- From i to j there are parts of these kinds. -/
def PartsAt (s : ByteArray) : Nat → Nat → List PPt → Prop
  | i, j, [] => i = j
  | i, j, kd :: ks => isA (bt s i) = true ∧ ∃ l, goodPart s i kd l ∧ PartsAt s l j ks
theorem PartsAt.snoc {s : ByteArray} {i j l : Nat} {ks : List PPt} {kd : PPt} (h : PartsAt s i j ks) (ha : isA (bt s j) = true) (hg : goodPart s j kd l) : PartsAt s i l (ks ++ [kd]) := by
  induction ks generalizing i with
  | nil => simp only [PartsAt] at h; subst h; exact ⟨ha, l, hg, rfl⟩
  | cons k ks ih =>
    obtain ⟨h1, l', h2, h3⟩ := h
    exact ⟨h1, l', h2, ih h3⟩
theorem good_lt {s : ByteArray} {i j : Nat} {kd : PPt} (h0 : goodPart s i kd j) : i < j := by
  have h := h0.2
  have h1 : ∀ n, 2 ≤ sl s n := by intro n; unfold sl; split <;> omega
  unfold goodSimple at h
  have := h1 i
  have := h1 (i + 1)
  split at h
  · split at h <;> omega
  · omega
structure PartsRel (w : World) (b : Nat) (s : ByteArray) (i : Nat) (m : Int) (gk : Nat) (v : Value) (wr : World) (j : Nat) (ks : List PPt) (xs : List Value) : Prop where
  at' : At w wr b s j m
  own : wr.ownsRow w.heap.size 192 5 v ks.length xs
  kinds : Kinds xs ks
  sim : Sim s 3 i 3 j
  le : i ≤ j
  few : ks.length ≤ j - i
  parts : PartsAt s i j ks
  gk : s.size - j ≤ gk
def PartsPost (w : World) (b : Nat) (s : ByteArray) (i : Nat) (m : Int) (e : Ending) (w' : World) : Prop :=
  (∃ (a : Option Addr) (c : Nat) (ks : List PPt) (xs : List Value) (j : Nat), e = .returned (.tuple #[.slice a ks.length c, .bool true]) ∧ At w w' b s j m ∧ w'.ownsRow w.heap.size 192 5 (.slice a ks.length c) ks.length xs ∧
    Hid (Kinds xs ks ∧ Sim s 3 i 3 j ∧ i ≤ j ∧ isA (bt s j) = false ∧ PartsAt s i j ks)) ∨
  (∃ j, e = .returned (.tuple #[.slice none 0 0, .bool false]) ∧ At w w' b s j m ∧ Hid (Bad s 3 i j ∧ isA (bt s i) = true))
theorem own_shape {w : World} {base : Nat} {e : TypeId} {size : Nat} {v : Value} {n : Nat} {xs : List Value} (h : w.ownsRow base e size v n xs) : ∃ a c, v = .slice a n c := by
  rcases h.2 with ⟨rfl, rfl⟩ | ⟨g, cap, cur, rfl, _⟩
  · exact ⟨none, 0, rfl⟩
  · exact ⟨_, _, rfl⟩
/-- What is owned from base on stays owned behind a call on the reader. -/
theorem At.owns {w w1 : World} {b : Nat} {s : ByteArray} {j : Nat} {m : Int} (h : At w w1 b s j m) {base : Nat} {e : TypeId} {size : Nat} {v : Value} {n : Nat} {xs : List Value} (ho : w.ownsRow base e size v n xs) (hb : b < base) : w1.ownsRow base e size v n xs := by
  refine ho.kept h.gb ?_
  cases hv : v.ownBlock with
  | none => exact Or.inl rfl
  | some g => right; intro e; injection e with e; have := (ho.lt g hv).1; omega
theorem new_cells (w : World) (B : Nat) (hB : B = w.heap.size) (cs : Array Value) (t : TypeId) (l : List Value) (hl : cs.toList = l) :
    ∀ j u, l[j]? = some u → (w.alloc (.cells cs t)).cell? ((⟨B, 0, none⟩ : Addr).add j) = some u := by
  intro j u hu
  subst hB hl
  have hadd : (⟨w.heap.size, 0, none⟩ : Addr).add j = ⟨w.heap.size, j, none⟩ := by unfold Addr.add; split <;> simp_all
  rw [hadd, cell_of_row _ _ _ cs t (0, 0) (heap_alloc_new w _)]
  simpa using hu
theorem one5 (a : Bool) (b c d e : Int) : ∀ u ∈ [Value.bool a, Value.int .i64 b, Value.int .u8 c, Value.int .i64 d, Value.int .i64 e], u.oneCell' = true := by
  intro u hu
  simp only [List.mem_cons, List.not_mem_nil, or_false] at hu
  rcases hu with rfl | rfl | rfl | rfl | rfl <;> rfl
/-- Behind an append onto a list of the call's own. -/
theorem At.app {w w2 w3 : World} {b : Nat} {s : ByteArray} {j : Nat} {m : Int} (h : At w w2 b s j m) (hb : b < w.heap.size) {e : TypeId} {size : Nat} {v : Value} {n : Nat} {xs : List Value}
    (ho : w2.ownsRow w.heap.size e size v n xs) (hg : w2.grownBy w3 v.ownBlock) : At w w3 b s j m := by
  have hne : ∀ k, k < w.heap.size → some k ≠ v.ownBlock := by
    intro k hk e
    have := (ho.lt k e.symm).1
    omega
  refine ⟨⟨(hg.block b h.rd.lt (hne b hb)).trans h.rd.blk, h.rd.le, h.rd.top, h.rd.lo, h.rd.hi⟩, ?_⟩
  exact ⟨hg.os.trans h.gb.os, hg.tape.trans h.gb.tape, hg.output.trans h.gb.output, Nat.le_trans h.gb.size hg.size,
    fun k hk hn => (hg.block k (Nat.lt_of_lt_of_le hk h.gb.size) (hne k hk)).trans (h.gb.block k hk hn)⟩
theorem parts_first {s : ByteArray} {i j : Nat} {ks : List PPt} (h : PartsAt s i j ks) (hA : isA (bt s j) = true) : isA (bt s i) = true := by
  cases ks with
  | nil => simp only [PartsAt] at h; subst h; exact hA
  | cons k ks => exact h.1
set_option maxHeartbeats 1000000 in
theorem parts_any (w : World) (b : Nat) (s : ByteArray) (i : Nat) (m : Int) (h : Rd w b s i m) :
    Calls Tryz.prog 206 #[.pointer (some ⟨b, 0, none⟩)] w fun e w' => PartsPost w b s i m e w' := by
  have hb := h.lt
  have htop := h.top
  obtain ⟨i0, hi, hz0, hz1, hz2⟩ := info_parts Tryz.info192
  go_enter Tryz.func206, Tryz.ntmps206
  go_wp2_with fail
  go_loopg [4] (s.size - i) (fun gk v wr => ∃ j ks xs, PartsRel w b s i m gk v wr j ks xs)
  case atStart => exact ⟨i, [], [], h.at0, World.ownsRow_nil _ _ _ _, rfl, fun _ => rfl, Nat.le_refl _, by simp, rfl, Nat.le_refl _⟩
  case round =>
    obtain ⟨j, ks, xs, R⟩ := hrel
    have hle := R.at'.rd.le
    go_wp2_with fail
    refine (partAhead_any _ b s j m (by exact R.at'.rd)).mono ?_
    rintro e w1 ⟨rfl, ha⟩
    by_cases hA : isA (bt s j) = true
    · have HA : Hid (isA (bt s j) = true) := hA
      rw [hA]
      clear hA
      go_wp2_with fail
      refine (part_any _ b s j m (by exact ha.rd) HA.out).mono ?_
      rintro e w2 (⟨nt, kd, lt, st, sr, l, rfl, ha2, hf2⟩ | ⟨nt, kd, lt, st, sr, l, rfl, ha2, hf2⟩)
      · have own2 := (ha.trans ha2).owns R.own (by omega)
        have hsz2 := ((R.at'.trans ha).trans ha2).size
        have hlen := R.few
        go_wp2_with (at_builtin; refine wpList_append_own _ rfl (.tmp 16) (.tmp 18) 188 rfl w.heap.size 192 i0 (.agg #[.bool false, .int .i64 0, .int .u8 0, .int .i64 0, .int .i64 0]) 5 40 Tryz.underlying188 hi hz0 hz1 hz2 rfl (by decide) _ _ _ rfl ((own2.alloc _).alloc _) ⟨w2.heap.size + 1, 0, none⟩ 1 1 [.bool nt, .int .i64 kd, .int .u8 lt, .int .i64 st, .int .i64 sr] rfl rfl ?c1 ?c2 ?c3 ?c4 ?c5 ?_)
        case c1 => exact new_cells (w2.alloc _) _ (by simp) _ _ _ rfl
        case c2 => exact one5 _ _ _ _ _
        case c3 => unfold maxLen; omega
        case c4 => omega
        case c5 => simp; omega
        · intro v' w3 hown3 hg3 _
          have R3 : PartsRel w b s i m (s.size - l) v' w3 l (ks ++ [⟨nt, kd, lt, st, sr⟩]) (xs ++ [.bool nt, .int .i64 kd, .int .u8 lt, .int .i64 st, .int .i64 sr]) := by
            obtain ⟨q1, q2, q3⟩ := hf2.out
            have := good_lt q3
            exact ⟨((((R.at'.trans ha).trans ha2).alloc _).alloc _).app hb ((own2.alloc _).alloc _) hg3, by simpa using hown3, R.kinds.snoc _ _ _ _ _, R.sim.trans q1, by have := R.le; omega, by have := R.few; have := R.le; simp; omega, R.parts.snoc HA.out q3, Nat.le_refl _⟩
          have hgk := R.gk
          have hjl : j < l := good_lt hf2.out.2.2
          have hls := hf2.out.2.1
          clear hown3 hg3 own2 R
          go_wp2
          go_roundg (s.size - l)
          case measure => omega
          case rel => exact ⟨l, _, _, R3⟩
      · go_wp2_with fail
        go_ret2
        exact Or.inr ⟨l, rfl, ((R.at'.trans ha).trans ha2).alloc _, R.sim.bad hf2.out, parts_first R.parts HA.out⟩
    · have hAf : isA (bt s j) = false := by simpa using hA
      rw [hAf]
      have HA : Hid (isA (bt s j) = false) := hAf
      clear hA hAf
      obtain ⟨a, c, hv⟩ := own_shape R.own
      have R2 := R
      rw [hv] at R2
      rw [hv]
      go_wp2
      go_ret2
      exact Or.inl ⟨a, c, ks, xs, j, rfl, R2.at'.trans ha, ha.owns R2.own hb, R2.kinds, R2.sim, R2.le, HA.out, R2.parts⟩
end Go.Proofs.YtblfffbmklkhmaaGreat

namespace Go.Proofs.YtblfffbmklkhmaaGreat
open Go.RowKit
/-- From i to j there is a compound of this type (0: none) with parts of these kinds. -/
def CompAt (s : ByteArray) (i j : Nat) (ty : Nat) (ks : List PPt) : Prop :=
  (isL (bt s i) = true ∧ ty = bt s i ∧ PartsAt s (i + 1) j ks) ∨ (isL (bt s i) = false ∧ bt s i = 42 ∧ ty = 0 ∧ PartsAt s (i + 1) j ks) ∨
  (isL (bt s i) = false ∧ bt s i ≠ 42 ∧ ty = 0 ∧ PartsAt s i j ks ∧ ks ≠ [])
def CompPost (w : World) (b : Nat) (s : ByteArray) (i : Nat) (m : Int) (e : Ending) (w' : World) : Prop :=
  (∃ (ty : Nat) (a : Option Addr) (c : Nat) (ks : List PPt) (xs : List Value) (j : Nat), e = .returned (.tuple #[.agg #[.int .u8 0, .int .u8 ty, .slice a ks.length c], .bool true]) ∧ At w w' b s j m ∧ w'.ownsRow w.heap.size 192 5 (.slice a ks.length c) ks.length xs ∧
    Hid (Kinds xs ks ∧ Sim s 2 i 3 j ∧ i < j ∧ isA (bt s j) = false ∧ CompAt s i j ty ks)) ∨
  (∃ j, e = .returned (.tuple #[.agg #[.int .u8 0, .int .u8 0, .slice none 0 0], .bool false]) ∧ At w w' b s j m ∧ Hid (Bad s 2 i j))
theorem own_mono {w : World} {base base' : Nat} {e : TypeId} {size : Nat} {v : Value} {n : Nat} {xs : List Value} (h : w.ownsRow base e size v n xs) (hb : base' ≤ base) : w.ownsRow base' e size v n xs := by
  refine ⟨h.1, ?_⟩
  rcases h.2 with hn | ⟨g, cap, cur, hv, hg, rest⟩
  · exact Or.inl hn
  · exact Or.inr ⟨g, cap, cur, hv, by omega, rest⟩
theorem At.set3 {w w1 : World} {b : Nat} {s : ByteArray} {j : Nat} {m : Int} (h : At w w1 b s j m) (hb : b < w.heap.size) {B : Nat} (hB : w.heap.size ≤ B) (v0 v1 v2 : Value) :
    At w (((w1.setCell ⟨B, 0, none⟩ v0).setCell ⟨B, 1, none⟩ v1).setCell ⟨B, 2, none⟩ v2) b s j m :=
  ((h.setNew hb hB _).setNew hb hB _).setNew hb hB _
theorem own_set3 {w : World} {base : Nat} {e : TypeId} {size : Nat} {v : Value} {n : Nat} {xs : List Value} (h : w.ownsRow base e size v n xs) {B : Nat} (hB : B < base) (v0 v1 v2 : Value) :
    (((w.setCell ⟨B, 0, none⟩ v0).setCell ⟨B, 1, none⟩ v1).setCell ⟨B, 2, none⟩ v2).ownsRow base e size v n xs :=
  ownsRow_setCell_below (ownsRow_setCell_below (ownsRow_setCell_below h (by exact hB) _) (by exact hB) _) (by exact hB) _
theorem comp_head {s : ByteArray} {i : Nat} (h : isL (bt s i) = true ∨ bt s i = 42) (hi : i < s.size) : Sim s 2 i 3 (i + 1) :=
  sim_go hi (by simp [nxt, compN, h]) (by decide) (fun k => by simp [cnt])
theorem comp_part {s : ByteArray} {i : Nat} (hl : isL (bt s i) = false) (h42 : bt s i ≠ 42) (hA : isA (bt s i) = true) : Sim s 2 i 3 i := by
  simp only [isA, decide_eq_true_eq] at hA
  have hs : isS (bt s i) = false := by simp only [isS, decide_eq_false_iff_not]; omega
  have h1 : ¬ bt s i = 44 := by omega
  have h2 : ¬ bt s i = 123 := by omega
  exact sim_same (by decide) (by decide) (by simp [nxt, compN, moreN, hl, hs, h42, h1, h2]) (fun k => by simp [cnt, hs, h1])
theorem comp_no {s : ByteArray} {i : Nat} (hl : isL (bt s i) = false) (h42 : bt s i ≠ 42) (hA : isA (bt s i) = false) : Bad s 2 i i := by
  simp only [isA, decide_eq_false_iff_not] at hA
  have h1 : ¬ bt s i = 33 := by omega
  have h2 : ¬ bt s i = 46 := by omega
  have h3 : ¬ bt s i = 35 := by omega
  have h4 : ¬ bt s i = 58 := by omega
  exact bad_no (by decide) (by simp [nxt, compN, partN, hl, h42, h1, h2, h3, h4])
theorem parts_le {s : ByteArray} {i j : Nat} {ks : List PPt} (h : PartsAt s i j ks) : i ≤ j ∧ (ks ≠ [] → i < j) := by
  induction ks generalizing i with
  | nil => simp only [PartsAt] at h; exact ⟨by omega, fun e => absurd rfl e⟩
  | cons k ks ih =>
    obtain ⟨_, l, h2, h3⟩ := h
    have := good_lt h2
    have := (ih h3).1
    exact ⟨by omega, fun _ => by omega⟩
/-- The rest of a compound, behind its head. -/
theorem comp_close {w w1 w2 : World} {b : Nat} {s : ByteArray} {i j i' : Nat} {m : Int} {ty : Nat} {a : Option Addr} {c : Nat} {ks : List PPt} {xs : List Value}
    (hb : b < w.heap.size) (hz1 : w.heap.size < w1.heap.size) (ha : At w w1 b s i' m) (ha2 : At w1 w2 b s j m) (ho : w2.ownsRow w1.heap.size 192 5 (.slice a ks.length c) ks.length xs)
    (hf : Kinds xs ks ∧ Sim s 2 i 3 j ∧ i < j ∧ isA (bt s j) = false ∧ CompAt s i j ty ks) :
    CompPost w b s i m (.returned (.tuple #[.agg #[.int .u8 0, .int .u8 ty, .slice a ks.length c], .bool true])) (((w2.setCell ⟨w.heap.size, 0, none⟩ (.int .u8 0)).setCell ⟨w.heap.size, 1, none⟩ (.int .u8 ty)).setCell ⟨w.heap.size, 2, none⟩ (.slice a ks.length c)) :=
  Or.inl ⟨ty, a, c, ks, xs, j, rfl, (ha.trans ha2).set3 hb (Nat.le_refl _) _ _ _, own_mono (own_set3 ho hz1 _ _ _) (by omega), hf⟩
set_option maxHeartbeats 1000000 in
theorem compound_any (w : World) (b : Nat) (s : ByteArray) (i : Nat) (m : Int) (h : Rd w b s i m) :
    Calls Tryz.prog 192 #[.pointer (some ⟨b, 0, none⟩)] w fun e w' => CompPost w b s i m e w' := by
  have hb := h.lt
  go_enter Tryz.func192, Tryz.ntmps192
  go_wp2_with fail
  refine (letter_any _ b s i m (by exact h.alloc _)).mono ?_
  rintro e w1 (⟨rfl, ha, hf⟩ | ⟨rfl, ha, hf⟩)
  · have hz1 : w.heap.size < w1.heap.size := by have := ha.size; simp only [World.size_alloc] at this; omega
    go_wp2_with fail
    refine (parts_any _ b s (i + 1) m (by exact ha.rd)).mono ?_
    rintro e w2 (⟨a, c, ks, xs, j, rfl, ha2, ho, hf2⟩ | ⟨j, rfl, ha2, hf2⟩)
    · have ha3 := ha.trans ha2
      obtain ⟨hc, hz⟩ := ha3.cells w.heap.size (by simp) (by omega)
      go_wp2_with fail
      refine bodyPost_ret (v := .tuple #[.agg #[.int .u8 0, .int .u8 (bt s i), .slice a ks.length c], .bool true]) (by simp [results, Tryz.results192, go_sem, hc]) rfl (comp_close hb hz1 ha.ofAlloc ha2 ho ?_)
      obtain ⟨q1, q2, q3, q4, q5⟩ := hf2.out
      exact ⟨q1, (comp_head (Or.inl hf.out.1) hf.out.2).trans q2, by omega, q4, Or.inl ⟨hf.out.1, rfl, q5⟩⟩
    · have ha3 := ha.trans ha2
      obtain ⟨hc, hz⟩ := ha3.cells w.heap.size (by simp) (by omega)
      go_wp2_with fail
      exact bodyPost_ret (v := .tuple #[.agg #[.int .u8 0, .int .u8 0, .slice none 0 0], .bool false]) (by simp [results, Tryz.results192, go_sem, hc]) rfl (Or.inr ⟨j, rfl, ha3.ofAlloc.set3 hb (Nat.le_refl _) _ _ _, (comp_head (Or.inl hf.out.1) hf.out.2).bad hf2.out.1⟩)
  · have hz1 : w.heap.size < w1.heap.size := by have := ha.size; simp only [World.size_alloc] at this; omega
    go_wp2_with fail
    refine (take_any _ b s i m 42 (by exact ha.rd) (by decide)).mono ?_
    rintro e w2 (⟨rfl, ha2, hf2⟩ | ⟨rfl, ha2, hf2⟩)
    · have ha3 := ha.trans ha2
      have hz2 : w.heap.size < w2.heap.size := by have := ha3.size; simp only [World.size_alloc] at this; omega
      go_wp2_with fail
      refine (parts_any _ b s (i + 1) m (by exact ha3.rd)).mono ?_
      have h42 : bt s i = 42 := by have := hf2.out.1; omega
      have H42 : Hid (bt s i = 42) := h42
      clear h42
      rintro e w3 (⟨a, c, ks, xs, j, rfl, ha4, ho, hf4⟩ | ⟨j, rfl, ha4, hf4⟩)
      · have ha5 := ha3.trans ha4
        obtain ⟨hc, hz⟩ := ha5.cells w.heap.size (by simp) (by omega)
        go_wp2_with fail
        refine bodyPost_ret (v := .tuple #[.agg #[.int .u8 0, .int .u8 0, .slice a ks.length c], .bool true]) (by simp [results, Tryz.results192, go_sem, hc]) rfl (comp_close (ty := 0) hb hz2 ha3.ofAlloc ha4 ho ?_)
        obtain ⟨q1, q2, q3, q4, q5⟩ := hf4.out
        exact ⟨q1, (comp_head (Or.inr H42.out) hf2.out.2).trans q2, by omega, q4, Or.inr (Or.inl ⟨hf.out, H42.out, rfl, q5⟩)⟩
      · have ha5 := ha3.trans ha4
        obtain ⟨hc, hz⟩ := ha5.cells w.heap.size (by simp) (by omega)
        go_wp2_with fail
        exact bodyPost_ret (v := .tuple #[.agg #[.int .u8 0, .int .u8 0, .slice none 0 0], .bool false]) (by simp [results, Tryz.results192, go_sem, hc]) rfl (Or.inr ⟨j, rfl, ha5.ofAlloc.set3 hb (Nat.le_refl _) _ _ _, (comp_head (Or.inr H42.out) hf2.out.2).bad hf4.out.1⟩)
    · have ha3 := ha.trans ha2
      have hz2 : w.heap.size < w2.heap.size := by have := ha3.size; simp only [World.size_alloc] at this; omega
      go_wp2_with fail
      refine (parts_any _ b s i m (by exact ha3.rd)).mono ?_
      have h42 : bt s i ≠ 42 := by have := hf2.out; omega
      have H42 : Hid (bt s i ≠ 42) := h42
      clear h42
      rintro e w3 (⟨a, c, ks, xs, j, rfl, ha4, ho, hf4⟩ | ⟨j, rfl, ha4, hf4⟩)
      · have ha5 := ha3.trans ha4
        obtain ⟨hc, hz⟩ := ha5.cells w.heap.size (by simp) (by omega)
        cases ks with
        | nil =>
          go_wp2_with fail
          refine bodyPost_ret (v := .tuple #[.agg #[.int .u8 0, .int .u8 0, .slice none 0 0], .bool false]) (by simp [results, Tryz.results192, go_sem, hc]) rfl (Or.inr ⟨j, rfl, ha5.ofAlloc.set3 hb (Nat.le_refl _) _ _ _, ?_⟩)
          obtain ⟨q1, q2, q3, q4, q5⟩ := hf4.out
          simp only [PartsAt] at q5
          subst q5
          exact comp_no hf.out H42.out q4
        | cons k ks =>
          have hk : ((((k :: ks).length : Nat) : Int) == 0) = false := by simp; omega
          simp only [List.length_cons] at hk
          go_wp2_with fail
          refine bodyPost_ret (v := .tuple #[.agg #[.int .u8 0, .int .u8 0, .slice a (k :: ks).length c], .bool true]) (by simp [results, Tryz.results192, go_sem, hc]) rfl (comp_close (ty := 0) hb hz2 ha3.ofAlloc ha4 ho ?_)
          obtain ⟨q1, q2, q3, q4, q5⟩ := hf4.out
          exact ⟨q1, (comp_part hf.out H42.out q5.1).trans q2, (parts_le q5).2 (by simp), q4, Or.inr (Or.inr ⟨hf.out, H42.out, rfl, q5, by simp⟩)⟩
      · have ha5 := ha3.trans ha4
        obtain ⟨hc, hz⟩ := ha5.cells w.heap.size (by simp) (by omega)
        go_wp2_with fail
        exact bodyPost_ret (v := .tuple #[.agg #[.int .u8 0, .int .u8 0, .slice none 0 0], .bool false]) (by simp [results, Tryz.results192, go_sem, hc]) rfl (Or.inr ⟨j, rfl, ha5.ofAlloc.set3 hb (Nat.le_refl _) _ _ _, (comp_part hf.out H42.out hf4.out.2).bad hf4.out.1⟩)
end Go.Proofs.YtblfffbmklkhmaaGreat

namespace Go.Proofs.YtblfffbmklkhmaaGreat
open Go.RowKit
/-- The number that t digits tell. -/
def numV (s : ByteArray) (i : Nat) : Nat → Int
  | 0 => 0
  | t + 1 => numV s i t * 10 + ((bt s (i + t) : Int) - 48)
theorem dig_of {c : Nat} (h : isD c = true) : 48 ≤ c ∧ c ≤ 57 := by simpa only [isD, decide_eq_true_eq] using h
structure NumRel (w : World) (b : Nat) (s : ByteArray) (i : Nat) (m : Int) (gk : Nat) (wr : World) (t : Nat) (n : Int) : Prop where
  at' : At w wr b s (i + t) m
  lo : 1 ≤ t
  hi : t ≤ 3
  gk : 3 - t ≤ gk
  sim : Sim s 12 i (12 + (t : Int)) (i + t)
  val : n = numV s i t
  dig : ∀ k, i ≤ k → k < i + t → isD (bt s k) = true
  nlo : 0 ≤ n
  nhi : t < 3 → n ≤ 99
def NumPost (w : World) (b : Nat) (s : ByteArray) (i : Nat) (m : Int) (e : Ending) (w' : World) : Prop :=
  (∃ (nv : Int) (j : Nat), e = .returned (.tuple #[.int .i64 nv, .bool true]) ∧ At w w' b s j m ∧ Hid (Sim s 12 i 15 j ∧ i < j ∧ j ≤ i + 3 ∧ nv = numV s i (j - i) ∧ (∀ k, i ≤ k → k < j → isD (bt s k) = true) ∧ (j = i + 3 ∨ isD (bt s j) = false))) ∨
  (e = .returned (.tuple #[.int .i64 0, .bool false]) ∧ At w w' b s i m ∧ Hid (isD (bt s i) = false))
theorem num_first {s : ByteArray} {i : Nat} (h : isD (bt s i) = true ∧ i < s.size) : Sim s 12 i 13 (i + 1) := sim_go h.2 (by simp [nxt, h.1]) (by decide) (fun k => by simp [cnt])
theorem num_more {s : ByteArray} {i t : Nat} (h : isD (bt s i) = true ∧ i < s.size) (ht : t = 1 ∨ t = 2) : Sim s (12 + (t : Int)) i (12 + ((t + 1 : Nat) : Int)) (i + 1) := by
  rcases ht with rfl | rfl
  · exact sim_go h.2 (by simp [nxt, h.1]) (by decide) (fun k => by simp [cnt])
  · exact sim_go h.2 (by simp [nxt, h.1]) (by decide) (fun k => by simp [cnt])
theorem num_stop {s : ByteArray} {i t : Nat} (h : isD (bt s i) = false) (ht : t = 1 ∨ t = 2) : Sim s (12 + (t : Int)) i 15 i := by
  rcases ht with rfl | rfl
  · exact sim_same (by decide) (by decide) (by simp [nxt, h]) (fun k => by simp [cnt])
  · exact sim_same (by decide) (by decide) (by simp [nxt, h]) (fun k => by simp [cnt])
set_option maxHeartbeats 1000000 in
theorem number_any (w : World) (b : Nat) (s : ByteArray) (i : Nat) (m : Int) (h : Rd w b s i m) :
    Calls Tryz.prog 215 #[.pointer (some ⟨b, 0, none⟩)] w fun e w' => NumPost w b s i m e w' := by
  go_enter Tryz.func215, Tryz.ntmps215
  go_wp2_with fail
  refine (digit_any _ b s i m (by exact h)).mono ?_
  rintro e w1 (⟨rfl, ha, hf⟩ | ⟨rfl, ha, hf⟩)
  · go_wp2_with fail
    go_loopg [4, 6] 2 (fun gk nv tv wr => ∃ (t : Nat) (n : Int), nv = .int .i64 n ∧ tv = .int .i64 t ∧ NumRel w b s i m gk wr t n)
    case atStart => exact ⟨1, _, rfl, rfl, ha, by omega, by omega, by omega, num_first hf.out, by simp [numV], fun k h1 h2 => (show i = k from by omega) ▸ hf.out.1, by have := dig_of hf.out.1; omega, fun _ => by have := dig_of hf.out.1; omega⟩
    case round =>
      obtain ⟨t, n, rfl, rfl, R⟩ := hrel
      have hlo := R.lo
      have hhi := R.hi
      by_cases ht : t < 3
      · go_wp2_with fail
        refine (digit_any _ b s (i + t) m (by exact R.at'.rd)).mono ?_
        rintro e w2 (⟨rfl, ha2, hf2⟩ | ⟨rfl, ha2, hf2⟩)
        · have hd2 := dig_of hf2.out.1
          have hn0 := R.nlo
          have hn1 := R.nhi ht
          have R2 : NumRel w b s i m (gk - 1) w2 (t + 1) (n * 10 + ((bt s (i + t) : Int) - 48)) := ⟨R.at'.trans ha2, by omega, by omega, by have := R.gk; omega, R.sim.trans (num_more hf2.out (by omega)), by rw [R.val]; rfl, fun k h1 h2 => by
            by_cases e : k = i + t
            · rw [e]; exact hf2.out.1
            · exact R.dig k h1 (by omega), by omega, fun h3 => by
              obtain rfl : t = 1 := by omega
              have h9 : n ≤ 9 := by
                have hv := R.val
                have := dig_of (R.dig i (Nat.le_refl _) (by omega))
                simp [numV] at hv
                omega
              omega⟩
          have hgk := R.gk
          clear R
          go_wp2
          go_roundg (gk - 1)
          case measure => omega
          case rel => exact ⟨t + 1, _, by go_num, by go_num, R2⟩
        · go_wp2
          go_ret2
          exact Or.inl ⟨_, i + t, rfl, R.at'.trans ha2, R.sim.trans (num_stop hf2.out (by omega)), by omega, by omega, by rw [Nat.add_sub_cancel_left]; exact R.val, R.dig, Or.inr hf2.out⟩
      · obtain rfl : t = 3 := by omega
        go_wp2
        go_ret2
        exact Or.inl ⟨_, i + 3, rfl, R.at', R.sim, by omega, by omega, by rw [Nat.add_sub_cancel_left]; exact R.val, R.dig, Or.inl rfl⟩
  · go_wp2
    go_ret2
    exact Or.inr ⟨rfl, ha, hf⟩
/-- From i to j there is this value. -/
def ValAt (s : ByteArray) (i j : Nat) (kd nv vr : Int) : Prop :=
  (bt s i = 105 ∧ kd = 2 ∧ nv = 0 ∧ vr = 0 ∧ j = i + 1) ∨ (bt s i = 114 ∧ kd = 3 ∧ nv = 0 ∧ vr = 0 ∧ j = i + 1) ∨ (bt s i = 117 ∧ kd = 4 ∧ nv = 0 ∧ vr = 0 ∧ j = i + 1) ∨
  (bt s i = 36 ∧ kd = 5 ∧ nv = 0 ∧ vr = bt s (i + 1) ∧ isV (bt s (i + 1)) = true ∧ j = i + 2) ∨
  (kd = 1 ∧ nv = numV s i (j - i) ∧ vr = 0 ∧ i < j ∧ j ≤ i + 3 ∧ (∀ k, i ≤ k → k < j → isD (bt s k) = true) ∧ (j = i + 3 ∨ isD (bt s j) = false))
def ValPost (w : World) (b : Nat) (s : ByteArray) (i : Nat) (m : Int) (e : Ending) (w' : World) : Prop :=
  (∃ (kd nv vr : Int) (j : Nat), e = .returned (.tuple #[.agg #[.int .i64 kd, .int .i64 nv, .int .u8 vr], .bool true]) ∧ At w w' b s j m ∧ Hid (Sim s 12 i 15 j ∧ i < j ∧ ValAt s i j kd nv vr)) ∨
  (∃ (kd nv vr : Int) (j : Nat), e = .returned (.tuple #[.agg #[.int .i64 kd, .int .i64 nv, .int .u8 vr], .bool false]) ∧ At w w' b s j m ∧ Hid (Bad s 12 i j))
theorem val_word {s : ByteArray} {i : Nat} (h : bt s i = 105 ∨ bt s i = 114 ∨ bt s i = 117) : Sim s 12 i 15 (i + 1) ∧ i + 1 ≤ s.size := by
  have hi : i < s.size := lt_of_bt (by omega)
  refine ⟨sim_go hi ?_ (by decide) (fun k => by simp [cnt]), hi⟩
  have hd : isD (bt s i) = false := by simp only [isD, decide_eq_false_iff_not]; omega
  have h36 : ¬ bt s i = 36 := by omega
  simp [nxt, hd, h36, wh, h]
theorem val_var {s : ByteArray} {i : Nat} (h : bt s i = 36) : Sim s 12 i 17 (i + 1) ∧ i < s.size := by
  have hi : i < s.size := lt_of_bt (by omega)
  exact ⟨sim_go hi (by simp [nxt, h, isD]) (by decide) (fun k => by simp [cnt]), hi⟩
theorem val_no {s : ByteArray} {i : Nat} (hd : isD (bt s i) = false) (h1 : bt s i ≠ 105) (h2 : bt s i ≠ 114) (h3 : bt s i ≠ 117) (h4 : bt s i ≠ 36) : Bad s 12 i i :=
  bad_no (by decide) (by simp [nxt, hd, h1, h2, h3, h4, wh])
theorem var_yes {s : ByteArray} {i : Nat} (h : isV (bt s i) = true ∧ i < s.size) : Sim s 17 i 15 (i + 1) := sim_go h.2 (by simp [nxt, h.1, wh]) (by decide) (fun k => by simp [cnt])
theorem var_no {s : ByteArray} {i : Nat} (h : isV (bt s i) = false) : Bad s 17 i i := bad_no (by decide) (by simp [nxt, h, wh])
abbrev valZero : Obj := Obj.cells #[Value.int IntKind.i64 0, Value.int IntKind.i64 0, Value.int IntKind.u8 0] 219
set_option maxHeartbeats 2000000 in
theorem value_any (w : World) (b : Nat) (s : ByteArray) (i : Nat) (m : Int) (h : Rd w b s i m) :
    Calls Tryz.prog 208 #[.pointer (some ⟨b, 0, none⟩)] w fun e w' => ValPost w b s i m e w' := by
  have hb := h.lt
  have c1 := h.c1
  have f1 := h.fr 1
  have hle := h.le
  have htop := h.top
  go_enter Tryz.func208, Tryz.ntmps208
  go_wp2_with fail
  refine (peek_any _ b s i m (by exact h.alloc _)).mono ?_
  rintro e w1 ⟨rfl, n1, rfl⟩
  by_cases k1 : bt s i = 105
  · have g1 : ((bt s i : Int) == 105) = true := by simp [k1]
    have K1 : Hid (bt s i = 105) := k1
    clear k1
    go_wp2_with fail
    have hp := val_word (Or.inl K1.out)
    exact bodyPost_ret (v := .tuple #[.agg #[.int .i64 2, .int .i64 0, .int .u8 0], .bool true]) (by simp [results, Tryz.results208, go_sem]) rfl (Or.inl ⟨2, 0, 0, i + 1, rfl, ((((h.at0.alloc _).drewN _).setAt hp.2 (by omega)).set3 hb (Nat.le_refl _) _ _ _), hp.1, by omega, Or.inl ⟨K1.out, rfl, rfl, rfl, rfl⟩⟩)
  have g1 : ((bt s i : Int) == 105) = false := by simp; omega
  by_cases k2 : bt s i = 114
  · have g2 : ((bt s i : Int) == 114) = true := by simp [k2]
    have K1 : Hid (bt s i = 114) := k2
    clear k1 k2
    go_wp2_with fail
    have hp := val_word (Or.inr (Or.inl K1.out))
    exact bodyPost_ret (v := .tuple #[.agg #[.int .i64 3, .int .i64 0, .int .u8 0], .bool true]) (by simp [results, Tryz.results208, go_sem]) rfl (Or.inl ⟨3, 0, 0, i + 1, rfl, ((((h.at0.alloc _).drewN _).setAt hp.2 (by omega)).set3 hb (Nat.le_refl _) _ _ _), hp.1, by omega, (Or.inr <| Or.inl ⟨K1.out, rfl, rfl, rfl, rfl⟩)⟩)
  have g2 : ((bt s i : Int) == 114) = false := by simp; omega
  by_cases k3 : bt s i = 117
  · have g3 : ((bt s i : Int) == 117) = true := by simp [k3]
    have K1 : Hid (bt s i = 117) := k3
    clear k1 k2 k3
    go_wp2_with fail
    have hp := val_word (Or.inr (Or.inr K1.out))
    exact bodyPost_ret (v := .tuple #[.agg #[.int .i64 4, .int .i64 0, .int .u8 0], .bool true]) (by simp [results, Tryz.results208, go_sem]) rfl (Or.inl ⟨4, 0, 0, i + 1, rfl, ((((h.at0.alloc _).drewN _).setAt hp.2 (by omega)).set3 hb (Nat.le_refl _) _ _ _), hp.1, by omega, (Or.inr <| Or.inr <| Or.inl ⟨K1.out, rfl, rfl, rfl, rfl⟩)⟩)
  have g3 : ((bt s i : Int) == 117) = false := by simp; omega
  by_cases k4 : bt s i = 36
  · have g4 : ((bt s i : Int) == 36) = true := by simp [k4]
    have K1 : Hid (bt s i = 36) := k4
    clear k1 k2 k3 k4
    have hp := val_var K1.out
    have HP : Hid (Sim s 12 i 17 (i + 1)) := hp.1
    have hlt := hp.2
    clear hp
    go_wp2_with fail
    have ha := ((h.at0.alloc valZero).drewN n1).setAt (j := i + 1) (v := (i : Int) + 1) (by omega) (by omega)
    refine (variable_any _ b s (i + 1) m (by exact ha.rd)).mono ?_
    rintro e w2 (⟨rfl, ha2, hf2⟩ | ⟨rfl, ha2, hf2⟩)
    · have ha3 := ha.trans ha2
      obtain ⟨hc, hz⟩ := ha2.cells w.heap.size (by simp [World.setCell]) (by omega)
      go_wp2_with fail
      exact bodyPost_ret (v := .tuple #[.agg #[.int .i64 5, .int .i64 0, .int .u8 (bt s (i + 1))], .bool true]) (by simp [results, Tryz.results208, go_sem, hc]) rfl (Or.inl ⟨5, 0, _, i + 2, rfl, ha3.set3 hb (Nat.le_refl _) _ _ _, HP.out.trans (var_yes hf2.out), by omega, Or.inr (Or.inr (Or.inr (Or.inl ⟨K1.out, rfl, rfl, rfl, hf2.out.1, rfl⟩)))⟩)
    · have ha3 := ha.trans ha2
      obtain ⟨hc, hz⟩ := ha2.cells w.heap.size (by simp [World.setCell]) (by omega)
      go_wp2_with fail
      exact bodyPost_ret (v := .tuple #[.agg #[.int .i64 5, .int .i64 0, .int .u8 0], .bool false]) (by simp [results, Tryz.results208, go_sem, hc]) rfl (Or.inr ⟨5, 0, 0, i + 1, rfl, ha3.set3 hb (Nat.le_refl _) _ _ _, HP.out.bad (var_no hf2.out)⟩)
  · have g4 : ((bt s i : Int) == 36) = false := by simp; omega
    have HN : Hid (bt s i ≠ 105 ∧ bt s i ≠ 114 ∧ bt s i ≠ 117 ∧ bt s i ≠ 36) := ⟨k1, k2, k3, k4⟩
    clear k1 k2 k3 k4
    go_wp2_with fail
    have ha := (h.at0.alloc valZero).drewN n1
    refine (number_any _ b s i m (by exact ha.rd)).mono ?_
    rintro e w2 (⟨nv, j, rfl, ha2, hf2⟩ | ⟨rfl, ha2, hf2⟩)
    · have ha3 := ha.trans ha2
      obtain ⟨hc, hz⟩ := ha2.cells w.heap.size (by simp) (by omega)
      go_wp2_with fail
      exact bodyPost_ret (v := .tuple #[.agg #[.int .i64 1, .int .i64 nv, .int .u8 0], .bool true]) (by simp [results, Tryz.results208, go_sem, hc]) rfl (Or.inl ⟨1, nv, 0, j, rfl, ha3.set3 hb (Nat.le_refl _) _ _ _, hf2.out.1, hf2.out.2.1, Or.inr (Or.inr (Or.inr (Or.inr ⟨rfl, hf2.out.2.2.2.1, rfl, hf2.out.2.1, hf2.out.2.2.1, hf2.out.2.2.2.2⟩)))⟩)
    · have ha3 := ha.trans ha2
      obtain ⟨hc, hz⟩ := ha2.cells w.heap.size (by simp) (by omega)
      go_wp2_with fail
      obtain ⟨q1, q2, q3, q4⟩ := HN.out
      exact bodyPost_ret (v := .tuple #[.agg #[.int .i64 1, .int .i64 0, .int .u8 0], .bool false]) (by simp [results, Tryz.results208, go_sem, hc]) rfl (Or.inr ⟨1, 0, 0, i, rfl, ha3.set3 hb (Nat.le_refl _) _ _ _, val_no hf2.out q1 q2 q3 q4⟩)
end Go.Proofs.YtblfffbmklkhmaaGreat
