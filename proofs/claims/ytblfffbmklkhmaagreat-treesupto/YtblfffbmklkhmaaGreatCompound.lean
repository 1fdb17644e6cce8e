/- One compound. Own work. -/
import Derived.Test.YtblfffbmklkhmaaGreatParts
namespace Go.Proofs.YtblfffbmklkhmaaGreat
open Go.RowKit

/-- From i to j there is a compound of this type (0: none) with parts of these kinds. -/
def CompAt (s : ByteArray) (i j : Nat) (ty : Nat) (ks : List PPt) : Prop :=
  (isL (bt s i) = true ∧ ty = bt s i ∧ PartsAt s (i + 1) j ks) ∨ (isL (bt s i) = false ∧ bt s i = 42 ∧ ty = 0 ∧ PartsAt s (i + 1) j ks) ∨
  (isL (bt s i) = false ∧ bt s i ≠ 42 ∧ ty = 0 ∧ PartsAt s i j ks ∧ ks ≠ [])

def CompPost (w : World) (b : Nat) (s : ByteArray) (i : Nat) (m : Int) (e : Ending) (w' : World) : Prop :=
  (∃ (ty : Nat) (a : Option Addr) (c : Nat) (ks : List PPt) (xs : List Value) (j : Nat), e = .returned (.tuple #[.agg #[.int .u8 0, .int .u8 ty, .slice a ks.length c], .bool true]) ∧ At w w' b s j m ∧ w'.ownsRow w.heap.size 192 5 (.slice a ks.length c) ks.length xs ∧
    Hid (Kinds xs ks ∧ Sim s 2 i 3 j ∧ i < j ∧ isA (bt s j) = false ∧ CompAt s i j ty ks)) ∨
  (∃ j, e = .returned (.tuple #[.agg #[.int .u8 0, .int .u8 0, .slice none 0 0], .bool false]) ∧ At w w' b s j m ∧ Hid (Bad s 2 i j))

theorem own_mono {w : World} {base base' : Nat} {e : TypeId} {size : Nat} {v : Value} {n : Nat} {xs : List Value} (h : w.ownsRow base e size v n xs) (hb : base' ≤ base) : w.ownsRow base' e size v n xs := by
  refine ⟨h.1, ?_⟩
  rcases h.2 with hn | ⟨g, cap, cur, hv, hg, rest⟩
  · exact Or.inl hn
  · exact Or.inr ⟨g, cap, cur, hv, by omega, rest⟩

theorem At.set3 {w w1 : World} {b : Nat} {s : ByteArray} {j : Nat} {m : Int} (h : At w w1 b s j m) (hb : b < w.heap.size) {B : Nat} (hB : w.heap.size ≤ B) (v0 v1 v2 : Value) :
    At w (((w1.setCell ⟨B, 0, none⟩ v0).setCell ⟨B, 1, none⟩ v1).setCell ⟨B, 2, none⟩ v2) b s j m :=
  ((h.setNew hb hB _).setNew hb hB _).setNew hb hB _

theorem own_set3 {w : World} {base : Nat} {e : TypeId} {size : Nat} {v : Value} {n : Nat} {xs : List Value} (h : w.ownsRow base e size v n xs) {B : Nat} (hB : B < base) (v0 v1 v2 : Value) :
    (((w.setCell ⟨B, 0, none⟩ v0).setCell ⟨B, 1, none⟩ v1).setCell ⟨B, 2, none⟩ v2).ownsRow base e size v n xs :=
  ownsRow_setCell_below (ownsRow_setCell_below (ownsRow_setCell_below h (by exact hB) _) (by exact hB) _) (by exact hB) _

theorem comp_head {s : ByteArray} {i : Nat} (h : isL (bt s i) = true ∨ bt s i = 42) (hi : i < s.size) : Sim s 2 i 3 (i + 1) :=
  sim_go hi (by simp [nxt, compN, h]) (by decide) (fun k => by simp [cnt])
theorem comp_part {s : ByteArray} {i : Nat} (hl : isL (bt s i) = false) (h42 : bt s i ≠ 42) (hA : isA (bt s i) = true) : Sim s 2 i 3 i := by
  simp only [isA, decide_eq_true_eq] at hA
  have hs : isS (bt s i) = false := by simp only [isS, decide_eq_false_iff_not]; omega
  have h1 : ¬ bt s i = 44 := by omega
  have h2 : ¬ bt s i = 123 := by omega
  exact sim_same (by decide) (by decide) (by simp [nxt, compN, moreN, hl, hs, h42, h1, h2]) (fun k => by simp [cnt, hs, h1])
theorem comp_no {s : ByteArray} {i : Nat} (hl : isL (bt s i) = false) (h42 : bt s i ≠ 42) (hA : isA (bt s i) = false) : Bad s 2 i i := by
  simp only [isA, decide_eq_false_iff_not] at hA
  have h1 : ¬ bt s i = 33 := by omega
  have h2 : ¬ bt s i = 46 := by omega
  have h3 : ¬ bt s i = 35 := by omega
  have h4 : ¬ bt s i = 58 := by omega
  exact bad_no (by decide) (by simp [nxt, compN, partN, hl, h42, h1, h2, h3, h4])
theorem parts_le {s : ByteArray} {i j : Nat} {ks : List PPt} (h : PartsAt s i j ks) : i ≤ j ∧ (ks ≠ [] → i < j) := by
  induction ks generalizing i with
  | nil => simp only [PartsAt] at h; exact ⟨by omega, fun e => absurd rfl e⟩
  | cons k ks ih =>
    obtain ⟨_, l, h2, h3⟩ := h
    have := good_lt h2
    have := (ih h3).1
    exact ⟨by omega, fun _ => by omega⟩

abbrev compZero : Obj := Obj.cells #[Value.int IntKind.u8 0, Value.int IntKind.u8 0, Value.slice none 0 0] 190

/-- The rest of a compound, behind its head. -/
theorem comp_close {w w1 w2 : World} {b : Nat} {s : ByteArray} {i j i' : Nat} {m : Int} {ty : Nat} {a : Option Addr} {c : Nat} {ks : List PPt} {xs : List Value}
    (hb : b < w.heap.size) (hz1 : w.heap.size < w1.heap.size) (ha : At w w1 b s i' m) (ha2 : At w1 w2 b s j m) (ho : w2.ownsRow w1.heap.size 192 5 (.slice a ks.length c) ks.length xs)
    (hf : Kinds xs ks ∧ Sim s 2 i 3 j ∧ i < j ∧ isA (bt s j) = false ∧ CompAt s i j ty ks) :
    CompPost w b s i m (.returned (.tuple #[.agg #[.int .u8 0, .int .u8 ty, .slice a ks.length c], .bool true])) (((w2.setCell ⟨w.heap.size, 0, none⟩ (.int .u8 0)).setCell ⟨w.heap.size, 1, none⟩ (.int .u8 ty)).setCell ⟨w.heap.size, 2, none⟩ (.slice a ks.length c)) :=
  Or.inl ⟨ty, a, c, ks, xs, j, rfl, (ha.trans ha2).set3 hb (Nat.le_refl _) _ _ _, own_mono (own_set3 ho hz1 _ _ _) (by omega), hf⟩

set_option maxHeartbeats 1000000 in
theorem compound_any (w : World) (b : Nat) (s : ByteArray) (i : Nat) (m : Int) (h : Rd w b s i m) :
    Calls Tryz.prog 192 #[.pointer (some ⟨b, 0, none⟩)] w fun e w' => CompPost w b s i m e w' := by
  have hb := h.lt
  go_enter Tryz.func192, Tryz.ntmps192
  go_wp2_with fail
  refine (letter_any _ b s i m (by exact h.alloc _)).mono ?_
  rintro e w1 (⟨rfl, ha, hf⟩ | ⟨rfl, ha, hf⟩)
  · have hz1 : w.heap.size < w1.heap.size := by have := ha.size; simp only [World.size_alloc] at this; omega
    go_wp2_with fail
    refine (parts_any _ b s (i + 1) m (by exact ha.rd)).mono ?_
    rintro e w2 (⟨a, c, ks, xs, j, rfl, ha2, ho, hf2⟩ | ⟨j, rfl, ha2, hf2⟩)
    · have ha3 := ha.trans ha2
      obtain ⟨hc, hz⟩ := ha3.cells w.heap.size (by simp) (by omega)
      go_wp2_with fail
      refine bodyPost_ret (v := .tuple #[.agg #[.int .u8 0, .int .u8 (bt s i), .slice a ks.length c], .bool true]) (by simp [results, Tryz.results192, go_sem, hc]) rfl (comp_close hb hz1 ha.ofAlloc ha2 ho ?_)
      obtain ⟨q1, q2, q3, q4, q5⟩ := hf2.out
      exact ⟨q1, (comp_head (Or.inl hf.out.1) hf.out.2).trans q2, by omega, q4, Or.inl ⟨hf.out.1, rfl, q5⟩⟩
    · have ha3 := ha.trans ha2
      obtain ⟨hc, hz⟩ := ha3.cells w.heap.size (by simp) (by omega)
      go_wp2_with fail
      exact bodyPost_ret (v := .tuple #[.agg #[.int .u8 0, .int .u8 0, .slice none 0 0], .bool false]) (by simp [results, Tryz.results192, go_sem, hc]) rfl (Or.inr ⟨j, rfl, ha3.ofAlloc.set3 hb (Nat.le_refl _) _ _ _, (comp_head (Or.inl hf.out.1) hf.out.2).bad hf2.out.1⟩)
  · have hz1 : w.heap.size < w1.heap.size := by have := ha.size; simp only [World.size_alloc] at this; omega
    go_wp2_with fail
    refine (take_any _ b s i m 42 (by exact ha.rd) (by decide)).mono ?_
    rintro e w2 (⟨rfl, ha2, hf2⟩ | ⟨rfl, ha2, hf2⟩)
    · have ha3 := ha.trans ha2
      have hz2 : w.heap.size < w2.heap.size := by have := ha3.size; simp only [World.size_alloc] at this; omega
      go_wp2_with fail
      refine (parts_any _ b s (i + 1) m (by exact ha3.rd)).mono ?_
      have h42 : bt s i = 42 := by have := hf2.out.1; omega
      have H42 : Hid (bt s i = 42) := h42
      clear h42
      rintro e w3 (⟨a, c, ks, xs, j, rfl, ha4, ho, hf4⟩ | ⟨j, rfl, ha4, hf4⟩)
      · have ha5 := ha3.trans ha4
        obtain ⟨hc, hz⟩ := ha5.cells w.heap.size (by simp) (by omega)
        go_wp2_with fail
        refine bodyPost_ret (v := .tuple #[.agg #[.int .u8 0, .int .u8 0, .slice a ks.length c], .bool true]) (by simp [results, Tryz.results192, go_sem, hc]) rfl (comp_close (ty := 0) hb hz2 ha3.ofAlloc ha4 ho ?_)
        obtain ⟨q1, q2, q3, q4, q5⟩ := hf4.out
        exact ⟨q1, (comp_head (Or.inr H42.out) hf2.out.2).trans q2, by omega, q4, Or.inr (Or.inl ⟨hf.out, H42.out, rfl, q5⟩)⟩
      · have ha5 := ha3.trans ha4
        obtain ⟨hc, hz⟩ := ha5.cells w.heap.size (by simp) (by omega)
        go_wp2_with fail
        exact bodyPost_ret (v := .tuple #[.agg #[.int .u8 0, .int .u8 0, .slice none 0 0], .bool false]) (by simp [results, Tryz.results192, go_sem, hc]) rfl (Or.inr ⟨j, rfl, ha5.ofAlloc.set3 hb (Nat.le_refl _) _ _ _, (comp_head (Or.inr H42.out) hf2.out.2).bad hf4.out.1⟩)
    · have ha3 := ha.trans ha2
      have hz2 : w.heap.size < w2.heap.size := by have := ha3.size; simp only [World.size_alloc] at this; omega
      go_wp2_with fail
      refine (parts_any _ b s i m (by exact ha3.rd)).mono ?_
      have h42 : bt s i ≠ 42 := by have := hf2.out; omega
      have H42 : Hid (bt s i ≠ 42) := h42
      clear h42
      rintro e w3 (⟨a, c, ks, xs, j, rfl, ha4, ho, hf4⟩ | ⟨j, rfl, ha4, hf4⟩)
      · have ha5 := ha3.trans ha4
        obtain ⟨hc, hz⟩ := ha5.cells w.heap.size (by simp) (by omega)
        cases ks with
        | nil =>
          go_wp2_with fail
          refine bodyPost_ret (v := .tuple #[.agg #[.int .u8 0, .int .u8 0, .slice none 0 0], .bool false]) (by simp [results, Tryz.results192, go_sem, hc]) rfl (Or.inr ⟨j, rfl, ha5.ofAlloc.set3 hb (Nat.le_refl _) _ _ _, ?_⟩)
          obtain ⟨q1, q2, q3, q4, q5⟩ := hf4.out
          simp only [PartsAt] at q5
          subst q5
          exact comp_no hf.out H42.out q4
        | cons k ks =>
          have hk : ((((k :: ks).length : Nat) : Int) == 0) = false := by simp; omega
          simp only [List.length_cons] at hk
          go_wp2_with fail
          refine bodyPost_ret (v := .tuple #[.agg #[.int .u8 0, .int .u8 0, .slice a (k :: ks).length c], .bool true]) (by simp [results, Tryz.results192, go_sem, hc]) rfl (comp_close (ty := 0) hb hz2 ha3.ofAlloc ha4 ho ?_)
          obtain ⟨q1, q2, q3, q4, q5⟩ := hf4.out
          exact ⟨q1, (comp_part hf.out H42.out q5.1).trans q2, (parts_le q5).2 (by simp), q4, Or.inr (Or.inr ⟨hf.out, H42.out, rfl, q5, by simp⟩)⟩
      · have ha5 := ha3.trans ha4
        obtain ⟨hc, hz⟩ := ha5.cells w.heap.size (by simp) (by omega)
        go_wp2_with fail
        exact bodyPost_ret (v := .tuple #[.agg #[.int .u8 0, .int .u8 0, .slice none 0 0], .bool false]) (by simp [results, Tryz.results192, go_sem, hc]) rfl (Or.inr ⟨j, rfl, ha5.ofAlloc.set3 hb (Nat.le_refl _) _ _ _, (comp_part hf.out H42.out hf4.out.2).bad hf4.out.1⟩)

end Go.Proofs.YtblfffbmklkhmaaGreat
