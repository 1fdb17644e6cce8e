/- A rule, the sheet. Own work. -/
import Derived.Test.YtblfffbmklkhmaaGreatDecl
namespace Go.Proofs.YtblfffbmklkhmaaGreat
open Go.RowKit

theorem Tryz.info138 : (Tryz.prog.info? 138).map (fun i => (i.zero, i.size, i.bytes)) = some (some (.agg #[.int .i64 0, .slice none 0 0, .slice none 0 0]), 3, 56) := by kernel_rfl

def LayerAt (s : ByteArray) (i j : Nat) : Prop := (bt s i = 64 ∧ j = i + 2) ∨ (bt s i ≠ 64 ∧ j = i)

/-- The layer of the rule at a place. -/
def layV (s : ByteArray) (i : Nat) : Int := if bt s i = 64 then (bt s (i + 1) : Int) - 48 else 10
/-- A rule, as the program keeps it. -/
structure PRu where
  ly : Int
  ss : List (List PCp)
  ds : List PDc

def LayerPost (w : World) (b : Nat) (s : ByteArray) (i : Nat) (m : Int) (e : Ending) (w' : World) : Prop :=
  (∃ (v : Int) (j : Nat), e = .returned (.tuple #[.int .i64 v, .bool true]) ∧ At w w' b s j m ∧ Hid (LayerAt s i j ∧ (∀ nr nc mn, V s 18 ⟨nr, nc, mn⟩ i = V s 2 ⟨nr, 1, mn⟩ j) ∧ v = layV s i)) ∨
  (∃ (v : Int) (j : Nat), e = .returned (.tuple #[.int .i64 v, .bool false]) ∧ At w w' b s j m ∧ Hid (Bad s 18 i j))

theorem layer_at {s : ByteArray} {i : Nat} (h : (bt s i : Int) = 64 ∧ i < s.size) : (∀ nr nc mn, V s 18 ⟨nr, nc, mn⟩ i = V s 1 ⟨nr, 1, mn⟩ (i + 1)) ∧ bt s i = 64 := by
  have h1 : bt s i = 64 := by omega
  refine ⟨fun nr nc mn => ?_, h1⟩
  rw [V_go h.2 (m' := 1) (by simp [nxt, h1]) (by decide)]
  simp [cnt]
theorem layer_no {s : ByteArray} {i : Nat} (h : (bt s i : Int) ≠ 64) : (∀ nr nc mn, V s 18 ⟨nr, nc, mn⟩ i = V s 2 ⟨nr, 1, mn⟩ i) ∧ bt s i ≠ 64 := by
  have h1 : ¬ bt s i = 64 := by omega
  exact ⟨fun nr nc mn => V_same (by decide) (by decide) (by simp [nxt, h1]) (by simp [cnt]), h1⟩
theorem layer_digit {s : ByteArray} {i : Nat} (h : isD (bt s i) = true ∧ i < s.size) : ∀ nr mn, V s 1 ⟨nr, 1, mn⟩ i = V s 2 ⟨nr, 1, mn⟩ (i + 1) := fun nr mn => by
  rw [V_go h.2 (m' := 2) (by simp [nxt, h.1, wh]) (by decide)]
  simp [cnt]
theorem layer_nodigit {s : ByteArray} {i : Nat} (h : isD (bt s i) = false) : Bad s 1 i i := bad_no (by decide) (by simp [nxt, h, wh])

set_option maxHeartbeats 1000000 in
theorem layer_any (w : World) (b : Nat) (s : ByteArray) (i : Nat) (m : Int) (h : Rd w b s i m) :
    Calls Tryz.prog 157 #[.pointer (some ⟨b, 0, none⟩)] w fun e w' => LayerPost w b s i m e w' := by
  go_enter Tryz.func157, Tryz.ntmps157
  go_wp2_with fail
  refine (take_any _ b s i m 64 (by exact h) (by decide)).mono ?_
  rintro e w1 (⟨rfl, ha, hf⟩ | ⟨rfl, ha, hf⟩)
  · go_wp2_with fail
    refine (digit_any _ b s (i + 1) m (by exact ha.rd)).mono ?_
    rintro e w2 (⟨rfl, ha2, hf2⟩ | ⟨rfl, ha2, hf2⟩)
    · go_wp2_with fail
      go_ret2
      exact Or.inl ⟨_, i + 2, rfl, ha.trans ha2, Or.inl ⟨(layer_at hf.out).2, rfl⟩, fun nr nc mn => by rw [(layer_at hf.out).1, layer_digit hf2.out], by unfold layV; rw [if_pos (layer_at hf.out).2]⟩
    · go_wp2_with fail
      go_ret2
      exact Or.inr ⟨_, i + 1, rfl, ha.trans ha2, fun k => by rw [(layer_at hf.out).1 k.nr k.nc k.mn, layer_nodigit hf2.out]⟩
  · go_wp2_with fail
    go_ret2
    exact Or.inl ⟨_, i, rfl, ha, Or.inr ⟨(layer_no hf.out).2, rfl⟩, (layer_no hf.out).1, by unfold layV; rw [if_neg (layer_no hf.out).2]⟩

/-- From i to j there is a rule with these selectors. -/
def RuleAt (s : ByteArray) (i j : Nat) (r : PRu) : Prop :=
  ∃ l q, LayerAt s i l ∧ SelsAt s l q r.ss ∧ l < q ∧ bt s q = 123 ∧ q < j ∧ Sim s 3 q 0 j ∧ r.ly = layV s i ∧ BlkAt s q j r.ds

def RulePost (w : World) (b : Nat) (s : ByteArray) (i : Nat) (m : Int) (e : Ending) (w' : World) : Prop :=
  (∃ (lv : Int) (a : Option Addr) (c : Nat) (ss : List (List PCp)) (xs : List Value) (a' : Option Addr) (c' : Nat) (ds : List PDc) (ys : List Value) (j : Nat) (m' : Int),
    e = .returned (.tuple #[.agg #[.int .i64 lv, .slice a ss.length c, .slice a' ds.length c'], .bool true]) ∧ At w w' b s j m' ∧ w'.ownsRow w.heap.size 141 1 (.slice a ss.length c) ss.length xs ∧ Sels w' w.heap.size xs ss ∧ w'.ownsRow w.heap.size 253 5 (.slice a' ds.length c') ds.length ys ∧
    Hid (Decs ys ds ∧ RuleAt s i j ⟨lv, ss, ds⟩ ∧ i < j ∧ ∃ nc', ∀ nr nc, V s 18 ⟨nr, nc, m⟩ i = V s 0 ⟨nr, nc', m'⟩ j)) ∨
  (∃ (j : Nat) (m' : Int), e = .returned (.tuple #[.agg #[.int .i64 0, .slice none 0 0, .slice none 0 0], .bool false]) ∧ At w w' b s j m' ∧ Hid (∀ nr nc, V s 18 ⟨nr, nc, m⟩ i = ((j : Int), -1)))

theorem sels_set3 {w : World} {base : Nat} {xs : List Value} {ss : List (List PCp)} (h : Sels w base xs ss) {B : Nat} (hB : B < base) (v0 v1 v2 : Value) :
    Sels (((w.setCell ⟨B, 0, none⟩ v0).setCell ⟨B, 1, none⟩ v1).setCell ⟨B, 2, none⟩ v2) base xs ss :=
  h.keep (((keeps_set _ (by exact hB) _ _).trans (keeps_set _ (by exact hB) _ _)).trans (keeps_set _ (by exact hB) _ _)) (((keeps_set _ (by exact hB) _ _).trans (keeps_set _ (by exact hB) _ _)).trans (keeps_set _ (by exact hB) _ _))

set_option maxHeartbeats 2000000 in
theorem rule_any (w : World) (b : Nat) (s : ByteArray) (i : Nat) (m : Int) (h : Rd w b s i m) :
    Calls Tryz.prog 124 #[.pointer (some ⟨b, 0, none⟩)] w fun e w' => RulePost w b s i m e w' := by
  have hb := h.lt
  go_enter Tryz.func124, Tryz.ntmps124
  go_wp2_with fail
  refine (layer_any _ b s i m (by exact h.alloc _)).mono ?_
  rintro e w1 (⟨lv, l, rfl, ha, hf⟩ | ⟨lv, l, rfl, ha, hf⟩)
  · have hz1 : w.heap.size < w1.heap.size := by have := ha.size; simp only [World.size_alloc] at this; omega
    go_wp2_with fail
    refine (selectors_any _ b s l m (by exact ha.rd)).mono ?_
    rintro e w2 (⟨a, c, ss, xs, q, m2, rfl, ha2, ho2, hs2, hf2⟩ | ⟨q, m2, rfl, ha2, hf2⟩)
    · have ha3 := ha.trans ha2
      go_wp2_with fail
      refine (block_any _ b s q m2 (by exact ha3.rd) ⟨hf2.out.2.2.1, hf2.out.2.2.2.1, hf2.out.2.2.2.2.1⟩).mono ?_
      rintro e w3 (⟨a', c', j, ds, ys, rfl, ha4, ho4, hf4⟩ | ⟨a', n', c', j, rfl, ha4, hf4⟩)
      · have ha5 := ha3.trans ha4
        obtain ⟨hc, hz⟩ := ha5.cells w.heap.size (by simp) (by omega)
        have own3 := ha4.owns ho2 (by omega)
        have hz2' : w.heap.size < w2.heap.size := by have := ha3.size; simp only [World.size_alloc] at this; omega
        have sel3 := hs2.keep (keeps_at ha4 (by omega) _) (keeps_at ha4 (by omega) _)
        go_wp2_with fail
        refine bodyPost_ret (v := .tuple #[.agg #[.int .i64 lv, .slice a ss.length c, .slice a' ds.length c'], .bool true]) (by simp [results, Tryz.results124, go_sem, hc]) rfl
          (Or.inl ⟨lv, a, c, ss, xs, a', c', ds, ys, j, m2, rfl, ha5.ofAlloc.set3 hb (Nat.le_refl _) _ _ _, own_mono (own_set3 own3 hz1 _ _ _) (by omega), (sels_set3 sel3 hz1 _ _ _).mono (by omega), own_mono (own_set3 ho4 hz2' _ _ _) (by omega), ?_⟩)
        obtain ⟨p1, p2, p3, p4, p5, nc, p6⟩ := hf2.out
        obtain ⟨q0, q1, q2, q3⟩ := hf4.out
        obtain ⟨r1, r2, r3⟩ := hf.out
        have hil : i ≤ l := by rcases r1 with ⟨_, r⟩ | ⟨_, r⟩ <;> omega
        exact ⟨q0, ⟨l, q, r1, p1, p2, q3.1, q2, q1, r3, q3⟩, by omega, nc, fun nr nc' => by rw [r2, p6, q1]⟩
      · have ha5 := ha3.trans ha4
        obtain ⟨hc, hz⟩ := ha5.cells w.heap.size (by simp) (by omega)
        go_wp2_with fail
        refine bodyPost_ret (v := .tuple #[.agg #[.int .i64 0, .slice none 0 0, .slice none 0 0], .bool false]) (by simp [results, Tryz.results124, go_sem, hc]) rfl (Or.inr ⟨j, m2, rfl, ha5.ofAlloc.set3 hb (Nat.le_refl _) _ _ _, ?_⟩)
        obtain ⟨p1, p2, p3, p4, p5, nc, p6⟩ := hf2.out
        exact fun nr nc' => by rw [hf.out.2.1, p6, hf4.out]
    · have ha3 := ha.trans ha2
      obtain ⟨hc, hz⟩ := ha3.cells w.heap.size (by simp) (by omega)
      go_wp2_with fail
      exact bodyPost_ret (v := .tuple #[.agg #[.int .i64 0, .slice none 0 0, .slice none 0 0], .bool false]) (by simp [results, Tryz.results124, go_sem, hc]) rfl (Or.inr ⟨q, m2, rfl, ha3.ofAlloc.set3 hb (Nat.le_refl _) _ _ _, fun nr nc' => by rw [hf.out.2.1, hf2.out]⟩)
  · obtain ⟨hc, hz⟩ := ha.cells w.heap.size (by simp) (by omega)
    go_wp2_with fail
    exact bodyPost_ret (v := .tuple #[.agg #[.int .i64 0, .slice none 0 0, .slice none 0 0], .bool false]) (by simp [results, Tryz.results124, go_sem, hc]) rfl (Or.inr ⟨l, m, rfl, ha.ofAlloc.set3 hb (Nat.le_refl _) _ _ _, fun nr nc => hf.out _⟩)

end Go.Proofs.YtblfffbmklkhmaaGreat
