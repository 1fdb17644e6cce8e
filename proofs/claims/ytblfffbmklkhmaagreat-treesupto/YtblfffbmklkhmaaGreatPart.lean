/- One part of a compound. Own work. -/
import Derived.Test.YtblfffbmklkhmaaGreatFrame
namespace Go.Proofs.YtblfffbmklkhmaaGreat
open Go.RowKit

theorem At.set5 {w w1 : World} {b : Nat} {s : ByteArray} {j : Nat} {m : Int} (h : At w w1 b s j m) (hb : b < w.heap.size) {B : Nat} (hB : w.heap.size ≤ B) (v0 v1 v2 v3 v4 : Value) :
    At w (((((w1.setCell ⟨B, 0, none⟩ v0).setCell ⟨B, 1, none⟩ v1).setCell ⟨B, 2, none⟩ v2).setCell ⟨B, 3, none⟩ v3).setCell ⟨B, 4, none⟩ v4) b s j m :=
  ((((h.setNew hb hB _).setNew hb hB _).setNew hb hB _).setNew hb hB _).setNew hb hB _

/-- The modes' runs are one. -/
def Sim (s : ByteArray) (m : Int) (i : Nat) (m' : Int) (j : Nat) : Prop := ∀ k, V s m k i = V s m' k j
/-- The run stops at j. -/
def Bad (s : ByteArray) (m : Int) (i : Nat) (j : Nat) : Prop := ∀ k, V s m k i = ((j : Int), -1)

theorem Sim.trans {s : ByteArray} {a b c : Int} {i j l : Nat} (h : Sim s a i b j) (k : Sim s b j c l) : Sim s a i c l := fun n => (h n).trans (k n)
theorem Sim.bad {s : ByteArray} {a b : Int} {i j l : Nat} (h : Sim s a i b j) (k : Bad s b j l) : Bad s a i l := fun n => (h n).trans (k n)

/-- One byte on, in a mode in which nothing is counted. -/
theorem sim_go {s : ByteArray} {m m' : Int} {i : Nat} (hi : i < s.size) (h : nxt m (bt s i) = m') (hm : m' ≠ -1) (hc : ∀ k, cnt m (bt s i) i k = k) : Sim s m i m' (i + 1) := fun k => by
  rw [V_go hi h hm, hc]
theorem bad_no {s : ByteArray} {m : Int} {i : Nat} (hm : m ≠ 0) (h : nxt m (bt s i) = -1) : Bad s m i i := fun _ => V_no hm h
theorem sim_same {s : ByteArray} {m m' : Int} {i : Nat} (hm : m ≠ 0) (hm' : m' ≠ 0) (h : nxt m (bt s i) = nxt m' (bt s i)) (hk : ∀ k, cnt m (bt s i) i k = cnt m' (bt s i) i k) : Sim s m i m' i := fun k => V_same hm hm' h (hk k)

theorem lt_of_bt {s : ByteArray} {i : Nat} (h : bt s i ≠ 0) : i < s.size := by
  by_cases hi : i < s.size
  · exact hi
  · exact absurd (bt_end s i (by omega)) h

/-- No sign, no comma, no brace. -/
def plain (c : Nat) : Bool := decide (isS c = false ∧ c ≠ 44 ∧ c ≠ 123)
def Plain (s : ByteArray) (i j : Nat) : Prop := ∀ k, i ≤ k → k < j → plain (bt s k) = true

theorem plain_L {c : Nat} (h : isL c = true) : plain c = true := by
  simp only [isL, decide_eq_true_eq] at h
  simp only [plain, isS, decide_eq_true_eq, decide_eq_false_iff_not]; omega
theorem plain_D {c : Nat} (h : isD c = true) : plain c = true := by
  simp only [isD, decide_eq_true_eq] at h
  simp only [plain, isS, decide_eq_true_eq, decide_eq_false_iff_not]; omega
theorem plain_of {c : Nat} (h : c = 46 ∨ c = 35 ∨ c = 58 ∨ c = 33 ∨ c = 42 ∨ c = 102 ∨ c = 108 ∨ c = 101 ∨ c = 110) : plain c = true := by
  simp only [plain, isS, decide_eq_true_eq, decide_eq_false_iff_not]; omega
theorem Plain.one {s : ByteArray} {i : Nat} (h : plain (bt s i) = true) : Plain s i (i + 1) := fun k k1 k2 => by
  obtain rfl : k = i := by omega
  exact h
theorem Plain.cat {s : ByteArray} {i j l : Nat} (h : Plain s i j) (h2 : Plain s j l) : Plain s i l := fun k k1 k2 => by
  by_cases e : k < j
  · exact h k k1 e
  · exact h2 k (by omega) k2

/-- A part, as the program keeps it. -/
structure PPt where
  nt : Bool
  kd : Int
  lt : Int
  st : Int
  sr : Int
/-- The part that stands in the text at a place. -/
def placeOf (s : ByteArray) (i : Nat) : PPt := if bt s i = 102 then ⟨false, 4, 0, 0, 0⟩ else if bt s i = 108 then ⟨false, 5, 0, 0, 0⟩ else if bt s i = 101 then ⟨false, 6, 0, 0, 0⟩ else ⟨false, 7, 0, (bt s (i + 1) : Int) - 48, (bt s (i + 2) : Int) - 48⟩
def simpOf (s : ByteArray) (i : Nat) : PPt := if bt s i = 46 then ⟨false, 2, bt s (i + 1), 0, 0⟩ else if bt s i = 35 then ⟨false, 3, bt s (i + 1), 0, 0⟩ else placeOf s (i + 1)
def PPt.no (p : PPt) : PPt := ⟨true, p.kd, p.lt, p.st, p.sr⟩
def partOf (s : ByteArray) (i : Nat) : PPt := if bt s i = 33 then (if isL (bt s (i + 1)) = true then ⟨true, 1, bt s (i + 1), 0, 0⟩ else (simpOf s (i + 1)).no) else simpOf s i

/-- How long a simple part is; what a part weighs. -/
def sl (s : ByteArray) (i : Nat) : Nat := if bt s i = 58 ∧ bt s (i + 1) = 110 then 4 else 2
def pw (kd : Int) : Nat := if kd = 3 then 1000000 else if kd = 1 then 1 else 1000

set_option maxHeartbeats 400000 in
theorem nthPart_any (w : World) (b : Nat) (s : ByteArray) (i : Nat) (m : Int) (h : Rd w b s i m) :
    Calls Tryz.prog 232 #[.pointer (some ⟨b, 0, none⟩)] w fun e w' =>
      (∃ st sr : Int, e = .returned (.tuple #[.agg #[.bool false, .int .i64 7, .int .u8 0, .int .i64 st, .int .i64 sr], .bool true]) ∧ At w w' b s (i + 2) m ∧ Hid (Sim s 6 i 3 (i + 2) ∧ i + 2 ≤ s.size ∧ Plain s i (i + 2) ∧ st = (bt s i : Int) - 48 ∧ sr = (bt s (i + 1) : Int) - 48)) ∨
      (∃ (kd st sr : Int) (j : Nat), e = .returned (.tuple #[.agg #[.bool false, .int .i64 kd, .int .u8 0, .int .i64 st, .int .i64 sr], .bool false]) ∧ At w w' b s j m ∧ Hid (Bad s 6 i j)) := by
  have hb := h.lt
  go_enter Tryz.func232, Tryz.ntmps232
  go_wp2_with fail
  refine (digit_any _ b s i m (by exact h.alloc _)).mono ?_
  rintro e w1 (⟨rfl, ha, hf⟩ | ⟨rfl, ha, hf⟩)
  · have hz1 := ha.size
    simp only [World.size_alloc] at hz1
    go_wp2_with fail
    refine (digit_any _ b s (i + 1) m (by exact ha.rd)).mono ?_
    rintro e w2 (⟨rfl, ha2, hf2⟩ | ⟨rfl, ha2, hf2⟩)
    · have ha3 := ha.trans ha2
      obtain ⟨hc, hz⟩ := ha3.cells w.heap.size (by simp) (by omega)
      go_wp2_with fail
      refine bodyPost_ret (v := .tuple #[.agg #[.bool false, .int .i64 7, .int .u8 0, .int .i64 ((bt s i : Int) - 48), .int .i64 ((bt s (i + 1) : Int) - 48)], .bool true]) (by simp [results, Tryz.results232, go_sem, hc]) rfl (Or.inl ⟨_, _, rfl, ha3.ofAlloc.set5 hb (Nat.le_refl _) _ _ _ _ _, ?_⟩)
      exact ⟨(sim_go hf.out.2 (m' := 7) (by simp [nxt, hf.out.1, wh]) (by decide) (fun k => by simp [cnt])).trans (sim_go hf2.out.2 (by simp [nxt, hf2.out.1, wh]) (by decide) (fun k => by simp [cnt])), hf2.out.2, (Plain.one (plain_D hf.out.1)).cat (Plain.one (plain_D hf2.out.1)), rfl, rfl⟩
    · have ha3 := ha.trans ha2
      obtain ⟨hc, hz⟩ := ha3.cells w.heap.size (by simp) (by omega)
      go_wp2_with fail
      refine bodyPost_ret (v := .tuple #[.agg #[.bool false, .int .i64 7, .int .u8 0, .int .i64 ((bt s i : Int) - 48), .int .i64 0], .bool false]) (by simp [results, Tryz.results232, go_sem, hc]) rfl (Or.inr ⟨_, _, _, i + 1, rfl, ha3.ofAlloc.set5 hb (Nat.le_refl _) _ _ _ _ _, ?_⟩)
      exact (sim_go hf.out.2 (m' := 7) (by simp [nxt, hf.out.1, wh]) (by decide) (fun k => by simp [cnt])).bad (bad_no (by decide) (by simp [nxt, hf2.out, wh]))
  · obtain ⟨hc, hz⟩ := ha.cells w.heap.size (by simp) (by omega)
    go_wp2_with fail
    refine bodyPost_ret (v := .tuple #[.agg #[.bool false, .int .i64 0, .int .u8 0, .int .i64 0, .int .i64 0], .bool false]) (by simp [results, Tryz.results232, go_sem, hc]) rfl (Or.inr ⟨_, _, _, i, rfl, ha.ofAlloc.set5 hb (Nat.le_refl _) _ _ _ _ _, ?_⟩)
    exact bad_no (by decide) (by simp [nxt, hf.out, wh])

end Go.Proofs.YtblfffbmklkhmaaGreat
