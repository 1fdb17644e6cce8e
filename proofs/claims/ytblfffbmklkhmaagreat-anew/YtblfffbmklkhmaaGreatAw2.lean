/- Own work. -/
import Derived.Test.YtblfffbmklkhmaaGreatAw1
namespace Go.Proofs.YtblfffbmklkhmaaGreat
open Go.RowKit
theorem At.set5 {w w1 : World} {b : Nat} {s : ByteArray} {j : Nat} {m : Int} (h : At w w1 b s j m) (hb : b < w.heap.size) {B : Nat} (hB : w.heap.size ≤ B) (v0 v1 v2 v3 v4 : Value) :
    At w (((((w1.setCell ⟨B, 0, none⟩ v0).setCell ⟨B, 1, none⟩ v1).setCell ⟨B, 2, none⟩ v2).setCell ⟨B, 3, none⟩ v3).setCell ⟨B, 4, none⟩ v4) b s j m :=
  ((((h.setNew hb hB _).setNew hb hB _).setNew hb hB _).setNew hb hB _).setNew hb hB _
/-- The modes' runs are one. -/
def Sim (s : ByteArray) (m : Int) (i : Nat) (m' : Int) (j : Nat) : Prop := ∀ k, V s m k i = V s m' k j
/-- The run stops at j. -/
def Bad (s : ByteArray) (m : Int) (i : Nat) (j : Nat) : Prop := ∀ k, V s m k i = ((j : Int), -1)
theorem Sim.trans {s : ByteArray} {a b c : Int} {i j l : Nat} (h : Sim s a i b j) (k : Sim s b j c l) : Sim s a i c l := fun n => (h n).trans (k n)
theorem Sim.bad {s : ByteArray} {a b : Int} {i j l : Nat} (h : Sim s a i b j) (k : Bad s b j l) : Bad s a i l := fun n => (h n).trans (k n)
/-- One byte on, in a mode in which nothing is counted. -/
theorem sim_go {s : ByteArray} {m m' : Int} {i : Nat} (hi : i < s.size) (h : nxt m (bt s i) = m') (hm : m' ≠ -1) (hc : ∀ k, cnt m (bt s i) i k = k) : Sim s m i m' (i + 1) := fun k => by
  rw [V_go hi h hm, hc]
theorem bad_no {s : ByteArray} {m : Int} {i : Nat} (hm : m ≠ 0) (h : nxt m (bt s i) = -1) : Bad s m i i := fun _ => V_no hm h
theorem sim_same {s : ByteArray} {m m' : Int} {i : Nat} (hm : m ≠ 0) (hm' : m' ≠ 0) (h : nxt m (bt s i) = nxt m' (bt s i)) (hk : ∀ k, cnt m (bt s i) i k = cnt m' (bt s i) i k) : Sim s m i m' i := fun k => V_same hm hm' h (hk k)
theorem lt_of_bt {s : ByteArray} {i : Nat} (h : bt s i ≠ 0) : i < s.size := by
  by_cases hi : i < s.size
  · exact hi
  · exact absurd (bt_end s i (by omega)) h
/-- No sign, no comma, no brace. -/
def plain (c : Nat) : Bool := decide (isS c = false ∧ c ≠ 44 ∧ c ≠ 123)
def Plain (s : ByteArray) (i j : Nat) : Prop := ∀ k, i ≤ k → k < j → plain (bt s k) = true
theorem plain_L {c : Nat} (h : isL c = true) : plain c = true := by
  simp only [isL, decide_eq_true_eq] at h
  simp only [plain, isS, decide_eq_true_eq, decide_eq_false_iff_not]; omega
theorem plain_D {c : Nat} (h : isD c = true) : plain c = true := by
  simp only [isD, decide_eq_true_eq] at h
  simp only [plain, isS, decide_eq_true_eq, decide_eq_false_iff_not]; omega
theorem plain_of {c : Nat} (h : c = 46 ∨ c = 35 ∨ c = 58 ∨ c = 33 ∨ c = 42 ∨ c = 102 ∨ c = 108 ∨ c = 101 ∨ c = 110) : plain c = true := by
  simp only [plain, isS, decide_eq_true_eq, decide_eq_false_iff_not]; omega
theorem Plain.one {s : ByteArray} {i : Nat} (h : plain (bt s i) = true) : Plain s i (i + 1) := fun k k1 k2 => by
  obtain rfl : k = i := by omega
  exact h
theorem Plain.cat {s : ByteArray} {i j l : Nat} (h : Plain s i j) (h2 : Plain s j l) : Plain s i l := fun k k1 k2 => by
  by_cases e : k < j
  · exact h k k1 e
  · exact h2 k (by omega) k2
/-- A part, as the program keeps it. -/
structure PPt where
  nt : Bool
  kd : Int
  lt : Int
  st : Int
  sr : Int
/-- The part that stands in the text at a place. -/
def placeOf (s : ByteArray) (i : Nat) : PPt := if bt s i = 102 then ⟨false, 4, 0, 0, 0⟩ else if bt s i = 108 then ⟨false, 5, 0, 0, 0⟩ else if bt s i = 101 then ⟨false, 6, 0, 0, 0⟩ else ⟨false, 7, 0, (bt s (i + 1) : Int) - 48, (bt s (i + 2) : Int) - 48⟩
def simpOf (s : ByteArray) (i : Nat) : PPt := if bt s i = 46 then ⟨false, 2, bt s (i + 1), 0, 0⟩ else if bt s i = 35 then ⟨false, 3, bt s (i + 1), 0, 0⟩ else placeOf s (i + 1)
def PPt.no (p : PPt) : PPt := ⟨true, p.kd, p.lt, p.st, p.sr⟩
def partOf (s : ByteArray) (i : Nat) : PPt := if bt s i = 33 then (if isL (bt s (i + 1)) = true then ⟨true, 1, bt s (i + 1), 0, 0⟩ else (simpOf s (i + 1)).no) else simpOf s i
/-- How long a simple part is; what a part weighs. -/
def sl (s : ByteArray) (i : Nat) : Nat := if bt s i = 58 ∧ bt s (i + 1) = 110 then 4 else 2
def pw (kd : Int) : Nat := if kd = 3 then 1000000 else if kd = 1 then 1 else 1000
set_option maxHeartbeats 400000 in
theorem nthPart_any (w : World) (b : Nat) (s : ByteArray) (i : Nat) (m : Int) (h : Rd w b s i m) :
    Calls Tryz.prog 232 #[.pointer (some ⟨b, 0, none⟩)] w fun e w' =>
      (∃ st sr : Int, e = .returned (.tuple #[.agg #[.bool false, .int .i64 7, .int .u8 0, .int .i64 st, .int .i64 sr], .bool true]) ∧ At w w' b s (i + 2) m ∧ Hid (Sim s 6 i 3 (i + 2) ∧ i + 2 ≤ s.size ∧ Plain s i (i + 2) ∧ st = (bt s i : Int) - 48 ∧ sr = (bt s (i + 1) : Int) - 48)) ∨
      (∃ (kd st sr : Int) (j : Nat), e = .returned (.tuple #[.agg #[.bool false, .int .i64 kd, .int .u8 0, .int .i64 st, .int .i64 sr], .bool false]) ∧ At w w' b s j m ∧ Hid (Bad s 6 i j)) := by
  have hb := h.lt
  go_enter Tryz.func232, Tryz.ntmps232
  go_wp2_with fail
  refine (digit_any _ b s i m (by exact h.alloc _)).mono ?_
  rintro e w1 (⟨rfl, ha, hf⟩ | ⟨rfl, ha, hf⟩)
  · have hz1 := ha.size
    simp only [World.size_alloc] at hz1
    go_wp2_with fail
    refine (digit_any _ b s (i + 1) m (by exact ha.rd)).mono ?_
    rintro e w2 (⟨rfl, ha2, hf2⟩ | ⟨rfl, ha2, hf2⟩)
    · have ha3 := ha.trans ha2
      obtain ⟨hc, hz⟩ := ha3.cells w.heap.size (by simp) (by omega)
      go_wp2_with fail
      refine bodyPost_ret (v := .tuple #[.agg #[.bool false, .int .i64 7, .int .u8 0, .int .i64 ((bt s i : Int) - 48), .int .i64 ((bt s (i + 1) : Int) - 48)], .bool true]) (by simp [results, Tryz.results232, go_sem, hc]) rfl (Or.inl ⟨_, _, rfl, ha3.ofAlloc.set5 hb (Nat.le_refl _) _ _ _ _ _, ?_⟩)
      exact ⟨(sim_go hf.out.2 (m' := 7) (by simp [nxt, hf.out.1, wh]) (by decide) (fun k => by simp [cnt])).trans (sim_go hf2.out.2 (by simp [nxt, hf2.out.1, wh]) (by decide) (fun k => by simp [cnt])), hf2.out.2, (Plain.one (plain_D hf.out.1)).cat (Plain.one (plain_D hf2.out.1)), rfl, rfl⟩
    · have ha3 := ha.trans ha2
      obtain ⟨hc, hz⟩ := ha3.cells w.heap.size (by simp) (by omega)
      go_wp2_with fail
      refine bodyPost_ret (v := .tuple #[.agg #[.bool false, .int .i64 7, .int .u8 0, .int .i64 ((bt s i : Int) - 48), .int .i64 0], .bool false]) (by simp [results, Tryz.results232, go_sem, hc]) rfl (Or.inr ⟨_, _, _, i + 1, rfl, ha3.ofAlloc.set5 hb (Nat.le_refl _) _ _ _ _ _, ?_⟩)
      exact (sim_go hf.out.2 (m' := 7) (by simp [nxt, hf.out.1, wh]) (by decide) (fun k => by simp [cnt])).bad (bad_no (by decide) (by simp [nxt, hf2.out, wh]))
  · obtain ⟨hc, hz⟩ := ha.cells w.heap.size (by simp) (by omega)
    go_wp2_with fail
    refine bodyPost_ret (v := .tuple #[.agg #[.bool false, .int .i64 0, .int .u8 0, .int .i64 0, .int .i64 0], .bool false]) (by simp [results, Tryz.results232, go_sem, hc]) rfl (Or.inr ⟨_, _, _, i, rfl, ha.ofAlloc.set5 hb (Nat.le_refl _) _ _ _ _ _, ?_⟩)
    exact bad_no (by decide) (by simp [nxt, hf.out, wh])
end Go.Proofs.YtblfffbmklkhmaaGreat

namespace Go.Proofs.YtblfffbmklkhmaaGreat
open Go.RowKit
theorem place_one {s : ByteArray} {i : Nat} (h : bt s i = 102 ∨ bt s i = 108 ∨ bt s i = 101) : Sim s 5 i 3 (i + 1) ∧ i + 1 ≤ s.size ∧ bt s i ≠ 110 ∧ Plain s i (i + 1) := by
  have hi : i < s.size := lt_of_bt (by omega)
  refine ⟨sim_go hi ?_ (by decide) (fun k => by simp [cnt]), hi, by omega, Plain.one (plain_of (by omega))⟩
  have h1 : ¬ bt s i = 110 := by omega
  simp [nxt, h1, wh, h]
theorem place_n {s : ByteArray} {i : Nat} (h : bt s i = 110) : Sim s 5 i 6 (i + 1) ∧ i < s.size := by
  have hi : i < s.size := lt_of_bt (by omega)
  exact ⟨sim_go hi (by simp [nxt, h]) (by decide) (fun k => by simp [cnt]), hi⟩
theorem place_no {s : ByteArray} {i : Nat} (h1 : bt s i ≠ 102) (h2 : bt s i ≠ 108) (h3 : bt s i ≠ 101) (h4 : bt s i ≠ 110) : Bad s 5 i i :=
  bad_no (by decide) (by simp [nxt, h1, h2, h3, h4, wh])
/-- Behind a call that reads a part in the mode md. -/
def PartPost (md : Int) (w : World) (b : Nat) (s : ByteArray) (i : Nat) (m : Int) (good : ByteArray → Nat → PPt → Nat → Prop) (e : Ending) (w' : World) : Prop :=
  (∃ (nt : Bool) (kd lt st sr : Int) (j : Nat), e = .returned (.tuple #[.agg #[.bool nt, .int .i64 kd, .int .u8 lt, .int .i64 st, .int .i64 sr], .bool true]) ∧ At w w' b s j m ∧ Hid (Sim s md i 3 j ∧ j ≤ s.size ∧ good s i ⟨nt, kd, lt, st, sr⟩ j)) ∨
  (∃ (nt : Bool) (kd lt st sr : Int) (j : Nat), e = .returned (.tuple #[.agg #[.bool nt, .int .i64 kd, .int .u8 lt, .int .i64 st, .int .i64 sr], .bool false]) ∧ At w w' b s j m ∧ Hid (Bad s md i j))
def goodPlace (s : ByteArray) (i : Nat) (p : PPt) (j : Nat) : Prop := p = placeOf s i ∧ 4 ≤ p.kd ∧ p.kd ≤ 7 ∧ j = i + (if bt s i = 110 then 3 else 1) ∧ Plain s i j
set_option maxHeartbeats 1000000 in
theorem placePart_any (w : World) (b : Nat) (s : ByteArray) (i : Nat) (m : Int) (h : Rd w b s i m) :
    Calls Tryz.prog 225 #[.pointer (some ⟨b, 0, none⟩)] w fun e w' => PartPost 5 w b s i m goodPlace e w' := by
  have hb := h.lt
  have c1 := h.c1
  have f1 := h.fr 1
  have hle := h.le
  have htop := h.top
  go_enter Tryz.func225, Tryz.ntmps225
  go_wp2_with fail
  refine (peek_any _ b s i m (by exact h.alloc _)).mono ?_
  rintro e w1 ⟨rfl, n1, rfl⟩
  by_cases k1 : bt s i = 102
  · have g1 : ((bt s i : Int) == 102) = true := by simp [k1]
    have K1 : Hid (bt s i = 102) := k1
    clear k1
    go_wp2_with fail
    have hp := place_one (Or.inl K1.out)
    refine bodyPost_ret (v := .tuple #[.agg #[.bool false, .int .i64 4, .int .u8 0, .int .i64 0, .int .i64 0], .bool true]) (by simp [results, Tryz.results225, go_sem]) rfl (Or.inl ⟨false, 4, 0, 0, 0, i + 1, rfl, ((((h.at0.alloc _).drewN _).setAt hp.2.1 (by omega)).set5 hb (Nat.le_refl _) _ _ _ _ _), ?_⟩)
    exact ⟨hp.1, hp.2.1, by unfold placeOf; rw [K1.out]; rfl, by decide, by decide, by rw [if_neg hp.2.2.1], hp.2.2.2⟩
  by_cases k2 : bt s i = 108
  · have g1 : ((bt s i : Int) == 102) = false := by simp [k2]
    have g2 : ((bt s i : Int) == 108) = true := by simp [k2]
    have K1 : Hid (bt s i = 108) := k2
    clear k1 k2
    go_wp2_with fail
    have hp := place_one (Or.inr (Or.inl K1.out))
    refine bodyPost_ret (v := .tuple #[.agg #[.bool false, .int .i64 5, .int .u8 0, .int .i64 0, .int .i64 0], .bool true]) (by simp [results, Tryz.results225, go_sem]) rfl (Or.inl ⟨false, 5, 0, 0, 0, i + 1, rfl, ((((h.at0.alloc _).drewN _).setAt hp.2.1 (by omega)).set5 hb (Nat.le_refl _) _ _ _ _ _), ?_⟩)
    exact ⟨hp.1, hp.2.1, by unfold placeOf; rw [K1.out]; rfl, by decide, by decide, by rw [if_neg hp.2.2.1], hp.2.2.2⟩
  by_cases k3 : bt s i = 101
  · have g1 : ((bt s i : Int) == 102) = false := by simp [k3]
    have g2 : ((bt s i : Int) == 108) = false := by simp [k3]
    have g3 : ((bt s i : Int) == 101) = true := by simp [k3]
    have K1 : Hid (bt s i = 101) := k3
    clear k1 k2 k3
    go_wp2_with fail
    have hp := place_one (Or.inr (Or.inr K1.out))
    refine bodyPost_ret (v := .tuple #[.agg #[.bool false, .int .i64 6, .int .u8 0, .int .i64 0, .int .i64 0], .bool true]) (by simp [results, Tryz.results225, go_sem]) rfl (Or.inl ⟨false, 6, 0, 0, 0, i + 1, rfl, ((((h.at0.alloc _).drewN _).setAt hp.2.1 (by omega)).set5 hb (Nat.le_refl _) _ _ _ _ _), ?_⟩)
    exact ⟨hp.1, hp.2.1, by unfold placeOf; rw [K1.out]; rfl, by decide, by decide, by rw [if_neg hp.2.2.1], hp.2.2.2⟩
  have g1 : ((bt s i : Int) == 102) = false := by simp; omega
  have g2 : ((bt s i : Int) == 108) = false := by simp; omega
  have g3 : ((bt s i : Int) == 101) = false := by simp; omega
  by_cases k4 : bt s i = 110
  · have g4 : ((bt s i : Int) == 110) = true := by simp [k4]
    have K1 : Hid (bt s i = 110) := k4
    clear k1 k2 k3 k4
    have hp := place_n K1.out
    have HP : Hid (Sim s 5 i 6 (i + 1)) := hp.1
    have hlt := hp.2
    clear hp
    go_wp2_with fail
    have ha := ((h.at0.alloc (Obj.cells #[Value.bool false, Value.int IntKind.i64 0, Value.int IntKind.u8 0, Value.int IntKind.i64 0, Value.int IntKind.i64 0] 192)).drewN n1).setAt (j := i + 1) (v := (i : Int) + 1) (by omega) (by omega)
    refine (nthPart_any _ b s (i + 1) m (by exact ha.rd)).mono ?_
    rintro e w2 (⟨st, sr, rfl, ha2, hf2⟩ | ⟨kd, st, sr, j, rfl, ha2, hf2⟩)
    · have ha3 := ha.trans ha2
      obtain ⟨hc, hz⟩ := ha2.cells w.heap.size (by simp [World.setCell]) (by omega)
      go_wp2_with fail
      refine bodyPost_ret (v := .tuple #[.agg #[.bool false, .int .i64 7, .int .u8 0, .int .i64 st, .int .i64 sr], .bool true]) (by simp [results, Tryz.results225, go_sem, hc]) rfl (Or.inl ⟨false, 7, 0, st, sr, i + 3, rfl, ha3.set5 hb (Nat.le_refl _) _ _ _ _ _, ?_⟩)
      exact ⟨HP.out.trans hf2.out.1, hf2.out.2.1, by unfold placeOf; rw [K1.out, hf2.out.2.2.2.1, hf2.out.2.2.2.2]; rfl, by show (4 : Int) ≤ 7; decide, by show (7 : Int) ≤ 7; decide, by rw [if_pos K1.out], (Plain.one (plain_of (by have := K1.out; omega))).cat hf2.out.2.2.1⟩
    · have ha3 := ha.trans ha2
      obtain ⟨hc, hz⟩ := ha2.cells w.heap.size (by simp [World.setCell]) (by omega)
      go_wp2_with fail
      refine bodyPost_ret (v := .tuple #[.agg #[.bool false, .int .i64 kd, .int .u8 0, .int .i64 st, .int .i64 sr], .bool false]) (by simp [results, Tryz.results225, go_sem, hc]) rfl (Or.inr ⟨false, kd, 0, st, sr, j, rfl, ha3.set5 hb (Nat.le_refl _) _ _ _ _ _, ?_⟩)
      exact HP.out.bad hf2.out
  · have g4 : ((bt s i : Int) == 110) = false := by simp; omega
    have HB : Hid (Bad s 5 i i) := place_no k1 k2 k3 k4
    clear k1 k2 k3 k4
    go_wp2_with fail
    refine bodyPost_ret (v := .tuple #[.agg #[.bool false, .int .i64 0, .int .u8 0, .int .i64 0, .int .i64 0], .bool false]) (by simp [results, Tryz.results225, go_sem]) rfl (Or.inr ⟨false, 0, 0, 0, 0, i, rfl, (((h.at0.alloc _).drewN _).set5 hb (Nat.le_refl _) _ _ _ _ _), HB.out⟩)
end Go.Proofs.YtblfffbmklkhmaaGreat

namespace Go.Proofs.YtblfffbmklkhmaaGreat
open Go.RowKit
def goodSimple (s : ByteArray) (i : Nat) (p : PPt) (j : Nat) : Prop := p = simpOf s i ∧ p.kd ≠ 1 ∧ (p.kd = 3 ↔ bt s i = 35) ∧ j = i + sl s i ∧ (bt s i = 46 ∨ bt s i = 35 ∨ bt s i = 58) ∧ Plain s i j
def goodPart (s : ByteArray) (i : Nat) (p : PPt) (j : Nat) : Prop :=
  p = partOf s i ∧ if bt s i = 33 then (if isL (bt s (i + 1)) = true then p.kd = 1 ∧ j = i + 2 else goodSimple s (i + 1) ⟨false, p.kd, p.lt, p.st, p.sr⟩ j) else goodSimple s i p j
theorem place_nt (s : ByteArray) (i : Nat) : (placeOf s i).nt = false := by unfold placeOf; (repeat' split) <;> rfl
theorem simp_nt (s : ByteArray) (i : Nat) : (simpOf s i).nt = false := by unfold simpOf; split; rfl; split; rfl; exact place_nt _ _
theorem simple_nt {s : ByteArray} {i j : Nat} {nt : Bool} {kd lt st sr : Int} (h : goodSimple s i ⟨nt, kd, lt, st, sr⟩ j) : goodSimple s i ⟨false, kd, lt, st, sr⟩ j := by
  have h1 := simp_nt s i
  rw [← h.1] at h1
  replace h1 : nt = false := h1
  subst h1
  exact h
theorem simple_lt {s : ByteArray} {i : Nat} (h : bt s i = 46 ∨ bt s i = 35) : Sim s 8 i 4 (i + 1) ∧ i < s.size := by
  have hi : i < s.size := lt_of_bt (by omega)
  refine ⟨sim_go hi ?_ (by decide) (fun k => by simp [cnt]), hi⟩
  have hl : isL (bt s i) = false := by simp only [isL, decide_eq_false_iff_not]; omega
  simp [nxt, hl, partN, h]
theorem simple_pl {s : ByteArray} {i : Nat} (h : bt s i = 58) : Sim s 8 i 5 (i + 1) ∧ i < s.size := by
  have hi : i < s.size := lt_of_bt (by omega)
  refine ⟨sim_go hi ?_ (by decide) (fun k => by simp [cnt]), hi⟩
  simp [nxt, isL, partN, h]
theorem simple_no {s : ByteArray} {i : Nat} (hl : isL (bt s i) = false) (h1 : bt s i ≠ 46) (h2 : bt s i ≠ 35) (h3 : bt s i ≠ 58) : Bad s 8 i i :=
  bad_no (by decide) (by simp [nxt, hl, partN, h1, h2, h3])
theorem letter_yes {s : ByteArray} {i : Nat} (h : isL (bt s i) = true ∧ i < s.size) : Sim s 4 i 3 (i + 1) := sim_go h.2 (by simp [nxt, h.1, wh]) (by decide) (fun k => by simp [cnt])
theorem letter_no {s : ByteArray} {i : Nat} (h : isL (bt s i) = false) : Bad s 4 i i := bad_no (by decide) (by simp [nxt, h, wh])
abbrev partZero : Obj := Obj.cells #[Value.bool false, Value.int IntKind.i64 0, Value.int IntKind.u8 0, Value.int IntKind.i64 0, Value.int IntKind.i64 0] 192
set_option maxHeartbeats 1000000 in
theorem simplePart_any (w : World) (b : Nat) (s : ByteArray) (i : Nat) (m : Int) (h : Rd w b s i m) (hL : isL (bt s i) = false) :
    Calls Tryz.prog 219 #[.pointer (some ⟨b, 0, none⟩)] w fun e w' => PartPost 8 w b s i m goodSimple e w' := by
  have hb := h.lt
  have c1 := h.c1
  have f1 := h.fr 1
  have hle := h.le
  have htop := h.top
  have HL : Hid (isL (bt s i) = false) := hL
  clear hL
  go_enter Tryz.func219, Tryz.ntmps219
  go_wp2_with fail
  refine (peek_any _ b s i m (by exact h.alloc _)).mono ?_
  rintro e w1 ⟨rfl, n1, rfl⟩
  by_cases k1 : bt s i = 46
  · have g1 : ((bt s i : Int) == 46) = true := by simp [k1]
    have K1 : Hid (bt s i = 46) := k1
    clear k1
    have hp := simple_lt (Or.inl K1.out)
    have HP : Hid (Sim s 8 i 4 (i + 1)) := hp.1
    have hlt := hp.2
    clear hp
    go_wp2_with fail
    have ha := ((h.at0.alloc partZero).drewN n1).setAt (j := i + 1) (v := (i : Int) + 1) (by omega) (by omega)
    refine (letterPart_any _ b s (i + 1) m 2 (by exact ha.rd)).mono ?_
    rintro e w2 (⟨rfl, ha2, hf2⟩ | ⟨rfl, ha2, hf2⟩)
    · have ha3 := ha.trans ha2
      obtain ⟨hc, hz⟩ := ha2.cells w.heap.size (by simp [World.setCell]) (by omega)
      go_wp2_with fail
      refine bodyPost_ret (v := .tuple #[.agg #[.bool false, .int .i64 2, .int .u8 (bt s (i + 1)), .int .i64 0, .int .i64 0], .bool true]) (by simp [results, Tryz.results219, go_sem, hc]) rfl (Or.inl ⟨false, 2, _, 0, 0, i + 2, rfl, ha3.set5 hb (Nat.le_refl _) _ _ _ _ _, ?_⟩)
      refine ⟨HP.out.trans (letter_yes hf2.out), hf2.out.2, by unfold simpOf; rw [K1.out]; rfl, (by show (2 : Int) ≠ 1; decide), ?_, ?_, ?_, (Plain.one (plain_of (by have := K1.out; omega))).cat (Plain.one (plain_L hf2.out.1))⟩
      · have h0 := K1.out; simp [h0]
      · have := K1.out; simp only [sl]; rw [if_neg (by omega)]
      · have := K1.out; omega
    · have ha3 := ha.trans ha2
      obtain ⟨hc, hz⟩ := ha2.cells w.heap.size (by simp [World.setCell]) (by omega)
      go_wp2_with fail
      refine bodyPost_ret (v := .tuple #[.agg #[.bool false, .int .i64 2, .int .u8 0, .int .i64 0, .int .i64 0], .bool false]) (by simp [results, Tryz.results219, go_sem, hc]) rfl (Or.inr ⟨false, 2, 0, 0, 0, i + 1, rfl, ha3.set5 hb (Nat.le_refl _) _ _ _ _ _, HP.out.bad (letter_no hf2.out)⟩)
  have g1 : ((bt s i : Int) == 46) = false := by simp; omega
  by_cases k2 : bt s i = 35
  · have g2 : ((bt s i : Int) == 35) = true := by simp [k2]
    have K1 : Hid (bt s i = 35) := k2
    clear k1 k2
    have hp := simple_lt (Or.inr K1.out)
    have HP : Hid (Sim s 8 i 4 (i + 1)) := hp.1
    have hlt := hp.2
    clear hp
    go_wp2_with fail
    have ha := ((h.at0.alloc partZero).drewN n1).setAt (j := i + 1) (v := (i : Int) + 1) (by omega) (by omega)
    refine (letterPart_any _ b s (i + 1) m 3 (by exact ha.rd)).mono ?_
    rintro e w2 (⟨rfl, ha2, hf2⟩ | ⟨rfl, ha2, hf2⟩)
    · have ha3 := ha.trans ha2
      obtain ⟨hc, hz⟩ := ha2.cells w.heap.size (by simp [World.setCell]) (by omega)
      go_wp2_with fail
      refine bodyPost_ret (v := .tuple #[.agg #[.bool false, .int .i64 3, .int .u8 (bt s (i + 1)), .int .i64 0, .int .i64 0], .bool true]) (by simp [results, Tryz.results219, go_sem, hc]) rfl (Or.inl ⟨false, 3, _, 0, 0, i + 2, rfl, ha3.set5 hb (Nat.le_refl _) _ _ _ _ _, ?_⟩)
      refine ⟨HP.out.trans (letter_yes hf2.out), hf2.out.2, by unfold simpOf; rw [K1.out]; rfl, (by show (3 : Int) ≠ 1; decide), ?_, ?_, ?_, (Plain.one (plain_of (by have := K1.out; omega))).cat (Plain.one (plain_L hf2.out.1))⟩
      · have h0 := K1.out; simp [h0]
      · have := K1.out; simp only [sl]; rw [if_neg (by omega)]
      · have := K1.out; omega
    · have ha3 := ha.trans ha2
      obtain ⟨hc, hz⟩ := ha2.cells w.heap.size (by simp [World.setCell]) (by omega)
      go_wp2_with fail
      refine bodyPost_ret (v := .tuple #[.agg #[.bool false, .int .i64 3, .int .u8 0, .int .i64 0, .int .i64 0], .bool false]) (by simp [results, Tryz.results219, go_sem, hc]) rfl (Or.inr ⟨false, 3, 0, 0, 0, i + 1, rfl, ha3.set5 hb (Nat.le_refl _) _ _ _ _ _, HP.out.bad (letter_no hf2.out)⟩)
  have g2 : ((bt s i : Int) == 35) = false := by simp; omega
  by_cases k3 : bt s i = 58
  · have g3 : ((bt s i : Int) == 58) = true := by simp [k3]
    have K1 : Hid (bt s i = 58) := k3
    clear k1 k2 k3
    have hp := simple_pl K1.out
    have HP : Hid (Sim s 8 i 5 (i + 1)) := hp.1
    have hlt := hp.2
    clear hp
    go_wp2_with fail
    have ha := ((h.at0.alloc partZero).drewN n1).setAt (j := i + 1) (v := (i : Int) + 1) (by omega) (by omega)
    refine (placePart_any _ b s (i + 1) m (by exact ha.rd)).mono ?_
    rintro e w2 (⟨nt, kd, lt, st, sr, j, rfl, ha2, hf2⟩ | ⟨nt, kd, lt, st, sr, j, rfl, ha2, hf2⟩)
    · have ha3 := ha.trans ha2
      obtain ⟨hc, hz⟩ := ha2.cells w.heap.size (by simp [World.setCell]) (by omega)
      go_wp2_with fail
      refine bodyPost_ret (v := .tuple #[.agg #[.bool nt, .int .i64 kd, .int .u8 lt, .int .i64 st, .int .i64 sr], .bool true]) (by simp [results, Tryz.results219, go_sem, hc]) rfl (Or.inl ⟨nt, kd, lt, st, sr, j, rfl, ha3.set5 hb (Nat.le_refl _) _ _ _ _ _, ?_⟩)
      obtain ⟨q1, q2, q0, q3, q4, q5, q6⟩ := hf2.out
      replace q3 : (4 : Int) ≤ kd := q3
      refine ⟨HP.out.trans q1, q2, by rw [q0]; unfold simpOf; rw [K1.out]; rfl, by show kd ≠ 1; omega, ?_, ?_, ?_, (Plain.one (plain_of (by have := K1.out; omega))).cat q6⟩
      · have := K1.out; show kd = 3 ↔ _; omega
      · have := K1.out; simp only [sl, this, true_and]; rw [q5]; split <;> omega
      · have := K1.out; omega
    · have ha3 := ha.trans ha2
      obtain ⟨hc, hz⟩ := ha2.cells w.heap.size (by simp [World.setCell]) (by omega)
      go_wp2_with fail
      refine bodyPost_ret (v := .tuple #[.agg #[.bool nt, .int .i64 kd, .int .u8 lt, .int .i64 st, .int .i64 sr], .bool false]) (by simp [results, Tryz.results219, go_sem, hc]) rfl (Or.inr ⟨nt, kd, lt, st, sr, j, rfl, ha3.set5 hb (Nat.le_refl _) _ _ _ _ _, HP.out.bad hf2.out⟩)
  · have g3 : ((bt s i : Int) == 58) = false := by simp; omega
    have HB : Hid (Bad s 8 i i) := simple_no HL.out k1 k2 k3
    clear k1 k2 k3
    go_wp2_with fail
    refine bodyPost_ret (v := .tuple #[.agg #[.bool false, .int .i64 0, .int .u8 0, .int .i64 0, .int .i64 0], .bool false]) (by simp [results, Tryz.results219, go_sem]) rfl (Or.inr ⟨false, 0, 0, 0, 0, i, rfl, (((h.at0.alloc _).drewN _).set5 hb (Nat.le_refl _) _ _ _ _ _), HB.out⟩)
theorem part_not {s : ByteArray} {i : Nat} (h : bt s i = 33) (hi : i < s.size) : Sim s 3 i 8 (i + 1) :=
  sim_go hi (by simp [nxt, moreN, h]) (by decide) (fun k => by simp [cnt, isS, h])
theorem part_as {s : ByteArray} {i : Nat} (hA : isA (bt s i) = true) (h : bt s i ≠ 33) : Sim s 3 i 8 i ∧ isL (bt s i) = false := by
  simp only [isA, decide_eq_true_eq] at hA
  have hl : isL (bt s i) = false := by simp only [isL, decide_eq_false_iff_not]; omega
  have hs : isS (bt s i) = false := by simp only [isS, decide_eq_false_iff_not]; omega
  have h1 : ¬ bt s i = 44 := by omega
  have h2 : ¬ bt s i = 123 := by omega
  exact ⟨sim_same (by decide) (by decide) (by simp [nxt, moreN, hl, hs, h, h1, h2]) (fun k => by simp [cnt, hs, h1]), hl⟩
theorem not_type {s : ByteArray} {i : Nat} (h : isL (bt s i) = true ∧ i < s.size) : Sim s 8 i 3 (i + 1) := sim_go h.2 (by simp [nxt, h.1]) (by decide) (fun k => by simp [cnt])
set_option maxHeartbeats 1000000 in
theorem part_any (w : World) (b : Nat) (s : ByteArray) (i : Nat) (m : Int) (h : Rd w b s i m) (hA : isA (bt s i) = true) :
    Calls Tryz.prog 213 #[.pointer (some ⟨b, 0, none⟩)] w fun e w' => PartPost 3 w b s i m goodPart e w' := by
  have hb := h.lt
  have HA : Hid (isA (bt s i) = true) := hA
  clear hA
  go_enter Tryz.func213, Tryz.ntmps213
  go_wp2_with fail
  refine (take_any _ b s i m 33 (by exact h.alloc _) (by decide)).mono ?_
  rintro e w1 (⟨rfl, ha, hf⟩ | ⟨rfl, ha, hf⟩)
  · have hz1 := ha.size
    simp only [World.size_alloc] at hz1
    go_wp2_with fail
    refine (letter_any _ b s (i + 1) m (by exact ha.rd)).mono ?_
    rintro e w2 (⟨rfl, ha2, hf2⟩ | ⟨rfl, ha2, hf2⟩)
    · have ha3 := ha.trans ha2
      obtain ⟨hc, hz⟩ := ha3.cells w.heap.size (by simp) (by omega)
      go_wp2_with fail
      refine bodyPost_ret (v := .tuple #[.agg #[.bool true, .int .i64 1, .int .u8 (bt s (i + 1)), .int .i64 0, .int .i64 0], .bool true]) (by simp [results, Tryz.results213, go_sem, hc]) rfl (Or.inl ⟨true, 1, _, 0, 0, i + 2, rfl, ha3.ofAlloc.set5 hb (Nat.le_refl _) _ _ _ _ _, ?_⟩)
      have hq : bt s i = 33 := by have := hf.out.1; omega
      refine ⟨(part_not hq hf.out.2).trans (not_type hf2.out), hf2.out.2, ?_⟩
      exact ⟨by unfold partOf; rw [if_pos hq, if_pos hf2.out.1], by rw [if_pos hq, if_pos hf2.out.1]; exact ⟨rfl, rfl⟩⟩
    · have ha3 := ha.trans ha2
      have hz2 := ha3.size
      simp only [World.size_alloc] at hz2
      go_wp2_with fail
      refine (simplePart_any _ b s (i + 1) m (by exact ha2.rd) hf2.out).mono ?_
      have hq : bt s i = 33 := by have := hf.out.1; omega
      have HQ : Hid (bt s i = 33) := hq
      clear hq
      rintro e w3 (⟨nt, kd, lt, st, sr, j, rfl, ha4, hf4⟩ | ⟨nt, kd, lt, st, sr, j, rfl, ha4, hf4⟩)
      · have ha5 := ha3.trans ha4
        have hz3 : w.heap.size < w3.heap.size := by have := ha5.size; simp only [World.size_alloc] at this; omega
        obtain ⟨hc, hz⟩ := ha5.cells w.heap.size (by simp) (by omega)
        go_wp2_with fail
        refine bodyPost_ret (v := .tuple #[.agg #[.bool true, .int .i64 kd, .int .u8 lt, .int .i64 st, .int .i64 sr], .bool true]) (by simp [results, Tryz.results213, go_sem, hc, hz3]) rfl (Or.inl ⟨true, kd, lt, st, sr, j, rfl, (ha5.ofAlloc.set5 hb (Nat.le_refl _) _ _ _ _ _).alloc _, ?_⟩)
        exact ⟨(part_not HQ.out hf.out.2).trans hf4.out.1, hf4.out.2.1, ⟨by unfold partOf; rw [if_pos HQ.out, if_neg (by rw [hf2.out]; simp), ← hf4.out.2.2.1]; rfl, by rw [if_pos HQ.out, if_neg (by rw [hf2.out]; simp)]; exact simple_nt hf4.out.2.2⟩⟩
      · have ha5 := ha3.trans ha4
        have hz3 : w.heap.size < w3.heap.size := by have := ha5.size; simp only [World.size_alloc] at this; omega
        obtain ⟨hc, hz⟩ := ha5.cells w.heap.size (by simp) (by omega)
        go_wp2_with fail
        exact bodyPost_ret (v := .tuple #[.agg #[.bool true, .int .i64 kd, .int .u8 lt, .int .i64 st, .int .i64 sr], .bool false]) (by simp [results, Tryz.results213, go_sem, hc, hz3]) rfl (Or.inr ⟨true, kd, lt, st, sr, j, rfl, (ha5.ofAlloc.set5 hb (Nat.le_refl _) _ _ _ _ _).alloc _, (part_not HQ.out hf.out.2).bad hf4.out⟩)
  · have hn : bt s i ≠ 33 := by have := hf.out; omega
    obtain ⟨q1, q2⟩ := part_as HA.out hn
    have HQ : Hid (Sim s 3 i 8 i ∧ bt s i ≠ 33) := ⟨q1, hn⟩
    clear q1 hn
    go_wp2_with fail
    refine (simplePart_any _ b s i m (by exact ha.rd) q2).mono ?_
    rintro e w2 (⟨nt, kd, lt, st, sr, j, rfl, ha2, hf2⟩ | ⟨nt, kd, lt, st, sr, j, rfl, ha2, hf2⟩)
    · have ha3 := ha.trans ha2
      obtain ⟨hc, hz⟩ := ha3.cells w.heap.size (by simp) (by omega)
      go_wp2_with fail
      refine bodyPost_ret (v := .tuple #[.agg #[.bool nt, .int .i64 kd, .int .u8 lt, .int .i64 st, .int .i64 sr], .bool true]) (by simp [results, Tryz.results213, go_sem, hc]) rfl (Or.inl ⟨nt, kd, lt, st, sr, j, rfl, ha3.ofAlloc.set5 hb (Nat.le_refl _) _ _ _ _ _, ?_⟩)
      exact ⟨HQ.out.1.trans hf2.out.1, hf2.out.2.1, ⟨by unfold partOf; rw [if_neg HQ.out.2]; exact hf2.out.2.2.1, by rw [if_neg HQ.out.2]; exact hf2.out.2.2⟩⟩
    · have ha3 := ha.trans ha2
      obtain ⟨hc, hz⟩ := ha3.cells w.heap.size (by simp) (by omega)
      go_wp2_with fail
      refine bodyPost_ret (v := .tuple #[.agg #[.bool nt, .int .i64 kd, .int .u8 lt, .int .i64 st, .int .i64 sr], .bool false]) (by simp [results, Tryz.results213, go_sem, hc]) rfl (Or.inr ⟨nt, kd, lt, st, sr, j, rfl, ha3.ofAlloc.set5 hb (Nat.le_refl _) _ _ _ _ _, HQ.out.1.bad hf2.out⟩)
end Go.Proofs.YtblfffbmklkhmaaGreat
