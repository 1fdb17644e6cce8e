/- Own work. -/
import Derived.Test.YtblfffbmklkhmaaGreatPn1
import Derived.Deep.LoopGhost
namespace Go.Proofs.YtblfffbmklkhmaaGreat
open Go.RowKit
theorem place_one {s : ByteArray} {i : Nat} (h : bt s i = 102 ∨ bt s i = 108 ∨ bt s i = 101) : Sim s 5 i 3 (i + 1) ∧ i + 1 ≤ s.size ∧ bt s i ≠ 110 ∧ Plain s i (i + 1) := by
  have hi : i < s.size := lt_of_bt (by omega)
  refine ⟨sim_go hi ?_ (by decide) (fun k => by simp [cnt]), hi, by omega, Plain.one (plain_of (by omega))⟩
  have h1 : ¬ bt s i = 110 := by omega
  simp [nxt, h1, wh, h]
theorem place_n {s : ByteArray} {i : Nat} (h : bt s i = 110) : Sim s 5 i 6 (i + 1) ∧ i < s.size := by
  have hi : i < s.size := lt_of_bt (by omega)
  exact ⟨sim_go hi (by simp [nxt, h]) (by decide) (fun k => by simp [cnt]), hi⟩
theorem place_no {s : ByteArray} {i : Nat} (h1 : bt s i ≠ 102) (h2 : bt s i ≠ 108) (h3 : bt s i ≠ 101) (h4 : bt s i ≠ 110) : Bad s 5 i i :=
  bad_no (by decide) (by simp [nxt, h1, h2, h3, h4, wh])
/-- Behind a call that reads a part in the mode md. -/
def PartPost (md : Int) (w : World) (b : Nat) (s : ByteArray) (i : Nat) (m : Int) (good : ByteArray → Nat → PPt → Nat → Prop) (e : Ending) (w' : World) : Prop :=
  (∃ (nt : Bool) (kd lt st sr : Int) (j : Nat), e = .returned (.tuple #[.agg #[.bool nt, .int .i64 kd, .int .u8 lt, .int .i64 st, .int .i64 sr], .bool true]) ∧ At w w' b s j m ∧ Hid (Sim s md i 3 j ∧ j ≤ s.size ∧ good s i ⟨nt, kd, lt, st, sr⟩ j)) ∨
  (∃ (nt : Bool) (kd lt st sr : Int) (j : Nat), e = .returned (.tuple #[.agg #[.bool nt, .int .i64 kd, .int .u8 lt, .int .i64 st, .int .i64 sr], .bool false]) ∧ At w w' b s j m ∧ Hid (Bad s md i j))
def goodPlace (s : ByteArray) (i : Nat) (p : PPt) (j : Nat) : Prop := p = placeOf s i ∧ 4 ≤ p.kd ∧ p.kd ≤ 7 ∧ j = i + (if bt s i = 110 then 3 else 1) ∧ Plain s i j
set_option maxHeartbeats 1000000 in
theorem placePart_any (w : World) (b : Nat) (s : ByteArray) (i : Nat) (m : Int) (h : Rd w b s i m) :
    Calls Tryz.prog 225 #[.pointer (some ⟨b, 0, none⟩)] w fun e w' => PartPost 5 w b s i m goodPlace e w' := by
  have hb := h.lt
  have c1 := h.c1
  have f1 := h.fr 1
  have hle := h.le
  have htop := h.top
  go_enter Tryz.func225, Tryz.ntmps225
  go_wp2_with fail
  refine (peek_any _ b s i m (by exact h.alloc _)).mono ?_
  rintro e w1 ⟨rfl, n1, rfl⟩
  by_cases k1 : bt s i = 102
  · have g1 : ((bt s i : Int) == 102) = true := by simp [k1]
    have K1 : Hid (bt s i = 102) := k1
    clear k1
    go_wp2_with fail
    have hp := place_one (Or.inl K1.out)
    refine bodyPost_ret (v := .tuple #[.agg #[.bool false, .int .i64 4, .int .u8 0, .int .i64 0, .int .i64 0], .bool true]) (by simp [results, Tryz.results225, go_sem]) rfl (Or.inl ⟨false, 4, 0, 0, 0, i + 1, rfl, ((((h.at0.alloc _).drewN _).setAt hp.2.1 (by omega)).set5 hb (Nat.le_refl _) _ _ _ _ _), ?_⟩)
    exact ⟨hp.1, hp.2.1, by unfold placeOf; rw [K1.out]; rfl, by decide, by decide, by rw [if_neg hp.2.2.1], hp.2.2.2⟩
  by_cases k2 : bt s i = 108
  · have g1 : ((bt s i : Int) == 102) = false := by simp [k2]
    have g2 : ((bt s i : Int) == 108) = true := by simp [k2]
    have K1 : Hid (bt s i = 108) := k2
    clear k1 k2
    go_wp2_with fail
    have hp := place_one (Or.inr (Or.inl K1.out))
    refine bodyPost_ret (v := .tuple #[.agg #[.bool false, .int .i64 5, .int .u8 0, .int .i64 0, .int .i64 0], .bool true]) (by simp [results, Tryz.results225, go_sem]) rfl (Or.inl ⟨false, 5, 0, 0, 0, i + 1, rfl, ((((h.at0.alloc _).drewN _).setAt hp.2.1 (by omega)).set5 hb (Nat.le_refl _) _ _ _ _ _), ?_⟩)
    exact ⟨hp.1, hp.2.1, by unfold placeOf; rw [K1.out]; rfl, by decide, by decide, by rw [if_neg hp.2.2.1], hp.2.2.2⟩
  by_cases k3 : bt s i = 101
  · have g1 : ((bt s i : Int) == 102) = false := by simp [k3]
    have g2 : ((bt s i : Int) == 108) = false := by simp [k3]
    have g3 : ((bt s i : Int) == 101) = true := by simp [k3]
    have K1 : Hid (bt s i = 101) := k3
    clear k1 k2 k3
    go_wp2_with fail
    have hp := place_one (Or.inr (Or.inr K1.out))
    refine bodyPost_ret (v := .tuple #[.agg #[.bool false, .int .i64 6, .int .u8 0, .int .i64 0, .int .i64 0], .bool true]) (by simp [results, Tryz.results225, go_sem]) rfl (Or.inl ⟨false, 6, 0, 0, 0, i + 1, rfl, ((((h.at0.alloc _).drewN _).setAt hp.2.1 (by omega)).set5 hb (Nat.le_refl _) _ _ _ _ _), ?_⟩)
    exact ⟨hp.1, hp.2.1, by unfold placeOf; rw [K1.out]; rfl, by decide, by decide, by rw [if_neg hp.2.2.1], hp.2.2.2⟩
  have g1 : ((bt s i : Int) == 102) = false := by simp; omega
  have g2 : ((bt s i : Int) == 108) = false := by simp; omega
  have g3 : ((bt s i : Int) == 101) = false := by simp; omega
  by_cases k4 : bt s i = 110
  · have g4 : ((bt s i : Int) == 110) = true := by simp [k4]
    have K1 : Hid (bt s i = 110) := k4
    clear k1 k2 k3 k4
    have hp := place_n K1.out
    have HP : Hid (Sim s 5 i 6 (i + 1)) := hp.1
    have hlt := hp.2
    clear hp
    go_wp2_with fail
    have ha := ((h.at0.alloc (Obj.cells #[Value.bool false, Value.int IntKind.i64 0, Value.int IntKind.u8 0, Value.int IntKind.i64 0, Value.int IntKind.i64 0] 192)).drewN n1).setAt (j := i + 1) (v := (i : Int) + 1) (by omega) (by omega)
    refine (nthPart_any _ b s (i + 1) m (by exact ha.rd)).mono ?_
    rintro e w2 (⟨st, sr, rfl, ha2, hf2⟩ | ⟨kd, st, sr, j, rfl, ha2, hf2⟩)
    · have ha3 := ha.trans ha2
      obtain ⟨hc, hz⟩ := ha2.cells w.heap.size (by simp [World.setCell]) (by omega)
      go_wp2_with fail
      refine bodyPost_ret (v := .tuple #[.agg #[.bool false, .int .i64 7, .int .u8 0, .int .i64 st, .int .i64 sr], .bool true]) (by simp [results, Tryz.results225, go_sem, hc]) rfl (Or.inl ⟨false, 7, 0, st, sr, i + 3, rfl, ha3.set5 hb (Nat.le_refl _) _ _ _ _ _, ?_⟩)
      exact ⟨HP.out.trans hf2.out.1, hf2.out.2.1, by unfold placeOf; rw [K1.out, hf2.out.2.2.2.1, hf2.out.2.2.2.2]; rfl, by show (4 : Int) ≤ 7; decide, by show (7 : Int) ≤ 7; decide, by rw [if_pos K1.out], (Plain.one (plain_of (by have := K1.out; omega))).cat hf2.out.2.2.1⟩
    · have ha3 := ha.trans ha2
      obtain ⟨hc, hz⟩ := ha2.cells w.heap.size (by simp [World.setCell]) (by omega)
      go_wp2_with fail
      refine bodyPost_ret (v := .tuple #[.agg #[.bool false, .int .i64 kd, .int .u8 0, .int .i64 st, .int .i64 sr], .bool false]) (by simp [results, Tryz.results225, go_sem, hc]) rfl (Or.inr ⟨false, kd, 0, st, sr, j, rfl, ha3.set5 hb (Nat.le_refl _) _ _ _ _ _, ?_⟩)
      exact HP.out.bad hf2.out
  · have g4 : ((bt s i : Int) == 110) = false := by simp; omega
    have HB : Hid (Bad s 5 i i) := place_no k1 k2 k3 k4
    clear k1 k2 k3 k4
    go_wp2_with fail
    refine bodyPost_ret (v := .tuple #[.agg #[.bool false, .int .i64 0, .int .u8 0, .int .i64 0, .int .i64 0], .bool false]) (by simp [results, Tryz.results225, go_sem]) rfl (Or.inr ⟨false, 0, 0, 0, 0, i, rfl, (((h.at0.alloc _).drewN _).set5 hb (Nat.le_refl _) _ _ _ _ _), HB.out⟩)
end Go.Proofs.YtblfffbmklkhmaaGreat

namespace Go.Proofs.YtblfffbmklkhmaaGreat
open Go.RowKit
def goodSimple (s : ByteArray) (i : Nat) (p : PPt) (j : Nat) : Prop := p = simpOf s i ∧ p.kd ≠ 1 ∧ (p.kd = 3 ↔ bt s i = 35) ∧ j = i + sl s i ∧ (bt s i = 46 ∨ bt s i = 35 ∨ bt s i = 58) ∧ Plain s i j
def goodPart (s : ByteArray) (i : Nat) (p : PPt) (j : Nat) : Prop :=
  p = partOf s i ∧ if bt s i = 33 then (if isL (bt s (i + 1)) = true then p.kd = 1 ∧ j = i + 2 else goodSimple s (i + 1) ⟨false, p.kd, p.lt, p.st, p.sr⟩ j) else goodSimple s i p j
theorem place_nt (s : ByteArray) (i : Nat) : (placeOf s i).nt = false := by unfold placeOf; (repeat' split) <;> rfl
theorem simp_nt (s : ByteArray) (i : Nat) : (simpOf s i).nt = false := by unfold simpOf; split; rfl; split; rfl; exact place_nt _ _
theorem simple_nt {s : ByteArray} {i j : Nat} {nt : Bool} {kd lt st sr : Int} (h : goodSimple s i ⟨nt, kd, lt, st, sr⟩ j) : goodSimple s i ⟨false, kd, lt, st, sr⟩ j := by
  have h1 := simp_nt s i
  rw [← h.1] at h1
  replace h1 : nt = false := h1
  subst h1
  exact h
theorem simple_lt {s : ByteArray} {i : Nat} (h : bt s i = 46 ∨ bt s i = 35) : Sim s 8 i 4 (i + 1) ∧ i < s.size := by
  have hi : i < s.size := lt_of_bt (by omega)
  refine ⟨sim_go hi ?_ (by decide) (fun k => by simp [cnt]), hi⟩
  have hl : isL (bt s i) = false := by simp only [isL, decide_eq_false_iff_not]; omega
  simp [nxt, hl, partN, h]
theorem simple_pl {s : ByteArray} {i : Nat} (h : bt s i = 58) : Sim s 8 i 5 (i + 1) ∧ i < s.size := by
  have hi : i < s.size := lt_of_bt (by omega)
  refine ⟨sim_go hi ?_ (by decide) (fun k => by simp [cnt]), hi⟩
  simp [nxt, isL, partN, h]
theorem simple_no {s : ByteArray} {i : Nat} (hl : isL (bt s i) = false) (h1 : bt s i ≠ 46) (h2 : bt s i ≠ 35) (h3 : bt s i ≠ 58) : Bad s 8 i i :=
  bad_no (by decide) (by simp [nxt, hl, partN, h1, h2, h3])
theorem letter_yes {s : ByteArray} {i : Nat} (h : isL (bt s i) = true ∧ i < s.size) : Sim s 4 i 3 (i + 1) := sim_go h.2 (by simp [nxt, h.1, wh]) (by decide) (fun k => by simp [cnt])
theorem letter_no {s : ByteArray} {i : Nat} (h : isL (bt s i) = false) : Bad s 4 i i := bad_no (by decide) (by simp [nxt, h, wh])
abbrev partZero : Obj := Obj.cells #[Value.bool false, Value.int IntKind.i64 0, Value.int IntKind.u8 0, Value.int IntKind.i64 0, Value.int IntKind.i64 0] 192
set_option maxHeartbeats 1000000 in
theorem simplePart_any (w : World) (b : Nat) (s : ByteArray) (i : Nat) (m : Int) (h : Rd w b s i m) (hL : isL (bt s i) = false) :
    Calls Tryz.prog 219 #[.pointer (some ⟨b, 0, none⟩)] w fun e w' => PartPost 8 w b s i m goodSimple e w' := by
  have hb := h.lt
  have c1 := h.c1
  have f1 := h.fr 1
  have hle := h.le
  have htop := h.top
  have HL : Hid (isL (bt s i) = false) := hL
  clear hL
  go_enter Tryz.func219, Tryz.ntmps219
  go_wp2_with fail
  refine (peek_any _ b s i m (by exact h.alloc _)).mono ?_
  rintro e w1 ⟨rfl, n1, rfl⟩
  by_cases k1 : bt s i = 46
  · have g1 : ((bt s i : Int) == 46) = true := by simp [k1]
    have K1 : Hid (bt s i = 46) := k1
    clear k1
    have hp := simple_lt (Or.inl K1.out)
    have HP : Hid (Sim s 8 i 4 (i + 1)) := hp.1
    have hlt := hp.2
    clear hp
    go_wp2_with fail
    have ha := ((h.at0.alloc partZero).drewN n1).setAt (j := i + 1) (v := (i : Int) + 1) (by omega) (by omega)
    refine (letterPart_any _ b s (i + 1) m 2 (by exact ha.rd)).mono ?_
    rintro e w2 (⟨rfl, ha2, hf2⟩ | ⟨rfl, ha2, hf2⟩)
    · have ha3 := ha.trans ha2
      obtain ⟨hc, hz⟩ := ha2.cells w.heap.size (by simp [World.setCell]) (by omega)
      go_wp2_with fail
      refine bodyPost_ret (v := .tuple #[.agg #[.bool false, .int .i64 2, .int .u8 (bt s (i + 1)), .int .i64 0, .int .i64 0], .bool true]) (by simp [results, Tryz.results219, go_sem, hc]) rfl (Or.inl ⟨false, 2, _, 0, 0, i + 2, rfl, ha3.set5 hb (Nat.le_refl _) _ _ _ _ _, ?_⟩)
      refine ⟨HP.out.trans (letter_yes hf2.out), hf2.out.2, by unfold simpOf; rw [K1.out]; rfl, (by show (2 : Int) ≠ 1; decide), ?_, ?_, ?_, (Plain.one (plain_of (by have := K1.out; omega))).cat (Plain.one (plain_L hf2.out.1))⟩
      · have h0 := K1.out; simp [h0]
      · have := K1.out; simp only [sl]; rw [if_neg (by omega)]
      · have := K1.out; omega
    · have ha3 := ha.trans ha2
      obtain ⟨hc, hz⟩ := ha2.cells w.heap.size (by simp [World.setCell]) (by omega)
      go_wp2_with fail
      refine bodyPost_ret (v := .tuple #[.agg #[.bool false, .int .i64 2, .int .u8 0, .int .i64 0, .int .i64 0], .bool false]) (by simp [results, Tryz.results219, go_sem, hc]) rfl (Or.inr ⟨false, 2, 0, 0, 0, i + 1, rfl, ha3.set5 hb (Nat.le_refl _) _ _ _ _ _, HP.out.bad (letter_no hf2.out)⟩)
  have g1 : ((bt s i : Int) == 46) = false := by simp; omega
  by_cases k2 : bt s i = 35
  · have g2 : ((bt s i : Int) == 35) = true := by simp [k2]
    have K1 : Hid (bt s i = 35) := k2
    clear k1 k2
    have hp := simple_lt (Or.inr K1.out)
    have HP : Hid (Sim s 8 i 4 (i + 1)) := hp.1
    have hlt := hp.2
    clear hp
    go_wp2_with fail
    have ha := ((h.at0.alloc partZero).drewN n1).setAt (j := i + 1) (v := (i : Int) + 1) (by omega) (by omega)
    refine (letterPart_any _ b s (i + 1) m 3 (by exact ha.rd)).mono ?_
    rintro e w2 (⟨rfl, ha2, hf2⟩ | ⟨rfl, ha2, hf2⟩)
    · have ha3 := ha.trans ha2
      obtain ⟨hc, hz⟩ := ha2.cells w.heap.size (by simp [World.setCell]) (by omega)
      go_wp2_with fail
      refine bodyPost_ret (v := .tuple #[.agg #[.bool false, .int .i64 3, .int .u8 (bt s (i + 1)), .int .i64 0, .int .i64 0], .bool true]) (by simp [results, Tryz.results219, go_sem, hc]) rfl (Or.inl ⟨false, 3, _, 0, 0, i + 2, rfl, ha3.set5 hb (Nat.le_refl _) _ _ _ _ _, ?_⟩)
      refine ⟨HP.out.trans (letter_yes hf2.out), hf2.out.2, by unfold simpOf; rw [K1.out]; rfl, (by show (3 : Int) ≠ 1; decide), ?_, ?_, ?_, (Plain.one (plain_of (by have := K1.out; omega))).cat (Plain.one (plain_L hf2.out.1))⟩
      · have h0 := K1.out; simp [h0]
      · have := K1.out; simp only [sl]; rw [if_neg (by omega)]
      · have := K1.out; omega
    · have ha3 := ha.trans ha2
      obtain ⟨hc, hz⟩ := ha2.cells w.heap.size (by simp [World.setCell]) (by omega)
      go_wp2_with fail
      refine bodyPost_ret (v := .tuple #[.agg #[.bool false, .int .i64 3, .int .u8 0, .int .i64 0, .int .i64 0], .bool false]) (by simp [results, Tryz.results219, go_sem, hc]) rfl (Or.inr ⟨false, 3, 0, 0, 0, i + 1, rfl, ha3.set5 hb (Nat.le_refl _) _ _ _ _ _, HP.out.bad (letter_no hf2.out)⟩)
  have g2 : ((bt s i : Int) == 35) = false := by simp; omega
  by_cases k3 : bt s i = 58
  · have g3 : ((bt s i : Int) == 58) = true := by simp [k3]
    have K1 : Hid (bt s i = 58) := k3
    clear k1 k2 k3
    have hp := simple_pl K1.out
    have HP : Hid (Sim s 8 i 5 (i + 1)) := hp.1
    have hlt := hp.2
    clear hp
    go_wp2_with fail
    have ha := ((h.at0.alloc partZero).drewN n1).setAt (j := i + 1) (v := (i : Int) + 1) (by omega) (by omega)
    refine (placePart_any _ b s (i + 1) m (by exact ha.rd)).mono ?_
    rintro e w2 (⟨nt, kd, lt, st, sr, j, rfl, ha2, hf2⟩ | ⟨nt, kd, lt, st, sr, j, rfl, ha2, hf2⟩)
    · have ha3 := ha.trans ha2
      obtain ⟨hc, hz⟩ := ha2.cells w.heap.size (by simp [World.setCell]) (by omega)
      go_wp2_with fail
      refine bodyPost_ret (v := .tuple #[.agg #[.bool nt, .int .i64 kd, .int .u8 lt, .int .i64 st, .int .i64 sr], .bool true]) (by simp [results, Tryz.results219, go_sem, hc]) rfl (Or.inl ⟨nt, kd, lt, st, sr, j, rfl, ha3.set5 hb (Nat.le_refl _) _ _ _ _ _, ?_⟩)
      obtain ⟨q1, q2, q0, q3, q4, q5, q6⟩ := hf2.out
      replace q3 : (4 : Int) ≤ kd := q3
      refine ⟨HP.out.trans q1, q2, by rw [q0]; unfold simpOf; rw [K1.out]; rfl, by show kd ≠ 1; omega, ?_, ?_, ?_, (Plain.one (plain_of (by have := K1.out; omega))).cat q6⟩
      · have := K1.out; show kd = 3 ↔ _; omega
      · have := K1.out; simp only [sl, this, true_and]; rw [q5]; split <;> omega
      · have := K1.out; omega
    · have ha3 := ha.trans ha2
      obtain ⟨hc, hz⟩ := ha2.cells w.heap.size (by simp [World.setCell]) (by omega)
      go_wp2_with fail
      refine bodyPost_ret (v := .tuple #[.agg #[.bool nt, .int .i64 kd, .int .u8 lt, .int .i64 st, .int .i64 sr], .bool false]) (by simp [results, Tryz.results219, go_sem, hc]) rfl (Or.inr ⟨nt, kd, lt, st, sr, j, rfl, ha3.set5 hb (Nat.le_refl _) _ _ _ _ _, HP.out.bad hf2.out⟩)
  · have g3 : ((bt s i : Int) == 58) = false := by simp; omega
    have HB : Hid (Bad s 8 i i) := simple_no HL.out k1 k2 k3
    clear k1 k2 k3
    go_wp2_with fail
    refine bodyPost_ret (v := .tuple #[.agg #[.bool false, .int .i64 0, .int .u8 0, .int .i64 0, .int .i64 0], .bool false]) (by simp [results, Tryz.results219, go_sem]) rfl (Or.inr ⟨false, 0, 0, 0, 0, i, rfl, (((h.at0.alloc _).drewN _).set5 hb (Nat.le_refl _) _ _ _ _ _), HB.out⟩)
theorem part_not {s : ByteArray} {i : Nat} (h : bt s i = 33) (hi : i < s.size) : Sim s 3 i 8 (i + 1) :=
  sim_go hi (by simp [nxt, moreN, h]) (by decide) (fun k => by simp [cnt, isS, h])
theorem part_as {s : ByteArray} {i : Nat} (hA : isA (bt s i) = true) (h : bt s i ≠ 33) : Sim s 3 i 8 i ∧ isL (bt s i) = false := by
  simp only [isA, decide_eq_true_eq] at hA
  have hl : isL (bt s i) = false := by simp only [isL, decide_eq_false_iff_not]; omega
  have hs : isS (bt s i) = false := by simp only [isS, decide_eq_false_iff_not]; omega
  have h1 : ¬ bt s i = 44 := by omega
  have h2 : ¬ bt s i = 123 := by omega
  exact ⟨sim_same (by decide) (by decide) (by simp [nxt, moreN, hl, hs, h, h1, h2]) (fun k => by simp [cnt, hs, h1]), hl⟩
theorem not_type {s : ByteArray} {i : Nat} (h : isL (bt s i) = true ∧ i < s.size) : Sim s 8 i 3 (i + 1) := sim_go h.2 (by simp [nxt, h.1]) (by decide) (fun k => by simp [cnt])
set_option maxHeartbeats 1000000 in
theorem part_any (w : World) (b : Nat) (s : ByteArray) (i : Nat) (m : Int) (h : Rd w b s i m) (hA : isA (bt s i) = true) :
    Calls Tryz.prog 213 #[.pointer (some ⟨b, 0, none⟩)] w fun e w' => PartPost 3 w b s i m goodPart e w' := by
  have hb := h.lt
  have HA : Hid (isA (bt s i) = true) := hA
  clear hA
  go_enter Tryz.func213, Tryz.ntmps213
  go_wp2_with fail
  refine (take_any _ b s i m 33 (by exact h.alloc _) (by decide)).mono ?_
  rintro e w1 (⟨rfl, ha, hf⟩ | ⟨rfl, ha, hf⟩)
  · have hz1 := ha.size
    simp only [World.size_alloc] at hz1
    go_wp2_with fail
    refine (letter_any _ b s (i + 1) m (by exact ha.rd)).mono ?_
    rintro e w2 (⟨rfl, ha2, hf2⟩ | ⟨rfl, ha2, hf2⟩)
    · have ha3 := ha.trans ha2
      obtain ⟨hc, hz⟩ := ha3.cells w.heap.size (by simp) (by omega)
      go_wp2_with fail
      refine bodyPost_ret (v := .tuple #[.agg #[.bool true, .int .i64 1, .int .u8 (bt s (i + 1)), .int .i64 0, .int .i64 0], .bool true]) (by simp [results, Tryz.results213, go_sem, hc]) rfl (Or.inl ⟨true, 1, _, 0, 0, i + 2, rfl, ha3.ofAlloc.set5 hb (Nat.le_refl _) _ _ _ _ _, ?_⟩)
      have hq : bt s i = 33 := by have := hf.out.1; omega
      refine ⟨(part_not hq hf.out.2).trans (not_type hf2.out), hf2.out.2, ?_⟩
      exact ⟨by unfold partOf; rw [if_pos hq, if_pos hf2.out.1], by rw [if_pos hq, if_pos hf2.out.1]; exact ⟨rfl, rfl⟩⟩
    · have ha3 := ha.trans ha2
      have hz2 := ha3.size
      simp only [World.size_alloc] at hz2
      go_wp2_with fail
      refine (simplePart_any _ b s (i + 1) m (by exact ha2.rd) hf2.out).mono ?_
      have hq : bt s i = 33 := by have := hf.out.1; omega
      have HQ : Hid (bt s i = 33) := hq
      clear hq
      rintro e w3 (⟨nt, kd, lt, st, sr, j, rfl, ha4, hf4⟩ | ⟨nt, kd, lt, st, sr, j, rfl, ha4, hf4⟩)
      · have ha5 := ha3.trans ha4
        have hz3 : w.heap.size < w3.heap.size := by have := ha5.size; simp only [World.size_alloc] at this; omega
        obtain ⟨hc, hz⟩ := ha5.cells w.heap.size (by simp) (by omega)
        go_wp2_with fail
        refine bodyPost_ret (v := .tuple #[.agg #[.bool true, .int .i64 kd, .int .u8 lt, .int .i64 st, .int .i64 sr], .bool true]) (by simp [results, Tryz.results213, go_sem, hc, hz3]) rfl (Or.inl ⟨true, kd, lt, st, sr, j, rfl, (ha5.ofAlloc.set5 hb (Nat.le_refl _) _ _ _ _ _).alloc _, ?_⟩)
        exact ⟨(part_not HQ.out hf.out.2).trans hf4.out.1, hf4.out.2.1, ⟨by unfold partOf; rw [if_pos HQ.out, if_neg (by rw [hf2.out]; simp), ← hf4.out.2.2.1]; rfl, by rw [if_pos HQ.out, if_neg (by rw [hf2.out]; simp)]; exact simple_nt hf4.out.2.2⟩⟩
      · have ha5 := ha3.trans ha4
        have hz3 : w.heap.size < w3.heap.size := by have := ha5.size; simp only [World.size_alloc] at this; omega
        obtain ⟨hc, hz⟩ := ha5.cells w.heap.size (by simp) (by omega)
        go_wp2_with fail
        exact bodyPost_ret (v := .tuple #[.agg #[.bool true, .int .i64 kd, .int .u8 lt, .int .i64 st, .int .i64 sr], .bool false]) (by simp [results, Tryz.results213, go_sem, hc, hz3]) rfl (Or.inr ⟨true, kd, lt, st, sr, j, rfl, (ha5.ofAlloc.set5 hb (Nat.le_refl _) _ _ _ _ _).alloc _, (part_not HQ.out hf.out.2).bad hf4.out⟩)
  · have hn : bt s i ≠ 33 := by have := hf.out; omega
    obtain ⟨q1, q2⟩ := part_as HA.out hn
    have HQ : Hid (Sim s 3 i 8 i ∧ bt s i ≠ 33) := ⟨q1, hn⟩
    clear q1 hn
    go_wp2_with fail
    refine (simplePart_any _ b s i m (by exact ha.rd) q2).mono ?_
    rintro e w2 (⟨nt, kd, lt, st, sr, j, rfl, ha2, hf2⟩ | ⟨nt, kd, lt, st, sr, j, rfl, ha2, hf2⟩)
    · have ha3 := ha.trans ha2
      obtain ⟨hc, hz⟩ := ha3.cells w.heap.size (by simp) (by omega)
      go_wp2_with fail
      refine bodyPost_ret (v := .tuple #[.agg #[.bool nt, .int .i64 kd, .int .u8 lt, .int .i64 st, .int .i64 sr], .bool true]) (by simp [results, Tryz.results213, go_sem, hc]) rfl (Or.inl ⟨nt, kd, lt, st, sr, j, rfl, ha3.ofAlloc.set5 hb (Nat.le_refl _) _ _ _ _ _, ?_⟩)
      exact ⟨HQ.out.1.trans hf2.out.1, hf2.out.2.1, ⟨by unfold partOf; rw [if_neg HQ.out.2]; exact hf2.out.2.2.1, by rw [if_neg HQ.out.2]; exact hf2.out.2.2⟩⟩
    · have ha3 := ha.trans ha2
      obtain ⟨hc, hz⟩ := ha3.cells w.heap.size (by simp) (by omega)
      go_wp2_with fail
      refine bodyPost_ret (v := .tuple #[.agg #[.bool nt, .int .i64 kd, .int .u8 lt, .int .i64 st, .int .i64 sr], .bool false]) (by simp [results, Tryz.results213, go_sem, hc]) rfl (Or.inr ⟨nt, kd, lt, st, sr, j, rfl, ha3.ofAlloc.set5 hb (Nat.le_refl _) _ _ _ _ _, HQ.out.1.bad hf2.out⟩)
end Go.Proofs.YtblfffbmklkhmaaGreat

namespace Go.Proofs.YtblfffbmklkhmaaGreat
open Go.RowKit
theorem Tryz.info192 : (Tryz.prog.info? 192).map (fun i => (i.zero, i.size, i.bytes)) = some (some (.agg #[.bool false, .int .i64 0, .int .u8 0, .int .i64 0, .int .i64 0]), 5, 40) := by kernel_rfl
/-- The cells hold parts of these kinds. -/
def Kinds : List Value → List PPt → Prop
  | xs, [] => xs = []
  | xs, p :: ks => ∃ ys, xs = .bool p.nt :: .int .i64 p.kd :: .int .u8 p.lt :: .int .i64 p.st :: .int .i64 p.sr :: ys ∧ Kinds ys ks
theorem Kinds.snoc {xs : List Value} {ks : List PPt} (h : Kinds xs ks) (nt : Bool) (kd lt st sr : Int) : Kinds (xs ++ [.bool nt, .int .i64 kd, .int .u8 lt, .int .i64 st, .int .i64 sr]) (ks ++ [⟨nt, kd, lt, st, sr⟩]) := by
  induction ks generalizing xs with
  | nil => simp only [Kinds] at h; subst h; exact ⟨[], rfl, rfl⟩
  | cons k ks ih =>
    obtain ⟨ys, rfl, hy⟩ := h
    exact ⟨_, rfl, ih hy⟩
/-- From i to j there are parts of these kinds. -/
def PartsAt (s : ByteArray) : Nat → Nat → List PPt → Prop
  | i, j, [] => i = j
  | i, j, kd :: ks => isA (bt s i) = true ∧ ∃ l, goodPart s i kd l ∧ PartsAt s l j ks
theorem PartsAt.snoc {s : ByteArray} {i j l : Nat} {ks : List PPt} {kd : PPt} (h : PartsAt s i j ks) (ha : isA (bt s j) = true) (hg : goodPart s j kd l) : PartsAt s i l (ks ++ [kd]) := by
  induction ks generalizing i with
  | nil => simp only [PartsAt] at h; subst h; exact ⟨ha, l, hg, rfl⟩
  | cons k ks ih =>
    obtain ⟨h1, l', h2, h3⟩ := h
    exact ⟨h1, l', h2, ih h3⟩
theorem good_lt {s : ByteArray} {i j : Nat} {kd : PPt} (h0 : goodPart s i kd j) : i < j := by
  have h := h0.2
  have h1 : ∀ n, 2 ≤ sl s n := by intro n; unfold sl; split <;> omega
  unfold goodSimple at h
  have := h1 i
  have := h1 (i + 1)
  split at h
  · split at h <;> omega
  · omega
structure PartsRel (w : World) (b : Nat) (s : ByteArray) (i : Nat) (m : Int) (gk : Nat) (v : Value) (wr : World) (j : Nat) (ks : List PPt) (xs : List Value) : Prop where
  at' : At w wr b s j m
  own : wr.ownsRow w.heap.size 192 5 v ks.length xs
  kinds : Kinds xs ks
  sim : Sim s 3 i 3 j
  le : i ≤ j
  few : ks.length ≤ j - i
  parts : PartsAt s i j ks
  gk : s.size - j ≤ gk
def PartsPost (w : World) (b : Nat) (s : ByteArray) (i : Nat) (m : Int) (e : Ending) (w' : World) : Prop :=
  (∃ (a : Option Addr) (c : Nat) (ks : List PPt) (xs : List Value) (j : Nat), e = .returned (.tuple #[.slice a ks.length c, .bool true]) ∧ At w w' b s j m ∧ w'.ownsRow w.heap.size 192 5 (.slice a ks.length c) ks.length xs ∧
    Hid (Kinds xs ks ∧ Sim s 3 i 3 j ∧ i ≤ j ∧ isA (bt s j) = false ∧ PartsAt s i j ks)) ∨
  (∃ j, e = .returned (.tuple #[.slice none 0 0, .bool false]) ∧ At w w' b s j m ∧ Hid (Bad s 3 i j ∧ isA (bt s i) = true))
theorem own_shape {w : World} {base : Nat} {e : TypeId} {size : Nat} {v : Value} {n : Nat} {xs : List Value} (h : w.ownsRow base e size v n xs) : ∃ a c, v = .slice a n c := by
  rcases h.2 with ⟨rfl, rfl⟩ | ⟨g, cap, cur, rfl, _⟩
  · exact ⟨none, 0, rfl⟩
  · exact ⟨_, _, rfl⟩
/-- What is owned from base on stays owned behind a call on the reader. -/
theorem At.owns {w w1 : World} {b : Nat} {s : ByteArray} {j : Nat} {m : Int} (h : At w w1 b s j m) {base : Nat} {e : TypeId} {size : Nat} {v : Value} {n : Nat} {xs : List Value} (ho : w.ownsRow base e size v n xs) (hb : b < base) : w1.ownsRow base e size v n xs := by
  refine ho.kept h.gb ?_
  cases hv : v.ownBlock with
  | none => exact Or.inl rfl
  | some g => right; intro e; injection e with e; have := (ho.lt g hv).1; omega
theorem new_cells (w : World) (B : Nat) (hB : B = w.heap.size) (cs : Array Value) (t : TypeId) (l : List Value) (hl : cs.toList = l) :
    ∀ j u, l[j]? = some u → (w.alloc (.cells cs t)).cell? ((⟨B, 0, none⟩ : Addr).add j) = some u := by
  intro j u hu
  subst hB hl
  have hadd : (⟨w.heap.size, 0, none⟩ : Addr).add j = ⟨w.heap.size, j, none⟩ := by unfold Addr.add; split <;> simp_all
  rw [hadd, cell_of_row _ _ _ cs t (0, 0) (heap_alloc_new w _)]
  simpa using hu
theorem one5 (a : Bool) (b c d e : Int) : ∀ u ∈ [Value.bool a, Value.int .i64 b, Value.int .u8 c, Value.int .i64 d, Value.int .i64 e], u.oneCell' = true := by
  intro u hu
  simp only [List.mem_cons, List.not_mem_nil, or_false] at hu
  rcases hu with rfl | rfl | rfl | rfl | rfl <;> rfl
/-- Behind an append onto a list of the call's own. -/
theorem At.app {w w2 w3 : World} {b : Nat} {s : ByteArray} {j : Nat} {m : Int} (h : At w w2 b s j m) (hb : b < w.heap.size) {e : TypeId} {size : Nat} {v : Value} {n : Nat} {xs : List Value}
    (ho : w2.ownsRow w.heap.size e size v n xs) (hg : w2.grownBy w3 v.ownBlock) : At w w3 b s j m := by
  have hne : ∀ k, k < w.heap.size → some k ≠ v.ownBlock := by
    intro k hk e
    have := (ho.lt k e.symm).1
    omega
  refine ⟨⟨(hg.block b h.rd.lt (hne b hb)).trans h.rd.blk, h.rd.le, h.rd.top, h.rd.lo, h.rd.hi⟩, ?_⟩
  exact ⟨hg.os.trans h.gb.os, hg.tape.trans h.gb.tape, hg.output.trans h.gb.output, Nat.le_trans h.gb.size hg.size,
    fun k hk hn => (hg.block k (Nat.lt_of_lt_of_le hk h.gb.size) (hne k hk)).trans (h.gb.block k hk hn)⟩
theorem parts_first {s : ByteArray} {i j : Nat} {ks : List PPt} (h : PartsAt s i j ks) (hA : isA (bt s j) = true) : isA (bt s i) = true := by
  cases ks with
  | nil => simp only [PartsAt] at h; subst h; exact hA
  | cons k ks => exact h.1
set_option maxHeartbeats 1000000 in
theorem parts_any (w : World) (b : Nat) (s : ByteArray) (i : Nat) (m : Int) (h : Rd w b s i m) :
    Calls Tryz.prog 206 #[.pointer (some ⟨b, 0, none⟩)] w fun e w' => PartsPost w b s i m e w' := by
  have hb := h.lt
  have htop := h.top
  obtain ⟨i0, hi, hz0, hz1, hz2⟩ := info_parts Tryz.info192
  go_enter Tryz.func206, Tryz.ntmps206
  go_wp2_with fail
  go_loopg [4] (s.size - i) (fun gk v wr => ∃ j ks xs, PartsRel w b s i m gk v wr j ks xs)
  case atStart => exact ⟨i, [], [], h.at0, World.ownsRow_nil _ _ _ _, rfl, fun _ => rfl, Nat.le_refl _, by simp, rfl, Nat.le_refl _⟩
  case round =>
    obtain ⟨j, ks, xs, R⟩ := hrel
    have hle := R.at'.rd.le
    go_wp2_with fail
    refine (partAhead_any _ b s j m (by exact R.at'.rd)).mono ?_
    rintro e w1 ⟨rfl, ha⟩
    by_cases hA : isA (bt s j) = true
    · have HA : Hid (isA (bt s j) = true) := hA
      rw [hA]
      clear hA
      go_wp2_with fail
      refine (part_any _ b s j m (by exact ha.rd) HA.out).mono ?_
      rintro e w2 (⟨nt, kd, lt, st, sr, l, rfl, ha2, hf2⟩ | ⟨nt, kd, lt, st, sr, l, rfl, ha2, hf2⟩)
      · have own2 := (ha.trans ha2).owns R.own (by omega)
        have hsz2 := ((R.at'.trans ha).trans ha2).size
        have hlen := R.few
        go_wp2_with (at_builtin; refine wpList_append_own _ rfl (.tmp 16) (.tmp 18) 188 rfl w.heap.size 192 i0 (.agg #[.bool false, .int .i64 0, .int .u8 0, .int .i64 0, .int .i64 0]) 5 40 Tryz.underlying188 hi hz0 hz1 hz2 rfl (by decide) _ _ _ rfl ((own2.alloc _).alloc _) ⟨w2.heap.size + 1, 0, none⟩ 1 1 [.bool nt, .int .i64 kd, .int .u8 lt, .int .i64 st, .int .i64 sr] rfl rfl ?c1 ?c2 ?c3 ?c4 ?c5 ?_)
        case c1 => exact new_cells (w2.alloc _) _ (by simp) _ _ _ rfl
        case c2 => exact one5 _ _ _ _ _
        case c3 => unfold maxLen; omega
        case c4 => omega
        case c5 => simp; omega
        · intro v' w3 hown3 hg3 _
          have R3 : PartsRel w b s i m (s.size - l) v' w3 l (ks ++ [⟨nt, kd, lt, st, sr⟩]) (xs ++ [.bool nt, .int .i64 kd, .int .u8 lt, .int .i64 st, .int .i64 sr]) := by
            obtain ⟨q1, q2, q3⟩ := hf2.out
            have := good_lt q3
            exact ⟨((((R.at'.trans ha).trans ha2).alloc _).alloc _).app hb ((own2.alloc _).alloc _) hg3, by simpa using hown3, R.kinds.snoc _ _ _ _ _, R.sim.trans q1, by have := R.le; omega, by have := R.few; have := R.le; simp; omega, R.parts.snoc HA.out q3, Nat.le_refl _⟩
          have hgk := R.gk
          have hjl : j < l := good_lt hf2.out.2.2
          have hls := hf2.out.2.1
          clear hown3 hg3 own2 R
          go_wp2
          go_roundg (s.size - l)
          case measure => omega
          case rel => exact ⟨l, _, _, R3⟩
      · go_wp2_with fail
        go_ret2
        exact Or.inr ⟨l, rfl, ((R.at'.trans ha).trans ha2).alloc _, R.sim.bad hf2.out, parts_first R.parts HA.out⟩
    · have hAf : isA (bt s j) = false := by simpa using hA
      rw [hAf]
      have HA : Hid (isA (bt s j) = false) := hAf
      clear hA hAf
      obtain ⟨a, c, hv⟩ := own_shape R.own
      have R2 := R
      rw [hv] at R2
      rw [hv]
      go_wp2
      go_ret2
      exact Or.inl ⟨a, c, ks, xs, j, rfl, R2.at'.trans ha, ha.owns R2.own hb, R2.kinds, R2.sim, R2.le, HA.out, R2.parts⟩
end Go.Proofs.YtblfffbmklkhmaaGreat

namespace Go.Proofs.YtblfffbmklkhmaaGreat
open Go.RowKit
/-- From i to j there is a compound of this type (0: none) with parts of these kinds. -/
def CompAt (s : ByteArray) (i j : Nat) (ty : Nat) (ks : List PPt) : Prop :=
  (isL (bt s i) = true ∧ ty = bt s i ∧ PartsAt s (i + 1) j ks) ∨ (isL (bt s i) = false ∧ bt s i = 42 ∧ ty = 0 ∧ PartsAt s (i + 1) j ks) ∨
  (isL (bt s i) = false ∧ bt s i ≠ 42 ∧ ty = 0 ∧ PartsAt s i j ks ∧ ks ≠ [])
def CompPost (w : World) (b : Nat) (s : ByteArray) (i : Nat) (m : Int) (e : Ending) (w' : World) : Prop :=
  (∃ (ty : Nat) (a : Option Addr) (c : Nat) (ks : List PPt) (xs : List Value) (j : Nat), e = .returned (.tuple #[.agg #[.int .u8 0, .int .u8 ty, .slice a ks.length c], .bool true]) ∧ At w w' b s j m ∧ w'.ownsRow w.heap.size 192 5 (.slice a ks.length c) ks.length xs ∧
    Hid (Kinds xs ks ∧ Sim s 2 i 3 j ∧ i < j ∧ isA (bt s j) = false ∧ CompAt s i j ty ks)) ∨
  (∃ j, e = .returned (.tuple #[.agg #[.int .u8 0, .int .u8 0, .slice none 0 0], .bool false]) ∧ At w w' b s j m ∧ Hid (Bad s 2 i j))
theorem own_mono {w : World} {base base' : Nat} {e : TypeId} {size : Nat} {v : Value} {n : Nat} {xs : List Value} (h : w.ownsRow base e size v n xs) (hb : base' ≤ base) : w.ownsRow base' e size v n xs := by
  refine ⟨h.1, ?_⟩
  rcases h.2 with hn | ⟨g, cap, cur, hv, hg, rest⟩
  · exact Or.inl hn
  · exact Or.inr ⟨g, cap, cur, hv, by omega, rest⟩
theorem At.set3 {w w1 : World} {b : Nat} {s : ByteArray} {j : Nat} {m : Int} (h : At w w1 b s j m) (hb : b < w.heap.size) {B : Nat} (hB : w.heap.size ≤ B) (v0 v1 v2 : Value) :
    At w (((w1.setCell ⟨B, 0, none⟩ v0).setCell ⟨B, 1, none⟩ v1).setCell ⟨B, 2, none⟩ v2) b s j m :=
  ((h.setNew hb hB _).setNew hb hB _).setNew hb hB _
theorem own_set3 {w : World} {base : Nat} {e : TypeId} {size : Nat} {v : Value} {n : Nat} {xs : List Value} (h : w.ownsRow base e size v n xs) {B : Nat} (hB : B < base) (v0 v1 v2 : Value) :
    (((w.setCell ⟨B, 0, none⟩ v0).setCell ⟨B, 1, none⟩ v1).setCell ⟨B, 2, none⟩ v2).ownsRow base e size v n xs :=
  ownsRow_setCell_below (ownsRow_setCell_below (ownsRow_setCell_below h (by exact hB) _) (by exact hB) _) (by exact hB) _
theorem comp_head {s : ByteArray} {i : Nat} (h : isL (bt s i) = true ∨ bt s i = 42) (hi : i < s.size) : Sim s 2 i 3 (i + 1) :=
  sim_go hi (by simp [nxt, compN, h]) (by decide) (fun k => by simp [cnt])
theorem comp_part {s : ByteArray} {i : Nat} (hl : isL (bt s i) = false) (h42 : bt s i ≠ 42) (hA : isA (bt s i) = true) : Sim s 2 i 3 i := by
  simp only [isA, decide_eq_true_eq] at hA
  have hs : isS (bt s i) = false := by simp only [isS, decide_eq_false_iff_not]; omega
  have h1 : ¬ bt s i = 44 := by omega
  have h2 : ¬ bt s i = 123 := by omega
  exact sim_same (by decide) (by decide) (by simp [nxt, compN, moreN, hl, hs, h42, h1, h2]) (fun k => by simp [cnt, hs, h1])
theorem comp_no {s : ByteArray} {i : Nat} (hl : isL (bt s i) = false) (h42 : bt s i ≠ 42) (hA : isA (bt s i) = false) : Bad s 2 i i := by
  simp only [isA, decide_eq_false_iff_not] at hA
  have h1 : ¬ bt s i = 33 := by omega
  have h2 : ¬ bt s i = 46 := by omega
  have h3 : ¬ bt s i = 35 := by omega
  have h4 : ¬ bt s i = 58 := by omega
  exact bad_no (by decide) (by simp [nxt, compN, partN, hl, h42, h1, h2, h3, h4])
theorem parts_le {s : ByteArray} {i j : Nat} {ks : List PPt} (h : PartsAt s i j ks) : i ≤ j ∧ (ks ≠ [] → i < j) := by
  induction ks generalizing i with
  | nil => simp only [PartsAt] at h; exact ⟨by omega, fun e => absurd rfl e⟩
  | cons k ks ih =>
    obtain ⟨_, l, h2, h3⟩ := h
    have := good_lt h2
    have := (ih h3).1
    exact ⟨by omega, fun _ => by omega⟩
/-- The rest of a compound, behind its head. -/
theorem comp_close {w w1 w2 : World} {b : Nat} {s : ByteArray} {i j i' : Nat} {m : Int} {ty : Nat} {a : Option Addr} {c : Nat} {ks : List PPt} {xs : List Value}
    (hb : b < w.heap.size) (hz1 : w.heap.size < w1.heap.size) (ha : At w w1 b s i' m) (ha2 : At w1 w2 b s j m) (ho : w2.ownsRow w1.heap.size 192 5 (.slice a ks.length c) ks.length xs)
    (hf : Kinds xs ks ∧ Sim s 2 i 3 j ∧ i < j ∧ isA (bt s j) = false ∧ CompAt s i j ty ks) :
    CompPost w b s i m (.returned (.tuple #[.agg #[.int .u8 0, .int .u8 ty, .slice a ks.length c], .bool true])) (((w2.setCell ⟨w.heap.size, 0, none⟩ (.int .u8 0)).setCell ⟨w.heap.size, 1, none⟩ (.int .u8 ty)).setCell ⟨w.heap.size, 2, none⟩ (.slice a ks.length c)) :=
  Or.inl ⟨ty, a, c, ks, xs, j, rfl, (ha.trans ha2).set3 hb (Nat.le_refl _) _ _ _, own_mono (own_set3 ho hz1 _ _ _) (by omega), hf⟩
set_option maxHeartbeats 1000000 in
theorem compound_any (w : World) (b : Nat) (s : ByteArray) (i : Nat) (m : Int) (h : Rd w b s i m) :
    Calls Tryz.prog 192 #[.pointer (some ⟨b, 0, none⟩)] w fun e w' => CompPost w b s i m e w' := by
  have hb := h.lt
  go_enter Tryz.func192, Tryz.ntmps192
  go_wp2_with fail
  refine (letter_any _ b s i m (by exact h.alloc _)).mono ?_
  rintro e w1 (⟨rfl, ha, hf⟩ | ⟨rfl, ha, hf⟩)
  · have hz1 : w.heap.size < w1.heap.size := by have := ha.size; simp only [World.size_alloc] at this; omega
    go_wp2_with fail
    refine (parts_any _ b s (i + 1) m (by exact ha.rd)).mono ?_
    rintro e w2 (⟨a, c, ks, xs, j, rfl, ha2, ho, hf2⟩ | ⟨j, rfl, ha2, hf2⟩)
    · have ha3 := ha.trans ha2
      obtain ⟨hc, hz⟩ := ha3.cells w.heap.size (by simp) (by omega)
      go_wp2_with fail
      refine bodyPost_ret (v := .tuple #[.agg #[.int .u8 0, .int .u8 (bt s i), .slice a ks.length c], .bool true]) (by simp [results, Tryz.results192, go_sem, hc]) rfl (comp_close hb hz1 ha.ofAlloc ha2 ho ?_)
      obtain ⟨q1, q2, q3, q4, q5⟩ := hf2.out
      exact ⟨q1, (comp_head (Or.inl hf.out.1) hf.out.2).trans q2, by omega, q4, Or.inl ⟨hf.out.1, rfl, q5⟩⟩
    · have ha3 := ha.trans ha2
      obtain ⟨hc, hz⟩ := ha3.cells w.heap.size (by simp) (by omega)
      go_wp2_with fail
      exact bodyPost_ret (v := .tuple #[.agg #[.int .u8 0, .int .u8 0, .slice none 0 0], .bool false]) (by simp [results, Tryz.results192, go_sem, hc]) rfl (Or.inr ⟨j, rfl, ha3.ofAlloc.set3 hb (Nat.le_refl _) _ _ _, (comp_head (Or.inl hf.out.1) hf.out.2).bad hf2.out.1⟩)
  · have hz1 : w.heap.size < w1.heap.size := by have := ha.size; simp only [World.size_alloc] at this; omega
    go_wp2_with fail
    refine (take_any _ b s i m 42 (by exact ha.rd) (by decide)).mono ?_
    rintro e w2 (⟨rfl, ha2, hf2⟩ | ⟨rfl, ha2, hf2⟩)
    · have ha3 := ha.trans ha2
      have hz2 : w.heap.size < w2.heap.size := by have := ha3.size; simp only [World.size_alloc] at this; omega
      go_wp2_with fail
      refine (parts_any _ b s (i + 1) m (by exact ha3.rd)).mono ?_
      have h42 : bt s i = 42 := by have := hf2.out.1; omega
      have H42 : Hid (bt s i = 42) := h42
      clear h42
      rintro e w3 (⟨a, c, ks, xs, j, rfl, ha4, ho, hf4⟩ | ⟨j, rfl, ha4, hf4⟩)
      · have ha5 := ha3.trans ha4
        obtain ⟨hc, hz⟩ := ha5.cells w.heap.size (by simp) (by omega)
        go_wp2_with fail
        refine bodyPost_ret (v := .tuple #[.agg #[.int .u8 0, .int .u8 0, .slice a ks.length c], .bool true]) (by simp [results, Tryz.results192, go_sem, hc]) rfl (comp_close (ty := 0) hb hz2 ha3.ofAlloc ha4 ho ?_)
        obtain ⟨q1, q2, q3, q4, q5⟩ := hf4.out
        exact ⟨q1, (comp_head (Or.inr H42.out) hf2.out.2).trans q2, by omega, q4, Or.inr (Or.inl ⟨hf.out, H42.out, rfl, q5⟩)⟩
      · have ha5 := ha3.trans ha4
        obtain ⟨hc, hz⟩ := ha5.cells w.heap.size (by simp) (by omega)
        go_wp2_with fail
        exact bodyPost_ret (v := .tuple #[.agg #[.int .u8 0, .int .u8 0, .slice none 0 0], .bool false]) (by simp [results, Tryz.results192, go_sem, hc]) rfl (Or.inr ⟨j, rfl, ha5.ofAlloc.set3 hb (Nat.le_refl _) _ _ _, (comp_head (Or.inr H42.out) hf2.out.2).bad hf4.out.1⟩)
    · have ha3 := ha.trans ha2
      have hz2 : w.heap.size < w2.heap.size := by have := ha3.size; simp only [World.size_alloc] at this; omega
      go_wp2_with fail
      refine (parts_any _ b s i m (by exact ha3.rd)).mono ?_
      have h42 : bt s i ≠ 42 := by have := hf2.out; omega
      have H42 : Hid (bt s i ≠ 42) := h42
      clear h42
      rintro e w3 (⟨a, c, ks, xs, j, rfl, ha4, ho, hf4⟩ | ⟨j, rfl, ha4, hf4⟩)
      · have ha5 := ha3.trans ha4
        obtain ⟨hc, hz⟩ := ha5.cells w.heap.size (by simp) (by omega)
        cases ks with
        | nil =>
          go_wp2_with fail
          refine bodyPost_ret (v := .tuple #[.agg #[.int .u8 0, .int .u8 0, .slice none 0 0], .bool false]) (by simp [results, Tryz.results192, go_sem, hc]) rfl (Or.inr ⟨j, rfl, ha5.ofAlloc.set3 hb (Nat.le_refl _) _ _ _, ?_⟩)
          obtain ⟨q1, q2, q3, q4, q5⟩ := hf4.out
          simp only [PartsAt] at q5
          subst q5
          exact comp_no hf.out H42.out q4
        | cons k ks =>
          have hk : ((((k :: ks).length : Nat) : Int) == 0) = false := by simp; omega
          simp only [List.length_cons] at hk
          go_wp2_with fail
          refine bodyPost_ret (v := .tuple #[.agg #[.int .u8 0, .int .u8 0, .slice a (k :: ks).length c], .bool true]) (by simp [results, Tryz.results192, go_sem, hc]) rfl (comp_close (ty := 0) hb hz2 ha3.ofAlloc ha4 ho ?_)
          obtain ⟨q1, q2, q3, q4, q5⟩ := hf4.out
          exact ⟨q1, (comp_part hf.out H42.out q5.1).trans q2, (parts_le q5).2 (by simp), q4, Or.inr (Or.inr ⟨hf.out, H42.out, rfl, q5, by simp⟩)⟩
      · have ha5 := ha3.trans ha4
        obtain ⟨hc, hz⟩ := ha5.cells w.heap.size (by simp) (by omega)
        go_wp2_with fail
        exact bodyPost_ret (v := .tuple #[.agg #[.int .u8 0, .int .u8 0, .slice none 0 0], .bool false]) (by simp [results, Tryz.results192, go_sem, hc]) rfl (Or.inr ⟨j, rfl, ha5.ofAlloc.set3 hb (Nat.le_refl _) _ _ _, (comp_part hf.out H42.out hf4.out.2).bad hf4.out.1⟩)
end Go.Proofs.YtblfffbmklkhmaaGreat
