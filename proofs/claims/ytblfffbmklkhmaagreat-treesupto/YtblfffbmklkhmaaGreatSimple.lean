/- One part of a compound: a simple one, any one. Own work. -/
import Derived.Test.YtblfffbmklkhmaaGreatPlace
namespace Go.Proofs.YtblfffbmklkhmaaGreat
open Go.RowKit

def goodSimple (s : ByteArray) (i : Nat) (p : PPt) (j : Nat) : Prop := p = simpOf s i ∧ p.kd ≠ 1 ∧ (p.kd = 3 ↔ bt s i = 35) ∧ j = i + sl s i ∧ (bt s i = 46 ∨ bt s i = 35 ∨ bt s i = 58) ∧ Plain s i j
def goodPart (s : ByteArray) (i : Nat) (p : PPt) (j : Nat) : Prop :=
  p = partOf s i ∧ if bt s i = 33 then (if isL (bt s (i + 1)) = true then p.kd = 1 ∧ j = i + 2 else goodSimple s (i + 1) ⟨false, p.kd, p.lt, p.st, p.sr⟩ j) else goodSimple s i p j
theorem place_nt (s : ByteArray) (i : Nat) : (placeOf s i).nt = false := by unfold placeOf; (repeat' split) <;> rfl
theorem simp_nt (s : ByteArray) (i : Nat) : (simpOf s i).nt = false := by unfold simpOf; split; rfl; split; rfl; exact place_nt _ _

theorem simple_nt {s : ByteArray} {i j : Nat} {nt : Bool} {kd lt st sr : Int} (h : goodSimple s i ⟨nt, kd, lt, st, sr⟩ j) : goodSimple s i ⟨false, kd, lt, st, sr⟩ j := by
  have h1 := simp_nt s i
  rw [← h.1] at h1
  replace h1 : nt = false := h1
  subst h1
  exact h
theorem simple_lt {s : ByteArray} {i : Nat} (h : bt s i = 46 ∨ bt s i = 35) : Sim s 8 i 4 (i + 1) ∧ i < s.size := by
  have hi : i < s.size := lt_of_bt (by omega)
  refine ⟨sim_go hi ?_ (by decide) (fun k => by simp [cnt]), hi⟩
  have hl : isL (bt s i) = false := by simp only [isL, decide_eq_false_iff_not]; omega
  simp [nxt, hl, partN, h]
theorem simple_pl {s : ByteArray} {i : Nat} (h : bt s i = 58) : Sim s 8 i 5 (i + 1) ∧ i < s.size := by
  have hi : i < s.size := lt_of_bt (by omega)
  refine ⟨sim_go hi ?_ (by decide) (fun k => by simp [cnt]), hi⟩
  simp [nxt, isL, partN, h]
theorem simple_no {s : ByteArray} {i : Nat} (hl : isL (bt s i) = false) (h1 : bt s i ≠ 46) (h2 : bt s i ≠ 35) (h3 : bt s i ≠ 58) : Bad s 8 i i :=
  bad_no (by decide) (by simp [nxt, hl, partN, h1, h2, h3])
theorem letter_yes {s : ByteArray} {i : Nat} (h : isL (bt s i) = true ∧ i < s.size) : Sim s 4 i 3 (i + 1) := sim_go h.2 (by simp [nxt, h.1, wh]) (by decide) (fun k => by simp [cnt])
theorem letter_no {s : ByteArray} {i : Nat} (h : isL (bt s i) = false) : Bad s 4 i i := bad_no (by decide) (by simp [nxt, h, wh])

abbrev partZero : Obj := Obj.cells #[Value.bool false, Value.int IntKind.i64 0, Value.int IntKind.u8 0, Value.int IntKind.i64 0, Value.int IntKind.i64 0] 192

set_option maxHeartbeats 1000000 in
theorem simplePart_any (w : World) (b : Nat) (s : ByteArray) (i : Nat) (m : Int) (h : Rd w b s i m) (hL : isL (bt s i) = false) :
    Calls Tryz.prog 219 #[.pointer (some ⟨b, 0, none⟩)] w fun e w' => PartPost 8 w b s i m goodSimple e w' := by
  have hb := h.lt
  have c1 := h.c1
  have f1 := h.fr 1
  have hle := h.le
  have htop := h.top
  have HL : Hid (isL (bt s i) = false) := hL
  clear hL
  go_enter Tryz.func219, Tryz.ntmps219
  go_wp2_with fail
  refine (peek_any _ b s i m (by exact h.alloc _)).mono ?_
  rintro e w1 ⟨rfl, n1, rfl⟩
  by_cases k1 : bt s i = 46
  · have g1 : ((bt s i : Int) == 46) = true := by simp [k1]
    have K1 : Hid (bt s i = 46) := k1
    clear k1
    have hp := simple_lt (Or.inl K1.out)
    have HP : Hid (Sim s 8 i 4 (i + 1)) := hp.1
    have hlt := hp.2
    clear hp
    go_wp2_with fail
    have ha := ((h.at0.alloc partZero).drewN n1).setAt (j := i + 1) (v := (i : Int) + 1) (by omega) (by omega)
    refine (letterPart_any _ b s (i + 1) m 2 (by exact ha.rd)).mono ?_
    rintro e w2 (⟨rfl, ha2, hf2⟩ | ⟨rfl, ha2, hf2⟩)
    · have ha3 := ha.trans ha2
      obtain ⟨hc, hz⟩ := ha2.cells w.heap.size (by simp [World.setCell]) (by omega)
      go_wp2_with fail
      refine bodyPost_ret (v := .tuple #[.agg #[.bool false, .int .i64 2, .int .u8 (bt s (i + 1)), .int .i64 0, .int .i64 0], .bool true]) (by simp [results, Tryz.results219, go_sem, hc]) rfl (Or.inl ⟨false, 2, _, 0, 0, i + 2, rfl, ha3.set5 hb (Nat.le_refl _) _ _ _ _ _, ?_⟩)
      refine ⟨HP.out.trans (letter_yes hf2.out), hf2.out.2, by unfold simpOf; rw [K1.out]; rfl, (by show (2 : Int) ≠ 1; decide), ?_, ?_, ?_, (Plain.one (plain_of (by have := K1.out; omega))).cat (Plain.one (plain_L hf2.out.1))⟩
      · have h0 := K1.out; simp [h0]
      · have := K1.out; simp only [sl]; rw [if_neg (by omega)]
      · have := K1.out; omega
    · have ha3 := ha.trans ha2
      obtain ⟨hc, hz⟩ := ha2.cells w.heap.size (by simp [World.setCell]) (by omega)
      go_wp2_with fail
      refine bodyPost_ret (v := .tuple #[.agg #[.bool false, .int .i64 2, .int .u8 0, .int .i64 0, .int .i64 0], .bool false]) (by simp [results, Tryz.results219, go_sem, hc]) rfl (Or.inr ⟨false, 2, 0, 0, 0, i + 1, rfl, ha3.set5 hb (Nat.le_refl _) _ _ _ _ _, HP.out.bad (letter_no hf2.out)⟩)
  have g1 : ((bt s i : Int) == 46) = false := by simp; omega
  by_cases k2 : bt s i = 35
  · have g2 : ((bt s i : Int) == 35) = true := by simp [k2]
    have K1 : Hid (bt s i = 35) := k2
    clear k1 k2
    have hp := simple_lt (Or.inr K1.out)
    have HP : Hid (Sim s 8 i 4 (i + 1)) := hp.1
    have hlt := hp.2
    clear hp
    go_wp2_with fail
    have ha := ((h.at0.alloc partZero).drewN n1).setAt (j := i + 1) (v := (i : Int) + 1) (by omega) (by omega)
    refine (letterPart_any _ b s (i + 1) m 3 (by exact ha.rd)).mono ?_
    rintro e w2 (⟨rfl, ha2, hf2⟩ | ⟨rfl, ha2, hf2⟩)
    · have ha3 := ha.trans ha2
      obtain ⟨hc, hz⟩ := ha2.cells w.heap.size (by simp [World.setCell]) (by omega)
      go_wp2_with fail
      refine bodyPost_ret (v := .tuple #[.agg #[.bool false, .int .i64 3, .int .u8 (bt s (i + 1)), .int .i64 0, .int .i64 0], .bool true]) (by simp [results, Tryz.results219, go_sem, hc]) rfl (Or.inl ⟨false, 3, _, 0, 0, i + 2, rfl, ha3.set5 hb (Nat.le_refl _) _ _ _ _ _, ?_⟩)
      refine ⟨HP.out.trans (letter_yes hf2.out), hf2.out.2, by unfold simpOf; rw [K1.out]; rfl, (by show (3 : Int) ≠ 1; decide), ?_, ?_, ?_, (Plain.one (plain_of (by have := K1.out; omega))).cat (Plain.one (plain_L hf2.out.1))⟩
      · have h0 := K1.out; simp [h0]
      · have := K1.out; simp only [sl]; rw [if_neg (by omega)]
      · have := K1.out; omega
    · have ha3 := ha.trans ha2
      obtain ⟨hc, hz⟩ := ha2.cells w.heap.size (by simp [World.setCell]) (by omega)
      go_wp2_with fail
      refine bodyPost_ret (v := .tuple #[.agg #[.bool false, .int .i64 3, .int .u8 0, .int .i64 0, .int .i64 0], .bool false]) (by simp [results, Tryz.results219, go_sem, hc]) rfl (Or.inr ⟨false, 3, 0, 0, 0, i + 1, rfl, ha3.set5 hb (Nat.le_refl _) _ _ _ _ _, HP.out.bad (letter_no hf2.out)⟩)
  have g2 : ((bt s i : Int) == 35) = false := by simp; omega
  by_cases k3 : bt s i = 58
  · have g3 : ((bt s i : Int) == 58) = true := by simp [k3]
    have K1 : Hid (bt s i = 58) := k3
    clear k1 k2 k3
    have hp := simple_pl K1.out
    have HP : Hid (Sim s 8 i 5 (i + 1)) := hp.1
    have hlt := hp.2
    clear hp
    go_wp2_with fail
    have ha := ((h.at0.alloc partZero).drewN n1).setAt (j := i + 1) (v := (i : Int) + 1) (by omega) (by omega)
    refine (placePart_any _ b s (i + 1) m (by exact ha.rd)).mono ?_
    rintro e w2 (⟨nt, kd, lt, st, sr, j, rfl, ha2, hf2⟩ | ⟨nt, kd, lt, st, sr, j, rfl, ha2, hf2⟩)
    · have ha3 := ha.trans ha2
      obtain ⟨hc, hz⟩ := ha2.cells w.heap.size (by simp [World.setCell]) (by omega)
      go_wp2_with fail
      refine bodyPost_ret (v := .tuple #[.agg #[.bool nt, .int .i64 kd, .int .u8 lt, .int .i64 st, .int .i64 sr], .bool true]) (by simp [results, Tryz.results219, go_sem, hc]) rfl (Or.inl ⟨nt, kd, lt, st, sr, j, rfl, ha3.set5 hb (Nat.le_refl _) _ _ _ _ _, ?_⟩)
      obtain ⟨q1, q2, q0, q3, q4, q5, q6⟩ := hf2.out
      replace q3 : (4 : Int) ≤ kd := q3
      refine ⟨HP.out.trans q1, q2, by rw [q0]; unfold simpOf; rw [K1.out]; rfl, by show kd ≠ 1; omega, ?_, ?_, ?_, (Plain.one (plain_of (by have := K1.out; omega))).cat q6⟩
      · have := K1.out; show kd = 3 ↔ _; omega
      · have := K1.out; simp only [sl, this, true_and]; rw [q5]; split <;> omega
      · have := K1.out; omega
    · have ha3 := ha.trans ha2
      obtain ⟨hc, hz⟩ := ha2.cells w.heap.size (by simp [World.setCell]) (by omega)
      go_wp2_with fail
      refine bodyPost_ret (v := .tuple #[.agg #[.bool nt, .int .i64 kd, .int .u8 lt, .int .i64 st, .int .i64 sr], .bool false]) (by simp [results, Tryz.results219, go_sem, hc]) rfl (Or.inr ⟨nt, kd, lt, st, sr, j, rfl, ha3.set5 hb (Nat.le_refl _) _ _ _ _ _, HP.out.bad hf2.out⟩)
  · have g3 : ((bt s i : Int) == 58) = false := by simp; omega
    have HB : Hid (Bad s 8 i i) := simple_no HL.out k1 k2 k3
    clear k1 k2 k3
    go_wp2_with fail
    refine bodyPost_ret (v := .tuple #[.agg #[.bool false, .int .i64 0, .int .u8 0, .int .i64 0, .int .i64 0], .bool false]) (by simp [results, Tryz.results219, go_sem]) rfl (Or.inr ⟨false, 0, 0, 0, 0, i, rfl, (((h.at0.alloc _).drewN _).set5 hb (Nat.le_refl _) _ _ _ _ _), HB.out⟩)

theorem part_not {s : ByteArray} {i : Nat} (h : bt s i = 33) (hi : i < s.size) : Sim s 3 i 8 (i + 1) :=
  sim_go hi (by simp [nxt, moreN, h]) (by decide) (fun k => by simp [cnt, isS, h])
theorem part_as {s : ByteArray} {i : Nat} (hA : isA (bt s i) = true) (h : bt s i ≠ 33) : Sim s 3 i 8 i ∧ isL (bt s i) = false := by
  simp only [isA, decide_eq_true_eq] at hA
  have hl : isL (bt s i) = false := by simp only [isL, decide_eq_false_iff_not]; omega
  have hs : isS (bt s i) = false := by simp only [isS, decide_eq_false_iff_not]; omega
  have h1 : ¬ bt s i = 44 := by omega
  have h2 : ¬ bt s i = 123 := by omega
  exact ⟨sim_same (by decide) (by decide) (by simp [nxt, moreN, hl, hs, h, h1, h2]) (fun k => by simp [cnt, hs, h1]), hl⟩
theorem not_type {s : ByteArray} {i : Nat} (h : isL (bt s i) = true ∧ i < s.size) : Sim s 8 i 3 (i + 1) := sim_go h.2 (by simp [nxt, h.1]) (by decide) (fun k => by simp [cnt])

set_option maxHeartbeats 1000000 in
theorem part_any (w : World) (b : Nat) (s : ByteArray) (i : Nat) (m : Int) (h : Rd w b s i m) (hA : isA (bt s i) = true) :
    Calls Tryz.prog 213 #[.pointer (some ⟨b, 0, none⟩)] w fun e w' => PartPost 3 w b s i m goodPart e w' := by
  have hb := h.lt
  have HA : Hid (isA (bt s i) = true) := hA
  clear hA
  go_enter Tryz.func213, Tryz.ntmps213
  go_wp2_with fail
  refine (take_any _ b s i m 33 (by exact h.alloc _) (by decide)).mono ?_
  rintro e w1 (⟨rfl, ha, hf⟩ | ⟨rfl, ha, hf⟩)
  · have hz1 := ha.size
    simp only [World.size_alloc] at hz1
    go_wp2_with fail
    refine (letter_any _ b s (i + 1) m (by exact ha.rd)).mono ?_
    rintro e w2 (⟨rfl, ha2, hf2⟩ | ⟨rfl, ha2, hf2⟩)
    · have ha3 := ha.trans ha2
      obtain ⟨hc, hz⟩ := ha3.cells w.heap.size (by simp) (by omega)
      go_wp2_with fail
      refine bodyPost_ret (v := .tuple #[.agg #[.bool true, .int .i64 1, .int .u8 (bt s (i + 1)), .int .i64 0, .int .i64 0], .bool true]) (by simp [results, Tryz.results213, go_sem, hc]) rfl (Or.inl ⟨true, 1, _, 0, 0, i + 2, rfl, ha3.ofAlloc.set5 hb (Nat.le_refl _) _ _ _ _ _, ?_⟩)
      have hq : bt s i = 33 := by have := hf.out.1; omega
      refine ⟨(part_not hq hf.out.2).trans (not_type hf2.out), hf2.out.2, ?_⟩
      exact ⟨by unfold partOf; rw [if_pos hq, if_pos hf2.out.1], by rw [if_pos hq, if_pos hf2.out.1]; exact ⟨rfl, rfl⟩⟩
    · have ha3 := ha.trans ha2
      have hz2 := ha3.size
      simp only [World.size_alloc] at hz2
      go_wp2_with fail
      refine (simplePart_any _ b s (i + 1) m (by exact ha2.rd) hf2.out).mono ?_
      have hq : bt s i = 33 := by have := hf.out.1; omega
      have HQ : Hid (bt s i = 33) := hq
      clear hq
      rintro e w3 (⟨nt, kd, lt, st, sr, j, rfl, ha4, hf4⟩ | ⟨nt, kd, lt, st, sr, j, rfl, ha4, hf4⟩)
      · have ha5 := ha3.trans ha4
        have hz3 : w.heap.size < w3.heap.size := by have := ha5.size; simp only [World.size_alloc] at this; omega
        obtain ⟨hc, hz⟩ := ha5.cells w.heap.size (by simp) (by omega)
        go_wp2_with fail
        refine bodyPost_ret (v := .tuple #[.agg #[.bool true, .int .i64 kd, .int .u8 lt, .int .i64 st, .int .i64 sr], .bool true]) (by simp [results, Tryz.results213, go_sem, hc, hz3]) rfl (Or.inl ⟨true, kd, lt, st, sr, j, rfl, (ha5.ofAlloc.set5 hb (Nat.le_refl _) _ _ _ _ _).alloc _, ?_⟩)
        exact ⟨(part_not HQ.out hf.out.2).trans hf4.out.1, hf4.out.2.1, ⟨by unfold partOf; rw [if_pos HQ.out, if_neg (by rw [hf2.out]; simp), ← hf4.out.2.2.1]; rfl, by rw [if_pos HQ.out, if_neg (by rw [hf2.out]; simp)]; exact simple_nt hf4.out.2.2⟩⟩
      · have ha5 := ha3.trans ha4
        have hz3 : w.heap.size < w3.heap.size := by have := ha5.size; simp only [World.size_alloc] at this; omega
        obtain ⟨hc, hz⟩ := ha5.cells w.heap.size (by simp) (by omega)
        go_wp2_with fail
        exact bodyPost_ret (v := .tuple #[.agg #[.bool true, .int .i64 kd, .int .u8 lt, .int .i64 st, .int .i64 sr], .bool false]) (by simp [results, Tryz.results213, go_sem, hc, hz3]) rfl (Or.inr ⟨true, kd, lt, st, sr, j, rfl, (ha5.ofAlloc.set5 hb (Nat.le_refl _) _ _ _ _ _).alloc _, (part_not HQ.out hf.out.2).bad hf4.out⟩)
  · have hn : bt s i ≠ 33 := by have := hf.out; omega
    obtain ⟨q1, q2⟩ := part_as HA.out hn
    have HQ : Hid (Sim s 3 i 8 i ∧ bt s i ≠ 33) := ⟨q1, hn⟩
    clear q1 hn
    go_wp2_with fail
    refine (simplePart_any _ b s i m (by exact ha.rd) q2).mono ?_
    rintro e w2 (⟨nt, kd, lt, st, sr, j, rfl, ha2, hf2⟩ | ⟨nt, kd, lt, st, sr, j, rfl, ha2, hf2⟩)
    · have ha3 := ha.trans ha2
      obtain ⟨hc, hz⟩ := ha3.cells w.heap.size (by simp) (by omega)
      go_wp2_with fail
      refine bodyPost_ret (v := .tuple #[.agg #[.bool nt, .int .i64 kd, .int .u8 lt, .int .i64 st, .int .i64 sr], .bool true]) (by simp [results, Tryz.results213, go_sem, hc]) rfl (Or.inl ⟨nt, kd, lt, st, sr, j, rfl, ha3.ofAlloc.set5 hb (Nat.le_refl _) _ _ _ _ _, ?_⟩)
      exact ⟨HQ.out.1.trans hf2.out.1, hf2.out.2.1, ⟨by unfold partOf; rw [if_neg HQ.out.2]; exact hf2.out.2.2.1, by rw [if_neg HQ.out.2]; exact hf2.out.2.2⟩⟩
    · have ha3 := ha.trans ha2
      obtain ⟨hc, hz⟩ := ha3.cells w.heap.size (by simp) (by omega)
      go_wp2_with fail
      refine bodyPost_ret (v := .tuple #[.agg #[.bool nt, .int .i64 kd, .int .u8 lt, .int .i64 st, .int .i64 sr], .bool false]) (by simp [results, Tryz.results213, go_sem, hc]) rfl (Or.inr ⟨nt, kd, lt, st, sr, j, rfl, ha3.ofAlloc.set5 hb (Nat.le_refl _) _ _ _ _ _, HQ.out.1.bad hf2.out⟩)

end Go.Proofs.YtblfffbmklkhmaaGreat
