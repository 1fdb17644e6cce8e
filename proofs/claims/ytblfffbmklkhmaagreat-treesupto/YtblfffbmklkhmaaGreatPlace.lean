/- One part of a compound: a place. Own work. -/
import Derived.Test.YtblfffbmklkhmaaGreatPart
namespace Go.Proofs.YtblfffbmklkhmaaGreat
open Go.RowKit

theorem beqt {c : Nat} {n : Int} (h : ((c : Int) == n) = true) : (c : Int) = n := eq_of_beq h
theorem beqf {c : Nat} {n : Int} (h : ((c : Int) == n) = false) : (c : Int) ≠ n := by simpa using h

theorem place_one {s : ByteArray} {i : Nat} (h : bt s i = 102 ∨ bt s i = 108 ∨ bt s i = 101) : Sim s 5 i 3 (i + 1) ∧ i + 1 ≤ s.size ∧ bt s i ≠ 110 ∧ Plain s i (i + 1) := by
  have hi : i < s.size := lt_of_bt (by omega)
  refine ⟨sim_go hi ?_ (by decide) (fun k => by simp [cnt]), hi, by omega, Plain.one (plain_of (by omega))⟩
  have h1 : ¬ bt s i = 110 := by omega
  simp [nxt, h1, wh, h]
theorem place_n {s : ByteArray} {i : Nat} (h : bt s i = 110) : Sim s 5 i 6 (i + 1) ∧ i < s.size := by
  have hi : i < s.size := lt_of_bt (by omega)
  exact ⟨sim_go hi (by simp [nxt, h]) (by decide) (fun k => by simp [cnt]), hi⟩
theorem place_no {s : ByteArray} {i : Nat} (h1 : bt s i ≠ 102) (h2 : bt s i ≠ 108) (h3 : bt s i ≠ 101) (h4 : bt s i ≠ 110) : Bad s 5 i i :=
  bad_no (by decide) (by simp [nxt, h1, h2, h3, h4, wh])

/-- Behind a call that reads a part in the mode md. -/
def PartPost (md : Int) (w : World) (b : Nat) (s : ByteArray) (i : Nat) (m : Int) (good : ByteArray → Nat → PPt → Nat → Prop) (e : Ending) (w' : World) : Prop :=
  (∃ (nt : Bool) (kd lt st sr : Int) (j : Nat), e = .returned (.tuple #[.agg #[.bool nt, .int .i64 kd, .int .u8 lt, .int .i64 st, .int .i64 sr], .bool true]) ∧ At w w' b s j m ∧ Hid (Sim s md i 3 j ∧ j ≤ s.size ∧ good s i ⟨nt, kd, lt, st, sr⟩ j)) ∨
  (∃ (nt : Bool) (kd lt st sr : Int) (j : Nat), e = .returned (.tuple #[.agg #[.bool nt, .int .i64 kd, .int .u8 lt, .int .i64 st, .int .i64 sr], .bool false]) ∧ At w w' b s j m ∧ Hid (Bad s md i j))

def goodPlace (s : ByteArray) (i : Nat) (p : PPt) (j : Nat) : Prop := p = placeOf s i ∧ 4 ≤ p.kd ∧ p.kd ≤ 7 ∧ j = i + (if bt s i = 110 then 3 else 1) ∧ Plain s i j

set_option maxHeartbeats 1000000 in
theorem placePart_any (w : World) (b : Nat) (s : ByteArray) (i : Nat) (m : Int) (h : Rd w b s i m) :
    Calls Tryz.prog 225 #[.pointer (some ⟨b, 0, none⟩)] w fun e w' => PartPost 5 w b s i m goodPlace e w' := by
  have hb := h.lt
  have c1 := h.c1
  have f1 := h.fr 1
  have hle := h.le
  have htop := h.top
  go_enter Tryz.func225, Tryz.ntmps225
  go_wp2_with fail
  refine (peek_any _ b s i m (by exact h.alloc _)).mono ?_
  rintro e w1 ⟨rfl, n1, rfl⟩
  by_cases k1 : bt s i = 102
  · have g1 : ((bt s i : Int) == 102) = true := by simp [k1]
    have K1 : Hid (bt s i = 102) := k1
    clear k1
    go_wp2_with fail
    have hp := place_one (Or.inl K1.out)
    refine bodyPost_ret (v := .tuple #[.agg #[.bool false, .int .i64 4, .int .u8 0, .int .i64 0, .int .i64 0], .bool true]) (by simp [results, Tryz.results225, go_sem]) rfl (Or.inl ⟨false, 4, 0, 0, 0, i + 1, rfl, ((((h.at0.alloc _).drewN _).setAt hp.2.1 (by omega)).set5 hb (Nat.le_refl _) _ _ _ _ _), ?_⟩)
    exact ⟨hp.1, hp.2.1, by unfold placeOf; rw [K1.out]; rfl, by decide, by decide, by rw [if_neg hp.2.2.1], hp.2.2.2⟩
  by_cases k2 : bt s i = 108
  · have g1 : ((bt s i : Int) == 102) = false := by simp [k2]
    have g2 : ((bt s i : Int) == 108) = true := by simp [k2]
    have K1 : Hid (bt s i = 108) := k2
    clear k1 k2
    go_wp2_with fail
    have hp := place_one (Or.inr (Or.inl K1.out))
    refine bodyPost_ret (v := .tuple #[.agg #[.bool false, .int .i64 5, .int .u8 0, .int .i64 0, .int .i64 0], .bool true]) (by simp [results, Tryz.results225, go_sem]) rfl (Or.inl ⟨false, 5, 0, 0, 0, i + 1, rfl, ((((h.at0.alloc _).drewN _).setAt hp.2.1 (by omega)).set5 hb (Nat.le_refl _) _ _ _ _ _), ?_⟩)
    exact ⟨hp.1, hp.2.1, by unfold placeOf; rw [K1.out]; rfl, by decide, by decide, by rw [if_neg hp.2.2.1], hp.2.2.2⟩
  by_cases k3 : bt s i = 101
  · have g1 : ((bt s i : Int) == 102) = false := by simp [k3]
    have g2 : ((bt s i : Int) == 108) = false := by simp [k3]
    have g3 : ((bt s i : Int) == 101) = true := by simp [k3]
    have K1 : Hid (bt s i = 101) := k3
    clear k1 k2 k3
    go_wp2_with fail
    have hp := place_one (Or.inr (Or.inr K1.out))
    refine bodyPost_ret (v := .tuple #[.agg #[.bool false, .int .i64 6, .int .u8 0, .int .i64 0, .int .i64 0], .bool true]) (by simp [results, Tryz.results225, go_sem]) rfl (Or.inl ⟨false, 6, 0, 0, 0, i + 1, rfl, ((((h.at0.alloc _).drewN _).setAt hp.2.1 (by omega)).set5 hb (Nat.le_refl _) _ _ _ _ _), ?_⟩)
    exact ⟨hp.1, hp.2.1, by unfold placeOf; rw [K1.out]; rfl, by decide, by decide, by rw [if_neg hp.2.2.1], hp.2.2.2⟩
  have g1 : ((bt s i : Int) == 102) = false := by simp; omega
  have g2 : ((bt s i : Int) == 108) = false := by simp; omega
  have g3 : ((bt s i : Int) == 101) = false := by simp; omega
  by_cases k4 : bt s i = 110
  · have g4 : ((bt s i : Int) == 110) = true := by simp [k4]
    have K1 : Hid (bt s i = 110) := k4
    clear k1 k2 k3 k4
    have hp := place_n K1.out
    have HP : Hid (Sim s 5 i 6 (i + 1)) := hp.1
    have hlt := hp.2
    clear hp
    go_wp2_with fail
    have ha := ((h.at0.alloc (Obj.cells #[Value.bool false, Value.int IntKind.i64 0, Value.int IntKind.u8 0, Value.int IntKind.i64 0, Value.int IntKind.i64 0] 192)).drewN n1).setAt (j := i + 1) (v := (i : Int) + 1) (by omega) (by omega)
    refine (nthPart_any _ b s (i + 1) m (by exact ha.rd)).mono ?_
    rintro e w2 (⟨st, sr, rfl, ha2, hf2⟩ | ⟨kd, st, sr, j, rfl, ha2, hf2⟩)
    · have ha3 := ha.trans ha2
      obtain ⟨hc, hz⟩ := ha2.cells w.heap.size (by simp [World.setCell]) (by omega)
      go_wp2_with fail
      refine bodyPost_ret (v := .tuple #[.agg #[.bool false, .int .i64 7, .int .u8 0, .int .i64 st, .int .i64 sr], .bool true]) (by simp [results, Tryz.results225, go_sem, hc]) rfl (Or.inl ⟨false, 7, 0, st, sr, i + 3, rfl, ha3.set5 hb (Nat.le_refl _) _ _ _ _ _, ?_⟩)
      exact ⟨HP.out.trans hf2.out.1, hf2.out.2.1, by unfold placeOf; rw [K1.out, hf2.out.2.2.2.1, hf2.out.2.2.2.2]; rfl, by show (4 : Int) ≤ 7; decide, by show (7 : Int) ≤ 7; decide, by rw [if_pos K1.out], (Plain.one (plain_of (by have := K1.out; omega))).cat hf2.out.2.2.1⟩
    · have ha3 := ha.trans ha2
      obtain ⟨hc, hz⟩ := ha2.cells w.heap.size (by simp [World.setCell]) (by omega)
      go_wp2_with fail
      refine bodyPost_ret (v := .tuple #[.agg #[.bool false, .int .i64 kd, .int .u8 0, .int .i64 st, .int .i64 sr], .bool false]) (by simp [results, Tryz.results225, go_sem, hc]) rfl (Or.inr ⟨false, kd, 0, st, sr, j, rfl, ha3.set5 hb (Nat.le_refl _) _ _ _ _ _, ?_⟩)
      exact HP.out.bad hf2.out
  · have g4 : ((bt s i : Int) == 110) = false := by simp; omega
    have HB : Hid (Bad s 5 i i) := place_no k1 k2 k3 k4
    clear k1 k2 k3 k4
    go_wp2_with fail
    refine bodyPost_ret (v := .tuple #[.agg #[.bool false, .int .i64 0, .int .u8 0, .int .i64 0, .int .i64 0], .bool false]) (by simp [results, Tryz.results225, go_sem]) rfl (Or.inr ⟨false, 0, 0, 0, 0, i, rfl, (((h.at0.alloc _).drewN _).set5 hb (Nat.le_refl _) _ _ _ _ _), HB.out⟩)

end Go.Proofs.YtblfffbmklkhmaaGreat
