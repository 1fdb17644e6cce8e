/- The reader's small steps: one byte of a kind. Own work. -/
import Derived.Test.YtblfffbmklkhmaaGreatTake
namespace Go.Proofs.YtblfffbmklkhmaaGreat
open Go.RowKit

theorem At.trans {w w1 w2 : World} {b : Nat} {s : ByteArray} {j k : Nat} {m n : Int} (h : At w w1 b s j m) (h2 : At w1 w2 b s k n) : At w w2 b s k n := ⟨h2.rd, gb_trans h.gb h2.gb⟩
theorem At.drewN {w w1 : World} {b : Nat} {s : ByteArray} {j : Nat} {m : Int} (h : At w w1 b s j m) (n : Nat) : At w (w1.drewN n) b s j m := ⟨h.rd.drewN n, gb_drewN h.gb n⟩
theorem At.drew {w w1 : World} {b : Nat} {s : ByteArray} {j : Nat} {m : Int} (h : At w w1 b s j m) : At w w1.drew b s j m := ⟨h.rd.drew, gb_drew h.gb⟩
theorem Rd.at0 {w : World} {b : Nat} {s : ByteArray} {j : Nat} {m : Int} (h : Rd w b s j m) : At w w b s j m := ⟨h, gb_refl _ _⟩
theorem At.setAt {w w1 : World} {b : Nat} {s : ByteArray} {i j : Nat} {m : Int} (h : At w w1 b s i m) (hj : j ≤ s.size) {v : Int} (hv : v = j) : At w (w1.setCell ⟨b, 1, none⟩ (.int .i64 v)) b s j m := ⟨h.rd.setAt hj hv, gb_set h.gb _ _⟩
theorem Rd.alloc {w : World} {b : Nat} {s : ByteArray} {i : Nat} {m : Int} (h : Rd w b s i m) (o : Obj) : Rd (w.alloc o) b s i m := ⟨(Below.heap_alloc w o b h.lt).trans h.blk, h.le, h.top, h.lo, h.hi⟩
theorem At.alloc {w w1 : World} {b : Nat} {s : ByteArray} {j : Nat} {m : Int} (h : At w w1 b s j m) (o : Obj) : At w (w1.alloc o) b s j m := ⟨h.rd.alloc o, gb_alloc h.gb o⟩

set_option maxHeartbeats 400000 in
theorem take_any (w : World) (b : Nat) (s : ByteArray) (i : Nat) (m : Int) (lo : Int) (h : Rd w b s i m) (hlo : 1 ≤ lo) :
    Calls Tryz.prog 177 #[.pointer (some ⟨b, 0, none⟩), .int .u8 lo] w fun e w' =>
      (e = .returned (.bool true) ∧ At w w' b s (i + 1) m ∧ Hid ((bt s i : Int) = lo ∧ i < s.size)) ∨ (e = .returned (.bool false) ∧ At w w' b s i m ∧ Hid ((bt s i : Int) ≠ lo)) := by
  go_enter Tryz.func177, Tryz.ntmps177
  go_wp2_with fail
  refine (takeBetween_any _ b s i m lo lo (by exact h) hlo).mono ?_
  rintro e w1 (⟨rfl, ha, hf⟩ | ⟨rfl, ha, hf⟩)
  · go_wp2_with fail
    go_ret
    exact Or.inl ⟨rfl, ha, (by unfold Hid at *; omega)⟩
  · go_wp2_with fail
    go_ret
    exact Or.inr ⟨rfl, ha, (by unfold Hid at *; omega)⟩

set_option maxHeartbeats 400000 in
theorem letter_any (w : World) (b : Nat) (s : ByteArray) (i : Nat) (m : Int) (h : Rd w b s i m) :
    Calls Tryz.prog 205 #[.pointer (some ⟨b, 0, none⟩)] w fun e w' =>
      (e = .returned (.tuple #[.int .u8 (bt s i), .bool true]) ∧ At w w' b s (i + 1) m ∧ Hid (isL (bt s i) = true ∧ i < s.size)) ∨
      (e = .returned (.tuple #[.int .u8 0, .bool false]) ∧ At w w' b s i m ∧ Hid (isL (bt s i) = false)) := by
  go_enter Tryz.func205, Tryz.ntmps205
  go_wp2_with fail
  refine (takeBetween_any _ b s i m 97 122 (by exact h) (by decide)).mono ?_
  rintro e w1 (⟨rfl, ha, hf⟩ | ⟨rfl, ha, hf⟩)
  · go_wp2_with fail
    go_ret2
    exact Or.inl ⟨rfl, ha, (by unfold Hid at *; simp only [isL, decide_eq_true_eq]; omega)⟩
  · go_wp2_with fail
    go_ret2
    exact Or.inr ⟨rfl, ha, (by unfold Hid at *; simp only [isL, decide_eq_false_iff_not]; omega)⟩

set_option maxHeartbeats 400000 in
theorem variable_any (w : World) (b : Nat) (s : ByteArray) (i : Nat) (m : Int) (h : Rd w b s i m) :
    Calls Tryz.prog 214 #[.pointer (some ⟨b, 0, none⟩)] w fun e w' =>
      (e = .returned (.tuple #[.int .u8 (bt s i), .bool true]) ∧ At w w' b s (i + 1) m ∧ Hid (isV (bt s i) = true ∧ i < s.size)) ∨
      (e = .returned (.tuple #[.int .u8 0, .bool false]) ∧ At w w' b s i m ∧ Hid (isV (bt s i) = false)) := by
  go_enter Tryz.func214, Tryz.ntmps214
  go_wp2_with fail
  refine (takeBetween_any _ b s i m 88 90 (by exact h) (by decide)).mono ?_
  rintro e w1 (⟨rfl, ha, hf⟩ | ⟨rfl, ha, hf⟩)
  · go_wp2_with fail
    go_ret2
    exact Or.inl ⟨rfl, ha, (by unfold Hid at *; simp only [isV, decide_eq_true_eq]; omega)⟩
  · go_wp2_with fail
    go_ret2
    exact Or.inr ⟨rfl, ha, (by unfold Hid at *; simp only [isV, decide_eq_false_iff_not]; omega)⟩

set_option maxHeartbeats 400000 in
theorem property_any (w : World) (b : Nat) (s : ByteArray) (i : Nat) (m : Int) (h : Rd w b s i m) :
    Calls Tryz.prog 207 #[.pointer (some ⟨b, 0, none⟩)] w fun e w' =>
      (e = .returned (.tuple #[.int .u8 (bt s i), .bool true]) ∧ At w w' b s (i + 1) m ∧ Hid (isP (bt s i) = true ∧ i < s.size)) ∨
      (e = .returned (.tuple #[.int .u8 0, .bool false]) ∧ At w w' b s i m ∧ Hid (isP (bt s i) = false)) := by
  go_enter Tryz.func207, Tryz.ntmps207
  go_wp2_with fail
  refine (takeBetween_any _ b s i m 65 70 (by exact h) (by decide)).mono ?_
  rintro e w1 (⟨rfl, ha, hf⟩ | ⟨rfl, ha, hf⟩)
  · go_wp2_with fail
    go_ret2
    exact Or.inl ⟨rfl, ha, (by unfold Hid at *; simp only [isP, isV, Bool.or_eq_true, decide_eq_true_eq]; omega)⟩
  · go_wp2_with fail
    refine (variable_any _ b s i m (by exact ha.rd)).mono ?_
    rintro e w2 (⟨rfl, ha', hf'⟩ | ⟨rfl, ha', hf'⟩)
    · go_wp2_with fail
      go_ret2
      exact Or.inl ⟨rfl, ha.trans ha', (by unfold Hid at *; simp only [isP, hf'.1, Bool.or_true]; exact ⟨trivial, hf'.2⟩)⟩
    · go_wp2_with fail
      go_ret2
      exact Or.inr ⟨rfl, ha.trans ha', (by unfold Hid at *; simp only [isP, hf', Bool.or_false, decide_eq_false_iff_not]; omega)⟩

set_option maxHeartbeats 400000 in
theorem digit_any (w : World) (b : Nat) (s : ByteArray) (i : Nat) (m : Int) (h : Rd w b s i m) :
    Calls Tryz.prog 178 #[.pointer (some ⟨b, 0, none⟩)] w fun e w' =>
      (e = .returned (.tuple #[.int .i64 ((bt s i : Int) - 48), .bool true]) ∧ At w w' b s (i + 1) m ∧ Hid (isD (bt s i) = true ∧ i < s.size)) ∨
      (e = .returned (.tuple #[.int .i64 0, .bool false]) ∧ At w w' b s i m ∧ Hid (isD (bt s i) = false)) := by
  go_enter Tryz.func178, Tryz.ntmps178
  go_wp2_with fail
  refine (takeBetween_any _ b s i m 48 57 (by exact h) (by decide)).mono ?_
  rintro e w1 (⟨rfl, ha, hf⟩ | ⟨rfl, ha, hf⟩)
  · have hlo : 48 ≤ (bt s i : Int) := hf.out.1
    have hhi : (bt s i : Int) ≤ 57 := hf.out.2.1
    go_wp2_with fail
    go_ret2
    exact Or.inl ⟨rfl, ha, (by unfold Hid at *; simp only [isD, decide_eq_true_eq]; omega)⟩
  · go_wp2_with fail
    go_ret2
    exact Or.inr ⟨rfl, ha, (by unfold Hid at *; simp only [isD, decide_eq_false_iff_not]; omega)⟩

theorem sgn_of {c : Nat} (h : ((c : Int) == 32) = true ∨ ((c : Int) == 62) = true ∨ ((c : Int) == 43) = true ∨ ((c : Int) == 126) = true) : isS c = true := by
  simp only [beq_iff_eq] at h; simp only [isS, decide_eq_true_eq]; omega
theorem sgn_not {c : Nat} (h1 : ((c : Int) == 32) = false) (h2 : ((c : Int) == 62) = false) (h3 : ((c : Int) == 43) = false) (h4 : ((c : Int) == 126) = false) : isS c = false := by
  simp only [beq_eq_false_iff_ne] at h1 h2 h3 h4; simp only [isS, decide_eq_false_iff_not]; omega

set_option maxHeartbeats 400000 in
theorem sign_any (w : World) (b : Nat) (s : ByteArray) (i : Nat) (m : Int) (h : Rd w b s i m) :
    Calls Tryz.prog 193 #[.pointer (some ⟨b, 0, none⟩)] w fun e w' =>
      (e = .returned (.tuple #[.int .u8 (bt s i), .bool true]) ∧ At w w' b s (i + 1) m ∧ Hid (isS (bt s i) = true ∧ i < s.size)) ∨
      (e = .returned (.tuple #[.int .u8 0, .bool false]) ∧ At w w' b s i m ∧ Hid (isS (bt s i) = false)) := by
  have c1 := h.c1
  have f1 := h.fr 1
  have hle := h.le
  have htop := h.top
  have hsz : isS (bt s i) = true → i < s.size := by
    intro e
    by_cases hi : i < s.size
    · exact hi
    · rw [bt_end s i (by omega)] at e; simp [isS] at e
  have HZ : Hid (isS (bt s i) = true → i < s.size) := hsz
  clear hsz
  go_enter Tryz.func193, Tryz.ntmps193
  go_wp2_with fail
  refine (peek_any _ b s i m (by exact h)).mono ?_
  rintro e w1 ⟨rfl, n1, rfl⟩
  go_wp2_with fail
  all_goals go_ret2
  · exact Or.inl ⟨rfl, At.setAt (h.at0.drewN _) (by have := HZ.out (sgn_of (Or.inl ‹_›)); omega) (by omega), ⟨sgn_of (Or.inl ‹_›), HZ.out (sgn_of (Or.inl ‹_›))⟩⟩
  · exact Or.inl ⟨rfl, At.setAt (h.at0.drewN _) (by have := HZ.out (sgn_of (Or.inr (Or.inl ‹_›))); omega) (by omega), ⟨sgn_of (Or.inr (Or.inl ‹_›)), HZ.out (sgn_of (Or.inr (Or.inl ‹_›)))⟩⟩
  · exact Or.inl ⟨rfl, At.setAt (h.at0.drewN _) (by have := HZ.out (sgn_of (Or.inr (Or.inr (Or.inl ‹_›)))); omega) (by omega), ⟨sgn_of (Or.inr (Or.inr (Or.inl ‹_›))), HZ.out (sgn_of (Or.inr (Or.inr (Or.inl ‹_›))))⟩⟩
  · exact Or.inl ⟨rfl, At.setAt (h.at0.drewN _) (by have := HZ.out (sgn_of (Or.inr (Or.inr (Or.inr ‹_›)))); omega) (by omega), ⟨sgn_of (Or.inr (Or.inr (Or.inr ‹_›))), HZ.out (sgn_of (Or.inr (Or.inr (Or.inr ‹_›))))⟩⟩
  · exact Or.inr ⟨rfl, h.at0.drewN _, sgn_not ‹_› ‹_› ‹_› ‹_›⟩

theorem ahd_of {c : Nat} (h : ((c : Int) == 46) = true ∨ ((c : Int) == 35) = true ∨ ((c : Int) == 58) = true ∨ ((c : Int) == 33) = true) : isA c = true := by
  simp only [beq_iff_eq] at h; simp only [isA, decide_eq_true_eq]; omega
theorem ahd_not {c : Nat} (h1 : ((c : Int) == 46) = false) (h2 : ((c : Int) == 35) = false) (h3 : ((c : Int) == 58) = false) (h4 : ((c : Int) == 33) = false) : isA c = false := by
  simp only [beq_eq_false_iff_ne] at h1 h2 h3 h4; simp only [isA, decide_eq_false_iff_not]; omega

set_option maxHeartbeats 400000 in
theorem partAhead_any (w : World) (b : Nat) (s : ByteArray) (i : Nat) (m : Int) (h : Rd w b s i m) :
    Calls Tryz.prog 212 #[.pointer (some ⟨b, 0, none⟩)] w fun e w' =>
      e = .returned (.bool (isA (bt s i))) ∧ At w w' b s i m := by
  go_enter Tryz.func212, Tryz.ntmps212
  go_wp2_with fail
  refine (peek_any _ b s i m (by exact h)).mono ?_
  rintro e w1 ⟨rfl, n1, rfl⟩
  go_wp2_with fail
  all_goals go_ret
  · exact ⟨by rw [ahd_of (Or.inl ‹_›)]; rfl, h.at0.drewN _⟩
  · exact ⟨by rw [ahd_of (Or.inr (Or.inl ‹_›))]; rfl, h.at0.drewN _⟩
  · exact ⟨by rw [ahd_of (Or.inr (Or.inr (Or.inl ‹_›)))]; rfl, h.at0.drewN _⟩
  · exact ⟨by rw [ahd_of (Or.inr (Or.inr (Or.inr ‹_›)))]; rfl, h.at0.drewN _⟩
  · exact ⟨by rw [ahd_not ‹_› ‹_› ‹_› ‹_›]; rfl, h.at0.drewN _⟩

end Go.Proofs.YtblfffbmklkhmaaGreat
