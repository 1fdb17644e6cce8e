/- The reader's small steps: what is taken. Own work. -/
import Derived.Test.YtblfffbmklkhmaaGreatLow
namespace Go.Proofs.YtblfffbmklkhmaaGreat
open Go.RowKit

set_option maxHeartbeats 400000 in
theorem noteMany_any (w : World) (b : Nat) (s : ByteArray) (i : Nat) (m : Int) (h : Rd w b s i m) :
    Calls Tryz.prog 123 #[.pointer (some ⟨b, 0, none⟩)] w fun e w' => e = .returned (.tuple #[]) ∧ At w w' b s i (note m i) := by
  have c1 := h.c1
  have c2 := h.c2
  have f2 := h.fr 2
  by_cases hm : m = -1
  · subst hm
    have hd : ((-1 : Int) == -1) = true := rfl
    go_enter Tryz.func123, Tryz.ntmps123
    go_wp2
    go_end0
    exact ⟨rfl, by simpa [note] using h.setMany, gb_set (gb_refl _ _) _ _⟩
  · have hd : (m == -1) = false := by simp [hm]
    go_enter Tryz.func123, Tryz.ntmps123
    go_wp2
    go_end0
    exact ⟨rfl, by simpa [note, hm] using h, gb_refl _ _⟩

set_option maxHeartbeats 400000 in
theorem takeBetween_any (w : World) (b : Nat) (s : ByteArray) (i : Nat) (m : Int) (lo hi : Int) (h : Rd w b s i m) (hlo : 1 ≤ lo) :
    Calls Tryz.prog 191 #[.pointer (some ⟨b, 0, none⟩), .int .u8 lo, .int .u8 hi] w fun e w' =>
      (e = .returned (.tuple #[.int .u8 (bt s i), .bool true]) ∧ At w w' b s (i + 1) m ∧ Hid (lo ≤ (bt s i : Int) ∧ (bt s i : Int) ≤ hi ∧ i < s.size)) ∨
        (e = .returned (.tuple #[.int .u8 0, .bool false]) ∧ At w w' b s i m ∧ Hid (¬ (lo ≤ (bt s i : Int) ∧ (bt s i : Int) ≤ hi))) := by
  have c1 := h.c1
  have f1 := h.fr 1
  have hle := h.le
  have htop := h.top
  have hb := bt_lt s i
  by_cases hlt : i < s.size
  · have hd : decide (s.size ≤ i) = false := by simpa using hlt
    by_cases h1 : lo ≤ (bt s i : Int)
    · by_cases h2 : (bt s i : Int) ≤ hi
      · go_enter Tryz.func191, Tryz.ntmps191
        go_wp2_with fail
        refine (ended_any _ b s i m (by exact h)).mono ?_
        rintro e w1 ⟨rfl, n1, rfl⟩
        go_wp2_with fail
        refine (peek_any _ b s i m (by exact h.drewN _)).mono ?_
        rintro e w2 ⟨rfl, n2, rfl⟩
        go_wp2_with fail
        go_ret2
        exact Or.inl ⟨rfl, ⟨(by first | exact ((h.drewN _).drewN _).setAt (by omega) (by omega) | exact (h.drewN _).setAt (by omega) (by omega)), gb_set (by first | exact gb_drewN (gb_drewN (gb_refl _ _) _) _ | exact gb_drewN (gb_refl _ _) _) _ _⟩, ⟨h1, h2, hlt⟩⟩
      · go_enter Tryz.func191, Tryz.ntmps191
        go_wp2_with fail
        refine (ended_any _ b s i m (by exact h)).mono ?_
        rintro e w1 ⟨rfl, n1, rfl⟩
        go_wp2_with fail
        refine (peek_any _ b s i m (by exact h.drewN _)).mono ?_
        rintro e w2 ⟨rfl, n2, rfl⟩
        go_wp2_with fail
        go_ret2
        exact Or.inr ⟨rfl, ⟨(by first | exact ((h.drewN _).drewN _) | exact (h.drewN _)), (by first | exact gb_drewN (gb_drewN (gb_refl _ _) _) _ | exact gb_drewN (gb_refl _ _) _)⟩, (by unfold Hid; omega)⟩
    · go_enter Tryz.func191, Tryz.ntmps191
      go_wp2_with fail
      refine (ended_any _ b s i m (by exact h)).mono ?_
      rintro e w1 ⟨rfl, n1, rfl⟩
      go_wp2_with fail
      refine (peek_any _ b s i m (by exact h.drewN _)).mono ?_
      rintro e w2 ⟨rfl, n2, rfl⟩
      go_wp2_with fail
      go_ret2
      exact Or.inr ⟨rfl, ⟨(by first | exact ((h.drewN _).drewN _) | exact (h.drewN _)), (by first | exact gb_drewN (gb_drewN (gb_refl _ _) _) _ | exact gb_drewN (gb_refl _ _) _)⟩, (by unfold Hid; omega)⟩
  · have hd : s.size ≤ i := by omega
    have h0 := bt_end s i hd
    have h0' : ¬ (lo ≤ (bt s i : Int) ∧ (bt s i : Int) ≤ hi) := by omega
    clear h0
    go_enter Tryz.func191, Tryz.ntmps191
    go_wp2_with fail
    refine (ended_any _ b s i m (by exact h)).mono ?_
    rintro e w1 ⟨rfl, n1, rfl⟩
    go_wp2_with fail
    go_ret2
    exact Or.inr ⟨rfl, ⟨h.drewN _, gb_drewN (gb_refl _ _) _⟩, h0'⟩

end Go.Proofs.YtblfffbmklkhmaaGreat
