/- The document's answer: its small steps. Own work. -/
import Derived.Test.YtblfffbmklkhmaaGreatBase
import Derived.Test.YtblfffbmklkhmaaGreatAuto
import Derived.Deep.LoopGhost
namespace Go.Proofs.YtblfffbmklkhmaaGreat
open Go.RowKit

set_option maxHeartbeats 400000 in
theorem in_L (w : World) (c : Nat) : Calls Tryz.prog 198 #[.int .u8 c, .int .u8 97, .int .u8 122] w fun e w' => e = .returned (.bool (isL c)) ∧ w' = w := by
  by_cases h1 : (97 : Int) ≤ c
  · by_cases h2 : (c : Int) ≤ 122
    · have HR : Hid (isL c = true) := by simp only [Hid, isL, decide_eq_true_eq]; omega
      go_enter Tryz.func198, Tryz.ntmps198
      go_wp2
      go_ret
      rw [HR.out]
      exact ⟨by simp, rfl⟩
    · have HR : Hid (isL c = false) := by simp only [Hid, isL, decide_eq_false_iff_not]; omega
      have hd : decide ((c : Int) ≤ 122) = false := by simpa using h2
      go_enter Tryz.func198, Tryz.ntmps198
      go_wp2
      go_ret
      rw [HR.out]
      exact ⟨by simp, rfl⟩
  · have HR : Hid (isL c = false) := by simp only [Hid, isL, decide_eq_false_iff_not]; omega
    have hd : decide ((97 : Int) ≤ c) = false := by simpa using h1
    go_enter Tryz.func198, Tryz.ntmps198
    go_wp2
    go_ret
    rw [HR.out]
    exact ⟨by simp, rfl⟩

set_option maxHeartbeats 400000 in
theorem in_D (w : World) (c : Nat) : Calls Tryz.prog 198 #[.int .u8 c, .int .u8 48, .int .u8 57] w fun e w' => e = .returned (.bool (isD c)) ∧ w' = w := by
  by_cases h1 : (48 : Int) ≤ c
  · by_cases h2 : (c : Int) ≤ 57
    · have HR : Hid (isD c = true) := by simp only [Hid, isD, decide_eq_true_eq]; omega
      go_enter Tryz.func198, Tryz.ntmps198
      go_wp2
      go_ret
      rw [HR.out]
      exact ⟨by simp, rfl⟩
    · have HR : Hid (isD c = false) := by simp only [Hid, isD, decide_eq_false_iff_not]; omega
      have hd : decide ((c : Int) ≤ 57) = false := by simpa using h2
      go_enter Tryz.func198, Tryz.ntmps198
      go_wp2
      go_ret
      rw [HR.out]
      exact ⟨by simp, rfl⟩
  · have HR : Hid (isD c = false) := by simp only [Hid, isD, decide_eq_false_iff_not]; omega
    have hd : decide ((48 : Int) ≤ c) = false := by simpa using h1
    go_enter Tryz.func198, Tryz.ntmps198
    go_wp2
    go_ret
    rw [HR.out]
    exact ⟨by simp, rfl⟩

set_option maxHeartbeats 400000 in
theorem when_any (w : World) (b : Bool) (n : Int) : Calls Tryz.prog 199 #[.bool b, .int .i64 n] w fun e w' => e = .returned (.int .i64 (wh b n)) ∧ w' = w := by
  cases b
  all_goals
    go_enter Tryz.func199, Tryz.ntmps199
    go_wp2
    go_ret
    exact ⟨by simp [wh], rfl⟩

set_option maxHeartbeats 400000 in
theorem refpart_any (w : World) (c : Nat) : Calls Tryz.prog 200 #[.int .u8 c] w fun e w' => e = .returned (.int .i64 (partN c)) ∧ w' = w := by
  go_enter Tryz.func200, Tryz.ntmps200
  go_wp2
  all_goals go_ret
  all_goals refine ⟨?_, rfl⟩
  · have h : c = 46 := by have : ((c : Int) == 46) = true := ‹_›; simp only [beq_iff_eq] at this; omega
    subst h; rfl
  · have h : c = 35 := by have : ((c : Int) == 35) = true := ‹_›; simp only [beq_iff_eq] at this; omega
    subst h; rfl
  · have h : c = 58 := by have : ((c : Int) == 58) = true := ‹_›; simp only [beq_iff_eq] at this; omega
    subst h; rfl
  · have h1 : ¬ c = 46 := by have : ((c : Int) == 46) = false := ‹_›; simp only [beq_eq_false_iff_ne] at this; omega
    have h2 : ¬ c = 35 := by have : ((c : Int) == 35) = false := ‹_›; simp only [beq_eq_false_iff_ne] at this; omega
    have h3 : ¬ c = 58 := by have : ((c : Int) == 58) = false := ‹_›; simp only [beq_eq_false_iff_ne] at this; omega
    simp [partN, h1, h2, h3]

set_option maxHeartbeats 400000 in
theorem closing_any (w : World) (c : Nat) : Calls Tryz.prog 201 #[.int .u8 c] w fun e w' => e = .returned (.int .i64 (closeN c)) ∧ w' = w := by
  go_enter Tryz.func201, Tryz.ntmps201
  go_wp2
  all_goals go_ret
  all_goals refine ⟨?_, rfl⟩
  · have h : c = 59 := by have : ((c : Int) == 59) = true := ‹_›; simp only [beq_iff_eq] at this; omega
    subst h; rfl
  · have h : c = 125 := by have : ((c : Int) == 125) = true := ‹_›; simp only [beq_iff_eq] at this; omega
    subst h; rfl
  · have h1 : ¬ c = 59 := by have : ((c : Int) == 59) = false := ‹_›; simp only [beq_eq_false_iff_ne] at this; omega
    have h2 : ¬ c = 125 := by have : ((c : Int) == 125) = false := ‹_›; simp only [beq_eq_false_iff_ne] at this; omega
    simp [closeN, h1, h2]

/-- Does a byte stand in a text? -/
def amg (c : Nat) (s : ByteArray) : Bool := decide (∃ k, k < s.size ∧ bt s k = c)

set_option maxHeartbeats 400000 in
theorem among_any (w : World) (c : Nat) (s : ByteArray) (hs : s.size ≤ maxLen) : Calls Tryz.prog 165 #[.int .u8 c, .string s] w fun e w' => e = .returned (.bool (amg c s)) ∧ w' = w := by
  unfold maxLen at hs
  go_enter Tryz.func165, Tryz.ntmps165
  go_wp2
  go_loop [5] (fun i => ∃ k : Nat, k ≤ s.size ∧ i = .int .i64 k ∧ Hid (∀ j, j < k → bt s j ≠ c)) (fun i => s.size - (intOf i).toNat)
  case atStart => exact ⟨0, Nat.zero_le _, rfl, fun j hj => by omega⟩
  case round =>
    obtain ⟨k, hk, rfl, HN⟩ := hrel
    by_cases hlt : k < s.size
    · by_cases hc : bt s k = c
      · have HC : Hid (amg c s = true) := by unfold Hid amg; simp only [decide_eq_true_eq]; exact ⟨k, hlt, hc⟩
        have he : ((s[k].toNat : Int) == (c : Int)) = true := by rw [← bt_at s k hlt, hc]; simp
        clear hc
        go_wp2
        go_ret
        rw [HC.out]
        exact ⟨by simp, rfl⟩
      · have HN2 : Hid (∀ j, j < k + 1 → bt s j ≠ c) := by
          intro j hj
          by_cases e : j = k
          · rw [e]; exact hc
          · exact HN.out j (by omega)
        have he : ((s[k].toNat : Int) == (c : Int)) = false := by rw [← bt_at s k hlt]; simp; omega
        clear hc
        go_wp2
        go_round
        case rel => exact ⟨k + 1, by omega, by go_num, HN2⟩
        case measure => simp [intOf]; omega
    · have HC : Hid (amg c s = false) := by
        unfold Hid amg
        simp only [decide_eq_false_iff_not]
        rintro ⟨j, h1, h2⟩
        exact HN.out j (by omega) h2
      go_wp2
      go_ret
      rw [HC.out]
      exact ⟨by simp, rfl⟩

end Go.Proofs.YtblfffbmklkhmaaGreat
