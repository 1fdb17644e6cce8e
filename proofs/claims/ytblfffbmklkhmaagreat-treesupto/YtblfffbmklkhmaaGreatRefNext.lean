/- The document's answer: what may come next. Own work. -/
import Derived.Test.YtblfffbmklkhmaaGreatRefSmall
namespace Go.Proofs.YtblfffbmklkhmaaGreat
open Go.RowKit

theorem amg_signs (c : Nat) : amg c { data := #[32, 62, 43, 126, 44] } = (isS c || decide (c = 44)) := by
  rw [Bool.eq_iff_iff]
  simp only [amg, isS, Bool.or_eq_true, decide_eq_true_eq]
  constructor
  · rintro ⟨k, h1, h2⟩
    have h1 : k < 5 := h1
    match k, h1, h2 with
    | 0, _, h2 => have : 32 = c := h2; omega
    | 1, _, h2 => have : 62 = c := h2; omega
    | 2, _, h2 => have : 43 = c := h2; omega
    | 3, _, h2 => have : 126 = c := h2; omega
    | 4, _, h2 => have : 44 = c := h2; omega
  · rintro ((h | h | h | h) | h) <;> subst h
    · exact ⟨0, by decide, rfl⟩
    · exact ⟨1, by decide, rfl⟩
    · exact ⟨2, by decide, rfl⟩
    · exact ⟨3, by decide, rfl⟩
    · exact ⟨4, by decide, rfl⟩
theorem amg_sign4 (c : Nat) : amg c { data := #[32, 62, 43, 126] } = isS c := by
  rw [Bool.eq_iff_iff]
  simp only [amg, isS, decide_eq_true_eq]
  constructor
  · rintro ⟨k, h1, h2⟩
    have h1 : k < 4 := h1
    match k, h1, h2 with
    | 0, _, h2 => have : 32 = c := h2; omega
    | 1, _, h2 => have : 62 = c := h2; omega
    | 2, _, h2 => have : 43 = c := h2; omega
    | 3, _, h2 => have : 126 = c := h2; omega
  · rintro (h | h | h | h) <;> subst h
    · exact ⟨0, by decide, rfl⟩
    · exact ⟨1, by decide, rfl⟩
    · exact ⟨2, by decide, rfl⟩
    · exact ⟨3, by decide, rfl⟩
theorem amg_props (c : Nat) : amg c { data := #[65, 66, 67, 68, 69, 70, 88, 89, 90] } = isP c := by
  rw [Bool.eq_iff_iff]
  simp only [amg, isP, isV, Bool.or_eq_true, decide_eq_true_eq]
  constructor
  · rintro ⟨k, h1, h2⟩
    have h1 : k < 9 := h1
    match k, h1, h2 with
    | 0, _, h2 => have : 65 = c := h2; omega
    | 1, _, h2 => have : 66 = c := h2; omega
    | 2, _, h2 => have : 67 = c := h2; omega
    | 3, _, h2 => have : 68 = c := h2; omega
    | 4, _, h2 => have : 69 = c := h2; omega
    | 5, _, h2 => have : 70 = c := h2; omega
    | 6, _, h2 => have : 88 = c := h2; omega
    | 7, _, h2 => have : 89 = c := h2; omega
    | 8, _, h2 => have : 90 = c := h2; omega
  · intro h
    have : c = 65 ∨ c = 66 ∨ c = 67 ∨ c = 68 ∨ c = 69 ∨ c = 70 ∨ c = 88 ∨ c = 89 ∨ c = 90 := by omega
    rcases this with h | h | h | h | h | h | h | h | h <;> subst h
    · exact ⟨0, by decide, rfl⟩
    · exact ⟨1, by decide, rfl⟩
    · exact ⟨2, by decide, rfl⟩
    · exact ⟨3, by decide, rfl⟩
    · exact ⟨4, by decide, rfl⟩
    · exact ⟨5, by decide, rfl⟩
    · exact ⟨6, by decide, rfl⟩
    · exact ⟨7, by decide, rfl⟩
    · exact ⟨8, by decide, rfl⟩

theorem ret_i {a b : Int} (h : a = b) : Ending.returned (.int .i64 a) = .returned (.int .i64 b) := by rw [h]

set_option maxHeartbeats 1000000 in
theorem selecting_1 (w : World) (c : Nat) : Calls Tryz.prog 186 #[.int .i64 1, .int .u8 c] w fun e w' => e = .returned (.int .i64 (nxt 1 c)) ∧ w' = w := by
  go_enter Tryz.func186, Tryz.ntmps186
  go_wp2_with fail
  refine (in_L _ c).mono ?_
  rintro e w1 ⟨rfl, rfl⟩
  go_wp2_with fail
  refine (in_D _ c).mono ?_
  rintro e w2 ⟨rfl, rfl⟩
  go_wp2_with fail
  refine (when_any _ (isD c) 2).mono ?_
  rintro e w3 ⟨rfl, rfl⟩
  go_wp2_with fail
  go_ret
  exact ⟨ret_i (by simp [nxt]), rfl⟩

set_option maxHeartbeats 1000000 in
theorem selecting_6 (w : World) (c : Nat) : Calls Tryz.prog 186 #[.int .i64 6, .int .u8 c] w fun e w' => e = .returned (.int .i64 (nxt 6 c)) ∧ w' = w := by
  go_enter Tryz.func186, Tryz.ntmps186
  go_wp2_with fail
  refine (in_L _ c).mono ?_
  rintro e w1 ⟨rfl, rfl⟩
  go_wp2_with fail
  refine (in_D _ c).mono ?_
  rintro e w2 ⟨rfl, rfl⟩
  go_wp2_with fail
  refine (when_any _ (isD c) 7).mono ?_
  rintro e w3 ⟨rfl, rfl⟩
  go_wp2_with fail
  go_ret
  exact ⟨ret_i (by simp [nxt]), rfl⟩

set_option maxHeartbeats 1000000 in
theorem selecting_7 (w : World) (c : Nat) : Calls Tryz.prog 186 #[.int .i64 7, .int .u8 c] w fun e w' => e = .returned (.int .i64 (nxt 7 c)) ∧ w' = w := by
  go_enter Tryz.func186, Tryz.ntmps186
  go_wp2_with fail
  refine (in_L _ c).mono ?_
  rintro e w1 ⟨rfl, rfl⟩
  go_wp2_with fail
  refine (in_D _ c).mono ?_
  rintro e w2 ⟨rfl, rfl⟩
  go_wp2_with fail
  refine (when_any _ (isD c) 3).mono ?_
  rintro e w3 ⟨rfl, rfl⟩
  go_wp2_with fail
  go_ret
  exact ⟨ret_i (by simp [nxt]), rfl⟩

set_option maxHeartbeats 1000000 in
theorem selecting_4 (w : World) (c : Nat) : Calls Tryz.prog 186 #[.int .i64 4, .int .u8 c] w fun e w' => e = .returned (.int .i64 (nxt 4 c)) ∧ w' = w := by
  go_enter Tryz.func186, Tryz.ntmps186
  go_wp2_with fail
  refine (in_L _ c).mono ?_
  rintro e w1 ⟨rfl, rfl⟩
  go_wp2_with fail
  refine (in_D _ c).mono ?_
  rintro e w2 ⟨rfl, rfl⟩
  go_wp2_with fail
  refine (when_any _ (isL c) 3).mono ?_
  rintro e w3 ⟨rfl, rfl⟩
  go_wp2_with fail
  go_ret
  exact ⟨ret_i (by simp [nxt]), rfl⟩

set_option maxHeartbeats 1000000 in
theorem selecting_8 (w : World) (c : Nat) : Calls Tryz.prog 186 #[.int .i64 8, .int .u8 c] w fun e w' => e = .returned (.int .i64 (nxt 8 c)) ∧ w' = w := by
  cases hL : isL c
  · have HL : Hid (isL c = false) := hL
    go_enter Tryz.func186, Tryz.ntmps186
    go_wp2_with fail
    refine (in_L _ c).mono ?_
    rw [hL]
    clear hL
    rintro e w1 ⟨rfl, rfl⟩
    go_wp2_with fail
    refine (in_D _ c).mono ?_
    rintro e w2 ⟨rfl, rfl⟩
    go_wp2_with fail
    refine (refpart_any _ c).mono ?_
    rintro e w3 ⟨rfl, rfl⟩
    go_wp2_with fail
    go_ret
    exact ⟨ret_i (by simp [nxt, HL.out]), rfl⟩
  · have HL : Hid (isL c = true) := hL
    go_enter Tryz.func186, Tryz.ntmps186
    go_wp2_with fail
    refine (in_L _ c).mono ?_
    rw [hL]
    clear hL
    rintro e w1 ⟨rfl, rfl⟩
    go_wp2_with fail
    refine (in_D _ c).mono ?_
    rintro e w2 ⟨rfl, rfl⟩
    go_wp2_with fail
    go_ret
    exact ⟨ret_i (by simp [nxt, HL.out]), rfl⟩

set_option maxHeartbeats 1000000 in
theorem selecting_2 (w : World) (c : Nat) : Calls Tryz.prog 186 #[.int .i64 2, .int .u8 c] w fun e w' => e = .returned (.int .i64 (nxt 2 c)) ∧ w' = w := by
  by_cases h42 : c = 42
  · subst h42
    have g42 : ((42 : Int) == 42) = true := rfl
    go_enter Tryz.func186, Tryz.ntmps186
    go_wp2_with fail
    refine (in_L _ 42).mono ?_
    rintro e w1 ⟨rfl, rfl⟩
    go_wp2_with fail
    refine (in_D _ 42).mono ?_
    rintro e w2 ⟨rfl, rfl⟩
    have hL : isL 42 = false := by decide
    rw [hL]
    go_wp2_with fail
    go_ret
    exact ⟨ret_i (by simp [nxt, compN]), rfl⟩
  have g42 : ((c : Int) == 42) = false := by simp; omega
  cases hL : isL c
  · have HL : Hid (isL c = false) := hL
    by_cases h33 : c = 33
    · have g33 : ((c : Int) == 33) = true := by simp [h33]
      have H33 : Hid (c = 33) := h33
      clear h33 h42
      go_enter Tryz.func186, Tryz.ntmps186
      go_wp2_with fail
      refine (in_L _ c).mono ?_
      rw [hL]
      clear hL
      rintro e w1 ⟨rfl, rfl⟩
      go_wp2_with fail
      refine (in_D _ c).mono ?_
      rintro e w2 ⟨rfl, rfl⟩
      go_wp2_with fail
      go_ret
      exact ⟨ret_i (by simp [nxt, compN, H33.out, isL]), rfl⟩
    · have g33 : ((c : Int) == 33) = false := by simp; omega
      have H33 : Hid (¬ c = 33) := h33
      have H42 : Hid (¬ c = 42) := h42
      clear h33 h42
      go_enter Tryz.func186, Tryz.ntmps186
      go_wp2_with fail
      refine (in_L _ c).mono ?_
      rw [hL]
      clear hL
      rintro e w1 ⟨rfl, rfl⟩
      go_wp2_with fail
      refine (in_D _ c).mono ?_
      rintro e w2 ⟨rfl, rfl⟩
      go_wp2_with fail
      refine (among_any _ c _ (by decide)).mono ?_
      rintro e w3 ⟨rfl, rfl⟩
      go_wp2_with fail
      refine (refpart_any _ c).mono ?_
      rintro e w4 ⟨rfl, rfl⟩
      go_wp2_with fail
      go_ret
      exact ⟨ret_i (by simp [nxt, compN, HL.out, H33.out, H42.out]), rfl⟩
  · have HL : Hid (isL c = true) := hL
    go_enter Tryz.func186, Tryz.ntmps186
    go_wp2_with fail
    refine (in_L _ c).mono ?_
    rw [hL]
    clear hL
    rintro e w1 ⟨rfl, rfl⟩
    go_wp2_with fail
    refine (in_D _ c).mono ?_
    rintro e w2 ⟨rfl, rfl⟩
    go_wp2_with fail
    go_ret
    exact ⟨ret_i (by simp [nxt, compN, HL.out]), rfl⟩

set_option maxHeartbeats 1000000 in
theorem selecting_3 (w : World) (c : Nat) : Calls Tryz.prog 186 #[.int .i64 3, .int .u8 c] w fun e w' => e = .returned (.int .i64 (nxt 3 c)) ∧ w' = w := by
  by_cases h33 : c = 33
  · have g33 : ((c : Int) == 33) = true := by simp [h33]
    have H33 : Hid (c = 33) := h33
    clear h33
    go_enter Tryz.func186, Tryz.ntmps186
    go_wp2_with fail
    refine (in_L _ c).mono ?_
    rintro e w1 ⟨rfl, rfl⟩
    go_wp2_with fail
    refine (in_D _ c).mono ?_
    rintro e w2 ⟨rfl, rfl⟩
    go_wp2_with fail
    go_ret
    exact ⟨ret_i (by simp [nxt, moreN, H33.out]), rfl⟩
  have g33 : ((c : Int) == 33) = false := by simp; omega
  have H33 : Hid (¬ c = 33) := h33
  clear h33
  have HA : Hid (amg c { data := #[32, 62, 43, 126, 44] } = (isS c || decide (c = 44))) := amg_signs c
  cases hS : amg c { data := #[32, 62, 43, 126, 44] }
  · have HS : Hid ((isS c || decide (c = 44)) = false) := by rw [← HA.out]; exact hS
    by_cases h123 : c = 123
    · have g123 : ((c : Int) == 123) = true := by simp [h123]
      have H123 : Hid (c = 123) := h123
      clear h123
      go_enter Tryz.func186, Tryz.ntmps186
      go_wp2_with fail
      refine (in_L _ c).mono ?_
      rintro e w1 ⟨rfl, rfl⟩
      go_wp2_with fail
      refine (in_D _ c).mono ?_
      rintro e w2 ⟨rfl, rfl⟩
      go_wp2_with fail
      refine (among_any _ c _ (by decide)).mono ?_
      rw [hS]
      clear hS
      rintro e w3 ⟨rfl, rfl⟩
      go_wp2_with fail
      go_ret
      exact ⟨ret_i (by simp [nxt, moreN, H123.out, isS]), rfl⟩
    · have g123 : ((c : Int) == 123) = false := by simp; omega
      have H123 : Hid (¬ c = 123) := h123
      clear h123
      go_enter Tryz.func186, Tryz.ntmps186
      go_wp2_with fail
      refine (in_L _ c).mono ?_
      rintro e w1 ⟨rfl, rfl⟩
      go_wp2_with fail
      refine (in_D _ c).mono ?_
      rintro e w2 ⟨rfl, rfl⟩
      go_wp2_with fail
      refine (among_any _ c _ (by decide)).mono ?_
      rw [hS]
      clear hS
      rintro e w3 ⟨rfl, rfl⟩
      go_wp2_with fail
      refine (refpart_any _ c).mono ?_
      rintro e w4 ⟨rfl, rfl⟩
      go_wp2_with fail
      go_ret
      have hs := HS.out
      simp only [Bool.or_eq_false_iff, decide_eq_false_iff_not] at hs
      exact ⟨ret_i (by simp [nxt, moreN, H123.out, H33.out, hs.1, hs.2]), rfl⟩
  · have HS : Hid ((isS c || decide (c = 44)) = true) := by rw [← HA.out]; exact hS
    go_enter Tryz.func186, Tryz.ntmps186
    go_wp2_with fail
    refine (in_L _ c).mono ?_
    rintro e w1 ⟨rfl, rfl⟩
    go_wp2_with fail
    refine (in_D _ c).mono ?_
    rintro e w2 ⟨rfl, rfl⟩
    go_wp2_with fail
    refine (among_any _ c _ (by decide)).mono ?_
    rw [hS]
    clear hS
    rintro e w3 ⟨rfl, rfl⟩
    go_wp2_with fail
    go_ret
    have hs := HS.out
    simp only [Bool.or_eq_true, decide_eq_true_eq] at hs
    exact ⟨ret_i (by simp [nxt, moreN, H33.out, hs]), rfl⟩

set_option maxHeartbeats 1000000 in
theorem selecting_5 (w : World) (c : Nat) : Calls Tryz.prog 186 #[.int .i64 5, .int .u8 c] w fun e w' => e = .returned (.int .i64 (nxt 5 c)) ∧ w' = w := by
  by_cases h1 : c = 110
  · have g1 : ((c : Int) == 110) = true := by simp [h1]
    have H1 : Hid (c = 110) := h1
    clear h1
    go_enter Tryz.func186, Tryz.ntmps186
    go_wp2_with fail
    refine (in_L _ c).mono ?_
    rintro e w1 ⟨rfl, rfl⟩
    go_wp2_with fail
    refine (in_D _ c).mono ?_
    rintro e w2 ⟨rfl, rfl⟩
    go_wp2_with fail
    go_ret
    exact ⟨ret_i (by simp [nxt, H1.out]), rfl⟩
  have g1 : ((c : Int) == 110) = false := by simp; omega
  have H1 : Hid (¬ c = 110) := h1
  clear h1
  by_cases h102 : c = 102
  · have g102 : ((c : Int) == 102) = true := by simp [h102]
    have H : Hid (c = 102) := h102
    clear h102
    go_enter Tryz.func186, Tryz.ntmps186
    go_wp2_with fail
    refine (in_L _ c).mono ?_
    rintro e w1 ⟨rfl, rfl⟩
    go_wp2_with fail
    refine (in_D _ c).mono ?_
    rintro e w2 ⟨rfl, rfl⟩
    go_wp2_with fail
    refine (when_any _ true 3).mono ?_
    rintro e w3 ⟨rfl, rfl⟩
    go_wp2_with fail
    go_ret
    exact ⟨ret_i (by simp [nxt, H.out]), rfl⟩
  have g102 : ((c : Int) == 102) = false := by simp; omega
  have H102 : Hid (¬ c = 102) := h102
  clear h102
  by_cases h108 : c = 108
  · have g108 : ((c : Int) == 108) = true := by simp [h108]
    have H : Hid (c = 108) := h108
    clear h108
    go_enter Tryz.func186, Tryz.ntmps186
    go_wp2_with fail
    refine (in_L _ c).mono ?_
    rintro e w1 ⟨rfl, rfl⟩
    go_wp2_with fail
    refine (in_D _ c).mono ?_
    rintro e w2 ⟨rfl, rfl⟩
    go_wp2_with fail
    refine (when_any _ true 3).mono ?_
    rintro e w3 ⟨rfl, rfl⟩
    go_wp2_with fail
    go_ret
    exact ⟨ret_i (by simp [nxt, H.out]), rfl⟩
  have g108 : ((c : Int) == 108) = false := by simp; omega
  have H108 : Hid (¬ c = 108) := h108
  clear h108
  by_cases h101 : c = 101
  · have g101 : ((c : Int) == 101) = true := by simp [h101]
    have H : Hid (c = 101) := h101
    clear h101
    go_enter Tryz.func186, Tryz.ntmps186
    go_wp2_with fail
    refine (in_L _ c).mono ?_
    rintro e w1 ⟨rfl, rfl⟩
    go_wp2_with fail
    refine (in_D _ c).mono ?_
    rintro e w2 ⟨rfl, rfl⟩
    go_wp2_with fail
    refine (when_any _ true 3).mono ?_
    rintro e w3 ⟨rfl, rfl⟩
    go_wp2_with fail
    go_ret
    exact ⟨ret_i (by simp [nxt, H.out]), rfl⟩
  have g101 : ((c : Int) == 101) = false := by simp; omega
  have H101 : Hid (¬ c = 101) := h101
  clear h101
  go_enter Tryz.func186, Tryz.ntmps186
  go_wp2_with fail
  refine (in_L _ c).mono ?_
  rintro e w1 ⟨rfl, rfl⟩
  go_wp2_with fail
  refine (in_D _ c).mono ?_
  rintro e w2 ⟨rfl, rfl⟩
  go_wp2_with fail
  refine (when_any _ false 3).mono ?_
  rintro e w3 ⟨rfl, rfl⟩
  go_wp2_with fail
  go_ret
  exact ⟨ret_i (by simp [nxt, H1.out, H102.out, H108.out, H101.out]), rfl⟩

set_option maxHeartbeats 1000000 in
theorem selecting_0 (w : World) (c : Nat) : Calls Tryz.prog 186 #[.int .i64 0, .int .u8 c] w fun e w' => e = .returned (.int .i64 (nxt 0 c)) ∧ w' = w := by
  by_cases h1 : c = 64
  · have g1 : ((c : Int) == 64) = true := by simp [h1]
    have H1 : Hid (c = 64) := h1
    clear h1
    go_enter Tryz.func186, Tryz.ntmps186
    go_wp2_with fail
    refine (in_L _ c).mono ?_
    rintro e w1 ⟨rfl, rfl⟩
    go_wp2_with fail
    refine (in_D _ c).mono ?_
    rintro e w2 ⟨rfl, rfl⟩
    go_wp2_with fail
    go_ret
    exact ⟨ret_i (by simp [nxt, H1.out]), rfl⟩
  · have g1 : ((c : Int) == 64) = false := by simp; omega
    have H1 : Hid (¬ c = 64) := h1
    clear h1
    go_enter Tryz.func186, Tryz.ntmps186
    go_wp2_with fail
    refine (in_L _ c).mono ?_
    rintro e w1 ⟨rfl, rfl⟩
    go_wp2_with fail
    refine (in_D _ c).mono ?_
    rintro e w2 ⟨rfl, rfl⟩
    go_wp2_with fail
    refine (selecting_2 _ c).mono ?_
    rintro e w3 ⟨rfl, rfl⟩
    go_wp2_with fail
    go_ret
    exact ⟨ret_i (by simp [nxt, H1.out]), rfl⟩


end Go.Proofs.YtblfffbmklkhmaaGreat
