/- The document's answer: what may come next. Own work. -/
import Derived.Test.YtblfffbmklkhmaaGreatRefNext
namespace Go.Proofs.YtblfffbmklkhmaaGreat
open Go.RowKit

set_option maxHeartbeats 1000000 in
theorem declaring_16 (w : World) (c : Nat) : Calls Tryz.prog 187 #[.int .i64 16, .int .u8 c] w fun e w' => e = .returned (.int .i64 (nxt 16 c)) ∧ w' = w := by
  go_enter Tryz.func187, Tryz.ntmps187
  go_wp2_with fail
  refine (in_D _ c).mono ?_
  rintro e w1 ⟨rfl, rfl⟩
  go_wp2_with fail
  refine (among_any _ c _ (by decide)).mono ?_
  rw [amg_props c]
  rintro e w2 ⟨rfl, rfl⟩
  go_wp2_with fail
  refine (closing_any _ c).mono ?_
  rintro e w3 ⟨rfl, rfl⟩
  go_wp2_with fail
  go_ret
  exact ⟨ret_i (by simp [nxt]), rfl⟩

set_option maxHeartbeats 1000000 in
theorem declaring_15 (w : World) (c : Nat) : Calls Tryz.prog 187 #[.int .i64 15, .int .u8 c] w fun e w' => e = .returned (.int .i64 (nxt 15 c)) ∧ w' = w := by
  by_cases h33 : c = 33
  · have g33 : ((c : Int) == 33) = true := by simp [h33]
    have H : Hid (c = 33) := h33
    clear h33
    go_enter Tryz.func187, Tryz.ntmps187
    go_wp2_with fail
    refine (in_D _ c).mono ?_
    rintro e w1 ⟨rfl, rfl⟩
    go_wp2_with fail
    refine (among_any _ c _ (by decide)).mono ?_
    rw [amg_props c]
    rintro e w2 ⟨rfl, rfl⟩
    go_wp2_with fail
    go_ret
    exact ⟨ret_i (by simp [nxt, markN, H.out]), rfl⟩
  have g33 : ((c : Int) == 33) = false := by simp; omega
  have H33 : Hid (¬ c = 33) := h33
  clear h33
  go_enter Tryz.func187, Tryz.ntmps187
  go_wp2_with fail
  refine (in_D _ c).mono ?_
  rintro e w1 ⟨rfl, rfl⟩
  go_wp2_with fail
  refine (among_any _ c _ (by decide)).mono ?_
  rw [amg_props c]
  rintro e w2 ⟨rfl, rfl⟩
  go_wp2_with fail
  refine (closing_any _ c).mono ?_
  rintro e w3 ⟨rfl, rfl⟩
  go_wp2_with fail
  go_ret
  exact ⟨ret_i (by simp [nxt, markN, H33.out]), rfl⟩

set_option maxHeartbeats 1000000 in
theorem declaring_13 (w : World) (c : Nat) : Calls Tryz.prog 187 #[.int .i64 13, .int .u8 c] w fun e w' => e = .returned (.int .i64 (nxt 13 c)) ∧ w' = w := by
  cases hD : isD c
  · have HD : Hid (isD c = false) := hD
    go_enter Tryz.func187, Tryz.ntmps187
    go_wp2_with fail
    refine (in_D _ c).mono ?_
    rw [hD]
    clear hD
    rintro e w1 ⟨rfl, rfl⟩
    go_wp2_with fail
    refine (among_any _ c _ (by decide)).mono ?_
    rw [amg_props c]
    rintro e w2 ⟨rfl, rfl⟩
    go_wp2_with fail
    refine (declaring_15 _ c).mono ?_
    rintro e w3 ⟨rfl, rfl⟩
    go_wp2_with fail
    go_ret
    exact ⟨ret_i (by simp [nxt, HD.out]), rfl⟩
  · have HD : Hid (isD c = true) := hD
    go_enter Tryz.func187, Tryz.ntmps187
    go_wp2_with fail
    refine (in_D _ c).mono ?_
    rw [hD]
    clear hD
    rintro e w1 ⟨rfl, rfl⟩
    go_wp2_with fail
    refine (among_any _ c _ (by decide)).mono ?_
    rw [amg_props c]
    rintro e w2 ⟨rfl, rfl⟩
    go_wp2_with fail
    go_ret
    exact ⟨ret_i (by simp [nxt, HD.out]), rfl⟩

set_option maxHeartbeats 1000000 in
theorem declaring_14 (w : World) (c : Nat) : Calls Tryz.prog 187 #[.int .i64 14, .int .u8 c] w fun e w' => e = .returned (.int .i64 (nxt 14 c)) ∧ w' = w := by
  cases hD : isD c
  · have HD : Hid (isD c = false) := hD
    go_enter Tryz.func187, Tryz.ntmps187
    go_wp2_with fail
    refine (in_D _ c).mono ?_
    rw [hD]
    clear hD
    rintro e w1 ⟨rfl, rfl⟩
    go_wp2_with fail
    refine (among_any _ c _ (by decide)).mono ?_
    rw [amg_props c]
    rintro e w2 ⟨rfl, rfl⟩
    go_wp2_with fail
    refine (declaring_15 _ c).mono ?_
    rintro e w3 ⟨rfl, rfl⟩
    go_wp2_with fail
    go_ret
    exact ⟨ret_i (by simp [nxt, HD.out]), rfl⟩
  · have HD : Hid (isD c = true) := hD
    go_enter Tryz.func187, Tryz.ntmps187
    go_wp2_with fail
    refine (in_D _ c).mono ?_
    rw [hD]
    clear hD
    rintro e w1 ⟨rfl, rfl⟩
    go_wp2_with fail
    refine (among_any _ c _ (by decide)).mono ?_
    rw [amg_props c]
    rintro e w2 ⟨rfl, rfl⟩
    go_wp2_with fail
    go_ret
    exact ⟨ret_i (by simp [nxt, HD.out]), rfl⟩

set_option maxHeartbeats 1000000 in
theorem declaring_10 (w : World) (c : Nat) : Calls Tryz.prog 187 #[.int .i64 10, .int .u8 c] w fun e w' => e = .returned (.int .i64 (nxt 10 c)) ∧ w' = w := by
  go_enter Tryz.func187, Tryz.ntmps187
  go_wp2_with fail
  refine (in_D _ c).mono ?_
  rintro e w1 ⟨rfl, rfl⟩
  go_wp2_with fail
  refine (among_any _ c _ (by decide)).mono ?_
  rw [amg_props c]
  rintro e w2 ⟨rfl, rfl⟩
  go_wp2_with fail
  refine (when_any _ (isP c) 11).mono ?_
  rintro e w3 ⟨rfl, rfl⟩
  go_wp2_with fail
  go_ret
  exact ⟨ret_i (by simp [nxt, propN, wh]), rfl⟩

set_option maxHeartbeats 1000000 in
theorem declaring_9 (w : World) (c : Nat) : Calls Tryz.prog 187 #[.int .i64 9, .int .u8 c] w fun e w' => e = .returned (.int .i64 (nxt 9 c)) ∧ w' = w := by
  by_cases h125 : c = 125
  · have g125 : ((c : Int) == 125) = true := by simp [h125]
    have H : Hid (c = 125) := h125
    clear h125
    go_enter Tryz.func187, Tryz.ntmps187
    go_wp2_with fail
    refine (in_D _ c).mono ?_
    rintro e w1 ⟨rfl, rfl⟩
    go_wp2_with fail
    refine (among_any _ c _ (by decide)).mono ?_
    rw [amg_props c]
    rintro e w2 ⟨rfl, rfl⟩
    go_wp2_with fail
    go_ret
    exact ⟨ret_i (by simp [nxt, H.out]), rfl⟩
  have g125 : ((c : Int) == 125) = false := by simp; omega
  have H125 : Hid (¬ c = 125) := h125
  clear h125
  go_enter Tryz.func187, Tryz.ntmps187
  go_wp2_with fail
  refine (in_D _ c).mono ?_
  rintro e w1 ⟨rfl, rfl⟩
  go_wp2_with fail
  refine (among_any _ c _ (by decide)).mono ?_
  rw [amg_props c]
  rintro e w2 ⟨rfl, rfl⟩
  go_wp2_with fail
  refine (when_any _ (isP c) 11).mono ?_
  rintro e w3 ⟨rfl, rfl⟩
  go_wp2_with fail
  go_ret
  exact ⟨ret_i (by simp [nxt, propN, wh, H125.out]), rfl⟩

set_option maxHeartbeats 1000000 in
theorem declaring_11 (w : World) (c : Nat) : Calls Tryz.prog 187 #[.int .i64 11, .int .u8 c] w fun e w' => e = .returned (.int .i64 (nxt 11 c)) ∧ w' = w := by
  by_cases h58 : c = 58
  · have g58 : ((c : Int) == 58) = true := by simp [h58]
    have H : Hid (c = 58) := h58
    clear h58
    go_enter Tryz.func187, Tryz.ntmps187
    go_wp2_with fail
    refine (in_D _ c).mono ?_
    rintro e w1 ⟨rfl, rfl⟩
    go_wp2_with fail
    refine (among_any _ c _ (by decide)).mono ?_
    rw [amg_props c]
    rintro e w2 ⟨rfl, rfl⟩
    go_wp2_with fail
    refine (when_any _ true 12).mono ?_
    rintro e w3 ⟨rfl, rfl⟩
    go_wp2_with fail
    go_ret
    exact ⟨ret_i (by simp [nxt, H.out]), rfl⟩
  have g58 : ((c : Int) == 58) = false := by simp; omega
  have H58 : Hid (¬ c = 58) := h58
  clear h58
  go_enter Tryz.func187, Tryz.ntmps187
  go_wp2_with fail
  refine (in_D _ c).mono ?_
  rintro e w1 ⟨rfl, rfl⟩
  go_wp2_with fail
  refine (among_any _ c _ (by decide)).mono ?_
  rw [amg_props c]
  rintro e w2 ⟨rfl, rfl⟩
  go_wp2_with fail
  refine (when_any _ false 12).mono ?_
  rintro e w3 ⟨rfl, rfl⟩
  go_wp2_with fail
  go_ret
  exact ⟨ret_i (by simp [nxt, H58.out]), rfl⟩

set_option maxHeartbeats 1000000 in
theorem declaring_17 (w : World) (c : Nat) : Calls Tryz.prog 187 #[.int .i64 17, .int .u8 c] w fun e w' => e = .returned (.int .i64 (nxt 17 c)) ∧ w' = w := by
  by_cases h88 : c = 88
  · have g88 : ((c : Int) == 88) = true := by simp [h88]
    have H : Hid (c = 88) := h88
    clear h88
    go_enter Tryz.func187, Tryz.ntmps187
    go_wp2_with fail
    refine (in_D _ c).mono ?_
    rintro e w1 ⟨rfl, rfl⟩
    go_wp2_with fail
    refine (among_any _ c _ (by decide)).mono ?_
    rw [amg_props c]
    rintro e w2 ⟨rfl, rfl⟩
    go_wp2_with fail
    refine (when_any _ true 15).mono ?_
    rintro e w3 ⟨rfl, rfl⟩
    go_wp2_with fail
    go_ret
    exact ⟨ret_i (by simp [nxt, isV, H.out]), rfl⟩
  have g88 : ((c : Int) == 88) = false := by simp; omega
  have H88 : Hid (¬ c = 88) := h88
  clear h88
  by_cases h89 : c = 89
  · have g89 : ((c : Int) == 89) = true := by simp [h89]
    have H : Hid (c = 89) := h89
    clear h89
    go_enter Tryz.func187, Tryz.ntmps187
    go_wp2_with fail
    refine (in_D _ c).mono ?_
    rintro e w1 ⟨rfl, rfl⟩
    go_wp2_with fail
    refine (among_any _ c _ (by decide)).mono ?_
    rw [amg_props c]
    rintro e w2 ⟨rfl, rfl⟩
    go_wp2_with fail
    refine (when_any _ true 15).mono ?_
    rintro e w3 ⟨rfl, rfl⟩
    go_wp2_with fail
    go_ret
    exact ⟨ret_i (by simp [nxt, isV, H.out]), rfl⟩
  have g89 : ((c : Int) == 89) = false := by simp; omega
  have H89 : Hid (¬ c = 89) := h89
  clear h89
  by_cases h90 : c = 90
  · have g90 : ((c : Int) == 90) = true := by simp [h90]
    have H : Hid (c = 90) := h90
    clear h90
    go_enter Tryz.func187, Tryz.ntmps187
    go_wp2_with fail
    refine (in_D _ c).mono ?_
    rintro e w1 ⟨rfl, rfl⟩
    go_wp2_with fail
    refine (among_any _ c _ (by decide)).mono ?_
    rw [amg_props c]
    rintro e w2 ⟨rfl, rfl⟩
    go_wp2_with fail
    refine (when_any _ true 15).mono ?_
    rintro e w3 ⟨rfl, rfl⟩
    go_wp2_with fail
    go_ret
    exact ⟨ret_i (by simp [nxt, isV, H.out]), rfl⟩
  have g90 : ((c : Int) == 90) = false := by simp; omega
  have H90 : Hid (¬ c = 90) := h90
  clear h90
  go_enter Tryz.func187, Tryz.ntmps187
  go_wp2_with fail
  refine (in_D _ c).mono ?_
  rintro e w1 ⟨rfl, rfl⟩
  go_wp2_with fail
  refine (among_any _ c _ (by decide)).mono ?_
  rw [amg_props c]
  rintro e w2 ⟨rfl, rfl⟩
  go_wp2_with fail
  refine (when_any _ false 15).mono ?_
  rintro e w3 ⟨rfl, rfl⟩
  go_wp2_with fail
  go_ret
  have hv : isV c = false := by have := H88.out; have := H89.out; have := H90.out; simp only [isV, decide_eq_false_iff_not]; omega
  exact ⟨ret_i (by simp [nxt, hv]), rfl⟩

set_option maxHeartbeats 1000000 in
theorem declaring_12 (w : World) (c : Nat) : Calls Tryz.prog 187 #[.int .i64 12, .int .u8 c] w fun e w' => e = .returned (.int .i64 (nxt 12 c)) ∧ w' = w := by
  cases hD : isD c
  · have HD : Hid (isD c = false) := hD
    by_cases h36 : c = 36
    · have g36 : ((c : Int) == 36) = true := by simp [h36]
      have H : Hid (c = 36) := h36
      clear h36
      go_enter Tryz.func187, Tryz.ntmps187
      go_wp2_with fail
      refine (in_D _ c).mono ?_
      rw [hD]
      clear hD
      rintro e w1 ⟨rfl, rfl⟩
      go_wp2_with fail
      refine (among_any _ c _ (by decide)).mono ?_
      rw [amg_props c]
      rintro e w2 ⟨rfl, rfl⟩
      go_wp2_with fail
      go_ret
      exact ⟨ret_i (by simp [nxt, isD, H.out]), rfl⟩
    have g36 : ((c : Int) == 36) = false := by simp; omega
    have H36 : Hid (¬ c = 36) := h36
    clear h36
    by_cases h105 : c = 105
    · have g105 : ((c : Int) == 105) = true := by simp [h105]
      have H : Hid (c = 105) := h105
      clear h105
      go_enter Tryz.func187, Tryz.ntmps187
      go_wp2_with fail
      refine (in_D _ c).mono ?_
      rw [hD]
      clear hD
      rintro e w1 ⟨rfl, rfl⟩
      go_wp2_with fail
      refine (among_any _ c _ (by decide)).mono ?_
      rw [amg_props c]
      rintro e w2 ⟨rfl, rfl⟩
      go_wp2_with fail
      refine (when_any _ true 15).mono ?_
      rintro e w3 ⟨rfl, rfl⟩
      go_wp2_with fail
      go_ret
      exact ⟨ret_i (by simp [nxt, isD, H.out]), rfl⟩
    have g105 : ((c : Int) == 105) = false := by simp; omega
    have H105 : Hid (¬ c = 105) := h105
    clear h105
    by_cases h114 : c = 114
    · have g114 : ((c : Int) == 114) = true := by simp [h114]
      have H : Hid (c = 114) := h114
      clear h114
      go_enter Tryz.func187, Tryz.ntmps187
      go_wp2_with fail
      refine (in_D _ c).mono ?_
      rw [hD]
      clear hD
      rintro e w1 ⟨rfl, rfl⟩
      go_wp2_with fail
      refine (among_any _ c _ (by decide)).mono ?_
      rw [amg_props c]
      rintro e w2 ⟨rfl, rfl⟩
      go_wp2_with fail
      refine (when_any _ true 15).mono ?_
      rintro e w3 ⟨rfl, rfl⟩
      go_wp2_with fail
      go_ret
      exact ⟨ret_i (by simp [nxt, isD, H.out]), rfl⟩
    have g114 : ((c : Int) == 114) = false := by simp; omega
    have H114 : Hid (¬ c = 114) := h114
    clear h114
    by_cases h117 : c = 117
    · have g117 : ((c : Int) == 117) = true := by simp [h117]
      have H : Hid (c = 117) := h117
      clear h117
      go_enter Tryz.func187, Tryz.ntmps187
      go_wp2_with fail
      refine (in_D _ c).mono ?_
      rw [hD]
      clear hD
      rintro e w1 ⟨rfl, rfl⟩
      go_wp2_with fail
      refine (among_any _ c _ (by decide)).mono ?_
      rw [amg_props c]
      rintro e w2 ⟨rfl, rfl⟩
      go_wp2_with fail
      refine (when_any _ true 15).mono ?_
      rintro e w3 ⟨rfl, rfl⟩
      go_wp2_with fail
      go_ret
      exact ⟨ret_i (by simp [nxt, isD, H.out]), rfl⟩
    have g117 : ((c : Int) == 117) = false := by simp; omega
    have H117 : Hid (¬ c = 117) := h117
    clear h117
    go_enter Tryz.func187, Tryz.ntmps187
    go_wp2_with fail
    refine (in_D _ c).mono ?_
    rw [hD]
    clear hD
    rintro e w1 ⟨rfl, rfl⟩
    go_wp2_with fail
    refine (among_any _ c _ (by decide)).mono ?_
    rw [amg_props c]
    rintro e w2 ⟨rfl, rfl⟩
    go_wp2_with fail
    refine (when_any _ false 15).mono ?_
    rintro e w3 ⟨rfl, rfl⟩
    go_wp2_with fail
    go_ret
    exact ⟨ret_i (by simp [nxt, HD.out, H36.out, H105.out, H114.out, H117.out]), rfl⟩
  · have HD : Hid (isD c = true) := hD
    go_enter Tryz.func187, Tryz.ntmps187
    go_wp2_with fail
    refine (in_D _ c).mono ?_
    rw [hD]
    clear hD
    rintro e w1 ⟨rfl, rfl⟩
    go_wp2_with fail
    refine (among_any _ c _ (by decide)).mono ?_
    rw [amg_props c]
    rintro e w2 ⟨rfl, rfl⟩
    go_wp2_with fail
    go_ret
    exact ⟨ret_i (by simp [nxt, HD.out]), rfl⟩

set_option maxHeartbeats 2000000 in
theorem next_any (w : World) (m : Int) (c : Nat) (h0 : 0 ≤ m) (h1 : m ≤ 17) : Calls Tryz.prog 164 #[.int .i64 m, .int .u8 c] w fun e w' => e = .returned (.int .i64 (nxt m c)) ∧ w' = w := by
  have hm : m = 0 ∨ m = 1 ∨ m = 2 ∨ m = 3 ∨ m = 4 ∨ m = 5 ∨ m = 6 ∨ m = 7 ∨ m = 8 ∨ m = 9 ∨ m = 10 ∨ m = 11 ∨ m = 12 ∨ m = 13 ∨ m = 14 ∨ m = 15 ∨ m = 16 ∨ m = 17 := by omega
  clear h0 h1
  rcases hm with rfl | rfl | rfl | rfl | rfl | rfl | rfl | rfl | rfl | rfl | rfl | rfl | rfl | rfl | rfl | rfl | rfl | rfl
  · go_enter Tryz.func164, Tryz.ntmps164
    go_wp2_with fail
    refine (selecting_0 _ c).mono ?_
    rintro e w3 ⟨rfl, rfl⟩
    go_wp2_with fail
    go_ret
    exact ⟨rfl, rfl⟩
  · go_enter Tryz.func164, Tryz.ntmps164
    go_wp2_with fail
    refine (selecting_1 _ c).mono ?_
    rintro e w3 ⟨rfl, rfl⟩
    go_wp2_with fail
    go_ret
    exact ⟨rfl, rfl⟩
  · go_enter Tryz.func164, Tryz.ntmps164
    go_wp2_with fail
    refine (selecting_2 _ c).mono ?_
    rintro e w3 ⟨rfl, rfl⟩
    go_wp2_with fail
    go_ret
    exact ⟨rfl, rfl⟩
  · go_enter Tryz.func164, Tryz.ntmps164
    go_wp2_with fail
    refine (selecting_3 _ c).mono ?_
    rintro e w3 ⟨rfl, rfl⟩
    go_wp2_with fail
    go_ret
    exact ⟨rfl, rfl⟩
  · go_enter Tryz.func164, Tryz.ntmps164
    go_wp2_with fail
    refine (selecting_4 _ c).mono ?_
    rintro e w3 ⟨rfl, rfl⟩
    go_wp2_with fail
    go_ret
    exact ⟨rfl, rfl⟩
  · go_enter Tryz.func164, Tryz.ntmps164
    go_wp2_with fail
    refine (selecting_5 _ c).mono ?_
    rintro e w3 ⟨rfl, rfl⟩
    go_wp2_with fail
    go_ret
    exact ⟨rfl, rfl⟩
  · go_enter Tryz.func164, Tryz.ntmps164
    go_wp2_with fail
    refine (selecting_6 _ c).mono ?_
    rintro e w3 ⟨rfl, rfl⟩
    go_wp2_with fail
    go_ret
    exact ⟨rfl, rfl⟩
  · go_enter Tryz.func164, Tryz.ntmps164
    go_wp2_with fail
    refine (selecting_7 _ c).mono ?_
    rintro e w3 ⟨rfl, rfl⟩
    go_wp2_with fail
    go_ret
    exact ⟨rfl, rfl⟩
  · go_enter Tryz.func164, Tryz.ntmps164
    go_wp2_with fail
    refine (selecting_8 _ c).mono ?_
    rintro e w3 ⟨rfl, rfl⟩
    go_wp2_with fail
    go_ret
    exact ⟨rfl, rfl⟩
  · go_enter Tryz.func164, Tryz.ntmps164
    go_wp2_with fail
    refine (declaring_9 _ c).mono ?_
    rintro e w3 ⟨rfl, rfl⟩
    go_wp2_with fail
    go_ret
    exact ⟨rfl, rfl⟩
  · go_enter Tryz.func164, Tryz.ntmps164
    go_wp2_with fail
    refine (declaring_10 _ c).mono ?_
    rintro e w3 ⟨rfl, rfl⟩
    go_wp2_with fail
    go_ret
    exact ⟨rfl, rfl⟩
  · go_enter Tryz.func164, Tryz.ntmps164
    go_wp2_with fail
    refine (declaring_11 _ c).mono ?_
    rintro e w3 ⟨rfl, rfl⟩
    go_wp2_with fail
    go_ret
    exact ⟨rfl, rfl⟩
  · go_enter Tryz.func164, Tryz.ntmps164
    go_wp2_with fail
    refine (declaring_12 _ c).mono ?_
    rintro e w3 ⟨rfl, rfl⟩
    go_wp2_with fail
    go_ret
    exact ⟨rfl, rfl⟩
  · go_enter Tryz.func164, Tryz.ntmps164
    go_wp2_with fail
    refine (declaring_13 _ c).mono ?_
    rintro e w3 ⟨rfl, rfl⟩
    go_wp2_with fail
    go_ret
    exact ⟨rfl, rfl⟩
  · go_enter Tryz.func164, Tryz.ntmps164
    go_wp2_with fail
    refine (declaring_14 _ c).mono ?_
    rintro e w3 ⟨rfl, rfl⟩
    go_wp2_with fail
    go_ret
    exact ⟨rfl, rfl⟩
  · go_enter Tryz.func164, Tryz.ntmps164
    go_wp2_with fail
    refine (declaring_15 _ c).mono ?_
    rintro e w3 ⟨rfl, rfl⟩
    go_wp2_with fail
    go_ret
    exact ⟨rfl, rfl⟩
  · go_enter Tryz.func164, Tryz.ntmps164
    go_wp2_with fail
    refine (declaring_16 _ c).mono ?_
    rintro e w3 ⟨rfl, rfl⟩
    go_wp2_with fail
    go_ret
    exact ⟨rfl, rfl⟩
  · go_enter Tryz.func164, Tryz.ntmps164
    go_wp2_with fail
    refine (declaring_17 _ c).mono ?_
    rintro e w3 ⟨rfl, rfl⟩
    go_wp2_with fail
    go_ret
    exact ⟨rfl, rfl⟩

end Go.Proofs.YtblfffbmklkhmaaGreat
