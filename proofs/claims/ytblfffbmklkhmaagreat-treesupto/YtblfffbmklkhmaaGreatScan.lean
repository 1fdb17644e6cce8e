/- A sheet that is one, gone through by its marks. Plain mathematics; own work. -/
import Derived.Test.YtblfffbmklkhmaaGreatAuto
namespace Go.Proofs.YtblfffbmklkhmaaGreat

theorem ite_rng {p : Prop} [Decidable p] {a b : Int} (ha : -1 ≤ a ∧ a ≤ 17) (hb : -1 ≤ b ∧ b ≤ 17) : -1 ≤ (if p then a else b) ∧ (if p then a else b) ≤ 17 := by
  split
  · exact ha
  · exact hb

theorem nxt_range (m : Int) (c : Nat) : -1 ≤ nxt m c ∧ nxt m c ≤ 17 := by
  have hp : -1 ≤ partN c ∧ partN c ≤ 17 := by unfold partN; (repeat' split) <;> omega
  have hc : -1 ≤ closeN c ∧ closeN c ≤ 17 := by unfold closeN; (repeat' split) <;> omega
  have hm : -1 ≤ markN c ∧ markN c ≤ 17 := by unfold markN; (repeat' split) <;> omega
  have hq : -1 ≤ propN c ∧ propN c ≤ 17 := by unfold propN; (repeat' split) <;> omega
  have ho : -1 ≤ compN c ∧ compN c ≤ 17 := by unfold compN; (repeat' split) <;> omega
  have hr : -1 ≤ moreN c ∧ moreN c ≤ 17 := by unfold moreN; (repeat' split) <;> omega
  have hw : ∀ b n, -1 ≤ n → n ≤ 17 → -1 ≤ wh b n ∧ wh b n ≤ 17 := by intro b n h1 h2; unfold wh; (repeat' split) <;> omega
  unfold nxt
  repeat' (first | exact hp | exact hc | exact hm | exact hq | exact ho | exact hr | exact hw _ _ (by decide) (by decide) | refine ite_rng ?_ ?_ | exact ⟨by decide, by decide⟩)

/-- A sheet is gone through to its end. -/
def Acc (s : ByteArray) (m : Int) (k : Cn) (i : Nat) (M : Int) : Prop := V s m k i = (-1, M)

theorem Acc.lt {s : ByteArray} {m : Int} {k : Cn} {i : Nat} {M : Int} (h : Acc s m k i M) (hm : m ≠ 0) : i < s.size := by
  by_cases hi : i < s.size
  · exact hi
  · unfold Acc at h
    rw [V_end (by omega), if_neg hm] at h
    injection h with h1 _
    omega

theorem Acc.ok {s : ByteArray} {m : Int} {k : Cn} {i : Nat} {M : Int} (h : Acc s m k i M) (hi : i < s.size) : nxt m (bt s i) ≠ -1 := by
  intro e
  unfold Acc at h
  rw [V_stop hi e] at h
  injection h with h1 _
  omega

theorem Acc.step {s : ByteArray} {m : Int} {k : Cn} {i : Nat} {M : Int} (h : Acc s m k i M) (hi : i < s.size) : Acc s (nxt m (bt s i)) (cnt m (bt s i) i k) (i + 1) M := by
  have := h.ok hi
  unfold Acc at h ⊢
  rw [← h, V_go hi rfl this]

/-- Within selectors. -/
def inSel (m : Int) : Prop := m = 2 ∨ m = 3 ∨ m = 4 ∨ m = 5 ∨ m = 6 ∨ m = 7 ∨ m = 8

theorem partN_cases (c : Nat) : partN c = -1 ∨ partN c = 4 ∨ partN c = 5 := by unfold partN; (repeat' split) <;> omega

theorem sel_stay {m : Int} {c : Nat} (hm : inSel m) (hc : c ≠ 123) (h : nxt m c ≠ -1) : inSel (nxt m c) := by
  have hp := partN_cases c
  unfold inSel at *
  have ho : compN c = 3 ∨ compN c = 8 ∨ compN c = partN c := by unfold compN; (repeat' split) <;> omega
  have hr : moreN c = 8 ∨ moreN c = 2 ∨ moreN c = partN c := by unfold moreN; rw [if_neg hc]; (repeat' split) <;> omega
  have hw : ∀ b n, wh b n = -1 ∨ wh b n = n := by intro b n; unfold wh; (repeat' split) <;> omega
  have w2 := hw (isL c) 3
  have w3 := hw (decide (c = 102 ∨ c = 108 ∨ c = 101)) 3
  have w4 := hw (isD c) 7
  have w5 := hw (isD c) 3
  rcases hm with rfl | rfl | rfl | rfl | rfl | rfl | rfl <;> simp only [nxt] at h ⊢ <;> simp only [Int.reduceEq, if_false, if_true] at h ⊢
  · omega
  · omega
  · omega
  · split at h <;> split <;> omega
  · omega
  · omega
  · split at h <;> split <;> omega

theorem sel_cnt {m : Int} {c i : Nat} {k : Cn} (hm : inSel m) (hs : isS c = false) (hc : c ≠ 44) : cnt m c i k = k := by
  unfold inSel at hm
  rcases hm with rfl | rfl | rfl | rfl | rfl | rfl | rfl <;> simp [cnt, hs, hc]

/-- A sign, a comma and a brace stand behind a part alone. -/
theorem sel_mark {m : Int} {c : Nat} (hm : inSel m) (hc : isS c = true ∨ c = 44 ∨ c = 123) (h : nxt m c ≠ -1) : m = 3 := by
  have h0 : c = 32 ∨ c = 62 ∨ c = 43 ∨ c = 126 ∨ c = 44 ∨ c = 123 := by simp only [isS, decide_eq_true_eq] at hc; omega
  unfold inSel at hm
  rcases hm with rfl | rfl | rfl | rfl | rfl | rfl | rfl <;> first | rfl | (exfalso; apply h; rcases h0 with rfl | rfl | rfl | rfl | rfl | rfl <;> decide)

/-- Within selectors a brace is to come. -/
theorem sel_brace {s : ByteArray} {M : Int} : ∀ (n : Nat) {m : Int} {k : Cn} {p : Nat}, s.size - p ≤ n → inSel m → Acc s m k p M → ∃ q, p ≤ q ∧ q < s.size ∧ bt s q = 123 := by
  intro n
  induction n with
  | zero =>
    intro m k p hn hm h
    have := h.lt (by unfold inSel at hm; omega)
    omega
  | succ n ih =>
    intro m k p hn hm h
    have hlt := h.lt (by unfold inSel at hm; omega)
    by_cases hc : bt s p = 123
    · exact ⟨p, Nat.le_refl _, hlt, hc⟩
    · obtain ⟨q, h1, h2, h3⟩ := ih (by omega) (sel_stay hm hc (h.ok hlt)) (h.step hlt)
      exact ⟨q, by omega, h2, h3⟩

/-- Within declarations. -/
def inDecl (m : Int) : Prop := 9 ≤ m ∧ m ≤ 17

theorem decl_next {m : Int} {c : Nat} (hm : inDecl m) (h : nxt m c ≠ -1) : (c = 125 → nxt m c = 0) ∧ (c = 59 → nxt m c = 10) ∧ (c ≠ 125 → inDecl (nxt m c)) := by
  unfold inDecl at *
  have hc : closeN c = -1 ∨ (closeN c = 10 ∧ c = 59) ∨ (closeN c = 0 ∧ c = 125) := by unfold closeN; (repeat' split) <;> omega
  have hk : markN c = -1 ∨ (markN c = 10 ∧ c = 59) ∨ (markN c = 0 ∧ c = 125) ∨ (markN c = 16 ∧ c = 33) := by unfold markN; (repeat' split) <;> omega
  have hq : propN c = -1 ∨ (propN c = 11 ∧ c ≠ 125 ∧ c ≠ 59) := by
    unfold propN; split
    · rename_i hp; simp only [isP, isV, Bool.or_eq_true, decide_eq_true_eq] at hp; omega
    · omega
  have hd : isD c = true → c ≠ 125 ∧ c ≠ 59 := by intro hp; simp only [isD, decide_eq_true_eq] at hp; omega
  have hv : wh (isV c) 15 = -1 ∨ (wh (isV c) 15 = 15 ∧ c ≠ 125 ∧ c ≠ 59) := by
    unfold wh; split
    · rename_i hp; simp only [isV, decide_eq_true_eq] at hp; omega
    · omega
  have h1 : wh (decide (c = 58)) 12 = -1 ∨ (wh (decide (c = 58)) 12 = 12 ∧ c = 58) := by unfold wh; split <;> simp_all
  have h2 : wh (decide (c = 105 ∨ c = 114 ∨ c = 117)) 15 = -1 ∨ (wh (decide (c = 105 ∨ c = 114 ∨ c = 117)) 15 = 15 ∧ (c = 105 ∨ c = 114 ∨ c = 117)) := by
    unfold wh; split
    · rename_i hp; simp only [decide_eq_true_eq] at hp; omega
    · omega
  have hm' : m = 9 ∨ m = 10 ∨ m = 11 ∨ m = 12 ∨ m = 13 ∨ m = 14 ∨ m = 15 ∨ m = 16 ∨ m = 17 := by omega
  clear hm
  rcases hm' with rfl | rfl | rfl | rfl | rfl | rfl | rfl | rfl | rfl <;> simp only [nxt] at h ⊢ <;> simp only [Int.reduceEq, if_false, if_true] at h ⊢
  · by_cases hx : c = 125
    · rw [if_pos hx] at h ⊢; omega
    · rw [if_neg hx] at h ⊢; omega
  · omega
  · omega
  · cases hD : isD c with
    | true => have := hd hD; simp; omega
    | false =>
      simp only [hD, Bool.false_eq_true, if_false] at h ⊢
      by_cases hx : c = 36
      · rw [if_pos hx] at h ⊢; omega
      · rw [if_neg hx] at h ⊢; omega
  · cases hD : isD c with
    | true => have := hd hD; simp; omega
    | false => simp only [hD, Bool.false_eq_true, if_false] at h ⊢; omega
  · cases hD : isD c with
    | true => have := hd hD; simp; omega
    | false => simp only [hD, Bool.false_eq_true, if_false] at h ⊢; omega
  · omega
  · omega
  · omega

theorem decl_cnt {m : Int} {c i : Nat} {k : Cn} (hm : inDecl m) : cnt m c i k = k := by
  unfold inDecl at hm
  unfold cnt
  rw [if_neg (by omega), if_neg (by omega), if_neg (by omega)]

/-- Within declarations a brace that closes is to come. -/
theorem decl_brace {s : ByteArray} {M : Int} : ∀ (n : Nat) {m : Int} {k : Cn} {p : Nat}, s.size - p ≤ n → inDecl m → Acc s m k p M → ∃ q, p ≤ q ∧ q < s.size ∧ bt s q = 125 := by
  intro n
  induction n with
  | zero =>
    intro m k p hn hm h
    have := h.lt (by unfold inDecl at hm; omega)
    omega
  | succ n ih =>
    intro m k p hn hm h
    have hlt := h.lt (by unfold inDecl at hm; omega)
    by_cases hc : bt s p = 125
    · exact ⟨p, Nat.le_refl _, hlt, hc⟩
    · obtain ⟨q, h1, h2, h3⟩ := ih (by omega) ((decl_next hm (h.ok hlt)).2.2 hc) (h.step hlt)
      exact ⟨q, by omega, h2, h3⟩

/-- Up to the first brace that closes: where one stands, one is within declarations; behind a semicolon another begins. -/
theorem decl_run {s : ByteArray} {M : Int} {k : Cn} {p r : Nat} (h : Acc s 9 k p M) (hno : ∀ j, p ≤ j → j < r → bt s j ≠ 125) (hr : r ≤ s.size) :
    ∀ (d : Nat), p + d ≤ r → ∃ m, inDecl m ∧ Acc s m k (p + d) M ∧ (d = 0 → m = 9) ∧ (0 < d → bt s (p + d - 1) = 59 → m = 10) := by
  intro d
  induction d with
  | zero => intro _; exact ⟨9, ⟨by omega, by omega⟩, h, fun _ => rfl, fun e => by omega⟩
  | succ d ih =>
    intro hd
    obtain ⟨m, h1, h2, _, _⟩ := ih (by omega)
    have hlt : p + d < s.size := by omega
    have hn := decl_next h1 (h2.ok hlt)
    refine ⟨nxt m (bt s (p + d)), hn.2.2 (hno _ (by omega) (by omega)), ?_, fun e => by omega, fun _ e => hn.2.1 e⟩
    have := h2.step hlt
    rw [decl_cnt h1] at this
    exact this

/-- A declaration has three bytes at least, none of which ends it. -/
theorem decl_three {s : ByteArray} {M : Int} {k : Cn} {m : Int} {p : Nat} (hm : m = 9 ∨ m = 10) (h : Acc s m k p M) (hne : bt s p ≠ 125) :
    bt s p ≠ 59 ∧ bt s (p + 1) ≠ 59 ∧ bt s (p + 1) ≠ 125 ∧ bt s (p + 2) ≠ 59 ∧ bt s (p + 2) ≠ 125 ∧ p + 2 < s.size := by
  have hin : inDecl m := by unfold inDecl; omega
  have l0 := h.lt (by omega)
  have o0 := h.ok l0
  have hp : isP (bt s p) = true ∧ nxt m (bt s p) = 11 := by
    cases hp : isP (bt s p) with
    | true => refine ⟨rfl, ?_⟩; rcases hm with rfl | rfl <;> simp [nxt, propN, hp, hne]
    | false => exfalso; apply o0; rcases hm with rfl | rfl <;> simp [nxt, propN, hp, hne]
  have h1 := h.step l0
  rw [hp.2, decl_cnt hin] at h1
  have l1 := h1.lt (by omega)
  have o1 := h1.ok l1
  have hq : bt s (p + 1) = 58 := by
    by_cases e : bt s (p + 1) = 58
    · exact e
    · exfalso; apply o1; simp [nxt, wh, e]
  have h2 := h1.step l1
  rw [show nxt 11 (bt s (p + 1)) = 12 from by simp [nxt, wh, hq], decl_cnt ⟨by omega, by omega⟩] at h2
  have l2 := h2.lt (by omega)
  have o2 := h2.ok l2
  have h3 : bt s (p + 2) ≠ 59 ∧ bt s (p + 2) ≠ 125 := by
    constructor
    · intro e; apply o2; rw [e]; decide
    · intro e; apply o2; rw [e]; decide
  have hp' := hp.1
  simp only [isP, isV, Bool.or_eq_true, decide_eq_true_eq] at hp'
  exact ⟨by omega, by omega, by omega, h3.1, h3.2, l2⟩

end Go.Proofs.YtblfffbmklkhmaaGreat
