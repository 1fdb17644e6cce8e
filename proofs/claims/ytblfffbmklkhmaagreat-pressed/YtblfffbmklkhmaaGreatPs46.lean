/- Own work. -/
import Derived.Test.YtblfffbmklkhmaaGreatPs45
namespace Go.Proofs.YtblfffbmklkhmaaGreat
open Go.RowKit
/-- The modes in which a part may begin. -/
def PM (m : Int) : Prop := m = 2 ∨ m = 3 ∨ m = 8
section
variable {len : Nat} {L : Nat → Int} {by' : Nat} {mild : Bool}
theorem run_part (at' nr nc : Nat) {m : Int} (hm : PM m) : run (bl (partF len L by' at').1) (m, nr, nc) = some (3, nr, nc) := by
  have l5 := nx_lt (len := len) (L := L) (n := 5) (at' := (nx len L 4 (nx len L 8 at').2).2) (by decide)
  have l4 := nx_lt (len := len) (L := L) (n := 4) (at' := (nx len L 8 at').2) (by decide)
  unfold partF
  split
  · show run (bl (⟨#[46]⟩ ++ letB _)) _ = _
    rw [bl_append]
    refine run_two (q1 := (4, nr, nc)) ?_ (run_let4 _ _ _)
    rcases hm with rfl | rfl | rfl <;> rfl
  · split
    · show run (bl (⟨#[35]⟩ ++ letB _)) _ = _
      rw [bl_append]
      refine run_two (q1 := (4, nr, nc)) ?_ (run_let4 _ _ _)
      rcases hm with rfl | rfl | rfl <;> rfl
    · split
      · rcases hm with rfl | rfl | rfl <;> rfl
      · split
        · rcases hm with rfl | rfl | rfl <;> rfl
        · split
          · rcases hm with rfl | rfl | rfl <;> rfl
          · show run (bl (⟨#[58, 110]⟩ ++ digB _ ++ digB _)) _ = _
            rw [bl_append, bl_append]
            refine run_two (q1 := (7, nr, nc)) (run_two (q1 := (6, nr, nc)) ?_ (run_dig6 (by omega) _ _)) (run_dig7 (by omega) _ _)
            rcases hm with rfl | rfl | rfl <;> rfl
theorem run_compOne (at' nr nc : Nat) : run (bl (compOne len L by' at').1) (2, nr, nc) = some (3, nr, nc) := by
  unfold compOne
  split
  · rfl
  · split
    · exact run_part _ _ _ (Or.inl rfl)
    · exact run_let2 _ _ _
theorem run_compStep {q : Q3} (p : ByteArray × Nat) (nr nc : Nat) (h : run (bl p.1) q = some (3, nr, nc)) : run (bl (compStep len L by' p).1) q = some (3, nr, nc) := by
  have h33 : run (bl ⟨#[33]⟩) (3, nr, nc) = some (8, nr, nc) := rfl
  unfold compStep
  split
  · split
    · show run (bl (p.1 ++ ⟨#[33]⟩ ++ letB _)) _ = _
      rw [bl_append, bl_append]
      exact run_two (run_two h h33) (run_let8 _ _ _)
    · show run (bl (p.1 ++ ⟨#[33]⟩ ++ (partF len L by' _).1)) _ = _
      rw [bl_append, bl_append]
      exact run_two (run_two h h33) (run_part _ _ _ (Or.inr (Or.inr rfl)))
  · show run (bl (p.1 ++ (partF len L by' _).1)) _ = _
    rw [bl_append]
    exact run_two h (run_part _ _ _ (Or.inr (Or.inl rfl)))
theorem run_compLoop {q : Q3} : ∀ (k : Nat) (p : ByteArray × Nat) (nr nc : Nat), run (bl p.1) q = some (3, nr, nc) → run (bl (compLoop len L by' k p).1) q = some (3, nr, nc)
  | 0, _, _, _, h => h
  | k + 1, p, nr, nc, h => run_compLoop k _ nr nc (run_compStep p nr nc h)
theorem run_comp (at' nr nc : Nat) : run (bl (wCompF len L by' at').1) (2, nr, nc) = some (3, nr, nc) := run_compLoop _ _ _ _ (run_compOne _ _ _)
/-- The first byte is none that stands ahead of a layer. -/
def HdOK (s : ByteArray) : Prop := ∃ c l, bl s = c :: l ∧ c ≠ 64
theorem HdOK.app {s : ByteArray} (h : HdOK s) (t : ByteArray) : HdOK (s ++ t) := by
  obtain ⟨c, l, h1, h2⟩ := h
  exact ⟨c, l ++ bl t, by rw [bl_append, h1]; rfl, h2⟩
theorem head_part (at' : Nat) : HdOK (partF len L by' at').1 := by
  unfold partF
  (repeat' split)
  · exact HdOK.app ⟨46, [], rfl, by decide⟩ _
  · exact HdOK.app ⟨35, [], rfl, by decide⟩ _
  · exact ⟨58, [102], rfl, by decide⟩
  · exact ⟨58, [108], rfl, by decide⟩
  · exact ⟨58, [101], rfl, by decide⟩
  · exact HdOK.app (HdOK.app ⟨58, [110], rfl, by decide⟩ _) _
theorem head_compOne (at' : Nat) : HdOK (compOne len L by' at').1 := by
  unfold compOne
  (repeat' split)
  · exact ⟨42, [], rfl, by decide⟩
  · exact head_part _
  · exact ⟨_, [], bl_let _, by omega⟩
theorem head_compStep (p : ByteArray × Nat) (h : HdOK p.1) : HdOK (compStep len L by' p).1 := by
  unfold compStep
  (repeat' split)
  · exact HdOK.app (h.app _) _
  · exact HdOK.app (h.app _) _
  · exact h.app _
theorem head_compLoop : ∀ (k : Nat) (p : ByteArray × Nat), HdOK p.1 → HdOK (compLoop len L by' k p).1
  | 0, _, h => h
  | k + 1, p, h => head_compLoop k _ (head_compStep p h)
theorem head_comp (at' : Nat) : HdOK (wCompF len L by' at').1 := head_compLoop _ _ (head_compOne _)
theorem run_sg : ∀ i, i < 5 → ∀ (nr nc : Nat), nc < 4 → run (bl (sgB i)) (3, nr, nc) = some (2, nr, nc + 1)
  | 0, _, nr, nc, h => by
    show (stp (3, nr, nc) 32).bind (run []) = _
    have : nc ≠ 4 := by omega
    simp [stp, this, nxt, moreN, isS, run]
  | 1, _, nr, nc, h => by
    show (stp (3, nr, nc) 32).bind (run []) = _
    have : nc ≠ 4 := by omega
    simp [stp, this, nxt, moreN, isS, run]
  | 2, _, nr, nc, h => by
    show (stp (3, nr, nc) 62).bind (run []) = _
    have : nc ≠ 4 := by omega
    simp [stp, this, nxt, moreN, isS, run]
  | 3, _, nr, nc, h => by
    show (stp (3, nr, nc) 43).bind (run []) = _
    have : nc ≠ 4 := by omega
    simp [stp, this, nxt, moreN, isS, run]
  | 4, _, nr, nc, h => by
    show (stp (3, nr, nc) 126).bind (run []) = _
    have : nc ≠ 4 := by omega
    simp [stp, this, nxt, moreN, isS, run]
  | i + 5, h, _, _, _ => by omega
theorem run_selStep {q : Q3} (p : ByteArray × Nat) (nr nc : Nat) (hn : nc < 4) (h : run (bl p.1) q = some (3, nr, nc)) : run (bl (selStep len L by' p).1) q = some (3, nr, nc + 1) := by
  have l5 := nx_lt (len := len) (L := L) (n := 5) (at' := p.2) (by decide)
  show run (bl (p.1 ++ sgB _ ++ (wCompF len L by' _).1)) _ = _
  rw [bl_append, bl_append]
  exact run_two (run_two h (run_sg _ l5 nr nc hn)) (run_comp _ _ _)
theorem run_selLoop {q : Q3} : ∀ (k : Nat) (p : ByteArray × Nat) (nr nc : Nat), nc + k ≤ 4 → run (bl p.1) q = some (3, nr, nc) → run (bl (selLoop len L by' k p).1) q = some (3, nr, nc + k)
  | 0, _, _, _, _, h => h
  | k + 1, p, nr, nc, hn, h => by
    have := run_selLoop (q := q) k (selStep len L by' p) nr (nc + 1) (by omega) (run_selStep p nr nc (by omega) h)
    rwa [show nc + 1 + k = nc + (k + 1) from by omega] at this
theorem run_sel (at' nr : Nat) : ∃ nc, run (bl (wSelF len L by' at').1) (2, nr, 1) = some (3, nr, nc) := by
  have l3 := nx_lt (len := len) (L := L) (n := 3) (at' := (wCompF len L by' at').2) (by decide)
  exact ⟨_, run_selLoop _ _ nr 1 (by omega) (run_comp _ _ _)⟩
theorem head_selLoop : ∀ (k : Nat) (p : ByteArray × Nat), HdOK p.1 → HdOK (selLoop len L by' k p).1
  | 0, _, h => h
  | k + 1, p, h => head_selLoop k (selStep len L by' p) ((h.app _).app _)
theorem head_sel (at' : Nat) : HdOK (wSelF len L by' at').1 := head_selLoop _ _ (head_comp _)
/-- At a rule's beginning. -/
theorem run_zero {l : List Nat} {c : Nat} (hc : c ≠ 64) (nr nc : Nat) (hn : nr ≠ 20) : run (c :: l) (0, nr, nc) = run (c :: l) (2, nr + 1, 1) := by
  show (stp (0, nr, nc) c).bind (run l) = (stp (2, nr + 1, 1) c).bind (run l)
  have h : stp (0, nr, nc) c = stp (2, nr + 1, 1) c := by
    have h1 : nxt 0 c = compN c := by unfold nxt; rw [if_pos rfl, if_neg hc]
    have h2 : nxt 2 c = compN c := rfl
    unfold stp
    simp only
    rw [h1, h2]
    by_cases h3 : compN c = -1
    · rw [if_pos h3, if_pos h3]
    · rw [if_neg h3, if_neg h3, if_pos trivial, if_neg hn, if_neg (by decide), if_neg (by decide), if_neg (by decide)]
  rw [h]
theorem run_pr : ∀ p, p < 9 → ∀ (m : Int) (nr nc : Nat), m = 9 ∨ m = 10 → run (bl (prB p)) (m, nr, nc) = some (11, nr, nc)
  | 0, _, m, nr, nc, h => by rcases h with rfl | rfl <;> rfl
  | 1, _, m, nr, nc, h => by rcases h with rfl | rfl <;> rfl
  | 2, _, m, nr, nc, h => by rcases h with rfl | rfl <;> rfl
  | 3, _, m, nr, nc, h => by rcases h with rfl | rfl <;> rfl
  | 4, _, m, nr, nc, h => by rcases h with rfl | rfl <;> rfl
  | 5, _, m, nr, nc, h => by rcases h with rfl | rfl <;> rfl
  | 6, _, m, nr, nc, h => by rcases h with rfl | rfl <;> rfl
  | 7, _, m, nr, nc, h => by rcases h with rfl | rfl <;> rfl
  | 8, _, m, nr, nc, h => by rcases h with rfl | rfl <;> rfl
  | p + 9, h, _, _, _, _ => by omega
theorem run_va : ∀ p, p < 3 → ∀ (nr nc : Nat), run (bl (prB (6 + p))) (17, nr, nc) = some (15, nr, nc)
  | 0, _, nr, nc => rfl
  | 1, _, nr, nc => rfl
  | 2, _, nr, nc => rfl
  | p + 3, h, _, _ => by omega
theorem run_declMid {q : Q3} (s0 : ByteArray) (c : Nat × Nat) (nr nc : Nat) (h : run (bl s0) q = some (12, nr, nc)) : ∃ m, (m = 14 ∨ m = 15) ∧ run (bl (declMid len L s0 c).1) q = some (m, nr, nc) := by
  have l3 := nx_lt (len := len) (L := L) (n := 3) (at' := c.2) (by decide)
  have l9 := nx_lt (len := len) (L := L) (n := 9) (at' := c.2) (by decide)
  have l10 := nx_lt (len := len) (L := L) (n := 10) (at' := (nx len L 9 c.2).2) (by decide)
  unfold declMid
  (repeat' split)
  · refine ⟨15, Or.inr rfl, ?_⟩
    show run (bl (s0 ++ _)) _ = _
    rw [bl_append]
    exact run_two h rfl
  · refine ⟨15, Or.inr rfl, ?_⟩
    show run (bl (s0 ++ _)) _ = _
    rw [bl_append]
    exact run_two h rfl
  · refine ⟨15, Or.inr rfl, ?_⟩
    show run (bl (s0 ++ _)) _ = _
    rw [bl_append]
    exact run_two h rfl
  · refine ⟨15, Or.inr rfl, ?_⟩
    show run (bl (s0 ++ _ ++ prB _)) _ = _
    rw [bl_append, bl_append]
    exact run_two (q1 := (17, nr, nc)) (run_two h rfl) (run_va _ l3 _ _)
  · refine ⟨14, Or.inl rfl, ?_⟩
    show run (bl (s0 ++ digB _ ++ digB _)) _ = _
    rw [bl_append, bl_append]
    exact run_two (run_two h (run_dig12 (by omega) _ _)) (run_dig13 l10 _ _)
theorem run_decl (at' : Nat) (m : Int) (nr nc : Nat) (hm : m = 9 ∨ m = 10) : ∃ m', (m' = 14 ∨ m' = 15 ∨ m' = 16) ∧ run (bl (wDeclF len L mild at').1) (m, nr, nc) = some (m', nr, nc) := by
  have l9 := nx_lt (len := len) (L := L) (n := 9) (at' := at') (by decide)
  have h0 : run (bl (prB (nx len L 9 at').1 ++ (⟨#[58]⟩ : ByteArray))) (m, nr, nc) = some (12, nr, nc) := by
    rw [bl_append]
    exact run_two (run_pr _ l9 m nr nc hm) rfl
  obtain ⟨m1, h1, h2⟩ := run_declMid (len := len) (L := L) _ (nx len L 8 (nx len L 9 at').2) nr nc h0
  unfold wDeclF declEnd
  split
  · refine ⟨16, Or.inr (Or.inr rfl), ?_⟩
    show run (bl ((declMid len L _ _).1 ++ ⟨#[33]⟩)) _ = _
    rw [bl_append]
    refine run_two h2 ?_
    rcases h1 with rfl | rfl <;> rfl
  · refine ⟨m1, ?_, h2⟩
    rcases h1 with h1 | h1
    · exact Or.inl h1
    · exact Or.inr (Or.inl h1)
theorem run_declLoop {q : Q3} : ∀ (k : Nat) (p : ByteArray × Nat) (nr nc : Nat), (∃ m', (m' = 14 ∨ m' = 15 ∨ m' = 16) ∧ run (bl p.1) q = some (m', nr, nc)) → ∃ m', (m' = 14 ∨ m' = 15 ∨ m' = 16) ∧ run (bl (declLoop len L mild k p).1) q = some (m', nr, nc)
  | 0, _, _, _, h => h
  | k + 1, p, nr, nc, ⟨m1, h1, h2⟩ => by
    refine run_declLoop k (declStep len L mild p) nr nc ?_
    obtain ⟨m2, h3, h4⟩ := run_decl (len := len) (L := L) (mild := mild) p.2 10 nr nc (Or.inr rfl)
    refine ⟨m2, h3, ?_⟩
    show run (bl (p.1 ++ ⟨#[59]⟩ ++ (wDeclF len L mild p.2).1)) _ = _
    rw [bl_append, bl_append]
    refine run_two (q1 := (10, nr, nc)) (run_two h2 ?_) h4
    rcases h1 with rfl | rfl | rfl <;> rfl
theorem run_rule (at' nr nc : Nat) (hn : nr < 20) : ∃ nc', run (bl (wRuleF len L by' mild at').1) (0, nr, nc) = some (0, nr + 1, nc') := by
  have h1 : ∃ nc1, run (bl (ruleSel len L by' (ruleHead len L at')).1) (0, nr, nc) = some (3, nr + 1, nc1) := by
    obtain ⟨n1, hs⟩ := run_sel (len := len) (L := L) (by' := by') (ruleHead len L at').2 (nr + 1)
    refine ⟨n1, ?_⟩
    show run (bl ((ruleHead len L at').1 ++ (wSelF len L by' (ruleHead len L at').2).1)) _ = _
    rw [bl_append]
    have l4 := nx_lt (len := len) (L := L) (n := 4) (at' := (nx len L 3 at').2) (by decide)
    by_cases h0 : (nx len L 3 at').1 = 0
    · have hh : (ruleHead len L at').1 = ⟨#[64]⟩ ++ digB (nx len L 4 (nx len L 3 at').2).1 := by unfold ruleHead; rw [if_pos h0]
      rw [hh, bl_append]
      refine run_two (run_two (q1 := (1, nr + 1, 1)) ?_ (run_dig1 (by omega) _ _)) hs
      show (stp (0, nr, nc) 64).bind (run []) = _
      have : nr ≠ 20 := by omega
      simp [stp, this, nxt, run]
    · have hh : (ruleHead len L at').1 = ⟨#[]⟩ := by unfold ruleHead; rw [if_neg h0]
      rw [hh]
      obtain ⟨c, l, hc1, hc2⟩ := head_sel (len := len) (L := L) (by' := by') (ruleHead len L at').2
      show run (bl (wSelF len L by' (ruleHead len L at').2).1) _ = _
      rw [hc1, run_zero hc2 nr nc (by omega), ← hc1]
      exact hs
  obtain ⟨nc1, h1⟩ := h1
  have he : wRuleF len L by' mild at' = ruleF4 len L mild (ruleDecl len L mild (ruleMore len L by' (ruleSel len L by' (ruleHead len L at')))) := rfl
  rw [he]
  generalize ruleSel len L by' (ruleHead len L at') = p1 at h1
  have h2 : ∃ nc2, run (bl (ruleMore len L by' p1).1) (0, nr, nc) = some (3, nr + 1, nc2) := by
    unfold ruleMore
    split
    · obtain ⟨n2, hs⟩ := run_sel (len := len) (L := L) (by' := by') (nx len L 4 p1.2).2 (nr + 1)
      refine ⟨n2, ?_⟩
      show run (bl (p1.1 ++ ⟨#[44]⟩ ++ (wSelF len L by' _).1)) _ = _
      rw [bl_append, bl_append]
      exact run_two (q1 := (2, nr + 1, 1)) (run_two h1 rfl) hs
    · exact ⟨nc1, h1⟩
  obtain ⟨nc2, h2⟩ := h2
  refine ⟨nc2, ?_⟩
  generalize ruleMore len L by' p1 = p2 at h2
  have h3 : ∃ m', (m' = 14 ∨ m' = 15 ∨ m' = 16) ∧ run (bl (ruleDecl len L mild p2).1) (0, nr, nc) = some (m', nr + 1, nc2) := by
    obtain ⟨m2, h3, h4⟩ := run_decl (len := len) (L := L) (mild := mild) p2.2 9 (nr + 1) nc2 (Or.inl rfl)
    refine ⟨m2, h3, ?_⟩
    show run (bl (p2.1 ++ ⟨#[123]⟩ ++ (wDeclF len L mild p2.2).1)) _ = _
    rw [bl_append, bl_append]
    exact run_two (q1 := (9, nr + 1, nc2)) (run_two h2 rfl) h4
  generalize ruleDecl len L mild p2 = p3 at h3
  obtain ⟨m3, h4, h5⟩ := run_declLoop (len := len) (L := L) (mild := mild) (nx len L 3 p3.2).1 (p3.1, (nx len L 3 p3.2).2) (nr + 1) nc2 h3
  show run (bl ((declLoop len L mild (nx len L 3 p3.2).1 (p3.1, (nx len L 3 p3.2).2)).1 ++ ⟨#[125]⟩)) _ = _
  rw [bl_append]
  refine run_two h5 ?_
  rcases h4 with rfl | rfl | rfl <;> rfl
theorem run_sheetLoop {most : Nat} : ∀ (k : Nat) (p : ByteArray × Nat) (nr : Nat), nr + k ≤ 20 → (∃ nr' nc, nr' ≤ nr ∧ run (bl p.1) (0, 0, 0) = some (0, nr', nc)) → ∃ nr' nc, run (bl (sheetLoop len L by' mild most k p).1) (0, 0, 0) = some (0, nr', nc)
  | 0, _, _, _, ⟨nr', nc, _, h⟩ => ⟨nr', nc, h⟩
  | k + 1, p, nr, hk, ⟨nr', nc, hle, h⟩ => by
    refine run_sheetLoop k (sheetStep len L by' mild most p) (nr + 1) (by omega) ?_
    by_cases hfit : p.1.size + (wRuleF len L by' mild p.2).1.size ≤ most
    · have hs : (sheetStep len L by' mild most p).1 = p.1 ++ (wRuleF len L by' mild p.2).1 := if_pos hfit
      obtain ⟨nc', hr⟩ := run_rule (len := len) (L := L) (by' := by') (mild := mild) p.2 nr' nc (by omega)
      refine ⟨nr' + 1, nc', by omega, ?_⟩
      rw [hs, bl_append]
      exact run_two h hr
    · have hs : (sheetStep len L by' mild most p).1 = p.1 := if_neg hfit
      exact ⟨nr', nc, by omega, by rw [hs]; exact h⟩
/-- A written sheet is accepted. -/
theorem wSheet_chk {most : Nat} (hm : most ≤ 400) : chk (wSheetF len L by' mild most) = (0, 0) := by
  have l9 := nx_lt (len := len) (L := L) (n := 9) (at' := 0) (by decide)
  obtain ⟨nr, nc, h⟩ := run_sheetLoop (len := len) (L := L) (by' := by') (mild := mild) (most := most) (nx len L 9 0).1 (⟨#[]⟩, (nx len L 9 0).2) 0 (by omega) ⟨0, 0, Nat.le_refl _, rfl⟩
  exact chk_run (Nat.le_trans wSheetF_size hm) h
end
end Go.Proofs.YtblfffbmklkhmaaGreat
