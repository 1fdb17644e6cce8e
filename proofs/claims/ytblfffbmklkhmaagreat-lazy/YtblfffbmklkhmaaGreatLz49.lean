/- Own work. -/
import Derived.Test.YtblfffbmklkhmaaGreatLz48
namespace Go.Proofs.YtblfffbmklkhmaaGreat
open Go.RowKit
/-- The modes in which a part may begin. -/
def PM (m : Int) : Prop := m = 2 ∨ m = 3 ∨ m = 8
section
variable {len : Nat} {L : Nat → Int} {by' : Nat} {mild : Bool}
theorem run_part (at' nr nc : Nat) {m : Int} (hm : PM m) : run (bl (partF len L by' at').1) (m, nr, nc) = some (3, nr, nc) := by
  have l5 := nx_lt (len := len) (L := L) (n := 5) (at' := (nx len L 4 (nx len L 8 at').2).2) (by decide)
  have l4 := nx_lt (len := len) (L := L) (n := 4) (at' := (nx len L 8 at').2) (by decide)
  unfold partF
  split
  · show run (bl (⟨#[46]⟩ ++ letB _)) _ = _
    rw [bl_append]
    refine run_two (q1 := (4, nr, nc)) ?_ (run_let4 _ _ _)
    rcases hm with rfl | rfl | rfl <;> rfl
  · split
    · show run (bl (⟨#[35]⟩ ++ letB _)) _ = _
      rw [bl_append]
      refine run_two (q1 := (4, nr, nc)) ?_ (run_let4 _ _ _)
      rcases hm with rfl | rfl | rfl <;> rfl
    · split
      · rcases hm with rfl | rfl | rfl <;> rfl
      · split
        · rcases hm with rfl | rfl | rfl <;> rfl
        · split
          · rcases hm with rfl | rfl | rfl <;> rfl
          · show run (bl (⟨#[58, 110]⟩ ++ digB _ ++ digB _)) _ = _
            rw [bl_append, bl_append]
            refine run_two (q1 := (7, nr, nc)) (run_two (q1 := (6, nr, nc)) ?_ (run_dig6 (by omega) _ _)) (run_dig7 (by omega) _ _)
            rcases hm with rfl | rfl | rfl <;> rfl
theorem run_compOne (at' nr nc : Nat) : run (bl (compOne len L by' at').1) (2, nr, nc) = some (3, nr, nc) := by
  unfold compOne
  split
  · rfl
  · split
    · exact run_part _ _ _ (Or.inl rfl)
    · exact run_let2 _ _ _
theorem run_compStep {q : Q3} (p : ByteArray × Nat) (nr nc : Nat) (h : run (bl p.1) q = some (3, nr, nc)) : run (bl (compStep len L by' p).1) q = some (3, nr, nc) := by
  have h33 : run (bl ⟨#[33]⟩) (3, nr, nc) = some (8, nr, nc) := rfl
  unfold compStep
  split
  · split
    · show run (bl (p.1 ++ ⟨#[33]⟩ ++ letB _)) _ = _
      rw [bl_append, bl_append]
      exact run_two (run_two h h33) (run_let8 _ _ _)
    · show run (bl (p.1 ++ ⟨#[33]⟩ ++ (partF len L by' _).1)) _ = _
      rw [bl_append, bl_append]
      exact run_two (run_two h h33) (run_part _ _ _ (Or.inr (Or.inr rfl)))
  · show run (bl (p.1 ++ (partF len L by' _).1)) _ = _
    rw [bl_append]
    exact run_two h (run_part _ _ _ (Or.inr (Or.inl rfl)))
theorem run_compLoop {q : Q3} : ∀ (k : Nat) (p : ByteArray × Nat) (nr nc : Nat), run (bl p.1) q = some (3, nr, nc) → run (bl (compLoop len L by' k p).1) q = some (3, nr, nc)
  | 0, _, _, _, h => h
  | k + 1, p, nr, nc, h => run_compLoop k _ nr nc (run_compStep p nr nc h)
theorem run_comp (at' nr nc : Nat) : run (bl (wCompF len L by' at').1) (2, nr, nc) = some (3, nr, nc) := run_compLoop _ _ _ _ (run_compOne _ _ _)
/-- The first byte is none that stands ahead of a layer. -/
def HdOK (s : ByteArray) : Prop := ∃ c l, bl s = c :: l ∧ c ≠ 64
theorem HdOK.app {s : ByteArray} (h : HdOK s) (t : ByteArray) : HdOK (s ++ t) := by
  obtain ⟨c, l, h1, h2⟩ := h
  exact ⟨c, l ++ bl t, by rw [bl_append, h1]; rfl, h2⟩
theorem head_part (at' : Nat) : HdOK (partF len L by' at').1 := by
  unfold partF
  (repeat' split)
  · exact HdOK.app ⟨46, [], rfl, by decide⟩ _
  · exact HdOK.app ⟨35, [], rfl, by decide⟩ _
  · exact ⟨58, [102], rfl, by decide⟩
  · exact ⟨58, [108], rfl, by decide⟩
  · exact ⟨58, [101], rfl, by decide⟩
  · exact HdOK.app (HdOK.app ⟨58, [110], rfl, by decide⟩ _) _
theorem head_compOne (at' : Nat) : HdOK (compOne len L by' at').1 := by
  unfold compOne
  (repeat' split)
  · exact ⟨42, [], rfl, by decide⟩
  · exact head_part _
  · exact ⟨_, [], bl_let _, by omega⟩
theorem head_compStep (p : ByteArray × Nat) (h : HdOK p.1) : HdOK (compStep len L by' p).1 := by
  unfold compStep
  (repeat' split)
  · exact HdOK.app (h.app _) _
  · exact HdOK.app (h.app _) _
  · exact h.app _
theorem head_compLoop : ∀ (k : Nat) (p : ByteArray × Nat), HdOK p.1 → HdOK (compLoop len L by' k p).1
  | 0, _, h => h
  | k + 1, p, h => head_compLoop k _ (head_compStep p h)
theorem head_comp (at' : Nat) : HdOK (wCompF len L by' at').1 := head_compLoop _ _ (head_compOne _)
theorem run_sg : ∀ i, i < 5 → ∀ (nr nc : Nat), nc < 4 → run (bl (sgB i)) (3, nr, nc) = some (2, nr, nc + 1)
  | 0, _, nr, nc, h => by
    show (stp (3, nr, nc) 32).bind (run []) = _
    have : nc ≠ 4 := by omega
    simp [stp, this, nxt, moreN, isS, run]
  | 1, _, nr, nc, h => by
    show (stp (3, nr, nc) 32).bind (run []) = _
    have : nc ≠ 4 := by omega
    simp [stp, this, nxt, moreN, isS, run]
  | 2, _, nr, nc, h => by
    show (stp (3, nr, nc) 62).bind (run []) = _
    have : nc ≠ 4 := by omega
    simp [stp, this, nxt, moreN, isS, run]
  | 3, _, nr, nc, h => by
    show (stp (3, nr, nc) 43).bind (run []) = _
    have : nc ≠ 4 := by omega
    simp [stp, this, nxt, moreN, isS, run]
  | 4, _, nr, nc, h => by
    show (stp (3, nr, nc) 126).bind (run []) = _
    have : nc ≠ 4 := by omega
    simp [stp, this, nxt, moreN, isS, run]
  | i + 5, h, _, _, _ => by omega
theorem run_selStep {q : Q3} (p : ByteArray × Nat) (nr nc : Nat) (hn : nc < 4) (h : run (bl p.1) q = some (3, nr, nc)) : run (bl (selStep len L by' p).1) q = some (3, nr, nc + 1) := by
  have l5 := nx_lt (len := len) (L := L) (n := 5) (at' := p.2) (by decide)
  show run (bl (p.1 ++ sgB _ ++ (wCompF len L by' _).1)) _ = _
  rw [bl_append, bl_append]
  exact run_two (run_two h (run_sg _ l5 nr nc hn)) (run_comp _ _ _)
theorem run_selLoop {q : Q3} : ∀ (k : Nat) (p : ByteArray × Nat) (nr nc : Nat), nc + k ≤ 4 → run (bl p.1) q = some (3, nr, nc) → run (bl (selLoop len L by' k p).1) q = some (3, nr, nc + k)
  | 0, _, _, _, _, h => h
  | k + 1, p, nr, nc, hn, h => by
    have := run_selLoop (q := q) k (selStep len L by' p) nr (nc + 1) (by omega) (run_selStep p nr nc (by omega) h)
    rwa [show nc + 1 + k = nc + (k + 1) from by omega] at this
theorem run_sel (at' nr : Nat) : ∃ nc, run (bl (wSelF len L by' at').1) (2, nr, 1) = some (3, nr, nc) := by
  have l3 := nx_lt (len := len) (L := L) (n := 3) (at' := (wCompF len L by' at').2) (by decide)
  exact ⟨_, run_selLoop _ _ nr 1 (by omega) (run_comp _ _ _)⟩
theorem head_selLoop : ∀ (k : Nat) (p : ByteArray × Nat), HdOK p.1 → HdOK (selLoop len L by' k p).1
  | 0, _, h => h
  | k + 1, p, h => head_selLoop k (selStep len L by' p) ((h.app _).app _)
theorem head_sel (at' : Nat) : HdOK (wSelF len L by' at').1 := head_selLoop _ _ (head_comp _)
/-- At a rule's beginning. -/
theorem run_zero {l : List Nat} {c : Nat} (hc : c ≠ 64) (nr nc : Nat) (hn : nr ≠ 20) : run (c :: l) (0, nr, nc) = run (c :: l) (2, nr + 1, 1) := by
  show (stp (0, nr, nc) c).bind (run l) = (stp (2, nr + 1, 1) c).bind (run l)
  have h : stp (0, nr, nc) c = stp (2, nr + 1, 1) c := by
    have h1 : nxt 0 c = compN c := by unfold nxt; rw [if_pos rfl, if_neg hc]
    have h2 : nxt 2 c = compN c := rfl
    unfold stp
    simp only
    rw [h1, h2]
    by_cases h3 : compN c = -1
    · rw [if_pos h3, if_pos h3]
    · rw [if_neg h3, if_neg h3, if_pos trivial, if_neg hn, if_neg (by decide), if_neg (by decide), if_neg (by decide)]
  rw [h]
theorem run_pr : ∀ p, p < 9 → ∀ (m : Int) (nr nc : Nat), m = 9 ∨ m = 10 → run (bl (prB p)) (m, nr, nc) = some (11, nr, nc)
  | 0, _, m, nr, nc, h => by rcases h with rfl | rfl <;> rfl
  | 1, _, m, nr, nc, h => by rcases h with rfl | rfl <;> rfl
  | 2, _, m, nr, nc, h => by rcases h with rfl | rfl <;> rfl
  | 3, _, m, nr, nc, h => by rcases h with rfl | rfl <;> rfl
  | 4, _, m, nr, nc, h => by rcases h with rfl | rfl <;> rfl
  | 5, _, m, nr, nc, h => by rcases h with rfl | rfl <;> rfl
  | 6, _, m, nr, nc, h => by rcases h with rfl | rfl <;> rfl
  | 7, _, m, nr, nc, h => by rcases h with rfl | rfl <;> rfl
  | 8, _, m, nr, nc, h => by rcases h with rfl | rfl <;> rfl
  | p + 9, h, _, _, _, _ => by omega
theorem run_va : ∀ p, p < 3 → ∀ (nr nc : Nat), run (bl (prB (6 + p))) (17, nr, nc) = some (15, nr, nc)
  | 0, _, nr, nc => rfl
  | 1, _, nr, nc => rfl
  | 2, _, nr, nc => rfl
  | p + 3, h, _, _ => by omega
theorem run_declMid {q : Q3} (s0 : ByteArray) (c : Nat × Nat) (nr nc : Nat) (h : run (bl s0) q = some (12, nr, nc)) : ∃ m, (m = 14 ∨ m = 15) ∧ run (bl (declMid len L s0 c).1) q = some (m, nr, nc) := by
  have l3 := nx_lt (len := len) (L := L) (n := 3) (at' := c.2) (by decide)
  have l9 := nx_lt (len := len) (L := L) (n := 9) (at' := c.2) (by decide)
  have l10 := nx_lt (len := len) (L := L) (n := 10) (at' := (nx len L 9 c.2).2) (by decide)
  unfold declMid
  (repeat' split)
  · refine ⟨15, Or.inr rfl, ?_⟩
    show run (bl (s0 ++ _)) _ = _
    rw [bl_append]
    exact run_two h rfl
  · refine ⟨15, Or.inr rfl, ?_⟩
    show run (bl (s0 ++ _)) _ = _
    rw [bl_append]
    exact run_two h rfl
  · refine ⟨15, Or.inr rfl, ?_⟩
    show run (bl (s0 ++ _)) _ = _
    rw [bl_append]
    exact run_two h rfl
  · refine ⟨15, Or.inr rfl, ?_⟩
    show run (bl (s0 ++ _ ++ prB _)) _ = _
    rw [bl_append, bl_append]
    exact run_two (q1 := (17, nr, nc)) (run_two h rfl) (run_va _ l3 _ _)
  · refine ⟨14, Or.inl rfl, ?_⟩
    show run (bl (s0 ++ digB _ ++ digB _)) _ = _
    rw [bl_append, bl_append]
    exact run_two (run_two h (run_dig12 (by omega) _ _)) (run_dig13 l10 _ _)
theorem run_decl (at' : Nat) (m : Int) (nr nc : Nat) (hm : m = 9 ∨ m = 10) : ∃ m', (m' = 14 ∨ m' = 15 ∨ m' = 16) ∧ run (bl (wDeclF len L mild at').1) (m, nr, nc) = some (m', nr, nc) := by
  have l9 := nx_lt (len := len) (L := L) (n := 9) (at' := at') (by decide)
  have h0 : run (bl (prB (nx len L 9 at').1 ++ (⟨#[58]⟩ : ByteArray))) (m, nr, nc) = some (12, nr, nc) := by
    rw [bl_append]
    exact run_two (run_pr _ l9 m nr nc hm) rfl
  obtain ⟨m1, h1, h2⟩ := run_declMid (len := len) (L := L) _ (nx len L 8 (nx len L 9 at').2) nr nc h0
  unfold wDeclF declEnd
  split
  · refine ⟨16, Or.inr (Or.inr rfl), ?_⟩
    show run (bl ((declMid len L _ _).1 ++ ⟨#[33]⟩)) _ = _
    rw [bl_append]
    refine run_two h2 ?_
    rcases h1 with rfl | rfl <;> rfl
  · refine ⟨m1, ?_, h2⟩
    rcases h1 with h1 | h1
    · exact Or.inl h1
    · exact Or.inr (Or.inl h1)
theorem run_declLoop {q : Q3} : ∀ (k : Nat) (p : ByteArray × Nat) (nr nc : Nat), (∃ m', (m' = 14 ∨ m' = 15 ∨ m' = 16) ∧ run (bl p.1) q = some (m', nr, nc)) → ∃ m', (m' = 14 ∨ m' = 15 ∨ m' = 16) ∧ run (bl (declLoop len L mild k p).1) q = some (m', nr, nc)
  | 0, _, _, _, h => h
  | k + 1, p, nr, nc, ⟨m1, h1, h2⟩ => by
    refine run_declLoop k (declStep len L mild p) nr nc ?_
    obtain ⟨m2, h3, h4⟩ := run_decl (len := len) (L := L) (mild := mild) p.2 10 nr nc (Or.inr rfl)
    refine ⟨m2, h3, ?_⟩
    show run (bl (p.1 ++ ⟨#[59]⟩ ++ (wDeclF len L mild p.2).1)) _ = _
    rw [bl_append, bl_append]
    refine run_two (q1 := (10, nr, nc)) (run_two h2 ?_) h4
    rcases h1 with rfl | rfl | rfl <;> rfl
theorem run_rule (at' nr nc : Nat) (hn : nr < 20) : ∃ nc', run (bl (wRuleF len L by' mild at').1) (0, nr, nc) = some (0, nr + 1, nc') := by
  have h1 : ∃ nc1, run (bl (ruleSel len L by' (ruleHead len L at')).1) (0, nr, nc) = some (3, nr + 1, nc1) := by
    obtain ⟨n1, hs⟩ := run_sel (len := len) (L := L) (by' := by') (ruleHead len L at').2 (nr + 1)
    refine ⟨n1, ?_⟩
    show run (bl ((ruleHead len L at').1 ++ (wSelF len L by' (ruleHead len L at').2).1)) _ = _
    rw [bl_append]
    have l4 := nx_lt (len := len) (L := L) (n := 4) (at' := (nx len L 3 at').2) (by decide)
    by_cases h0 : (nx len L 3 at').1 = 0
    · have hh : (ruleHead len L at').1 = ⟨#[64]⟩ ++ digB (nx len L 4 (nx len L 3 at').2).1 := by unfold ruleHead; rw [if_pos h0]
      rw [hh, bl_append]
      refine run_two (run_two (q1 := (1, nr + 1, 1)) ?_ (run_dig1 (by omega) _ _)) hs
      show (stp (0, nr, nc) 64).bind (run []) = _
      have : nr ≠ 20 := by omega
      simp [stp, this, nxt, run]
    · have hh : (ruleHead len L at').1 = ⟨#[]⟩ := by unfold ruleHead; rw [if_neg h0]
      rw [hh]
      obtain ⟨c, l, hc1, hc2⟩ := head_sel (len := len) (L := L) (by' := by') (ruleHead len L at').2
      show run (bl (wSelF len L by' (ruleHead len L at').2).1) _ = _
      rw [hc1, run_zero hc2 nr nc (by omega), ← hc1]
      exact hs
  obtain ⟨nc1, h1⟩ := h1
  have he : wRuleF len L by' mild at' = ruleF4 len L mild (ruleDecl len L mild (ruleMore len L by' (ruleSel len L by' (ruleHead len L at')))) := rfl
  rw [he]
  generalize ruleSel len L by' (ruleHead len L at') = p1 at h1
  have h2 : ∃ nc2, run (bl (ruleMore len L by' p1).1) (0, nr, nc) = some (3, nr + 1, nc2) := by
    unfold ruleMore
    split
    · obtain ⟨n2, hs⟩ := run_sel (len := len) (L := L) (by' := by') (nx len L 4 p1.2).2 (nr + 1)
      refine ⟨n2, ?_⟩
      show run (bl (p1.1 ++ ⟨#[44]⟩ ++ (wSelF len L by' _).1)) _ = _
      rw [bl_append, bl_append]
      exact run_two (q1 := (2, nr + 1, 1)) (run_two h1 rfl) hs
    · exact ⟨nc1, h1⟩
  obtain ⟨nc2, h2⟩ := h2
  refine ⟨nc2, ?_⟩
  generalize ruleMore len L by' p1 = p2 at h2
  have h3 : ∃ m', (m' = 14 ∨ m' = 15 ∨ m' = 16) ∧ run (bl (ruleDecl len L mild p2).1) (0, nr, nc) = some (m', nr + 1, nc2) := by
    obtain ⟨m2, h3, h4⟩ := run_decl (len := len) (L := L) (mild := mild) p2.2 9 (nr + 1) nc2 (Or.inl rfl)
    refine ⟨m2, h3, ?_⟩
    show run (bl (p2.1 ++ ⟨#[123]⟩ ++ (wDeclF len L mild p2.2).1)) _ = _
    rw [bl_append, bl_append]
    exact run_two (q1 := (9, nr + 1, nc2)) (run_two h2 rfl) h4
  generalize ruleDecl len L mild p2 = p3 at h3
  obtain ⟨m3, h4, h5⟩ := run_declLoop (len := len) (L := L) (mild := mild) (nx len L 3 p3.2).1 (p3.1, (nx len L 3 p3.2).2) (nr + 1) nc2 h3
  show run (bl ((declLoop len L mild (nx len L 3 p3.2).1 (p3.1, (nx len L 3 p3.2).2)).1 ++ ⟨#[125]⟩)) _ = _
  rw [bl_append]
  refine run_two h5 ?_
  rcases h4 with rfl | rfl | rfl <;> rfl
theorem run_sheetLoop {most : Nat} : ∀ (k : Nat) (p : ByteArray × Nat) (nr : Nat), nr + k ≤ 20 → (∃ nr' nc, nr' ≤ nr ∧ run (bl p.1) (0, 0, 0) = some (0, nr', nc)) → ∃ nr' nc, run (bl (sheetLoop len L by' mild most k p).1) (0, 0, 0) = some (0, nr', nc)
  | 0, _, _, _, ⟨nr', nc, _, h⟩ => ⟨nr', nc, h⟩
  | k + 1, p, nr, hk, ⟨nr', nc, hle, h⟩ => by
    refine run_sheetLoop k (sheetStep len L by' mild most p) (nr + 1) (by omega) ?_
    by_cases hfit : p.1.size + (wRuleF len L by' mild p.2).1.size ≤ most
    · have hs : (sheetStep len L by' mild most p).1 = p.1 ++ (wRuleF len L by' mild p.2).1 := if_pos hfit
      obtain ⟨nc', hr⟩ := run_rule (len := len) (L := L) (by' := by') (mild := mild) p.2 nr' nc (by omega)
      refine ⟨nr' + 1, nc', by omega, ?_⟩
      rw [hs, bl_append]
      exact run_two h hr
    · have hs : (sheetStep len L by' mild most p).1 = p.1 := if_neg hfit
      exact ⟨nr', nc, by omega, by rw [hs]; exact h⟩
/-- A written sheet is accepted. -/
theorem wSheet_chk {most : Nat} (hm : most ≤ 400) : chk (wSheetF len L by' mild most) = (0, 0) := by
  have l9 := nx_lt (len := len) (L := L) (n := 9) (at' := 0) (by decide)
  obtain ⟨nr, nc, h⟩ := run_sheetLoop (len := len) (L := L) (by' := by') (mild := mild) (most := most) (nx len L 9 0).1 (⟨#[]⟩, (nx len L 9 0).2) 0 (by omega) ⟨0, 0, Nat.le_refl _, rfl⟩
  exact chk_run (Nat.le_trans wSheetF_size hm) h
end
end Go.Proofs.YtblfffbmklkhmaaGreat

namespace Go.Proofs.YtblfffbmklkhmaaGreat
open Go.RowKit
section
set_option maxRecDepth 100000
set_option maxHeartbeats 4000000
variable {DS : World → Value → Tree → Nat → (Nat → Mk) → List PRu → (Nat → Prop) → Prop}
theorem lazy_any (hP4 : DocOK4 DS) (w : World) (al : Option Addr) (ll lc : Nat) (L : Nat → Int) (hI : Il w al ll L) (hll : ll ≤ 4611686018427387904) (a0 : Option Addr) (len cap : Nat) (K X Y Z : Nat → Int) (hs : Sc w a0 len K X Y Z) (hl : len ≤ 4611686018427387903) :
    Calls Tryz.prog 13 #[.slice al ll lc, .slice a0 len cap] w fun e w' => e = .returned (.bool true) ∧ Below w.heap.size w w' := by
  have HP4 : Hid (DocOK4 DS) := hP4
  have HP : Hid (DocOK DS) := hP4.toDocOK
  have HS : Hid (Sc w a0 len K X Y Z) := hs
  have HSH : Hid (∀ W, Below w.heap.size w W → Calls Tryz.prog 27 #[.slice al ll lc, .int .i64 0, .bool false, .int .i64 400] W fun e w' => e = .returned (.string (wSheetF ll L 0 false 400)) ∧ Below W.heap.size W w') := fun W hW => ksheet_any W al ll lc L 0 false 400 (hI.below hW) hll (by decide) (by decide)
  have HCK : Hid ((chk (wSheetF ll L 0 false 400)).1 = 0) := by unfold Hid; rw [wSheet_chk (Nat.le_refl _)]
  have hsz : (wSheetF ll L 0 false 400).size ≤ 400 := wSheetF_size
  clear hP4 hs hI
  generalize wSheetF ll L 0 false 400 = sh at HSH HCK hsz
  have HPL : Hid (∀ W, Calls Tryz.prog 19 #[.string sh, .int .i64 0] W fun e w' => KPlantPost DS W 0 (sheetOf sh) e w') := fun W => kplant_any HP.out W sh 0 (by decide) (by unfold maxLen; omega) HCK.out
  generalize sheetOf sh = rs at HPL
  clear HCK
  go_enter Tryz.func13, Tryz.ntmps13
  go_wp2_with fail
  refine (khead_any HP.out w).mono ?_
  rintro e w1 ⟨rfl, hB1⟩
  have HB1 : Hid (Below w.heap.size w w1) := hB1
  clear hB1
  go_wp2_with fail
  refine (HSH.out _ HB1.out).mono ?_
  rintro e w2 ⟨rfl, hB2⟩
  have HB2 : Hid (Below w.heap.size w w2) := HB1.out.trans (hB2.mono HB1.out.size)
  clear hB2 HB1 HSH
  go_wp2_with fail
  refine (HPL.out _).mono ?_
  rintro e w3 ⟨g, px, vl, n0, Fg, Fx, rfl, hgd, hin, hB3⟩
  have HGD : Hid (GD DS w3 g px vl 1 0 [rootN n0 0] rs Fg Fx ∧ (∀ k, Fg k ∨ Fx k → w.heap.size ≤ k) ∧ Below w.heap.size w w3) := ⟨hgd, fun k hk => Nat.le_trans HB2.out.size (hin k hk), HB2.out.trans (hB3.mono HB2.out.size)⟩
  clear hgd hin hB3 HB2
  go_wp2_with fail
  refine (HPL.out _).mono ?_
  rintro e w4 ⟨g2, px2, vl2, n02, Fg2, Fx2, rfl, hgd, hin, hB4⟩
  have HT : Hid (Two DS w w4 g px vl 1 0 [rootN n0 0] rs Fg Fx g2 px2 vl2 1 0 [rootN n02 0] rs Fg2 Fx2) := two_plant HP.out HGD.out.1 HGD.out.2.1 HGD.out.2.2 hgd hin hB4
  clear hgd hin hB4 HGD HPL
  go_wp2_with fail
  refine (kgrow4_sc HP4.out w4 g px vl 1 0 [rootN n0 0] rs Fg Fx HT.out.one 11 (by decide) (by decide) a0 len cap K X Y Z HS.out HT.out.bl HT.out.na (by omega)).mono ?_
  rintro e w5 ⟨rfl, vl1, ns, Fg1, Fx1, hS, hgd, hin, hfr⟩
  have HT5 : Hid (Two DS w w5 g px vl1 (growS 0 11 K X Y Z ([rootN n0 0].map GN.pl) 1 len).2 0 ns rs Fg1 Fx1 g2 px2 vl2 1 0 [rootN n02 0] rs Fg2 Fx2) := HT.out.turn HP.out hgd hin (fun _ hk => hk) hfr
  have HS1 : Hid ((growS 0 6 K X Y Z [rootS 0] 1 len).1 = ns.map GN.pl) := by unfold Hid; rw [← hS, growS_lazy]; rfl
  clear hS hgd hin hfr HT
  generalize (growS 0 11 K X Y Z ([rootN n0 0].map GN.pl) 1 len).2 = made at HT5
  go_wp2_with fail
  refine (kgrow4_sc HP4.out w5 g2 px2 vl2 1 0 [rootN n02 0] rs Fg2 Fx2 HT5.out.two 6 (by decide) (by decide) a0 len cap K X Y Z HS.out HT5.out.bl HT5.out.nb (by omega)).mono ?_
  rintro e w6 ⟨rfl, vl3, ns2, Fg3, Fx3, hS, hgd, hin, hfr⟩
  have HT6 : Hid (Two DS w w6 g px vl1 made 0 ns rs Fg1 Fx1 g2 px2 vl3 (growS 0 6 K X Y Z ([rootN n02 0].map GN.pl) 1 len).2 0 ns2 rs Fg3 Fx3) := (HT5.out.swap.turn HP.out hgd hin (fun _ hk => hk) hfr).swap
  have HNN : Hid (ns.map GN.pl = ns2.map GN.pl) := by unfold Hid; rw [← HS1.out, ← hS]; rfl
  clear hS hgd hin hfr HT5 HS1
  generalize (growS 0 6 K X Y Z ([rootN n02 0].map GN.pl) 1 len).2 = made2 at HT6
  have HVAL : Hid (∀ n ∈ ns, ∃ n2 ∈ ns2, n2.num = n.num ∧ ∀ p, valS (mOf 0 (ns2.map GN.pl)) (ns2.map GN.pl) rs n2.num p = valS (mOf 0 (ns.map GN.pl)) (ns.map GN.pl) rs n.num p) := fun n hn => by
    have h1 : n.pl ∈ ns2.map GN.pl := by rw [← HNN.out]; exact List.mem_map.2 ⟨n, hn, rfl⟩
    obtain ⟨n2, h2, h3⟩ := List.mem_map.1 h1
    have h4 : n2.num = n.num := congrArg PNd.num h3
    exact ⟨n2, h2, h4, fun p => by rw [h4, HNN.out]⟩
  obtain ⟨hln0, hln⟩ := HT6.out.one.len
  obtain ⟨ag, cg, hvl⟩ := own_shape HT6.out.one.gr.row
  subst hvl
  clear HNN
  have HT7 : Hid (∃ Fx Fx', Two DS w w6 g px (.slice ag ns.length cg) made 0 ns rs Fg1 Fx g2 px2 vl3 made2 0 ns2 rs Fg3 Fx') := ⟨_, _, HT6.out⟩
  clear HT6
  go_wp2_with fail
  go_loopg [10, 11, 12, 13, 14, 15] ns.length (fun gk iv s1 s2 s3 s4 s5 wr => ∃ i : Nat, iv = .int .i64 i ∧ i ≤ ns.length ∧ ns.length - i ≤ gk ∧ Hid (∃ Fx Fx', Two DS w wr g px (.slice ag ns.length cg) made 0 ns rs Fg1 Fx g2 px2 vl3 made2 0 ns2 rs Fg3 Fx'))
  case atStart => exact ⟨0, rfl, Nat.zero_le _, by omega, HT7⟩
  case round =>
    obtain ⟨i, rfl, hi, hgk, HI⟩ := hrel
    obtain ⟨Fx4, Fx5, ht⟩ := HI.out
    have HT : Hid (Two DS w wr g px (.slice ag ns.length cg) made 0 ns rs Fg1 Fx4 g2 px2 vl3 made2 0 ns2 rs Fg3 Fx5) := ht
    have u1 := ht.one.gr.c1
    have hgl := ht.one.gr.lt
    clear ht HI
    by_cases hlt : i < ns.length
    · have hd : decide ((i : Int) < (ns.length : Int)) = true := by simp; omega
      have hii : (i : Int) < (ns.length : Int) := by omega
      obtain ⟨r, hr, hrl, q2, _, _⟩ := HT.out.one.gr.at' hlt
      subst hr
      have HMX : Hid (ns[i] ∈ ns) := List.getElem_mem hlt
      obtain ⟨n, hni⟩ : ∃ n, ns[i] = n := ⟨_, rfl⟩
      have HNI : Hid (ns[i] = n) := hni
      rw [hni] at q2 HMX
      clear hni
      obtain ⟨n0', _, _, _, _, hnb⟩ := node_cells (HT.out.one.gr.nd n HMX.out)
      obtain ⟨m, hm1, hm2, hm3⟩ := HVAL.out n HMX.out
      have HM : Hid (m ∈ ns2 ∧ m.num = n.num ∧ ∀ p, valS (mOf 0 (ns2.map GN.pl)) (ns2.map GN.pl) rs m.num p = valS (mOf 0 (ns.map GN.pl)) (ns.map GN.pl) rs n.num p) := ⟨hm1, hm2, hm3⟩
      clear hm1 hm2 hm3
      go_wp2_with fail
      refine (kall_any HP.out wr g px (.slice (some ⟨r, 0, none⟩) ns.length cg) made 0 (mOf 0 (ns.map GN.pl)) ns rs Fg1 Fx4 HT.out.one.gdm n HMX.out).mono ?_
      generalize HVV : valS (mOf 0 (ns.map GN.pl)) (ns.map GN.pl) rs n.num = VV at HM ⊢
      unfold KAllPost nineV
      rintro e w8 ⟨rfl, Fx6, hgd3, hin3, hfr3⟩
      have HT8 : Hid (Two DS w w8 g px (.slice (some ⟨r, 0, none⟩) ns.length cg) made 0 ns rs Fg1 Fx6 g2 px2 vl3 made2 0 ns2 rs Fg3 Fx5) := HT.out.all HP.out hgd3 hin3 hfr3
      clear hgd3 hin3 hfr3 HVV u1 hgl q2 n0' hnb hrl HT
      go_upto_region 15 with fail
      have HW9 : Hid (Below w8.heap.size w8 (w8.alloc (.cells #[.int .i64 (VV 0), .int .i64 (VV 1), .int .i64 (VV 2), .int .i64 (VV 3), .int .i64 (VV 4), .int .i64 (VV 5), .int .i64 (VV 6), .int .i64 (VV 7), .int .i64 (VV 8)] 38)) ∧ (w8.alloc (.cells #[.int .i64 (VV 0), .int .i64 (VV 1), .int .i64 (VV 2), .int .i64 (VV 3), .int .i64 (VV 4), .int .i64 (VV 5), .int .i64 (VV 6), .int .i64 (VV 7), .int .i64 (VV 8)] 38)).heap[w8.heap.size]? = some (.cells #[.int .i64 (VV 0), .int .i64 (VV 1), .int .i64 (VV 2), .int .i64 (VV 3), .int .i64 (VV 4), .int .i64 (VV 5), .int .i64 (VV 6), .int .i64 (VV 7), .int .i64 (VV 8)] 38)) := ⟨(Below.refl _ _).alloc (Nat.le_refl _) _, heap_alloc_new w8 _⟩
      generalize w8.alloc (.cells #[.int .i64 (VV 0), .int .i64 (VV 1), .int .i64 (VV 2), .int .i64 (VV 3), .int .i64 (VV 4), .int .i64 (VV 5), .int .i64 (VV 6), .int .i64 (VV 7), .int .i64 (VV 8)] 38) = W9 at HW9 ⊢
      have HT9 : Hid (Two DS w W9 g px (.slice (some ⟨r, 0, none⟩) ns.length cg) made 0 ns rs Fg1 Fx6 g2 px2 vl3 made2 0 ns2 rs Fg3 Fx5) := HT8.out.below HP.out HW9.out.1
      have HN9 : Hid (¬ Fx5 w8.heap.size) := fun hx => Nat.lt_irrefl _ (HT8.out.two.here _ (Or.inr hx))
      clear HT8
      have u1 := HT9.out.one.gr.c1
      have hgl := HT9.out.one.gr.lt
      obtain ⟨r2, hr2, hrl, q2, _, _⟩ := HT9.out.one.gr.at' hlt
      injection hr2 with hr2
      injection hr2 with hr2 _ _
      subst hr2
      rw [HNI.out] at q2
      obtain ⟨n0', _, _, _, _, hnb⟩ := node_cells (HT9.out.one.gr.nd n HMX.out)
      go_wp2_with fail
      have hkall := kall_any HP.out W9 g2 px2 vl3 made2 0 (mOf 0 (ns2.map GN.pl)) ns2 rs Fg3 Fx5 HT9.out.two.gdm m HM.out.1
      rw [HM.out.2.1] at hkall
      refine hkall.mono ?_
      have HEQ : Hid (∀ p, p < 9 → VV p = valS (mOf 0 (ns2.map GN.pl)) (ns2.map GN.pl) rs n.num p) := fun p _ => by rw [← HM.out.2.2 p, HM.out.2.1]
      clear hkall HM
      generalize valS (mOf 0 (ns2.map GN.pl)) (ns2.map GN.pl) rs n.num = UU at HEQ ⊢
      unfold KAllPost nineV
      rintro e wA ⟨rfl, Fx7, hgd3, hin3, hfr3⟩
      have HTA : Hid (Two DS w wA g px (.slice (some ⟨r, 0, none⟩) ns.length cg) made 0 ns rs Fg1 Fx6 g2 px2 vl3 made2 0 ns2 rs Fg3 Fx7) := (HT9.out.swap.all HP.out hgd3 hin3 hfr3).swap
      have hl9 := (Array.getElem?_eq_some_iff.1 HW9.out.2).1
      have hWA : wA.heap[w8.heap.size]? = some (.cells #[.int .i64 (VV 0), .int .i64 (VV 1), .int .i64 (VV 2), .int .i64 (VV 3), .int .i64 (VV 4), .int .i64 (VV 5), .int .i64 (VV 6), .int .i64 (VV 7), .int .i64 (VV 8)] 38) := (hfr3.block w8.heap.size hl9 HN9.out).trans HW9.out.2
      generalize w8.heap.size = bv at hWA ⊢
      have y0 : wA.cell? ⟨bv, 0, none⟩ = some (.int .i64 (VV 0)) := cell_of_blk hWA rfl
      have y1 : wA.cell? ⟨bv, 1, none⟩ = some (.int .i64 (VV 1)) := cell_of_blk hWA rfl
      have y2 : wA.cell? ⟨bv, 2, none⟩ = some (.int .i64 (VV 2)) := cell_of_blk hWA rfl
      have y3 : wA.cell? ⟨bv, 3, none⟩ = some (.int .i64 (VV 3)) := cell_of_blk hWA rfl
      have y4 : wA.cell? ⟨bv, 4, none⟩ = some (.int .i64 (VV 4)) := cell_of_blk hWA rfl
      have y5 : wA.cell? ⟨bv, 5, none⟩ = some (.int .i64 (VV 5)) := cell_of_blk hWA rfl
      have y6 : wA.cell? ⟨bv, 6, none⟩ = some (.int .i64 (VV 6)) := cell_of_blk hWA rfl
      have y7 : wA.cell? ⟨bv, 7, none⟩ = some (.int .i64 (VV 7)) := cell_of_blk hWA rfl
      have y8 : wA.cell? ⟨bv, 8, none⟩ = some (.int .i64 (VV 8)) := cell_of_blk hWA rfl
      have hlA : bv < wA.heap.size := (Array.getElem?_eq_some_iff.1 hWA).1
      have HSM : Hid (∀ W, Calls Tryz.prog 23 #[.agg #[.int .i64 (VV 0), .int .i64 (VV 1), .int .i64 (VV 2), .int .i64 (VV 3), .int .i64 (VV 4), .int .i64 (VV 5), .int .i64 (VV 6), .int .i64 (VV 7), .int .i64 (VV 8)], .agg #[.int .i64 (UU 0), .int .i64 (UU 1), .int .i64 (UU 2), .int .i64 (UU 3), .int .i64 (UU 4), .int .i64 (UU 5), .int .i64 (UU 6), .int .i64 (UU 7), .int .i64 (UU 8)]] W fun e w' => e = .returned (.bool true) ∧ Below W.heap.size W w') := fun W => ksame_any W VV UU HEQ.out
      clear hgd3 hin3 hfr3 hWA HEQ u1 hgl q2 n0' hnb hrl HT9 hl9 HN9 HW9
      go_wp2_with fail
      refine (HSM.out _).mono ?_
      rintro e wB ⟨rfl, hBB⟩
      have HBB : Hid (Below wA.heap.size wA wB) := ((Below.refl _ _).alloc (Nat.le_refl _) (.cells #[.int .i64 (UU 0), .int .i64 (UU 1), .int .i64 (UU 2), .int .i64 (UU 3), .int .i64 (UU 4), .int .i64 (UU 5), .int .i64 (UU 6), .int .i64 (UU 7), .int .i64 (UU 8)] 38)).trans (hBB.mono (by simp))
      have HIB : Hid (∃ Fx Fx', Two DS w wB g px (.slice (some ⟨r, 0, none⟩) ns.length cg) made 0 ns rs Fg1 Fx g2 px2 vl3 made2 0 ns2 rs Fg3 Fx') := ⟨_, _, HTA.out.below HP.out HBB.out⟩
      clear hBB HTA HBB HSM y0 y1 y2 y3 y4 y5 y6 y7 y8 hlA
      go_wp2
      go_roundg (ns.length - (i + 1))
      case measure => omega
      case rel => exact ⟨i + 1, by go_num, by omega, Nat.le_refl _, HIB⟩
    · have hd : decide ((i : Int) < (ns.length : Int)) = false := by simp; omega
      go_wp2
      go_ret
      exact ⟨rfl, HT.out.bl⟩
end
end Go.Proofs.YtblfffbmklkhmaaGreat

namespace Go.Proofs.YtblfffbmklkhmaaGreat
open Go.ChangeShapes Go.WideShapes Go.ChangeAt Go.RowKit
theorem lazy_args {W : World} {al : Option Addr} {ll lc f2 : Nat} {a0 : Option Addr} {len cap fuel : Nat} {H : Type} {enc : TypeId × Value → H} {x y : DataW H × List MemPlace} (hi : DataW.trod enc Tryz.prog W 0 (fun _ => true) true f2 40 [.slice al ll lc] = some y) (h : DataW.trod enc Tryz.prog W 0 (fun _ => true) true fuel 25 [.slice a0 len cap] = some x) (hll : ll ≤ 4611686018427387904) (hl : len ≤ 1000000000000000) :
    Calls Tryz.prog 13 #[.slice al ll lc, .slice a0 len cap] W fun e w' => e = .returned (.bool true) ∧ Below W.heap.size W w' := by
  obtain ⟨K, X, Y, Z, hs, _⟩ := open_steps h
  obtain ⟨L, hL⟩ := open_ints hi
  exact lazy_any doc_ok4 W al ll lc L hL hll a0 len cap K X Y Z hs (by omega)
set_option maxRecDepth 100000 in
theorem lazy_lifted (os : Os) (started : os.Started) (H : Type) (enc : TypeId × Value → H) :
    ReturnsInHanded {} Tryz.checked os 13 .any (Rows.lazySpec.pre6 enc Tryz.prog Tryz.f13 Rows.lazyRow.domain false) (Rows.lazySpec.post enc Tryz.prog Tryz.f13 false true false false) := by
  refine returnsInHanded_of_change_sized (C := Tryz.checked) Tryz.own started (by kernel_rfl) Tryz.func13
    (ChangeSpec.witness6 (enc := enc) (C := Tryz.checked) false ⟨#[], #[.slice none 0 0, .slice none 0 0], []⟩ 8 (by kernel_rfl) (by kernel_rfl) (by kernel_rfl) (by kernel_rfl)) ?_
  intro W base args ds gs before hval0 hW _ hsz0 _
  have hval : ∀ (j : Nat) t v, Tryz.f13.params[j]? = some t → args[j]? = some v → Value.okWide Tryz.prog W .any base t v := hval0
  have hsz1 : (DataW.weightsEach Tryz.prog (Tryz.f13.params.toList ++ Rows.lazySpec.plain.varTypes Tryz.prog) (ds ++ gs)).all (· ≤ reachBytes) = true := hsz0
  have hW' := hW
  obtain ⟨p, q, hA0, hV, rfl, _, _⟩ := hW
  have hA : DataW.TrodAll enc Tryz.prog W 0 (fun _ => true) true Tryz.f13.params.toList args.toList ds p := hA0
  rw [Tryz.params13] at hA hval hsz1
  obtain ⟨v0, v1, d0, d1, p0, p1, rfl, rfl, rfl, h0, h1⟩ := trodAll_two hA
  obtain ⟨rfl, rfl⟩ := trodVars_none hV
  obtain ⟨al, ll, lc, rfl⟩ := okWide_slice Tryz.underlying40 (hval 0 40 v0 rfl rfl)
  obtain ⟨a0, len, cap, rfl⟩ := okWide_slice Tryz.underlying25 (hval 1 25 v1 rfl rfl)
  have h0k := h0
  have h1k := h1
  obtain ⟨fuel, hf⟩ := h0
  obtain ⟨fuel2, hf2⟩ := h1
  clear hA0 hval0 hsz0
  simp only [List.append_nil] at hW'
  have hsz : (DataW.weightsEach Tryz.prog [40, 25] [d0, d1]).all (· ≤ reachBytes) = true := hsz1
  have hll := ints_short (by simpa [Value.cells] using hf) 0 rfl rfl hsz
  have hlen := steps_short_at (by simpa [Value.cells] using hf2) 1 rfl rfl hsz
  have hlt : ∀ x ∈ p0 ++ p1, x.block < W.heap.size := fun x hx => by simpa using hW'.lt x hx
  have hargs0 : ∀ (W' : World), Below W.heap.size W W' → DataW.Trod enc Tryz.prog W' 0 (fun b => decide (b < W.heap.size)) true 40 (.slice al ll lc) d0 p0 :=
    fun W' hn => Below.trod Tryz.laidOut (by kernel_rfl) (of_decide_eq_true (by kernel_rfl)) h0k hn (fun x hx => hlt x (List.mem_append_left _ hx))
  have hargs1 : ∀ (W' : World), Below W.heap.size W W' → DataW.Trod enc Tryz.prog W' 0 (fun b => decide (b < W.heap.size)) true 25 (.slice a0 len cap) d1 p1 :=
    fun W' hn => Below.trod Tryz.laidOut (by kernel_rfl) (of_decide_eq_true (by kernel_rfl)) h1k hn (fun x hx => hlt x (List.mem_append_right _ hx))
  refine (lazy_args (by simpa [Value.cells] using hf) (by simpa [Value.cells] using hf2) hll hlen).mono fun e W' ⟨he, hn⟩ => ?_
  subst he
  refine ⟨_, rfl, _, _, _, [], p0 ++ p1, [], hW', ?_, ?_, rfl, hn.frame _, fun h => by cases h⟩
  · exact trodAll_mk1 (shut_bool Tryz.underlying4 true)
  · exact trodAll_mk2 (hargs0 _ hn) (hargs1 _ hn)
theorem lazy_holds : Rows.LazySaid :=
  OpenClaim.holds_of_wide 13 Tryz.f13 rfl rfl rfl rfl rfl rfl rfl ⟨rfl, rfl, rfl, rfl, rfl⟩ rfl rfl rfl rfl rfl (by kernel_rfl) Tryz.func13 (by kernel_rfl)
    (of_decide_eq_true (by kernel_rfl)) (by unfold Func.isWrapper; first | (rw [if_pos (by decide +kernel)]; kernel_rfl) | (rw [if_neg (by decide +kernel)]; exact ⟨rfl, rfl⟩))
    (fun os started H enc _ => lazy_lifted os started H enc)
end Go.Proofs.YtblfffbmklkhmaaGreat
