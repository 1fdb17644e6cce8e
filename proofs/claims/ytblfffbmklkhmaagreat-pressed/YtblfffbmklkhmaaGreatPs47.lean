/- Own work. -/
import Derived.Test.YtblfffbmklkhmaaGreatPs45
import Derived.Test.YtblfffbmklkhmaaGreatPs46
namespace Go.Proofs.YtblfffbmklkhmaaGreat
open Go.RowKit
theorem bl_ltr (j b : Nat) : bl (letB (j + b)) = [ltr b j] := bl_let _
section
variable {len : Nat} {L : Nat → Int}
theorem part_ast (at' : Nat) : ∃ (k : KdA) (at2 : Nat), (∀ j, k ≠ .typ j) ∧ ∀ b, bl (partF len L b at').1 = renK b k ∧ (partF len L b at').2 = at2 := by
  have l5 := nx_lt (len := len) (L := L) (n := 5) (at' := (nx len L 4 (nx len L 8 at').2).2) (by decide)
  have l4 := nx_lt (len := len) (L := L) (n := 4) (at' := (nx len L 8 at').2) (by decide)
  unfold partF
  split
  · refine ⟨.cls (nx len L 4 (nx len L 8 at').2).1, _, fun j e => (by cases e), fun b => ⟨?_, rfl⟩⟩
    show bl (⟨#[46]⟩ ++ letB _) = _
    rw [bl_append, bl_ltr]
    rfl
  · split
    · refine ⟨.nam (nx len L 4 (nx len L 8 at').2).1, _, fun j e => (by cases e), fun b => ⟨?_, rfl⟩⟩
      show bl (⟨#[35]⟩ ++ letB _) = _
      rw [bl_append, bl_ltr]
      rfl
    · split
      · exact ⟨.fst, _, fun j e => (by cases e), fun b => ⟨rfl, rfl⟩⟩
      · split
        · exact ⟨.lst, _, fun j e => (by cases e), fun b => ⟨rfl, rfl⟩⟩
        · split
          · exact ⟨.emp, _, fun j e => (by cases e), fun b => ⟨rfl, rfl⟩⟩
          · refine ⟨.nth (nx len L 4 (nx len L 8 at').2).1 (nx len L 5 (nx len L 4 (nx len L 8 at').2).2).1, _, fun j e => (by cases e), fun b => ⟨?_, rfl⟩⟩
            show bl (⟨#[58, 110]⟩ ++ digB _ ++ digB _) = _
            rw [bl_append, bl_append, bl_dig (by omega), bl_dig (by omega)]
            rfl
/-- Whatever the letters are turned by: the same compound. -/
def CW (P : Nat → ByteArray × Nat) : Prop := ∃ (c : CpA) (at2 : Nat), c.ok ∧ ∀ b, bl (P b).1 = renC b c ∧ (P b).2 = at2
theorem comp_one (at' : Nat) : CW fun b => compOne len L b at' := by
  obtain ⟨k, at2, hk, h⟩ := part_ast (len := len) (L := L) (nx len L 4 at').2
  unfold compOne
  by_cases h0 : (nx len L 4 at').1 = 0
  · simp only [if_pos h0]
    exact ⟨⟨some none, []⟩, _, ⟨fun p hp => (by cases hp), fun e => by cases e⟩, fun b => ⟨rfl, rfl⟩⟩
  · simp only [if_neg h0]
    by_cases h3 : (nx len L 4 at').1 = 3
    · simp only [if_pos h3]
      refine ⟨⟨none, [⟨false, k⟩]⟩, at2, ⟨fun p hp => ?_, fun _ => by simp⟩, fun b => ⟨?_, (h b).2⟩⟩
      · rw [List.mem_singleton] at hp
        subst hp
        exact fun j e => absurd e (hk j)
      · rw [(h b).1]
        show _ = renK b k ++ []
        rw [List.append_nil]
    · simp only [if_neg h3]
      refine ⟨⟨some (some (nx len L 4 (nx len L 4 at').2).1), []⟩, _, ⟨fun p hp => (by cases hp), fun e => by cases e⟩, fun b => ⟨?_, rfl⟩⟩
      show bl (letB _) = _
      rw [bl_ltr]
      rfl
theorem renC_snoc (b : Nat) (c : CpA) (p : PtA) : renC b ⟨c.hd, c.ps ++ [p]⟩ = renC b c ++ renP b p := by
  unfold renC
  rw [List.flatMap_append, List.append_assoc]
  show _ = _ ++ (_ ++ renP b p)
  rw [List.flatMap_cons, List.flatMap_nil, List.append_nil]
theorem CpA.ok.snoc {c : CpA} (hc : c.ok) {p : PtA} (hp : p.ok) : CpA.ok ⟨c.hd, c.ps ++ [p]⟩ := by
  refine ⟨fun q hq => ?_, fun _ => by simp⟩
  rcases List.mem_append.1 hq with h | h
  · exact hc.1 q h
  · rw [List.mem_singleton] at h
    subst h
    exact hp
theorem comp_step {P : Nat → ByteArray × Nat} (h : CW P) : CW fun b => compStep len L b (P b) := by
  obtain ⟨c, at2, hc, h⟩ := h
  have e : ∀ b, P b = ((P b).1, at2) := fun b => by rw [← (h b).2]
  by_cases h0 : (nx len L 4 at2).1 = 0
  · by_cases h3 : (nx len L 3 (nx len L 4 at2).2).1 = 0
    · refine ⟨⟨c.hd, c.ps ++ [⟨true, .typ (nx len L 4 (nx len L 3 (nx len L 4 at2).2).2).1⟩]⟩, (nx len L 4 (nx len L 3 (nx len L 4 at2).2).2).2, hc.snoc (fun _ _ => rfl), fun b => ?_⟩
      have hs : compStep len L b (P b) = ((P b).1 ++ ⟨#[33]⟩ ++ letB ((nx len L 4 (nx len L 3 (nx len L 4 at2).2).2).1 + b), (nx len L 4 (nx len L 3 (nx len L 4 at2).2).2).2) := by
        rw [e b]
        unfold compStep
        simp only
        rw [if_pos h0, if_pos h3]
        rfl
      simp only
      rw [hs]
      refine ⟨?_, rfl⟩
      show bl ((P b).1 ++ ⟨#[33]⟩ ++ letB _) = _
      rw [bl_append, bl_append, bl_ltr, (h b).1, renC_snoc, List.append_assoc]
      rfl
    · obtain ⟨k, at3, hk, hp⟩ := part_ast (len := len) (L := L) (nx len L 3 (nx len L 4 at2).2).2
      refine ⟨⟨c.hd, c.ps ++ [⟨true, k⟩]⟩, at3, hc.snoc (fun _ _ => rfl), fun b => ?_⟩
      have hs : compStep len L b (P b) = ((P b).1 ++ ⟨#[33]⟩ ++ (partF len L b (nx len L 3 (nx len L 4 at2).2).2).1, (partF len L b (nx len L 3 (nx len L 4 at2).2).2).2) := by
        rw [e b]
        unfold compStep
        simp only
        rw [if_pos h0, if_neg h3]
      simp only
      rw [hs]
      refine ⟨?_, (hp b).2⟩
      show bl ((P b).1 ++ ⟨#[33]⟩ ++ (partF len L b _).1) = _
      rw [bl_append, bl_append, (hp b).1, (h b).1, renC_snoc, List.append_assoc]
      rfl
  · obtain ⟨k, at3, hk, hp⟩ := part_ast (len := len) (L := L) (nx len L 4 at2).2
    refine ⟨⟨c.hd, c.ps ++ [⟨false, k⟩]⟩, at3, hc.snoc (fun j ej => absurd ej (hk j)), fun b => ?_⟩
    have hs : compStep len L b (P b) = ((P b).1 ++ (partF len L b (nx len L 4 at2).2).1, (partF len L b (nx len L 4 at2).2).2) := by
      rw [e b]
      unfold compStep
      simp only
      rw [if_neg h0]
    simp only
    rw [hs]
    refine ⟨?_, (hp b).2⟩
    show bl ((P b).1 ++ (partF len L b _).1) = _
    rw [bl_append, (hp b).1, (h b).1, renC_snoc]
    rfl
theorem comp_loop : ∀ (k : Nat) {P : Nat → ByteArray × Nat}, CW P → CW fun b => compLoop len L b k (P b)
  | 0, _, h => h
  | k + 1, _, h => comp_loop k (comp_step h)
theorem comp_ast (at' : Nat) : CW fun b => wCompF len L b at' := by
  obtain ⟨c, at2, hc, h⟩ := comp_one (len := len) (L := L) at'
  have e : ∀ b, wCompF len L b at' = compLoop len L b (nx len L 3 at2).1 ((compOne len L b at').1, (nx len L 3 at2).2) := fun b => by
    unfold wCompF
    rw [(h b).2]
  have := comp_loop (len := len) (L := L) (nx len L 3 at2).1 (P := fun b => ((compOne len L b at').1, (nx len L 3 at2).2)) ⟨c, _, hc, fun b => ⟨(h b).1, rfl⟩⟩
  simp only [e]
  exact this
def SW (P : Nat → ByteArray × Nat) : Prop := ∃ (x : SlA) (at2 : Nat), x.ok ∧ ∀ b, bl (P b).1 = renS b x ∧ (P b).2 = at2
theorem bl_sg : ∀ i, i < 5 → ∃ c, bl (sgB i) = [c] ∧ isS c = true
  | 0, _ => ⟨32, rfl, rfl⟩
  | 1, _ => ⟨32, rfl, rfl⟩
  | 2, _ => ⟨62, rfl, rfl⟩
  | 3, _ => ⟨43, rfl, rfl⟩
  | 4, _ => ⟨126, rfl, rfl⟩
  | i + 5, h => by omega
theorem sel_step {P : Nat → ByteArray × Nat} (h : SW P) : SW fun b => selStep len L b (P b) := by
  obtain ⟨x, at2, hx, h⟩ := h
  obtain ⟨sg, hg1, hg2⟩ := bl_sg _ (nx_lt (len := len) (L := L) (n := 5) (at' := at2) (by decide))
  obtain ⟨c, at3, hc, hp⟩ := comp_ast (len := len) (L := L) (nx len L 5 at2).2
  refine ⟨⟨x.c, x.l ++ [(sg, c)]⟩, at3, ⟨hx.1, fun y hy => ?_⟩, fun b => ?_⟩
  · rcases List.mem_append.1 hy with h1 | h1
    · exact hx.2 y h1
    · rw [List.mem_singleton] at h1
      subst h1
      exact ⟨hc, hg2⟩
  · have hs : selStep len L b (P b) = ((P b).1 ++ sgB (nx len L 5 at2).1 ++ (wCompF len L b (nx len L 5 at2).2).1, (wCompF len L b (nx len L 5 at2).2).2) := by
      unfold selStep
      rw [(h b).2]
    simp only
    rw [hs]
    refine ⟨?_, (hp b).2⟩
    show bl ((P b).1 ++ sgB _ ++ (wCompF len L b _).1) = _
    rw [bl_append, bl_append, hg1, (hp b).1, (h b).1]
    unfold renS renL
    rw [List.flatMap_append, List.flatMap_cons, List.flatMap_nil, List.append_nil, List.append_assoc, List.append_assoc]
    rfl
theorem sel_loop : ∀ (k : Nat) {P : Nat → ByteArray × Nat}, SW P → SW fun b => selLoop len L b k (P b)
  | 0, _, h => h
  | k + 1, _, h => sel_loop k (sel_step h)
theorem sel_ast (at' : Nat) : SW fun b => wSelF len L b at' := by
  obtain ⟨c, at2, hc, h⟩ := comp_ast (len := len) (L := L) at'
  have e : ∀ b, wSelF len L b at' = selLoop len L b (nx len L 3 at2).1 ((wCompF len L b at').1, (nx len L 3 at2).2) := fun b => by
    unfold wSelF
    rw [(h b).2]
  have := sel_loop (len := len) (L := L) (nx len L 3 at2).1 (P := fun b => ((wCompF len L b at').1, (nx len L 3 at2).2)) ⟨⟨c, []⟩, _, ⟨hc, fun y hy => by cases hy⟩, fun b => ⟨by rw [show renS b ⟨c, []⟩ = renC b c from List.append_nil _]; exact (h b).1, rfl⟩⟩
  simp only [e]
  exact this
variable {mild : Bool}
theorem bl_pr : ∀ p, p < 9 → ∃ c, bl (prB p) = [c] ∧ c ≠ 125 ∧ isP c = true
  | 0, _ => ⟨65, rfl, by decide, rfl⟩
  | 1, _ => ⟨66, rfl, by decide, rfl⟩
  | 2, _ => ⟨67, rfl, by decide, rfl⟩
  | 3, _ => ⟨68, rfl, by decide, rfl⟩
  | 4, _ => ⟨69, rfl, by decide, rfl⟩
  | 5, _ => ⟨70, rfl, by decide, rfl⟩
  | 6, _ => ⟨88, rfl, by decide, rfl⟩
  | 7, _ => ⟨89, rfl, by decide, rfl⟩
  | 8, _ => ⟨90, rfl, by decide, rfl⟩
  | p + 9, h => by omega
theorem bl_va : ∀ p, p < 3 → ∃ c, bl (prB (6 + p)) = [c] ∧ isV c = true
  | 0, _ => ⟨88, rfl, rfl⟩
  | 1, _ => ⟨89, rfl, rfl⟩
  | 2, _ => ⟨90, rfl, rfl⟩
  | p + 3, h => by omega
/-- What a declaration of the writer's holds. -/
def DcA.fine (d : DcA) (mild : Bool) : Prop := d.ok ∧ (mild = true → d.im = false) ∧ isP d.pr = true ∧ ∀ v, d.v = .var v → isV v = true
theorem decl_ast (at' : Nat) : ∃ d : DcA, d.fine mild ∧ bl (wDeclF len L mild at').1 = renD d := by
  obtain ⟨pr, hp1, hp2, hp3⟩ := bl_pr _ (nx_lt (len := len) (L := L) (n := 9) (at' := at') (by decide))
  have hmid : ∀ c : Nat × Nat, ∃ v : VlA, v.ok ∧ (∀ z, v = .var z → isV z = true) ∧ bl (declMid len L (prB (nx len L 9 at').1 ++ ⟨#[58]⟩) c).1 = pr :: 58 :: renV v := fun c => by
    have l9 := nx_lt (len := len) (L := L) (n := 9) (at' := c.2) (by decide)
    have l10 := nx_lt (len := len) (L := L) (n := 10) (at' := (nx len L 9 c.2).2) (by decide)
    obtain ⟨z, hz1, hz2⟩ := bl_va _ (nx_lt (len := len) (L := L) (n := 3) (at' := c.2) (by decide))
    unfold declMid
    (repeat' split)
    · refine ⟨.ini, trivial, fun z e => (by cases e), ?_⟩
      show bl (prB _ ++ ⟨#[58]⟩ ++ _) = _
      rw [bl_append, bl_append, hp1]
      rfl
    · refine ⟨.rev, trivial, fun z e => (by cases e), ?_⟩
      show bl (prB _ ++ ⟨#[58]⟩ ++ _) = _
      rw [bl_append, bl_append, hp1]
      rfl
    · refine ⟨.uns, trivial, fun z e => (by cases e), ?_⟩
      show bl (prB _ ++ ⟨#[58]⟩ ++ _) = _
      rw [bl_append, bl_append, hp1]
      rfl
    · refine ⟨.var z, trivial, fun y e => (by injection e with e; rw [← e]; exact hz2), ?_⟩
      show bl (prB _ ++ ⟨#[58]⟩ ++ _ ++ prB _) = _
      rw [bl_append, bl_append, bl_append, hp1, hz1]
      rfl
    · refine ⟨.num [1 + (nx len L 9 c.2).1, (nx len L 10 (nx len L 9 c.2).2).1], ⟨by simp, by simp, fun d hd => ?_⟩, fun z e => (by cases e), ?_⟩
      · rcases List.mem_cons.1 hd with h | h
        · omega
        · rw [List.mem_singleton] at h; omega
      · show bl (prB _ ++ ⟨#[58]⟩ ++ digB _ ++ digB _) = _
        rw [bl_append, bl_append, bl_append, hp1, bl_dig (by omega), bl_dig l10]
        rfl
  obtain ⟨v, hv1, hv2, hv3⟩ := hmid (nx len L 8 (nx len L 9 at').2)
  unfold wDeclF declEnd
  split
  · rename_i hcond
    refine ⟨⟨pr, v, true⟩, ⟨⟨hv1, hp2⟩, fun e => ?_, hp3, hv2⟩, ?_⟩
    · rw [hcond.2] at e; cases e
    · show bl ((declMid len L _ _).1 ++ ⟨#[33]⟩) = _
      rw [bl_append, hv3]
      rfl
  · refine ⟨⟨pr, v, false⟩, ⟨⟨hv1, hp2⟩, fun _ => rfl, hp3, hv2⟩, ?_⟩
    rw [hv3]
    show _ = pr :: 58 :: (renV v ++ [])
    rw [List.append_nil]
def RuA.fine (r : RuA) (mild : Bool) : Prop := r.ok ∧ r.d.fine mild ∧ ∀ d ∈ r.ds, d.fine mild
def RW (mild : Bool) (P : Nat → ByteArray × Nat) : Prop := ∃ (r : RuA) (at2 : Nat), r.fine mild ∧ ∀ b, bl (P b).1 = renR b r ∧ (P b).2 = at2
theorem decl_loop {pre : Nat → List Nat} : ∀ (k : Nat) {P : Nat → ByteArray × Nat} (at2 : Nat) (d : DcA) (ds : List DcA), d.fine mild → (∀ y ∈ ds, y.fine mild) → (∀ b, bl (P b).1 = pre b ++ renDs d ds ∧ (P b).2 = at2) →
    ∃ (ds' : List DcA) (at3 : Nat), (∀ y ∈ ds', y.fine mild) ∧ ∀ b, bl (declLoop len L mild k (P b)).1 = pre b ++ renDs d ds' ∧ (declLoop len L mild k (P b)).2 = at3
  | 0, _, at2, _, ds, _, h2, h3 => ⟨ds, at2, h2, h3⟩
  | k + 1, P, at2, d, ds, h1, h2, h3 => by
    obtain ⟨e, he, hb⟩ := decl_ast (len := len) (L := L) (mild := mild) at2
    have hs : ∀ b, declStep len L mild (P b) = ((P b).1 ++ ⟨#[59]⟩ ++ (wDeclF len L mild at2).1, (wDeclF len L mild at2).2) := fun b => by
      unfold declStep
      rw [(h3 b).2]
    refine decl_loop k (P := fun b => declStep len L mild (P b)) (wDeclF len L mild at2).2 d (ds ++ [e]) h1 (fun y hy => ?_) (fun b => ?_)
    · rcases List.mem_append.1 hy with h | h
      · exact h2 y h
      · rw [List.mem_singleton] at h
        subst h
        exact he
    · show bl (declStep len L mild (P b)).1 = _ ∧ (declStep len L mild (P b)).2 = _
      rw [hs b]
      refine ⟨?_, rfl⟩
      show bl ((P b).1 ++ ⟨#[59]⟩ ++ (wDeclF len L mild at2).1) = _
      rw [bl_append, bl_append, (h3 b).1, hb]
      unfold renDs
      rw [List.flatMap_append, List.flatMap_cons, List.flatMap_nil, List.append_nil, List.append_assoc, List.append_assoc, List.append_assoc]
      rfl
theorem rule_ast (at' : Nat) : RW mild fun b => wRuleF len L b mild at' := by
  obtain ⟨ly, at1, hh1, hh2⟩ : ∃ (ly : Option Nat) (at1 : Nat), bl (ruleHead len L at').1 = renY ly ∧ (ruleHead len L at').2 = at1 := by
    have l4 := nx_lt (len := len) (L := L) (n := 4) (at' := (nx len L 3 at').2) (by decide)
    unfold ruleHead
    split
    · refine ⟨some (nx len L 4 (nx len L 3 at').2).1, _, ?_, rfl⟩
      show bl (⟨#[64]⟩ ++ digB _) = _
      rw [bl_append, bl_dig (by omega)]
      rfl
    · exact ⟨none, _, rfl, rfl⟩
  obtain ⟨x, at2, hx, h2⟩ := sel_ast (len := len) (L := L) at1
  have p2 : ∀ b, bl (ruleSel len L b (ruleHead len L at')).1 = renY ly ++ renS b x ∧ (ruleSel len L b (ruleHead len L at')).2 = at2 := fun b => by
    unfold ruleSel
    rw [hh2]
    refine ⟨?_, (h2 b).2⟩
    show bl ((ruleHead len L at').1 ++ _) = _
    rw [bl_append, hh1, (h2 b).1]
  obtain ⟨xs, at3, hxs, p3⟩ : ∃ (xs : List SlA) (at3 : Nat), (∀ y ∈ xs, y.ok) ∧ ∀ b, bl (ruleMore len L b (ruleSel len L b (ruleHead len L at'))).1 = renY ly ++ renX b x xs ∧ (ruleMore len L b (ruleSel len L b (ruleHead len L at'))).2 = at3 := by
    by_cases h0 : (nx len L 4 at2).1 = 0
    · obtain ⟨y, at4, hy, h4⟩ := sel_ast (len := len) (L := L) (nx len L 4 at2).2
      refine ⟨[y], at4, fun z hz => (by rw [List.mem_singleton] at hz; subst hz; exact hy), fun b => ?_⟩
      unfold ruleMore
      rw [(p2 b).2, if_pos h0]
      refine ⟨?_, (h4 b).2⟩
      show bl ((ruleSel len L b (ruleHead len L at')).1 ++ ⟨#[44]⟩ ++ _) = _
      rw [bl_append, bl_append, (p2 b).1, (h4 b).1]
      unfold renX
      rw [List.flatMap_cons, List.flatMap_nil, List.append_nil, List.append_assoc, List.append_assoc]
      rfl
    · refine ⟨[], (nx len L 4 at2).2, fun z hz => (by cases hz), fun b => ?_⟩
      unfold ruleMore
      rw [(p2 b).2, if_neg h0]
      refine ⟨?_, rfl⟩
      show bl (ruleSel len L b (ruleHead len L at')).1 = _
      rw [(p2 b).1]
      unfold renX
      rw [List.flatMap_nil, List.append_nil]
  obtain ⟨d, hd, hdb⟩ := decl_ast (len := len) (L := L) (mild := mild) at3
  have p4 : ∀ b, bl (ruleDecl len L mild (ruleMore len L b (ruleSel len L b (ruleHead len L at')))).1 = (renY ly ++ renX b x xs ++ [123]) ++ renDs d [] ∧ (ruleDecl len L mild (ruleMore len L b (ruleSel len L b (ruleHead len L at')))).2 = (wDeclF len L mild at3).2 := fun b => by
    unfold ruleDecl
    rw [(p3 b).2]
    refine ⟨?_, rfl⟩
    show bl ((ruleMore len L b (ruleSel len L b (ruleHead len L at'))).1 ++ ⟨#[123]⟩ ++ _) = _
    rw [bl_append, bl_append, (p3 b).1, hdb]
    unfold renDs
    rw [List.flatMap_nil, List.append_nil]
    rfl
  obtain ⟨ds, at5, hds, p5⟩ := decl_loop (len := len) (L := L) (mild := mild) (pre := fun b => renY ly ++ renX b x xs ++ [123]) (nx len L 3 (wDeclF len L mild at3).2).1 (P := fun b => ((ruleDecl len L mild (ruleMore len L b (ruleSel len L b (ruleHead len L at')))).1, (nx len L 3 (wDeclF len L mild at3).2).2)) _ d [] hd (fun y hy => by cases hy) (fun b => ⟨(p4 b).1, rfl⟩)
  refine ⟨⟨ly, x, xs, d, ds⟩, at5, ⟨⟨hx, hxs, hd.1, fun y hy => (hds y hy).1⟩, hd, hds⟩, fun b => ?_⟩
  have hr : wRuleF len L b mild at' = ruleShut (declLoop len L mild (nx len L 3 (wDeclF len L mild at3).2).1 ((ruleDecl len L mild (ruleMore len L b (ruleSel len L b (ruleHead len L at')))).1, (nx len L 3 (wDeclF len L mild at3).2).2)) := by
    unfold wRuleF ruleF1 ruleF2 ruleF3 ruleF4
    rw [(p4 b).2]
  simp only
  rw [hr]
  unfold ruleShut
  refine ⟨?_, (p5 b).2⟩
  show bl ((declLoop len L mild _ _).1 ++ ⟨#[125]⟩) = _
  rw [bl_append, (p5 b).1]
  unfold renR
  simp only [List.append_assoc]
  rfl
theorem renK_len (b b2 : Nat) (k : KdA) : (renK b k).length = (renK b2 k).length := by cases k <;> rfl
theorem renP_len (b b2 : Nat) (p : PtA) : (renP b p).length = (renP b2 p).length := by
  unfold renP
  split
  · rw [List.length_cons, List.length_cons, renK_len b b2]
  · exact renK_len b b2 _
theorem fm_len {α : Type} (f g : α → List Nat) : ∀ (l : List α), (∀ x ∈ l, (f x).length = (g x).length) → (l.flatMap f).length = (l.flatMap g).length
  | [], _ => rfl
  | x :: l, h => by rw [List.flatMap_cons, List.flatMap_cons, List.length_append, List.length_append, h x List.mem_cons_self, fm_len f g l (fun y hy => h y (List.mem_cons_of_mem _ hy))]
theorem renC_len (b b2 : Nat) (c : CpA) : (renC b c).length = (renC b2 c).length := by
  unfold renC
  rw [List.length_append, List.length_append, fm_len _ (renP b2) c.ps (fun p _ => renP_len b b2 p)]
  congr 1
  match c.hd with
  | none => rfl
  | some none => rfl
  | some (some j) => rfl
theorem renS_len (b b2 : Nat) (x : SlA) : (renS b x).length = (renS b2 x).length := by
  unfold renS renL
  rw [List.length_append, List.length_append, renC_len b b2, fm_len _ (fun x => x.1 :: renC b2 x.2) x.l (fun y _ => by rw [List.length_cons, List.length_cons, renC_len b b2])]
theorem renX_len2 (b b2 : Nat) (x : SlA) (xs : List SlA) : (renX b x xs).length = (renX b2 x xs).length := by
  unfold renX
  rw [List.length_append, List.length_append, renS_len b b2, fm_len _ (fun y => 44 :: renS b2 y) xs (fun y _ => by rw [List.length_cons, List.length_cons, renS_len b b2])]
theorem renR_len (b b2 : Nat) (r : RuA) : (renR b r).length = (renR b2 r).length := by
  unfold renR
  rw [List.length_append, List.length_append, List.length_append, List.length_append, renX_len2 b b2]
def HW (mild : Bool) (P : Nat → ByteArray × Nat) : Prop := ∃ (rs : List RuA) (at2 : Nat), (∀ r ∈ rs, r.fine mild) ∧ ∀ b, bl (P b).1 = rs.flatMap (renR b) ∧ (P b).2 = at2
theorem sheet_step {most : Nat} {P : Nat → ByteArray × Nat} (h : HW mild P) : HW mild fun b => sheetStep len L b mild most (P b) := by
  obtain ⟨rs, at2, hrs, h⟩ := h
  obtain ⟨r, at3, hr, hb⟩ := rule_ast (len := len) (L := L) (mild := mild) at2
  have hsz : ∀ b, (P b).1.size + (wRuleF len L b mild (P b).2).1.size = (P 0).1.size + (wRuleF len L 0 mild (P 0).2).1.size := fun b => by
    rw [(h b).2, (h 0).2, ← bl_length, ← bl_length, ← bl_length, ← bl_length, (h b).1, (h 0).1, (hb b).1, (hb 0).1, renR_len b 0, fm_len _ (renR 0) rs (fun y _ => renR_len b 0 y)]
  by_cases hfit : (P 0).1.size + (wRuleF len L 0 mild (P 0).2).1.size ≤ most
  · refine ⟨rs ++ [r], at3, fun y hy => ?_, fun b => ⟨?_, ?_⟩⟩
    · rcases List.mem_append.1 hy with h1 | h1
      · exact hrs y h1
      · rw [List.mem_singleton] at h1
        subst h1
        exact hr
    · have e : (sheetStep len L b mild most (P b)).1 = (P b).1 ++ (wRuleF len L b mild (P b).2).1 := if_pos (by rw [hsz b]; exact hfit)
      simp only
      rw [e, bl_append, (h b).1, (h b).2, (hb b).1, List.flatMap_append, List.flatMap_cons, List.flatMap_nil, List.append_nil]
    · show (wRuleF len L b mild (P b).2).2 = at3
      rw [(h b).2]
      exact (hb b).2
  · refine ⟨rs, at3, hrs, fun b => ⟨?_, ?_⟩⟩
    · have e : (sheetStep len L b mild most (P b)).1 = (P b).1 := if_neg (by rw [hsz b]; exact hfit)
      simp only
      rw [e]
      exact (h b).1
    · show (wRuleF len L b mild (P b).2).2 = at3
      rw [(h b).2]
      exact (hb b).2
theorem sheet_loop {most : Nat} : ∀ (k : Nat) {P : Nat → ByteArray × Nat}, HW mild P → HW mild fun b => sheetLoop len L b mild most k (P b)
  | 0, _, h => h
  | k + 1, _, h => sheet_loop k (sheet_step h)
/-- A written sheet is the text of one tree of signs, whatever its letters are turned by. -/
theorem sheet_ast (most : Nat) : ∃ rs : List RuA, (∀ r ∈ rs, r.fine mild) ∧ ∀ b, bl (wSheetF len L b mild most) = rs.flatMap (renR b) := by
  obtain ⟨rs, at2, h1, h2⟩ := sheet_loop (len := len) (L := L) (mild := mild) (most := most) (nx len L 9 0).1 (P := fun _ => (⟨#[]⟩, (nx len L 9 0).2)) ⟨[], _, fun r hr => (by cases hr), fun b => ⟨rfl, rfl⟩⟩
  exact ⟨rs, h1, fun b => (h2 b).1⟩
end
theorem sheet_of {s : ByteArray} {b : Nat} {rs : List RuA} (hz : s.size ≤ 400) (hrs : ∀ r ∈ rs, r.ok) (h : bl s = rs.flatMap (renR b)) : sheetOf s = rs.map (toR b) := by
  have hl : s.size = (rs.flatMap (renR b)).length := by rw [← bl_length, h]
  refine ruls_ren hz rs 0 400 hrs (txt_of _ _ fun j hj => ?_) (by omega) (by omega)
  rw [Nat.zero_add]
  have hj2 : j < (bl s).length := by rw [h]; exact hj
  rw [bl_at s j hj2]
  congr 1
end Go.Proofs.YtblfffbmklkhmaaGreat
