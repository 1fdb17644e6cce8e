/- Own work. -/
import Derived.Test.YtblfffbmklkhmaaGreatRn45
import Derived.Test.YtblfffbmklkhmaaGreatRn46
import Derived.Test.YtblfffbmklkhmaaGreatRn11
import Derived.Test.YtblfffbmklkhmaaGreatRn38
import Derived.Test.YtblfffbmklkhmaaGreatRn25
namespace Go.Proofs.YtblfffbmklkhmaaGreat
open Go.RowKit
theorem bl_ltr (j b : Nat) : bl (letB (j + b)) = [ltr b j] := bl_let _
section
variable {len : Nat} {L : Nat → Int}
theorem part_ast (at' : Nat) : ∃ (k : KdA) (at2 : Nat), (∀ j, k ≠ .typ j) ∧ ∀ b, bl (partF len L b at').1 = renK b k ∧ (partF len L b at').2 = at2 := by
  have l5 := nx_lt (len := len) (L := L) (n := 5) (at' := (nx len L 4 (nx len L 8 at').2).2) (by decide)
  have l4 := nx_lt (len := len) (L := L) (n := 4) (at' := (nx len L 8 at').2) (by decide)
  unfold partF
  split
  · refine ⟨.cls (nx len L 4 (nx len L 8 at').2).1, _, fun j e => (by cases e), fun b => ⟨?_, rfl⟩⟩
    show bl (⟨#[46]⟩ ++ letB _) = _
    rw [bl_append, bl_ltr]
    rfl
  · split
    · refine ⟨.nam (nx len L 4 (nx len L 8 at').2).1, _, fun j e => (by cases e), fun b => ⟨?_, rfl⟩⟩
      show bl (⟨#[35]⟩ ++ letB _) = _
      rw [bl_append, bl_ltr]
      rfl
    · split
      · exact ⟨.fst, _, fun j e => (by cases e), fun b => ⟨rfl, rfl⟩⟩
      · split
        · exact ⟨.lst, _, fun j e => (by cases e), fun b => ⟨rfl, rfl⟩⟩
        · split
          · exact ⟨.emp, _, fun j e => (by cases e), fun b => ⟨rfl, rfl⟩⟩
          · refine ⟨.nth (nx len L 4 (nx len L 8 at').2).1 (nx len L 5 (nx len L 4 (nx len L 8 at').2).2).1, _, fun j e => (by cases e), fun b => ⟨?_, rfl⟩⟩
            show bl (⟨#[58, 110]⟩ ++ digB _ ++ digB _) = _
            rw [bl_append, bl_append, bl_dig (by omega), bl_dig (by omega)]
            rfl
/-- Whatever the letters are turned by: the same compound. -/
def CW (P : Nat → ByteArray × Nat) : Prop := ∃ (c : CpA) (at2 : Nat), c.ok ∧ ∀ b, bl (P b).1 = renC b c ∧ (P b).2 = at2
theorem comp_one (at' : Nat) : CW fun b => compOne len L b at' := by
  obtain ⟨k, at2, hk, h⟩ := part_ast (len := len) (L := L) (nx len L 4 at').2
  unfold compOne
  by_cases h0 : (nx len L 4 at').1 = 0
  · simp only [if_pos h0]
    exact ⟨⟨some none, []⟩, _, ⟨fun p hp => (by cases hp), fun e => by cases e⟩, fun b => ⟨rfl, rfl⟩⟩
  · simp only [if_neg h0]
    by_cases h3 : (nx len L 4 at').1 = 3
    · simp only [if_pos h3]
      refine ⟨⟨none, [⟨false, k⟩]⟩, at2, ⟨fun p hp => ?_, fun _ => by simp⟩, fun b => ⟨?_, (h b).2⟩⟩
      · rw [List.mem_singleton] at hp
        subst hp
        exact fun j e => absurd e (hk j)
      · rw [(h b).1]
        show _ = renK b k ++ []
        rw [List.append_nil]
    · simp only [if_neg h3]
      refine ⟨⟨some (some (nx len L 4 (nx len L 4 at').2).1), []⟩, _, ⟨fun p hp => (by cases hp), fun e => by cases e⟩, fun b => ⟨?_, rfl⟩⟩
      show bl (letB _) = _
      rw [bl_ltr]
      rfl
theorem renC_snoc (b : Nat) (c : CpA) (p : PtA) : renC b ⟨c.hd, c.ps ++ [p]⟩ = renC b c ++ renP b p := by
  unfold renC
  rw [List.flatMap_append, List.append_assoc]
  show _ = _ ++ (_ ++ renP b p)
  rw [List.flatMap_cons, List.flatMap_nil, List.append_nil]
theorem CpA.ok.snoc {c : CpA} (hc : c.ok) {p : PtA} (hp : p.ok) : CpA.ok ⟨c.hd, c.ps ++ [p]⟩ := by
  refine ⟨fun q hq => ?_, fun _ => by simp⟩
  rcases List.mem_append.1 hq with h | h
  · exact hc.1 q h
  · rw [List.mem_singleton] at h
    subst h
    exact hp
theorem comp_step {P : Nat → ByteArray × Nat} (h : CW P) : CW fun b => compStep len L b (P b) := by
  obtain ⟨c, at2, hc, h⟩ := h
  have e : ∀ b, P b = ((P b).1, at2) := fun b => by rw [← (h b).2]
  by_cases h0 : (nx len L 4 at2).1 = 0
  · by_cases h3 : (nx len L 3 (nx len L 4 at2).2).1 = 0
    · refine ⟨⟨c.hd, c.ps ++ [⟨true, .typ (nx len L 4 (nx len L 3 (nx len L 4 at2).2).2).1⟩]⟩, (nx len L 4 (nx len L 3 (nx len L 4 at2).2).2).2, hc.snoc (fun _ _ => rfl), fun b => ?_⟩
      have hs : compStep len L b (P b) = ((P b).1 ++ ⟨#[33]⟩ ++ letB ((nx len L 4 (nx len L 3 (nx len L 4 at2).2).2).1 + b), (nx len L 4 (nx len L 3 (nx len L 4 at2).2).2).2) := by
        rw [e b]
        unfold compStep
        simp only
        rw [if_pos h0, if_pos h3]
        rfl
      simp only
      rw [hs]
      refine ⟨?_, rfl⟩
      show bl ((P b).1 ++ ⟨#[33]⟩ ++ letB _) = _
      rw [bl_append, bl_append, bl_ltr, (h b).1, renC_snoc, List.append_assoc]
      rfl
    · obtain ⟨k, at3, hk, hp⟩ := part_ast (len := len) (L := L) (nx len L 3 (nx len L 4 at2).2).2
      refine ⟨⟨c.hd, c.ps ++ [⟨true, k⟩]⟩, at3, hc.snoc (fun _ _ => rfl), fun b => ?_⟩
      have hs : compStep len L b (P b) = ((P b).1 ++ ⟨#[33]⟩ ++ (partF len L b (nx len L 3 (nx len L 4 at2).2).2).1, (partF len L b (nx len L 3 (nx len L 4 at2).2).2).2) := by
        rw [e b]
        unfold compStep
        simp only
        rw [if_pos h0, if_neg h3]
      simp only
      rw [hs]
      refine ⟨?_, (hp b).2⟩
      show bl ((P b).1 ++ ⟨#[33]⟩ ++ (partF len L b _).1) = _
      rw [bl_append, bl_append, (hp b).1, (h b).1, renC_snoc, List.append_assoc]
      rfl
  · obtain ⟨k, at3, hk, hp⟩ := part_ast (len := len) (L := L) (nx len L 4 at2).2
    refine ⟨⟨c.hd, c.ps ++ [⟨false, k⟩]⟩, at3, hc.snoc (fun j ej => absurd ej (hk j)), fun b => ?_⟩
    have hs : compStep len L b (P b) = ((P b).1 ++ (partF len L b (nx len L 4 at2).2).1, (partF len L b (nx len L 4 at2).2).2) := by
      rw [e b]
      unfold compStep
      simp only
      rw [if_neg h0]
    simp only
    rw [hs]
    refine ⟨?_, (hp b).2⟩
    show bl ((P b).1 ++ (partF len L b _).1) = _
    rw [bl_append, (hp b).1, (h b).1, renC_snoc]
    rfl
theorem comp_loop : ∀ (k : Nat) {P : Nat → ByteArray × Nat}, CW P → CW fun b => compLoop len L b k (P b)
  | 0, _, h => h
  | k + 1, _, h => comp_loop k (comp_step h)
theorem comp_ast (at' : Nat) : CW fun b => wCompF len L b at' := by
  obtain ⟨c, at2, hc, h⟩ := comp_one (len := len) (L := L) at'
  have e : ∀ b, wCompF len L b at' = compLoop len L b (nx len L 3 at2).1 ((compOne len L b at').1, (nx len L 3 at2).2) := fun b => by
    unfold wCompF
    rw [(h b).2]
  have := comp_loop (len := len) (L := L) (nx len L 3 at2).1 (P := fun b => ((compOne len L b at').1, (nx len L 3 at2).2)) ⟨c, _, hc, fun b => ⟨(h b).1, rfl⟩⟩
  simp only [e]
  exact this
def SW (P : Nat → ByteArray × Nat) : Prop := ∃ (x : SlA) (at2 : Nat), x.ok ∧ ∀ b, bl (P b).1 = renS b x ∧ (P b).2 = at2
theorem bl_sg : ∀ i, i < 5 → ∃ c, bl (sgB i) = [c] ∧ isS c = true
  | 0, _ => ⟨32, rfl, rfl⟩
  | 1, _ => ⟨32, rfl, rfl⟩
  | 2, _ => ⟨62, rfl, rfl⟩
  | 3, _ => ⟨43, rfl, rfl⟩
  | 4, _ => ⟨126, rfl, rfl⟩
  | i + 5, h => by omega
theorem sel_step {P : Nat → ByteArray × Nat} (h : SW P) : SW fun b => selStep len L b (P b) := by
  obtain ⟨x, at2, hx, h⟩ := h
  obtain ⟨sg, hg1, hg2⟩ := bl_sg _ (nx_lt (len := len) (L := L) (n := 5) (at' := at2) (by decide))
  obtain ⟨c, at3, hc, hp⟩ := comp_ast (len := len) (L := L) (nx len L 5 at2).2
  refine ⟨⟨x.c, x.l ++ [(sg, c)]⟩, at3, ⟨hx.1, fun y hy => ?_⟩, fun b => ?_⟩
  · rcases List.mem_append.1 hy with h1 | h1
    · exact hx.2 y h1
    · rw [List.mem_singleton] at h1
      subst h1
      exact ⟨hc, hg2⟩
  · have hs : selStep len L b (P b) = ((P b).1 ++ sgB (nx len L 5 at2).1 ++ (wCompF len L b (nx len L 5 at2).2).1, (wCompF len L b (nx len L 5 at2).2).2) := by
      unfold selStep
      rw [(h b).2]
    simp only
    rw [hs]
    refine ⟨?_, (hp b).2⟩
    show bl ((P b).1 ++ sgB _ ++ (wCompF len L b _).1) = _
    rw [bl_append, bl_append, hg1, (hp b).1, (h b).1]
    unfold renS renL
    rw [List.flatMap_append, List.flatMap_cons, List.flatMap_nil, List.append_nil, List.append_assoc, List.append_assoc]
    rfl
theorem sel_loop : ∀ (k : Nat) {P : Nat → ByteArray × Nat}, SW P → SW fun b => selLoop len L b k (P b)
  | 0, _, h => h
  | k + 1, _, h => sel_loop k (sel_step h)
theorem sel_ast (at' : Nat) : SW fun b => wSelF len L b at' := by
  obtain ⟨c, at2, hc, h⟩ := comp_ast (len := len) (L := L) at'
  have e : ∀ b, wSelF len L b at' = selLoop len L b (nx len L 3 at2).1 ((wCompF len L b at').1, (nx len L 3 at2).2) := fun b => by
    unfold wSelF
    rw [(h b).2]
  have := sel_loop (len := len) (L := L) (nx len L 3 at2).1 (P := fun b => ((wCompF len L b at').1, (nx len L 3 at2).2)) ⟨⟨c, []⟩, _, ⟨hc, fun y hy => by cases hy⟩, fun b => ⟨by rw [show renS b ⟨c, []⟩ = renC b c from List.append_nil _]; exact (h b).1, rfl⟩⟩
  simp only [e]
  exact this
variable {mild : Bool}
theorem bl_pr : ∀ p, p < 9 → ∃ c, bl (prB p) = [c] ∧ c ≠ 125 ∧ isP c = true
  | 0, _ => ⟨65, rfl, by decide, rfl⟩
  | 1, _ => ⟨66, rfl, by decide, rfl⟩
  | 2, _ => ⟨67, rfl, by decide, rfl⟩
  | 3, _ => ⟨68, rfl, by decide, rfl⟩
  | 4, _ => ⟨69, rfl, by decide, rfl⟩
  | 5, _ => ⟨70, rfl, by decide, rfl⟩
  | 6, _ => ⟨88, rfl, by decide, rfl⟩
  | 7, _ => ⟨89, rfl, by decide, rfl⟩
  | 8, _ => ⟨90, rfl, by decide, rfl⟩
  | p + 9, h => by omega
theorem bl_va : ∀ p, p < 3 → ∃ c, bl (prB (6 + p)) = [c] ∧ isV c = true
  | 0, _ => ⟨88, rfl, rfl⟩
  | 1, _ => ⟨89, rfl, rfl⟩
  | 2, _ => ⟨90, rfl, rfl⟩
  | p + 3, h => by omega
/-- What a declaration of the writer's holds. -/
def DcA.fine (d : DcA) (mild : Bool) : Prop := d.ok ∧ (mild = true → d.im = false) ∧ isP d.pr = true ∧ ∀ v, d.v = .var v → isV v = true
theorem decl_ast (at' : Nat) : ∃ d : DcA, d.fine mild ∧ bl (wDeclF len L mild at').1 = renD d := by
  obtain ⟨pr, hp1, hp2, hp3⟩ := bl_pr _ (nx_lt (len := len) (L := L) (n := 9) (at' := at') (by decide))
  have hmid : ∀ c : Nat × Nat, ∃ v : VlA, v.ok ∧ (∀ z, v = .var z → isV z = true) ∧ bl (declMid len L (prB (nx len L 9 at').1 ++ ⟨#[58]⟩) c).1 = pr :: 58 :: renV v := fun c => by
    have l9 := nx_lt (len := len) (L := L) (n := 9) (at' := c.2) (by decide)
    have l10 := nx_lt (len := len) (L := L) (n := 10) (at' := (nx len L 9 c.2).2) (by decide)
    obtain ⟨z, hz1, hz2⟩ := bl_va _ (nx_lt (len := len) (L := L) (n := 3) (at' := c.2) (by decide))
    unfold declMid
    (repeat' split)
    · refine ⟨.ini, trivial, fun z e => (by cases e), ?_⟩
      show bl (prB _ ++ ⟨#[58]⟩ ++ _) = _
      rw [bl_append, bl_append, hp1]
      rfl
    · refine ⟨.rev, trivial, fun z e => (by cases e), ?_⟩
      show bl (prB _ ++ ⟨#[58]⟩ ++ _) = _
      rw [bl_append, bl_append, hp1]
      rfl
    · refine ⟨.uns, trivial, fun z e => (by cases e), ?_⟩
      show bl (prB _ ++ ⟨#[58]⟩ ++ _) = _
      rw [bl_append, bl_append, hp1]
      rfl
    · refine ⟨.var z, trivial, fun y e => (by injection e with e; rw [← e]; exact hz2), ?_⟩
      show bl (prB _ ++ ⟨#[58]⟩ ++ _ ++ prB _) = _
      rw [bl_append, bl_append, bl_append, hp1, hz1]
      rfl
    · refine ⟨.num [1 + (nx len L 9 c.2).1, (nx len L 10 (nx len L 9 c.2).2).1], ⟨by simp, by simp, fun d hd => ?_⟩, fun z e => (by cases e), ?_⟩
      · rcases List.mem_cons.1 hd with h | h
        · omega
        · rw [List.mem_singleton] at h; omega
      · show bl (prB _ ++ ⟨#[58]⟩ ++ digB _ ++ digB _) = _
        rw [bl_append, bl_append, bl_append, hp1, bl_dig (by omega), bl_dig l10]
        rfl
  obtain ⟨v, hv1, hv2, hv3⟩ := hmid (nx len L 8 (nx len L 9 at').2)
  unfold wDeclF declEnd
  split
  · rename_i hcond
    refine ⟨⟨pr, v, true⟩, ⟨⟨hv1, hp2⟩, fun e => ?_, hp3, hv2⟩, ?_⟩
    · rw [hcond.2] at e; cases e
    · show bl ((declMid len L _ _).1 ++ ⟨#[33]⟩) = _
      rw [bl_append, hv3]
      rfl
  · refine ⟨⟨pr, v, false⟩, ⟨⟨hv1, hp2⟩, fun _ => rfl, hp3, hv2⟩, ?_⟩
    rw [hv3]
    show _ = pr :: 58 :: (renV v ++ [])
    rw [List.append_nil]
def RuA.fine (r : RuA) (mild : Bool) : Prop := r.ok ∧ r.d.fine mild ∧ ∀ d ∈ r.ds, d.fine mild
def RW (mild : Bool) (P : Nat → ByteArray × Nat) : Prop := ∃ (r : RuA) (at2 : Nat), r.fine mild ∧ ∀ b, bl (P b).1 = renR b r ∧ (P b).2 = at2
theorem decl_loop {pre : Nat → List Nat} : ∀ (k : Nat) {P : Nat → ByteArray × Nat} (at2 : Nat) (d : DcA) (ds : List DcA), d.fine mild → (∀ y ∈ ds, y.fine mild) → (∀ b, bl (P b).1 = pre b ++ renDs d ds ∧ (P b).2 = at2) →
    ∃ (ds' : List DcA) (at3 : Nat), (∀ y ∈ ds', y.fine mild) ∧ ∀ b, bl (declLoop len L mild k (P b)).1 = pre b ++ renDs d ds' ∧ (declLoop len L mild k (P b)).2 = at3
  | 0, _, at2, _, ds, _, h2, h3 => ⟨ds, at2, h2, h3⟩
  | k + 1, P, at2, d, ds, h1, h2, h3 => by
    obtain ⟨e, he, hb⟩ := decl_ast (len := len) (L := L) (mild := mild) at2
    have hs : ∀ b, declStep len L mild (P b) = ((P b).1 ++ ⟨#[59]⟩ ++ (wDeclF len L mild at2).1, (wDeclF len L mild at2).2) := fun b => by
      unfold declStep
      rw [(h3 b).2]
    refine decl_loop k (P := fun b => declStep len L mild (P b)) (wDeclF len L mild at2).2 d (ds ++ [e]) h1 (fun y hy => ?_) (fun b => ?_)
    · rcases List.mem_append.1 hy with h | h
      · exact h2 y h
      · rw [List.mem_singleton] at h
        subst h
        exact he
    · show bl (declStep len L mild (P b)).1 = _ ∧ (declStep len L mild (P b)).2 = _
      rw [hs b]
      refine ⟨?_, rfl⟩
      show bl ((P b).1 ++ ⟨#[59]⟩ ++ (wDeclF len L mild at2).1) = _
      rw [bl_append, bl_append, (h3 b).1, hb]
      unfold renDs
      rw [List.flatMap_append, List.flatMap_cons, List.flatMap_nil, List.append_nil, List.append_assoc, List.append_assoc, List.append_assoc]
      rfl
theorem rule_ast (at' : Nat) : RW mild fun b => wRuleF len L b mild at' := by
  obtain ⟨ly, at1, hh1, hh2⟩ : ∃ (ly : Option Nat) (at1 : Nat), bl (ruleHead len L at').1 = renY ly ∧ (ruleHead len L at').2 = at1 := by
    have l4 := nx_lt (len := len) (L := L) (n := 4) (at' := (nx len L 3 at').2) (by decide)
    unfold ruleHead
    split
    · refine ⟨some (nx len L 4 (nx len L 3 at').2).1, _, ?_, rfl⟩
      show bl (⟨#[64]⟩ ++ digB _) = _
      rw [bl_append, bl_dig (by omega)]
      rfl
    · exact ⟨none, _, rfl, rfl⟩
  obtain ⟨x, at2, hx, h2⟩ := sel_ast (len := len) (L := L) at1
  have p2 : ∀ b, bl (ruleSel len L b (ruleHead len L at')).1 = renY ly ++ renS b x ∧ (ruleSel len L b (ruleHead len L at')).2 = at2 := fun b => by
    unfold ruleSel
    rw [hh2]
    refine ⟨?_, (h2 b).2⟩
    show bl ((ruleHead len L at').1 ++ _) = _
    rw [bl_append, hh1, (h2 b).1]
  obtain ⟨xs, at3, hxs, p3⟩ : ∃ (xs : List SlA) (at3 : Nat), (∀ y ∈ xs, y.ok) ∧ ∀ b, bl (ruleMore len L b (ruleSel len L b (ruleHead len L at'))).1 = renY ly ++ renX b x xs ∧ (ruleMore len L b (ruleSel len L b (ruleHead len L at'))).2 = at3 := by
    by_cases h0 : (nx len L 4 at2).1 = 0
    · obtain ⟨y, at4, hy, h4⟩ := sel_ast (len := len) (L := L) (nx len L 4 at2).2
      refine ⟨[y], at4, fun z hz => (by rw [List.mem_singleton] at hz; subst hz; exact hy), fun b => ?_⟩
      unfold ruleMore
      rw [(p2 b).2, if_pos h0]
      refine ⟨?_, (h4 b).2⟩
      show bl ((ruleSel len L b (ruleHead len L at')).1 ++ ⟨#[44]⟩ ++ _) = _
      rw [bl_append, bl_append, (p2 b).1, (h4 b).1]
      unfold renX
      rw [List.flatMap_cons, List.flatMap_nil, List.append_nil, List.append_assoc, List.append_assoc]
      rfl
    · refine ⟨[], (nx len L 4 at2).2, fun z hz => (by cases hz), fun b => ?_⟩
      unfold ruleMore
      rw [(p2 b).2, if_neg h0]
      refine ⟨?_, rfl⟩
      show bl (ruleSel len L b (ruleHead len L at')).1 = _
      rw [(p2 b).1]
      unfold renX
      rw [List.flatMap_nil, List.append_nil]
  obtain ⟨d, hd, hdb⟩ := decl_ast (len := len) (L := L) (mild := mild) at3
  have p4 : ∀ b, bl (ruleDecl len L mild (ruleMore len L b (ruleSel len L b (ruleHead len L at')))).1 = (renY ly ++ renX b x xs ++ [123]) ++ renDs d [] ∧ (ruleDecl len L mild (ruleMore len L b (ruleSel len L b (ruleHead len L at')))).2 = (wDeclF len L mild at3).2 := fun b => by
    unfold ruleDecl
    rw [(p3 b).2]
    refine ⟨?_, rfl⟩
    show bl ((ruleMore len L b (ruleSel len L b (ruleHead len L at'))).1 ++ ⟨#[123]⟩ ++ _) = _
    rw [bl_append, bl_append, (p3 b).1, hdb]
    unfold renDs
    rw [List.flatMap_nil, List.append_nil]
    rfl
  obtain ⟨ds, at5, hds, p5⟩ := decl_loop (len := len) (L := L) (mild := mild) (pre := fun b => renY ly ++ renX b x xs ++ [123]) (nx len L 3 (wDeclF len L mild at3).2).1 (P := fun b => ((ruleDecl len L mild (ruleMore len L b (ruleSel len L b (ruleHead len L at')))).1, (nx len L 3 (wDeclF len L mild at3).2).2)) _ d [] hd (fun y hy => by cases hy) (fun b => ⟨(p4 b).1, rfl⟩)
  refine ⟨⟨ly, x, xs, d, ds⟩, at5, ⟨⟨hx, hxs, hd.1, fun y hy => (hds y hy).1⟩, hd, hds⟩, fun b => ?_⟩
  have hr : wRuleF len L b mild at' = ruleShut (declLoop len L mild (nx len L 3 (wDeclF len L mild at3).2).1 ((ruleDecl len L mild (ruleMore len L b (ruleSel len L b (ruleHead len L at')))).1, (nx len L 3 (wDeclF len L mild at3).2).2)) := by
    unfold wRuleF ruleF1 ruleF2 ruleF3 ruleF4
    rw [(p4 b).2]
  simp only
  rw [hr]
  unfold ruleShut
  refine ⟨?_, (p5 b).2⟩
  show bl ((declLoop len L mild _ _).1 ++ ⟨#[125]⟩) = _
  rw [bl_append, (p5 b).1]
  unfold renR
  simp only [List.append_assoc]
  rfl
theorem renK_len (b b2 : Nat) (k : KdA) : (renK b k).length = (renK b2 k).length := by cases k <;> rfl
theorem renP_len (b b2 : Nat) (p : PtA) : (renP b p).length = (renP b2 p).length := by
  unfold renP
  split
  · rw [List.length_cons, List.length_cons, renK_len b b2]
  · exact renK_len b b2 _
theorem fm_len {α : Type} (f g : α → List Nat) : ∀ (l : List α), (∀ x ∈ l, (f x).length = (g x).length) → (l.flatMap f).length = (l.flatMap g).length
  | [], _ => rfl
  | x :: l, h => by rw [List.flatMap_cons, List.flatMap_cons, List.length_append, List.length_append, h x List.mem_cons_self, fm_len f g l (fun y hy => h y (List.mem_cons_of_mem _ hy))]
theorem renC_len (b b2 : Nat) (c : CpA) : (renC b c).length = (renC b2 c).length := by
  unfold renC
  rw [List.length_append, List.length_append, fm_len _ (renP b2) c.ps (fun p _ => renP_len b b2 p)]
  congr 1
  match c.hd with
  | none => rfl
  | some none => rfl
  | some (some j) => rfl
theorem renS_len (b b2 : Nat) (x : SlA) : (renS b x).length = (renS b2 x).length := by
  unfold renS renL
  rw [List.length_append, List.length_append, renC_len b b2, fm_len _ (fun x => x.1 :: renC b2 x.2) x.l (fun y _ => by rw [List.length_cons, List.length_cons, renC_len b b2])]
theorem renX_len2 (b b2 : Nat) (x : SlA) (xs : List SlA) : (renX b x xs).length = (renX b2 x xs).length := by
  unfold renX
  rw [List.length_append, List.length_append, renS_len b b2, fm_len _ (fun y => 44 :: renS b2 y) xs (fun y _ => by rw [List.length_cons, List.length_cons, renS_len b b2])]
theorem renR_len (b b2 : Nat) (r : RuA) : (renR b r).length = (renR b2 r).length := by
  unfold renR
  rw [List.length_append, List.length_append, List.length_append, List.length_append, renX_len2 b b2]
def HW (mild : Bool) (P : Nat → ByteArray × Nat) : Prop := ∃ (rs : List RuA) (at2 : Nat), (∀ r ∈ rs, r.fine mild) ∧ ∀ b, bl (P b).1 = rs.flatMap (renR b) ∧ (P b).2 = at2
theorem sheet_step {most : Nat} {P : Nat → ByteArray × Nat} (h : HW mild P) : HW mild fun b => sheetStep len L b mild most (P b) := by
  obtain ⟨rs, at2, hrs, h⟩ := h
  obtain ⟨r, at3, hr, hb⟩ := rule_ast (len := len) (L := L) (mild := mild) at2
  have hsz : ∀ b, (P b).1.size + (wRuleF len L b mild (P b).2).1.size = (P 0).1.size + (wRuleF len L 0 mild (P 0).2).1.size := fun b => by
    rw [(h b).2, (h 0).2, ← bl_length, ← bl_length, ← bl_length, ← bl_length, (h b).1, (h 0).1, (hb b).1, (hb 0).1, renR_len b 0, fm_len _ (renR 0) rs (fun y _ => renR_len b 0 y)]
  by_cases hfit : (P 0).1.size + (wRuleF len L 0 mild (P 0).2).1.size ≤ most
  · refine ⟨rs ++ [r], at3, fun y hy => ?_, fun b => ⟨?_, ?_⟩⟩
    · rcases List.mem_append.1 hy with h1 | h1
      · exact hrs y h1
      · rw [List.mem_singleton] at h1
        subst h1
        exact hr
    · have e : (sheetStep len L b mild most (P b)).1 = (P b).1 ++ (wRuleF len L b mild (P b).2).1 := if_pos (by rw [hsz b]; exact hfit)
      simp only
      rw [e, bl_append, (h b).1, (h b).2, (hb b).1, List.flatMap_append, List.flatMap_cons, List.flatMap_nil, List.append_nil]
    · show (wRuleF len L b mild (P b).2).2 = at3
      rw [(h b).2]
      exact (hb b).2
  · refine ⟨rs, at3, hrs, fun b => ⟨?_, ?_⟩⟩
    · have e : (sheetStep len L b mild most (P b)).1 = (P b).1 := if_neg (by rw [hsz b]; exact hfit)
      simp only
      rw [e]
      exact (h b).1
    · show (wRuleF len L b mild (P b).2).2 = at3
      rw [(h b).2]
      exact (hb b).2
theorem sheet_loop {most : Nat} : ∀ (k : Nat) {P : Nat → ByteArray × Nat}, HW mild P → HW mild fun b => sheetLoop len L b mild most k (P b)
  | 0, _, h => h
  | k + 1, _, h => sheet_loop k (sheet_step h)
/-- A written sheet is the text of one tree of signs, whatever its letters are turned by. -/
theorem sheet_ast (most : Nat) : ∃ rs : List RuA, (∀ r ∈ rs, r.fine mild) ∧ ∀ b, bl (wSheetF len L b mild most) = rs.flatMap (renR b) := by
  obtain ⟨rs, at2, h1, h2⟩ := sheet_loop (len := len) (L := L) (mild := mild) (most := most) (nx len L 9 0).1 (P := fun _ => (⟨#[]⟩, (nx len L 9 0).2)) ⟨[], _, fun r hr => (by cases hr), fun b => ⟨rfl, rfl⟩⟩
  exact ⟨rs, h1, fun b => (h2 b).1⟩
end
theorem sheet_of {s : ByteArray} {b : Nat} {rs : List RuA} (hz : s.size ≤ 400) (hrs : ∀ r ∈ rs, r.ok) (h : bl s = rs.flatMap (renR b)) : sheetOf s = rs.map (toR b) := by
  have hl : s.size = (rs.flatMap (renR b)).length := by rw [← bl_length, h]
  refine ruls_ren hz rs 0 400 hrs (txt_of _ _ fun j hj => ?_) (by omega) (by omega)
  rw [Nat.zero_add]
  have hj2 : j < (bl s).length := by rw [h]; exact hj
  rw [bl_at s j hj2]
  congr 1
end Go.Proofs.YtblfffbmklkhmaaGreat

namespace Go.Proofs.YtblfffbmklkhmaaGreat
open Go.RowKit
/-- Two views that differ by the letters alone. -/
structure VRel (b : Nat) (v' v : Vw) : Prop where
  ty : ∀ e j, v'.ty e (ltr b j) = v.ty e (ltr 0 j)
  cl : ∀ e j, v'.cl e (ltr b j) = v.cl e (ltr 0 j)
  nm : ∀ e j, v'.nm e (ltr b j) = v.nm e (ltr 0 j)
  ab : v'.ab = v.ab
  ah : v'.ah = v.ah
  la : v'.la = v.la
  em : v'.em = v.em
section
variable {b : Nat} {v' v : Vw}
theorem simp_rel (h : VRel b v' v) (p : PtA) (e : Int) : simpV v' (toP b p) e = simpV v (toP 0 p) e := by
  obtain ⟨nt, k⟩ := p
  cases k with
  | cls j => exact h.cl e j
  | nam j => exact h.nm e j
  | typ j => exact h.ty e j
  | fst => show decide (((v'.ah e).length : Int) + 1 = 1) = decide (((v.ah e).length : Int) + 1 = 1); rw [h.ah]
  | lst => show v'.la e = v.la e; rw [h.la]
  | emp => show v'.em e = v.em e; rw [h.em]
  | nth x y => show nthP (((v'.ah e).length : Int) + 1) x y = nthP (((v.ah e).length : Int) + 1) x y; rw [h.ah]
theorem toP_nt (b : Nat) (p : PtA) : (toP b p).nt = p.nt := by obtain ⟨nt, k⟩ := p; cases k <;> rfl
theorem toP_kd (b : Nat) (p : PtA) : (toP b p).kd = (toP 0 p).kd := by obtain ⟨nt, k⟩ := p; cases k <;> rfl
theorem parts_rel (h : VRel b v' v) (e : Int) : ∀ ps : List PtA, ((ps.map (toP b)).all fun p => simpV v' p e != p.nt) = ((ps.map (toP 0)).all fun p => simpV v p e != p.nt)
  | [] => rfl
  | p :: ps => by
    rw [List.map_cons, List.map_cons, List.all_cons, List.all_cons, parts_rel h e ps, simp_rel h, toP_nt, toP_nt]
theorem comp_rel (h : VRel b v' v) (sg : Int) (c : CpA) (e : Int) : compV v' (toC b sg c) e = compV v (toC 0 sg c) e := by
  unfold compV toC
  simp only
  rw [parts_rel h]
  congr 1
  match c.hd with
  | none => rfl
  | some none => rfl
  | some (some j) =>
    show (((ltr b j : Nat) == 0) || v'.ty e (ltr b j)) = (((ltr 0 j : Nat) == 0) || v.ty e (ltr 0 j))
    have h1 := ltr_lt b j
    have h2 := ltr_lt 0 j
    rw [h.ty, show ((ltr b j : Nat) == 0) = false from by rw [beq_eq_false_iff_ne]; omega, show ((ltr 0 j : Nat) == 0) = false from by rw [beq_eq_false_iff_ne]; omega]
theorem signed_rel (h : VRel b v' v) (sg e : Int) : signedV v' sg e = signedV v sg e := by
  unfold signedV
  rw [h.ab, h.ah]
theorem chain_rel (h : VRel b v' v) : ∀ (l : List (Int × CpA)) (e : Int), chainV v' (l.map fun y => toC b y.1 y.2) e = chainV v (l.map fun y => toC 0 y.1 y.2) e
  | [], _ => rfl
  | [y], e => comp_rel h y.1 y.2 e
  | y :: z :: l, e => by
    have ih : chainV v' ((z :: l).map fun y => toC b y.1 y.2) = chainV v ((z :: l).map fun y => toC 0 y.1 y.2) := funext fun x => chain_rel h (z :: l) x
    show (compV v' (toC b y.1 y.2) e && (signedV v' y.1 e).any (chainV v' ((z :: l).map fun y => toC b y.1 y.2))) = (compV v (toC 0 y.1 y.2) e && (signedV v y.1 e).any (chainV v ((z :: l).map fun y => toC 0 y.1 y.2)))
    rw [ih, comp_rel h, signed_rel h]
def pairsA (x : SlA) : List (Int × CpA) := (0, x.c) :: x.l.map fun y => ((y.1 : Int), y.2)
theorem toS_pairs (b : Nat) (x : SlA) : toS b x = (pairsA x).map fun y => toC b y.1 y.2 := by
  unfold toS pairsA
  rw [List.map_cons, List.map_map]
  rfl
theorem match_rel (h : VRel b v' v) (x : SlA) (e : Int) : matchV v' (toS b x) e = matchV v (toS 0 x) e := by
  unfold matchV
  rw [toS_pairs, toS_pairs, ← List.map_reverse, ← List.map_reverse]
  exact chain_rel h _ e
theorem pws_rel (b : Nat) : ∀ ps : List PtA, pws (ps.map (toP b)) = pws (ps.map (toP 0))
  | [] => rfl
  | p :: ps => by
    have ih := pws_rel b ps
    unfold pws at ih ⊢
    rw [List.map_cons, List.map_cons, List.map_cons, List.map_cons, List.sum_cons, List.sum_cons, ih]
    unfold pwp
    rw [toP_kd]
theorem cw_rel (b : Nat) (sg : Int) (c : CpA) : cw (toC b sg c).ty (toC b sg c).ps = cw (toC 0 sg c).ty (toC 0 sg c).ps := by
  unfold cw toC
  simp only
  rw [pws_rel]
  congr 1
  match c.hd with
  | none => rfl
  | some none => rfl
  | some (some j) =>
    have h1 := ltr_lt b j
    have h2 := ltr_lt 0 j
    show (if ltr b j = 0 then 0 else 1) = if ltr 0 j = 0 then 0 else 1
    rw [if_neg (by omega), if_neg (by omega)]
theorem cws_rel (b : Nat) (x : SlA) : cws (toS b x) = cws (toS 0 x) := by
  unfold cws
  rw [toS_pairs, toS_pairs, List.map_map, List.map_map]
  congr 1
  exact List.map_congr_left fun y _ => cw_rel b y.1 y.2
theorem weigh_rel (h : VRel b v' v) (e : Int) (l : List SlA) (a : Int × Bool) : (l.map (toS b)).foldl (weighStepV v' e) a = (l.map (toS 0)).foldl (weighStepV v e) a := by
  induction l generalizing a with
  | nil => rfl
  | cons x l ih =>
    rw [List.map_cons, List.map_cons, List.foldl_cons, List.foldl_cons]
    have : weighStepV v' e a (toS b x) = weighStepV v e a (toS 0 x) := by
      unfold weighStepV
      rw [match_rel h, cws_rel]
    rw [this]
    exact ih _
theorem rule_rel (h : VRel b v' v) (e : Int) (W : List Clm) (r : RuA) : ruleStepV v' e W (toR b r) = ruleStepV v e W (toR 0 r) := by
  have hw : weighV v' e (toR b r).ss = weighV v e (toR 0 r).ss := weigh_rel h e (r.x :: r.xs) (0, false)
  unfold ruleStepV
  rw [hw]
  rfl
theorem win_rel (h : VRel b v' v) (e : Int) (rs : List RuA) (W : List Clm) : (rs.map (toR b)).foldl (ruleStepV v' e) W = (rs.map (toR 0)).foldl (ruleStepV v e) W := by
  induction rs generalizing W with
  | nil => rfl
  | cons r rs ih =>
    rw [List.map_cons, List.map_cons, List.foldl_cons, List.foldl_cons, rule_rel h]
    exact ih _
theorem of_rel (h : VRel b v' v) (rs : List RuA) : ofV v' (rs.map (toR b)) = ofV v (rs.map (toR 0)) := by
  funext e comes
  unfold ofV winnersV
  rw [win_rel h]
theorem style_rel (h : VRel b v' v) (rs : List RuA) (e : Int) : styleV v' (rs.map (toR b)) e = styleV v (rs.map (toR 0)) e := by
  unfold styleV
  rw [of_rel h, h.ab]
end
end Go.Proofs.YtblfffbmklkhmaaGreat

namespace Go.Proofs.YtblfffbmklkhmaaGreat
open Go.RowKit
/-- Two groves in memory of their own, made since a world. -/
structure Two (DS : World → Value → Tree → Nat → (Nat → Mk) → List PRu → (Nat → Prop) → Prop) (w0 w : World) (g : Nat) (px vl : Value) (made b : Nat) (ns : List GN) (rs : List PRu) (Fg Fx : Nat → Prop) (g2 : Nat) (px2 vl2 : Value) (made2 b2 : Nat) (ns2 : List GN) (rs2 : List PRu) (Fg2 Fx2 : Nat → Prop) : Prop where
  one : GD DS w g px vl made b ns rs Fg Fx
  two : GD DS w g2 px2 vl2 made2 b2 ns2 rs2 Fg2 Fx2
  ap : ∀ k, Fg k ∨ Fx k → ¬ (Fg2 k ∨ Fx2 k)
  na : ∀ k, Fg k ∨ Fx k → w0.heap.size ≤ k
  nb : ∀ k, Fg2 k ∨ Fx2 k → w0.heap.size ≤ k
  bl : Below w0.heap.size w0 w
section
variable {DS : World → Value → Tree → Nat → (Nat → Mk) → List PRu → (Nat → Prop) → Prop} {w0 w w' : World} {g : Nat} {px vl : Value} {made b : Nat} {ns : List GN} {rs : List PRu} {Fg Fx : Nat → Prop} {g2 : Nat} {px2 vl2 : Value} {made2 b2 : Nat} {ns2 : List GN} {rs2 : List PRu} {Fg2 Fx2 : Nat → Prop}
theorem Two.swap (h : Two DS w0 w g px vl made b ns rs Fg Fx g2 px2 vl2 made2 b2 ns2 rs2 Fg2 Fx2) : Two DS w0 w g2 px2 vl2 made2 b2 ns2 rs2 Fg2 Fx2 g px vl made b ns rs Fg Fx :=
  ⟨h.two, h.one, fun k hk hx => h.ap k hx hk, h.nb, h.na, h.bl⟩
theorem Two.below (hP : DocOK DS) (h : Two DS w0 w g px vl made b ns rs Fg Fx g2 px2 vl2 made2 b2 ns2 rs2 Fg2 Fx2) (hB : Below w.heap.size w w') : Two DS w0 w' g px vl made b ns rs Fg Fx g2 px2 vl2 made2 b2 ns2 rs2 Fg2 Fx2 :=
  ⟨h.one.below hP hB, h.two.below hP hB, h.ap, h.na, h.nb, h.bl.trans (hB.mono h.bl.size)⟩
/-- A second grove is planted. -/
theorem two_plant (hP : DocOK DS) (h : GD DS w g px vl made b ns rs Fg Fx) (hna : ∀ k, Fg k ∨ Fx k → w0.heap.size ≤ k) (hbl : Below w0.heap.size w0 w) (h2 : GD DS w' g2 px2 vl2 made2 b2 ns2 rs2 Fg2 Fx2) (hin : ∀ k, Fg2 k ∨ Fx2 k → w.heap.size ≤ k) (hB : Below w.heap.size w w') : Two DS w0 w' g px vl made b ns rs Fg Fx g2 px2 vl2 made2 b2 ns2 rs2 Fg2 Fx2 :=
  ⟨h.below hP hB, h2, fun k hk hx => by have := h.here k hk; have := hin k hx; omega, hna, fun k hk => Nat.le_trans hbl.size (hin k hk), hbl.trans (hB.mono hbl.size)⟩
/-- The first one has turned. -/
theorem Two.turn (hP : DocOK DS) (h : Two DS w0 w g px vl made b ns rs Fg Fx g2 px2 vl2 made2 b2 ns2 rs2 Fg2 Fx2) {px' vl' : Value} {made' b' : Nat} {ns' : List GN} {rs' : List PRu} {Fg' Fx' G : Nat → Prop} (h1 : GD DS w' g px' vl' made' b' ns' rs' Fg' Fx') (hin : ∀ k, Fg' k ∨ Fx' k → (Fg k ∨ Fx k) ∨ w.heap.size ≤ k) (hG : ∀ k, G k → Fg k ∨ Fx k) (hf : Fr w w' G) : Two DS w0 w' g px' vl' made' b' ns' rs' Fg' Fx' g2 px2 vl2 made2 b2 ns2 rs2 Fg2 Fx2 :=
  ⟨h1, h.two.apart hP hf (fun k hk hx => h.ap k (hG k hx) hk), fun k hk hx => by
    rcases hin k hk with h2 | h2
    · exact h.ap k h2 hx
    · have := h.two.here k hx; omega, fun k hk => by
    rcases hin k hk with h2 | h2
    · exact h.na k h2
    · exact Nat.le_trans h.bl.size h2, h.nb, h.bl.trans ⟨hf.os, hf.tape, hf.output, hf.size, fun k hk => hf.block k (Nat.lt_of_lt_of_le hk h.bl.size) (fun hx => by have := h.na k (hG k hx); omega)⟩⟩
theorem Two.all (hP : DocOK DS) (h : Two DS w0 w g px vl made b ns rs Fg Fx g2 px2 vl2 made2 b2 ns2 rs2 Fg2 Fx2) {Fx' : Nat → Prop} (h1 : GDM DS w' g px vl made b (mOf b (ns.map GN.pl)) ns rs Fg Fx') (hin : ∀ k, Fx' k → Fx k ∨ w.heap.size ≤ k) (hf : Fr w w' Fx) : Two DS w0 w' g px vl made b ns rs Fg Fx' g2 px2 vl2 made2 b2 ns2 rs2 Fg2 Fx2 :=
  h.turn hP (GDM.gd h1) (fun k hk => by
    rcases hk with hk | hk
    · exact Or.inl (Or.inl hk)
    · rcases hin k hk with h2 | h2
      · exact Or.inl (Or.inr h2)
      · exact Or.inr h2) (fun _ hk => Or.inr hk) hf
end
end Go.Proofs.YtblfffbmklkhmaaGreat
