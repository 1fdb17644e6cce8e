/- Own work. -/
import Derived.Test.YtblfffbmklkhmaaGreatAw47
namespace Go.Proofs.YtblfffbmklkhmaaGreat
open Go.RowKit
theorem wDeclF_ok {len : Nat} {L : Nat → Int} {mild : Bool} (at' : Nat) : (wDeclF len L mild at').1.size ≤ 7 ∧ (wDeclF len L mild at').2 ≤ at' + 5 := by
  have h9 := nx_at (len := len) (L := L) (n := 9) (at' := at')
  have l9 := nx_lt (len := len) (L := L) (n := 9) (at' := at') (by decide)
  have h8 := nx_at (len := len) (L := L) (n := 8) (at' := (nx len L 9 at').2)
  have z0 : (prB (nx len L 9 at').1 ++ (⟨#[58]⟩ : ByteArray)).size = 2 := by rw [ByteArray.size_append, prB_size _ l9]; rfl
  have hm : ∀ (s0 : ByteArray) (c : Nat × Nat), s0.size = 2 → (declMid len L s0 c).1.size ≤ 4 ∧ (declMid len L s0 c).2 ≤ c.2 + 2 := fun s0 c hs => by
    unfold declMid
    split
    · refine ⟨?_, ?_⟩
      · show (s0 ++ _ : ByteArray).size ≤ _
        rw [ByteArray.size_append, hs]; decide
      · show c.2 ≤ _
        omega
    · split
      · refine ⟨?_, ?_⟩
        · show (s0 ++ _ : ByteArray).size ≤ _
          rw [ByteArray.size_append, hs]; decide
        · show c.2 ≤ _
          omega
      · split
        · refine ⟨?_, ?_⟩
          · show (s0 ++ _ : ByteArray).size ≤ _
            rw [ByteArray.size_append, hs]; decide
          · show c.2 ≤ _
            omega
        · split
          · have h3 := nx_at (len := len) (L := L) (n := 3) (at' := c.2)
            have l3 := nx_lt (len := len) (L := L) (n := 3) (at' := c.2) (by decide)
            refine ⟨?_, ?_⟩
            · show (s0 ++ (⟨#[36]⟩ : ByteArray) ++ prB _).size ≤ _
              rw [ByteArray.size_append, ByteArray.size_append, hs, prB_size _ (by omega)]; decide
            · show (nx len L 3 c.2).2 ≤ _
              omega
          · have h3 := nx_at (len := len) (L := L) (n := 9) (at' := c.2)
            have h4 := nx_at (len := len) (L := L) (n := 10) (at' := (nx len L 9 c.2).2)
            refine ⟨?_, ?_⟩
            · show (s0 ++ digB _ ++ digB _).size ≤ _
              rw [ByteArray.size_append, ByteArray.size_append, hs]; exact Nat.le_refl _
            · show (nx len L 10 _).2 ≤ _
              omega
  have h1 := hm _ (nx len L 8 (nx len L 9 at').2) z0
  have he : ∀ m : ByteArray × Nat, (declEnd len L mild m).1.size ≤ m.1.size + 1 ∧ (declEnd len L mild m).2 ≤ m.2 + 1 := fun m => by
    have h5 := nx_at (len := len) (L := L) (n := 5) (at' := m.2)
    unfold declEnd
    split
    · refine ⟨?_, h5⟩
      show (m.1 ++ _ : ByteArray).size ≤ _
      rw [ByteArray.size_append]; exact Nat.le_refl _
    · exact ⟨Nat.le_succ _, h5⟩
  have h2 := he (declMid len L (prB (nx len L 9 at').1 ++ ⟨#[58]⟩) (nx len L 8 (nx len L 9 at').2))
  unfold wDeclF
  omega
def ruleHead (len : Nat) (L : Nat → Int) (at' : Nat) : ByteArray × Nat :=
  if (nx len L 3 at').1 = 0 then (⟨#[64]⟩ ++ digB (nx len L 4 (nx len L 3 at').2).1, (nx len L 4 (nx len L 3 at').2).2) else (⟨#[]⟩, (nx len L 3 at').2)
def ruleSel (len : Nat) (L : Nat → Int) (by' : Nat) (p : ByteArray × Nat) : ByteArray × Nat := (p.1 ++ (wSelF len L by' p.2).1, (wSelF len L by' p.2).2)
def ruleMore (len : Nat) (L : Nat → Int) (by' : Nat) (p : ByteArray × Nat) : ByteArray × Nat :=
  if (nx len L 4 p.2).1 = 0 then (p.1 ++ ⟨#[44]⟩ ++ (wSelF len L by' (nx len L 4 p.2).2).1, (wSelF len L by' (nx len L 4 p.2).2).2) else (p.1, (nx len L 4 p.2).2)
def ruleDecl (len : Nat) (L : Nat → Int) (mild : Bool) (p : ByteArray × Nat) : ByteArray × Nat := (p.1 ++ ⟨#[123]⟩ ++ (wDeclF len L mild p.2).1, (wDeclF len L mild p.2).2)
def declStep (len : Nat) (L : Nat → Int) (mild : Bool) (p : ByteArray × Nat) : ByteArray × Nat := (p.1 ++ ⟨#[59]⟩ ++ (wDeclF len L mild p.2).1, (wDeclF len L mild p.2).2)
def declLoop (len : Nat) (L : Nat → Int) (mild : Bool) : Nat → ByteArray × Nat → ByteArray × Nat
  | 0, p => p
  | k + 1, p => declLoop len L mild k (declStep len L mild p)
def ruleShut (p : ByteArray × Nat) : ByteArray × Nat := (p.1 ++ ⟨#[125]⟩, p.2)
def ruleF4 (len : Nat) (L : Nat → Int) (mild : Bool) (p : ByteArray × Nat) : ByteArray × Nat := ruleShut (declLoop len L mild (nx len L 3 p.2).1 (p.1, (nx len L 3 p.2).2))
def ruleF3 (len : Nat) (L : Nat → Int) (mild : Bool) (p : ByteArray × Nat) : ByteArray × Nat := ruleF4 len L mild (ruleDecl len L mild p)
def ruleF2 (len : Nat) (L : Nat → Int) (by' : Nat) (mild : Bool) (p : ByteArray × Nat) : ByteArray × Nat := ruleF3 len L mild (ruleMore len L by' p)
def ruleF1 (len : Nat) (L : Nat → Int) (by' : Nat) (mild : Bool) (p : ByteArray × Nat) : ByteArray × Nat := ruleF2 len L by' mild (ruleSel len L by' p)
def wRuleF (len : Nat) (L : Nat → Int) (by' : Nat) (mild : Bool) (at' : Nat) : ByteArray × Nat := ruleF1 len L by' mild (ruleHead len L at')
section
variable {len : Nat} {L : Nat → Int} {by' : Nat} {mild : Bool}
theorem ruleHead_ok (at' : Nat) : (ruleHead len L at').1.size ≤ 2 ∧ (ruleHead len L at').2 ≤ at' + 2 := by
  have h3 := nx_at (len := len) (L := L) (n := 3) (at' := at')
  have h4 := nx_at (len := len) (L := L) (n := 4) (at' := (nx len L 3 at').2)
  unfold ruleHead
  split
  · refine ⟨?_, ?_⟩
    · show ((⟨#[64]⟩ : ByteArray) ++ digB _).size ≤ _
      rw [ByteArray.size_append]; exact Nat.le_refl _
    · show (nx len L 4 _).2 ≤ _
      omega
  · refine ⟨Nat.zero_le _, ?_⟩
    show (nx len L 3 _).2 ≤ _
    omega
theorem ruleSel_ok (p : ByteArray × Nat) : (ruleSel len L by' p).1.size ≤ p.1.size + 44 ∧ (ruleSel len L by' p).2 ≤ p.2 + 48 := by
  have h := wSelF_ok (len := len) (L := L) (by' := by') p.2
  refine ⟨?_, h.2⟩
  show (p.1 ++ _ : ByteArray).size ≤ _
  rw [ByteArray.size_append]
  omega
theorem ruleMore_ok (p : ByteArray × Nat) : (ruleMore len L by' p).1.size ≤ p.1.size + 45 ∧ (ruleMore len L by' p).2 ≤ p.2 + 49 := by
  have h4 := nx_at (len := len) (L := L) (n := 4) (at' := p.2)
  have h := wSelF_ok (len := len) (L := L) (by' := by') (nx len L 4 p.2).2
  unfold ruleMore
  split
  · refine ⟨?_, ?_⟩
    · show (p.1 ++ (⟨#[44]⟩ : ByteArray) ++ _).size ≤ _
      rw [ByteArray.size_append, ByteArray.size_append, show (⟨#[44]⟩ : ByteArray).size = 1 from rfl]
      omega
    · show (wSelF len L by' _).2 ≤ _
      omega
  · refine ⟨?_, ?_⟩
    · show p.1.size ≤ _
      omega
    · show (nx len L 4 _).2 ≤ _
      omega
theorem ruleDecl_ok (p : ByteArray × Nat) : (ruleDecl len L mild p).1.size ≤ p.1.size + 8 ∧ (ruleDecl len L mild p).2 ≤ p.2 + 5 := by
  have h := wDeclF_ok (len := len) (L := L) (mild := mild) p.2
  refine ⟨?_, h.2⟩
  show (p.1 ++ (⟨#[123]⟩ : ByteArray) ++ _).size ≤ _
  rw [ByteArray.size_append, ByteArray.size_append, show (⟨#[123]⟩ : ByteArray).size = 1 from rfl]
  omega
theorem declStep_ok (p : ByteArray × Nat) : (declStep len L mild p).1.size ≤ p.1.size + 8 ∧ (declStep len L mild p).2 ≤ p.2 + 5 := by
  have h := wDeclF_ok (len := len) (L := L) (mild := mild) p.2
  refine ⟨?_, h.2⟩
  show (p.1 ++ (⟨#[59]⟩ : ByteArray) ++ _).size ≤ _
  rw [ByteArray.size_append, ByteArray.size_append, show (⟨#[59]⟩ : ByteArray).size = 1 from rfl]
  omega
theorem declLoop_ok : ∀ (k : Nat) (p : ByteArray × Nat), (declLoop len L mild k p).1.size ≤ p.1.size + 8 * k ∧ (declLoop len L mild k p).2 ≤ p.2 + 5 * k
  | 0, p => ⟨Nat.le_refl _, Nat.le_refl _⟩
  | k + 1, p => by
    have h1 := declLoop_ok k (declStep len L mild p)
    have h2 := declStep_ok (len := len) (L := L) (mild := mild) p
    show (declLoop len L mild k (declStep len L mild p)).1.size ≤ _ ∧ (declLoop len L mild k (declStep len L mild p)).2 ≤ _
    omega
theorem ruleF4_ok (p : ByteArray × Nat) : (ruleF4 len L mild p).1.size ≤ p.1.size + 17 ∧ (ruleF4 len L mild p).2 ≤ p.2 + 11 := by
  have h3 := nx_at (len := len) (L := L) (n := 3) (at' := p.2)
  have l3 := nx_lt (len := len) (L := L) (n := 3) (at' := p.2) (by decide)
  have h := declLoop_ok (len := len) (L := L) (mild := mild) (nx len L 3 p.2).1 (p.1, (nx len L 3 p.2).2)
  simp only at h
  refine ⟨?_, ?_⟩
  · show ((declLoop len L mild (nx len L 3 p.2).1 (p.1, (nx len L 3 p.2).2)).1 ++ (⟨#[125]⟩ : ByteArray)).size ≤ _
    rw [ByteArray.size_append, show (⟨#[125]⟩ : ByteArray).size = 1 from rfl]
    omega
  · show (declLoop len L mild (nx len L 3 p.2).1 (p.1, (nx len L 3 p.2).2)).2 ≤ _
    omega
theorem wRuleF_ok (at' : Nat) : (wRuleF len L by' mild at').1.size ≤ 120 ∧ (wRuleF len L by' mild at').2 ≤ at' + 120 := by
  have h1 := ruleHead_ok (len := len) (L := L) at'
  have h2 := ruleSel_ok (len := len) (L := L) (by' := by') (ruleHead len L at')
  have h3 := ruleMore_ok (len := len) (L := L) (by' := by') (ruleSel len L by' (ruleHead len L at'))
  have h4 := ruleDecl_ok (len := len) (L := L) (mild := mild) (ruleMore len L by' (ruleSel len L by' (ruleHead len L at')))
  have h5 := ruleF4_ok (len := len) (L := L) (mild := mild) (ruleDecl len L mild (ruleMore len L by' (ruleSel len L by' (ruleHead len L at'))))
  unfold wRuleF ruleF1 ruleF2 ruleF3
  omega
end
/-- Where the writer of a rule stands: the text so far is s, the rest is told by F. -/
def RuAt (w : World) (q : Nat) (a : Option Addr) (len cap : Nat) (L : Nat → Int) (by' : Nat) (mild : Bool) (R : ByteArray × Nat) (F : ByteArray × Nat → ByteArray × Nat) (zs za : Nat) (s : ByteArray) (wx : World) : Prop :=
  ∃ at2, R = F (s, at2) ∧ s.size ≤ zs ∧ at2 ≤ za ∧ Wr wx q a len cap L at2 by' mild ∧ Fr w wx (fun k => k = q)
section
set_option maxRecDepth 100000
set_option maxHeartbeats 4000000
variable (w : World) (q : Nat) (a : Option Addr) (len cap : Nat) (L : Nat → Int) (at' by' : Nat) (mild : Bool)
theorem wrule_any (h : Wr w q a len cap L at' by' mild) (hat : at' ≤ 600000000) (hby : by' ≤ 25) : Calls Tryz.prog 45 #[.pointer (some ⟨q, 0, none⟩)] w fun e w' => WStr w q a len cap L by' mild (wRuleF len L by' mild at') e w' := by
  have HW : Hid (Wr w q a len cap L at' by' mild) := h
  have HN3 : Hid (Calls Tryz.prog 44 #[.pointer (some ⟨q, 0, none⟩), .int .i64 3] w fun e w' => WNext w q a len cap L by' mild (nx len L 3 at') e w') := wnext_any w q a len cap L at' by' mild 3 h (by decide) (by decide) (by omega)
  have l3 := nx_lt (len := len) (L := L) (n := 3) (at' := at') (by decide)
  have m3 := nx_at (len := len) (L := L) (n := 3) (at' := at')
  have HR0 : Hid (∀ r, nx len L 3 at' = r → wRuleF len L by' mild at' = ruleF1 len L by' mild (if r.1 = 0 then (⟨#[64]⟩ ++ digB (nx len L 4 r.2).1, (nx len L 4 r.2).2) else (⟨#[]⟩, r.2))) := fun r hr => by subst hr; rfl
  have HR1 := HR0.out _ rfl
  clear h HR0
  generalize nx len L 3 at' = r3 at HN3 l3 m3 HR1
  obtain ⟨ly, at1⟩ := r3
  simp only at l3 m3 HR1
  have HR2 : Hid (wRuleF len L by' mild at' = ruleF1 len L by' mild (if ly = 0 then (⟨#[64]⟩ ++ digB (nx len L 4 at1).1, (nx len L 4 at1).2) else (⟨#[]⟩, at1))) := HR1
  clear HR1
  generalize wRuleF len L by' mild at' = R at HR2 ⊢
  go_enter Tryz.func45, Tryz.ntmps45
  go_wp2_with fail
  refine HN3.out.mono ?_
  rintro e w1 ⟨rfl, hw1, hf1⟩
  have HW1 : Hid (Wr w1 q a len cap L at1 by' mild ∧ Fr w w1 (fun k => k = q)) := ⟨hw1, hf1⟩
  clear hw1 hf1 HN3
  go_upto_if 10 with fail
  go_cut [3] (fun v wx => ∃ s, v = .string s ∧ Hid (RuAt w q a len cap L by' mild R (ruleF1 len L by' mild) 2 600000002 s wx))
  case first =>
    by_cases hly : ly = 0
    · subst hly
      have HR3 := HR2.out
      rw [if_pos rfl] at HR3
      have HN4 : Hid (Calls Tryz.prog 44 #[.pointer (some ⟨q, 0, none⟩), .int .i64 4] w1 fun e w' => WNext w1 q a len cap L by' mild (nx len L 4 at1) e w') := wnext_any w1 q a len cap L at1 by' mild 4 HW1.out.1 (by decide) (by decide) (by omega)
      have l4 := nx_lt (len := len) (L := L) (n := 4) (at' := at1) (by decide)
      have m4 := nx_at (len := len) (L := L) (n := 4) (at' := at1)
      generalize nx len L 4 at1 = r4 at HN4 l4 m4 HR3
      obtain ⟨d, at2⟩ := r4
      simp only at l4 m4 HR3
      have HR4 : Hid (R = ruleF1 len L by' mild (⟨#[64]⟩ ++ digB d, at2)) := HR3
      clear HR2 HR3
      go_wp2_with fail
      refine HN4.out.mono ?_
      rintro e w2 ⟨rfl, hw2, hf2⟩
      have HW2 : Hid (Wr w2 q a len cap L at2 by' mild ∧ Fr w w2 (fun k => k = q)) := ⟨hw2, HW1.out.2.q hf2⟩
      clear hw2 hf2 HN4 HW1
      have HK := kdigit_any w2 d (by omega)
      have zd := digB_size d
      generalize digB d = ds at HK zd HR4
      have HK2 : Hid (Calls Tryz.prog 18 #[.int .i64 d] w2 fun e w' => e = .returned (.string ds) ∧ Below w2.heap.size w2 w') := HK
      clear HK
      have z1 : ((⟨#[64]⟩ : ByteArray) ++ ds).size = 2 := by rw [ByteArray.size_append, zd]; rfl
      go_wp2_with fail
      refine HK2.out.mono ?_
      rintro e wX ⟨rfl, hBX⟩
      have HE : Hid (RuAt w q a len cap L by' mild R (ruleF1 len L by' mild) 2 600000002 (⟨#[64]⟩ ++ ds) wX) := ⟨at2, HR4.out, by omega, by omega, HW2.out.1.below hBX, HW2.out.2.below hBX⟩
      clear hBX HK2 HW2 HR4
      go_wp2_with fail
      go_meet
      case rel => exact ⟨_, rfl, HE⟩
    · have gly : ((ly : Int) == 0) = false := by rw [beq_eq_false_iff_ne]; omega
      have HE : Hid (RuAt w q a len cap L by' mild R (ruleF1 len L by' mild) 2 600000002 ⟨#[]⟩ w1) := ⟨at1, by have := HR2.out; rwa [if_neg hly] at this, by decide, by omega, HW1.out.1, HW1.out.2⟩
      clear HR2 HW1 hly
      go_wp2_with fail
      go_meet
      case rel => exact ⟨_, rfl, HE⟩
  case rest =>
    obtain ⟨s, rfl, HA⟩ := hcut
    obtain ⟨at2, hR, zs, ha2, hw2, hf2⟩ := HA.out
    have HR5 : Hid (∀ c, wSelF len L by' at2 = c → R = ruleF2 len L by' mild (s ++ c.1, c.2)) := fun c hc => by subst hc; exact hR
    have HW2 : Hid (Wr wc q a len cap L at2 by' mild ∧ Fr w wc (fun k => k = q)) := ⟨hw2, hf2⟩
    clear HA hR hw2 hf2 HR2 HW1 HW
    have HS : Hid (Calls Tryz.prog 78 #[.pointer (some ⟨q, 0, none⟩)] wc fun e w' => WStr wc q a len cap L by' mild (wSelF len L by' at2) e w') := wsel_any wc q a len cap L at2 by' mild HW2.out.1 (by omega) hby
    have zsel := wSelF_ok (len := len) (L := L) (by' := by') at2
    have HR6 := HR5.out _ rfl
    generalize wSelF len L by' at2 = c at HS zsel HR6
    obtain ⟨cs, at3⟩ := c
    simp only at zsel HR6
    have HR7 : Hid (∀ r, nx len L 4 at3 = r → R = ruleF3 len L mild (if r.1 = 0 then (s ++ cs ++ ⟨#[44]⟩ ++ (wSelF len L by' r.2).1, (wSelF len L by' r.2).2) else (s ++ cs, r.2))) := fun r hr => by subst hr; exact HR6
    clear HR5 HR6
    have z1 : (s ++ cs).size ≤ 46 := by rw [ByteArray.size_append]; omega
    go_wp2_with fail
    refine HS.out.mono ?_
    rintro e w3 ⟨rfl, hw3, hf3⟩
    have HW3 : Hid (Wr w3 q a len cap L at3 by' mild ∧ Fr w w3 (fun k => k = q)) := ⟨hw3, HW2.out.2.q hf3⟩
    clear hw3 hf3 HS HW2
    have HN4 : Hid (Calls Tryz.prog 44 #[.pointer (some ⟨q, 0, none⟩), .int .i64 4] w3 fun e w' => WNext w3 q a len cap L by' mild (nx len L 4 at3) e w') := wnext_any w3 q a len cap L at3 by' mild 4 HW3.out.1 (by decide) (by decide) (by omega)
    have l4 := nx_lt (len := len) (L := L) (n := 4) (at' := at3) (by decide)
    have m4 := nx_at (len := len) (L := L) (n := 4) (at' := at3)
    have HR8 := HR7.out _ rfl
    generalize nx len L 4 at3 = r4 at HN4 l4 m4 HR8
    obtain ⟨mo, at4⟩ := r4
    simp only at l4 m4 HR8
    go_wp2_with fail
    generalize s ++ cs = s1 at z1 HR8 ⊢
    have HR9 : Hid (R = ruleF3 len L mild (if mo = 0 then (s1 ++ ⟨#[44]⟩ ++ (wSelF len L by' at4).1, (wSelF len L by' at4).2) else (s1, at4))) := HR8
    clear HR7 HR8
    refine HN4.out.mono ?_
    rintro e w4 ⟨rfl, hw4, hf4⟩
    have HW4 : Hid (Wr w4 q a len cap L at4 by' mild ∧ Fr w w4 (fun k => k = q)) := ⟨hw4, HW3.out.2.q hf4⟩
    clear hw4 hf4 HN4 HW3
    go_upto_if 22 with fail
    go_cut [3] (fun v wx => ∃ s, v = .string s ∧ Hid (RuAt w q a len cap L by' mild R (ruleF3 len L mild) 91 600000110 s wx))
    case first =>
      by_cases hmo : mo = 0
      · subst hmo
        have HRA := HR9.out
        rw [if_pos rfl] at HRA
        have HS : Hid (Calls Tryz.prog 78 #[.pointer (some ⟨q, 0, none⟩)] w4 fun e w' => WStr w4 q a len cap L by' mild (wSelF len L by' at4) e w') := wsel_any w4 q a len cap L at4 by' mild HW4.out.1 (by omega) hby
        have zse2 := wSelF_ok (len := len) (L := L) (by' := by') at4
        generalize wSelF len L by' at4 = c at HS zse2 HRA
        obtain ⟨ds, at5⟩ := c
        simp only at zse2 HRA
        have HRB : Hid (R = ruleF3 len L mild (s1 ++ ⟨#[44]⟩ ++ ds, at5)) := HRA
        clear HR9 HRA
        have z2 : (s1 ++ (⟨#[44]⟩ : ByteArray)).size = s1.size + 1 := by rw [ByteArray.size_append]; rfl
        have z3 : (s1 ++ (⟨#[44]⟩ : ByteArray) ++ ds).size ≤ 91 := by rw [ByteArray.size_append, z2]; omega
        go_wp2_with fail
        refine HS.out.mono ?_
        rintro e w5 ⟨rfl, hw5, hf5⟩
        have HE : Hid (RuAt w q a len cap L by' mild R (ruleF3 len L mild) 91 600000110 (s1 ++ ⟨#[44]⟩ ++ ds) w5) := ⟨at5, HRB.out, z3, by omega, hw5, HW4.out.2.q hf5⟩
        clear hw5 hf5 HS HW4 HRB
        go_wp2_with fail
        go_meet
        case rel => exact ⟨_, rfl, HE⟩
      · have gmo : ((mo : Int) == 0) = false := by rw [beq_eq_false_iff_ne]; omega
        have HE : Hid (RuAt w q a len cap L by' mild R (ruleF3 len L mild) 91 600000110 s1 w4) := ⟨at4, by have := HR9.out; rwa [if_neg hmo] at this, by omega, by omega, HW4.out.1, HW4.out.2⟩
        clear HR9 HW4 hmo
        go_wp2_with fail
        go_meet
        case rel => exact ⟨_, rfl, HE⟩
    case rest =>
      obtain ⟨s2, rfl, HA⟩ := hcut
      obtain ⟨at5, hR, zs2, ha5, hw5, hf5⟩ := HA.out
      have HRC : Hid (∀ c, wDeclF len L mild at5 = c → R = ruleF4 len L mild (s2 ++ ⟨#[123]⟩ ++ c.1, c.2)) := fun c hc => by subst hc; exact hR
      have HW5 : Hid (Wr wc q a len cap L at5 by' mild ∧ Fr w wc (fun k => k = q)) := ⟨hw5, hf5⟩
      clear HA hR hw5 hf5 HR9 HW4 zs zsel z1 m4 l4 l3 m3 ha2
      have HD : Hid (Calls Tryz.prog 79 #[.pointer (some ⟨q, 0, none⟩)] wc fun e w' => WStr wc q a len cap L by' mild (wDeclF len L mild at5) e w') := wdecl_any wc q a len cap L at5 by' mild HW5.out.1 (by omega)
      have zde := wDeclF_ok (len := len) (L := L) (mild := mild) at5
      have HRD := HRC.out _ rfl
      generalize wDeclF len L mild at5 = c at HD zde HRD
      obtain ⟨ds, at6⟩ := c
      simp only at zde HRD
      have z2 : (s2 ++ (⟨#[123]⟩ : ByteArray)).size = s2.size + 1 := by rw [ByteArray.size_append]; rfl
      have z3 : (s2 ++ (⟨#[123]⟩ : ByteArray) ++ ds).size ≤ 99 := by rw [ByteArray.size_append, z2]; omega
      have HRE : Hid (∀ r, nx len L 3 at6 = r → R = ruleShut (declLoop len L mild r.1 (s2 ++ ⟨#[123]⟩ ++ ds, r.2))) := fun r hr => by subst hr; exact HRD
      clear HRC HRD
      go_wp2_with fail
      refine HD.out.mono ?_
      rintro e w6 ⟨rfl, hw6, hf6⟩
      have HW6 : Hid (Wr w6 q a len cap L at6 by' mild ∧ Fr w w6 (fun k => k = q)) := ⟨hw6, HW5.out.2.q hf6⟩
      clear hw6 hf6 HD HW5
      have HN3 : Hid (Calls Tryz.prog 44 #[.pointer (some ⟨q, 0, none⟩), .int .i64 3] w6 fun e w' => WNext w6 q a len cap L by' mild (nx len L 3 at6) e w') := wnext_any w6 q a len cap L at6 by' mild 3 HW6.out.1 (by decide) (by decide) (by omega)
      have l3 := nx_lt (len := len) (L := L) (n := 3) (at' := at6) (by decide)
      have m3 := nx_at (len := len) (L := L) (n := 3) (at' := at6)
      have HRF := HRE.out _ rfl
      generalize nx len L 3 at6 = r3 at HN3 l3 m3 HRF
      obtain ⟨kk, at7⟩ := r3
      simp only at l3 m3 HRF
      go_wp2_with fail
      generalize s2 ++ (⟨#[123]⟩ : ByteArray) ++ ds = s3 at z3 HRF ⊢
      refine HN3.out.mono ?_
      rintro e w7 ⟨rfl, hw7, hf7⟩
      have HL0 : Hid (∃ p : ByteArray × Nat, R = ruleShut (declLoop len L mild kk p) ∧ p.1 = s3 ∧ p.1.size + 8 * kk ≤ 120 ∧ p.2 + 5 * kk ≤ 700000000 ∧ Wr w7 q a len cap L p.2 by' mild ∧ Fr w w7 (fun k => k = q)) := ⟨(s3, at7), HRF, rfl, by show s3.size + 8 * kk ≤ 120; omega, by show at7 + 5 * kk ≤ _; omega, hw7, HW6.out.2.q hf7⟩
      clear hw7 hf7 HRE HRF HN3 HW6
      go_wp2_with fail
      go_loopg [3, 6] kk (fun gk sv kv wr => ∃ (m : Nat) (s : ByteArray), sv = .string s ∧ kv = .int .i64 m ∧ m ≤ 2 ∧ m ≤ gk ∧ Hid (∃ p : ByteArray × Nat, R = ruleShut (declLoop len L mild m p) ∧ p.1 = s ∧ p.1.size + 8 * m ≤ 120 ∧ p.2 + 5 * m ≤ 700000000 ∧ Wr wr q a len cap L p.2 by' mild ∧ Fr w wr (fun k => k = q)))
      case atStart => exact ⟨kk, s3, rfl, rfl, by omega, Nat.le_refl _, HL0⟩
      case round =>
        obtain ⟨m, sx, rfl, rfl, hm2, hgk, HI⟩ := hrel
        obtain ⟨p, hp1, hp2, hp3, hp4, hp5, hp6⟩ := HI.out
        obtain ⟨ps, pat⟩ := p
        simp only at hp2 hp3 hp4 hp5
        subst hp2
        have HIW : Hid (R = ruleShut (declLoop len L mild m (ps, pat)) ∧ Wr wr q a len cap L pat by' mild ∧ Fr w wr (fun k => k = q)) := ⟨hp1, hp5, hp6⟩
        clear HI hp1 hp5 hp6
        cases m with
        | zero =>
          have HE : Hid (WStr w q a len cap L by' mild R (.returned (.string (ps ++ ⟨#[125]⟩))) wr) := by rw [HIW.out.1]; exact ⟨rfl, HIW.out.2⟩
          have z9 : (ps ++ (⟨#[125]⟩ : ByteArray)).size = ps.size + 1 := by rw [ByteArray.size_append]; rfl
          go_wp2
          go_ret
          exact HE.out
        | succ m =>
          have hd : decide ((0 : Int) < (m : Int) + 1) = true := by rw [decide_eq_true_eq]; omega
          have HST : Hid (∀ c, wDeclF len L mild pat = c → declStep len L mild (ps, pat) = (ps ++ ⟨#[59]⟩ ++ c.1, c.2)) := fun c hc => by subst hc; rfl
          have HSO := declStep_ok (len := len) (L := L) (mild := mild) (ps, pat)
          simp only at HSO
          have HNX : Hid (∀ wZ c, declStep len L mild (ps, pat) = c → Wr wZ q a len cap L c.2 by' mild → Fr wr wZ (fun k => k = q) → ∃ p : ByteArray × Nat, R = ruleShut (declLoop len L mild m p) ∧ p.1 = c.1 ∧ p.1.size + 8 * m ≤ 120 ∧ p.2 + 5 * m ≤ 700000000 ∧ Wr wZ q a len cap L p.2 by' mild ∧ Fr w wZ (fun k => k = q)) := fun wZ c hc h1 h2 => by
            subst hc
            exact ⟨declStep len L mild (ps, pat), HIW.out.1, rfl, by omega, by omega, h1, HIW.out.2.2.q h2⟩
          have HDD : Hid (Calls Tryz.prog 79 #[.pointer (some ⟨q, 0, none⟩)] wr fun e w' => WStr wr q a len cap L by' mild (wDeclF len L mild pat) e w') := wdecl_any wr q a len cap L pat by' mild HIW.out.2.1 (by omega)
          have zd2 := (wDeclF_ok (len := len) (L := L) (mild := mild) pat).1
          have HS4 := HST.out _ rfl
          clear HST HSO
          generalize wDeclF len L mild pat = c at HDD zd2 HS4
          obtain ⟨es, atn⟩ := c
          simp only at zd2 HS4
          have HS5 : Hid (declStep len L mild (ps, pat) = (ps ++ ⟨#[59]⟩ ++ es, atn)) := HS4
          clear HS4
          have z8 : (ps ++ (⟨#[59]⟩ : ByteArray)).size = ps.size + 1 := by rw [ByteArray.size_append]; rfl
          have z9 : (ps ++ (⟨#[59]⟩ : ByteArray) ++ es).size ≤ ps.size + 8 := by rw [ByteArray.size_append, z8]; omega
          go_wp2_with fail
          refine HDD.out.mono ?_
          rintro e wC ⟨rfl, hwC, hfC⟩
          have HI3 : Hid (∃ p : ByteArray × Nat, R = ruleShut (declLoop len L mild m p) ∧ p.1 = ps ++ (⟨#[59]⟩ : ByteArray) ++ es ∧ p.1.size + 8 * m ≤ 120 ∧ p.2 + 5 * m ≤ 700000000 ∧ Wr wC q a len cap L p.2 by' mild ∧ Fr w wC (fun k => k = q)) := HNX.out wC _ HS5.out hwC hfC
          clear hwC hfC HNX HS5 HIW HDD
          go_wp2
          go_roundg m
          case measure => omega
          case rel => exact ⟨m, _, rfl, by go_num, by omega, Nat.le_refl _, HI3⟩
end
end Go.Proofs.YtblfffbmklkhmaaGreat
