/- Own work. -/
import Derived.Test.YtblfffbmklkhmaaGreatAw44
namespace Go.Proofs.YtblfffbmklkhmaaGreat
open Go.RowKit
def compOne (len : Nat) (L : Nat → Int) (by' at' : Nat) : ByteArray × Nat :=
  if (nx len L 4 at').1 = 0 then (⟨#[42]⟩, (nx len L 4 at').2) else if (nx len L 4 at').1 = 3 then partF len L by' (nx len L 4 at').2 else letterF len L by' (nx len L 4 at').2
def compStep (len : Nat) (L : Nat → Int) (by' : Nat) (p : ByteArray × Nat) : ByteArray × Nat :=
  if (nx len L 4 p.2).1 = 0 then
    (if (nx len L 3 (nx len L 4 p.2).2).1 = 0 then (p.1 ++ ⟨#[33]⟩ ++ (letterF len L by' (nx len L 3 (nx len L 4 p.2).2).2).1, (letterF len L by' (nx len L 3 (nx len L 4 p.2).2).2).2)
    else (p.1 ++ ⟨#[33]⟩ ++ (partF len L by' (nx len L 3 (nx len L 4 p.2).2).2).1, (partF len L by' (nx len L 3 (nx len L 4 p.2).2).2).2))
  else (p.1 ++ (partF len L by' (nx len L 4 p.2).2).1, (partF len L by' (nx len L 4 p.2).2).2)
def compLoop (len : Nat) (L : Nat → Int) (by' : Nat) : Nat → ByteArray × Nat → ByteArray × Nat
  | 0, p => p
  | k + 1, p => compLoop len L by' k (compStep len L by' p)
def wCompF (len : Nat) (L : Nat → Int) (by' at' : Nat) : ByteArray × Nat :=
  compLoop len L by' (nx len L 3 (compOne len L by' at').2).1 ((compOne len L by' at').1, (nx len L 3 (compOne len L by' at').2).2)
section
variable {len : Nat} {L : Nat → Int} {by' : Nat}
theorem compOne_ok (at' : Nat) : (compOne len L by' at').1.size ≤ 4 ∧ (compOne len L by' at').2 ≤ at' + 4 := by
  have h1 := nx_at (len := len) (L := L) (n := 4) (at' := at')
  have h2 := letterF_at len L by' (nx len L 4 at').2
  have h3 := partF_at len L by' (nx len L 4 at').2
  have h4 := letterF_size len L by' (nx len L 4 at').2
  have h5 := partF_size len L by' (nx len L 4 at').2
  unfold compOne
  (repeat' split)
  · exact ⟨by show (⟨#[42]⟩ : ByteArray).size ≤ 4; decide, by show (nx len L 4 at').2 ≤ _; omega⟩
  · exact ⟨h5, by omega⟩
  · exact ⟨by omega, by omega⟩
theorem compStep_ok (p : ByteArray × Nat) : (compStep len L by' p).1.size ≤ p.1.size + 5 ∧ (compStep len L by' p).2 ≤ p.2 + 5 := by
  have h1 := nx_at (len := len) (L := L) (n := 4) (at' := p.2)
  have h1' := nx_at (len := len) (L := L) (n := 3) (at' := (nx len L 4 p.2).2)
  have h2 := letterF_at len L by' (nx len L 3 (nx len L 4 p.2).2).2
  have h3 := partF_at len L by' (nx len L 3 (nx len L 4 p.2).2).2
  have h3' := partF_at len L by' (nx len L 4 p.2).2
  have h4 := letterF_size len L by' (nx len L 3 (nx len L 4 p.2).2).2
  have h5 := partF_size len L by' (nx len L 3 (nx len L 4 p.2).2).2
  have h5' := partF_size len L by' (nx len L 4 p.2).2
  have h6 : (⟨#[33]⟩ : ByteArray).size = 1 := rfl
  unfold compStep
  (repeat' split)
  · refine ⟨?_, ?_⟩
    · show (p.1 ++ ⟨#[33]⟩ ++ _ : ByteArray).size ≤ _
      rw [ByteArray.size_append, ByteArray.size_append]
      omega
    · show (letterF len L by' _).2 ≤ _
      omega
  · refine ⟨?_, ?_⟩
    · show (p.1 ++ ⟨#[33]⟩ ++ _ : ByteArray).size ≤ _
      rw [ByteArray.size_append, ByteArray.size_append]
      omega
    · show (partF len L by' _).2 ≤ _
      omega
  · refine ⟨?_, ?_⟩
    · show (p.1 ++ _ : ByteArray).size ≤ _
      rw [ByteArray.size_append]
      omega
    · show (partF len L by' _).2 ≤ _
      omega
theorem compLoop_ok : ∀ (k : Nat) (p : ByteArray × Nat), (compLoop len L by' k p).1.size ≤ p.1.size + 5 * k ∧ (compLoop len L by' k p).2 ≤ p.2 + 5 * k
  | 0, p => ⟨Nat.le_refl _, Nat.le_refl _⟩
  | k + 1, p => by
    have h1 := compLoop_ok k (compStep len L by' p)
    have h2 := compStep_ok (len := len) (L := L) (by' := by') p
    show (compLoop len L by' k (compStep len L by' p)).1.size ≤ _ ∧ (compLoop len L by' k (compStep len L by' p)).2 ≤ _
    omega
theorem wCompF_ok (at' : Nat) : (wCompF len L by' at').1.size ≤ 14 ∧ (wCompF len L by' at').2 ≤ at' + 15 := by
  have h1 := compOne_ok (len := len) (L := L) (by' := by') at'
  have h2 := nx_at (len := len) (L := L) (n := 3) (at' := (compOne len L by' at').2)
  have h3 := nx_lt (len := len) (L := L) (n := 3) (at' := (compOne len L by' at').2) (by decide)
  have h4 := compLoop_ok (len := len) (L := L) (by' := by') (nx len L 3 (compOne len L by' at').2).1 ((compOne len L by' at').1, (nx len L 3 (compOne len L by' at').2).2)
  simp only at h4
  unfold wCompF
  omega
end
section
set_option maxRecDepth 100000
set_option maxHeartbeats 4000000
variable (w : World) (q : Nat) (a : Option Addr) (len cap : Nat) (L : Nat → Int) (at' by' : Nat) (mild : Bool)
theorem wcomp_any (h : Wr w q a len cap L at' by' mild) (hat : at' ≤ 800000000) (hby : by' ≤ 25) : Calls Tryz.prog 125 #[.pointer (some ⟨q, 0, none⟩)] w fun e w' => WStr w q a len cap L by' mild (wCompF len L by' at') e w' := by
  have HW : Hid (Wr w q a len cap L at' by' mild) := h
  have h4 := nx_lt (len := len) (L := L) (n := 4) (at' := at') (by decide)
  have ha4 := nx_at (len := len) (L := L) (n := 4) (at' := at')
  have HP : Hid (∀ r, nx len L 4 at' = r → compOne len L by' at' = if r.1 = 0 then (⟨#[42]⟩, r.2) else if r.1 = 3 then partF len L by' r.2 else letterF len L by' r.2) := fun r hr => by subst hr; rfl
  clear h
  go_enter Tryz.func125, Tryz.ntmps125
  go_wp2_with fail
  refine (wnext_any w q a len cap L at' by' mild 4 HW.out (by decide) (by decide) (by omega)).mono ?_
  rintro e w1 ⟨rfl, hw1, hf1⟩
  have HR := HP.out _ rfl
  generalize nx len L 4 at' = r at h4 ha4 hw1 HR ⊢
  obtain ⟨k, at1⟩ := r
  simp only at h4 ha4 hw1 HR
  have HW1 : Hid (Wr w1 q a len cap L at1 by' mild ∧ Fr w w1 (fun k => k = q)) := ⟨hw1, hf1⟩
  have HRH : Hid (compOne len L by' at' = if k = 0 then (⟨#[42]⟩, at1) else if k = 3 then partF len L by' at1 else letterF len L by' at1) := HR
  have HOK : Hid ((compOne len L by' at').1.size ≤ 4 ∧ (compOne len L by' at').2 ≤ at' + 4) := compOne_ok at'
  have HCF : Hid (∀ p, p = compOne len L by' at' → wCompF len L by' at' = compLoop len L by' (nx len L 3 p.2).1 (p.1, (nx len L 3 p.2).2)) := fun p hp => by subst hp; rfl
  clear HR HP hw1 hf1
  generalize compOne len L by' at' = co at HRH HOK HCF
  have hkc : k = 0 ∨ k = 1 ∨ k = 2 ∨ k = 3 := by omega
  have HOK2 : co.1.size ≤ 4 ∧ co.2 ≤ at' + 4 := HOK.out
  obtain ⟨cos, co2⟩ := co
  simp only at HOK2
  rcases hkc with rfl | rfl | rfl | rfl
  · have HV := HRH.out
    rw [if_pos rfl] at HV
    injection HV with HV1 HV2
    subst HV1 HV2
    obtain ⟨wX, hwX⟩ : ∃ wX, wX = w1 := ⟨_, rfl⟩
    subst hwX
    have HWc : Hid (Wr wX q a len cap L co2 by' mild ∧ Fr w wX (fun k => k = q)) := HW1.out
    clear HRH HOK HW1
    go_wp2_with fail
    have HNC : Hid (Calls Tryz.prog 44 #[.pointer (some ⟨q, 0, none⟩), .int .i64 3] wX fun e w' => WNext wX q a len cap L by' mild (nx len L 3 co2) e w') := wnext_any wX q a len cap L co2 by' mild 3 HWc.out.1 (by decide) (by decide) (by omega)
    have n3 := nx_lt (len := len) (L := L) (n := 3) (at' := co2) (by decide)
    have n3a := nx_at (len := len) (L := L) (n := 3) (at' := co2)
    have HFI : Hid (∀ r, nx len L 3 co2 = r → wCompF len L by' at' = compLoop len L by' r.1 ((⟨#[42]⟩ : ByteArray), r.2)) := fun r hr => by subst hr; exact HCF.out _ rfl
    have HFJ := HFI.out _ rfl
    generalize nx len L 3 co2 = r3 at HNC n3 n3a HFJ
    obtain ⟨kk, at3⟩ := r3
    simp only at n3 n3a HFJ
    have HFK : Hid (wCompF len L by' at' = compLoop len L by' kk ((⟨#[42]⟩ : ByteArray), at3)) := HFJ
    clear HFI HFJ
    refine HNC.out.mono ?_
    rintro e wY ⟨rfl, hwY, hfY⟩
    have HL0 : Hid (∃ p : ByteArray × Nat, wCompF len L by' at' = compLoop len L by' kk p ∧ p.1 = (⟨#[42]⟩ : ByteArray) ∧ p.1.size + 5 * kk ≤ 14 ∧ p.2 + 5 * kk ≤ 900000000 ∧ Wr wY q a len cap L p.2 by' mild ∧ Fr w wY (fun k => k = q)) := ⟨((⟨#[42]⟩ : ByteArray), at3), HFK.out, rfl, by show (⟨#[42]⟩ : ByteArray).size + 5 * kk ≤ 14; omega, by show at3 + 5 * kk ≤ _; omega, hwY, HWc.out.2.q hfY⟩
    clear hwY hfY HFK HNC HWc
    go_wp2_with fail
    go_loopg [3, 4] kk (fun gk sv kv wr => ∃ (m : Nat) (s : ByteArray), sv = .string s ∧ kv = .int .i64 m ∧ m ≤ 2 ∧ m ≤ gk ∧ Hid (∃ p : ByteArray × Nat, wCompF len L by' at' = compLoop len L by' m p ∧ p.1 = s ∧ p.1.size + 5 * m ≤ 14 ∧ p.2 + 5 * m ≤ 900000000 ∧ Wr wr q a len cap L p.2 by' mild ∧ Fr w wr (fun k => k = q)))
    case atStart => exact ⟨kk, (⟨#[42]⟩ : ByteArray), rfl, rfl, by omega, Nat.le_refl _, HL0⟩
    case round =>
      obtain ⟨m, s, rfl, rfl, hm2, hgk, HI⟩ := hrel
      obtain ⟨p, hp1, hp2, hp3, hp4, hp5, hp6⟩ := HI.out
      obtain ⟨ps, pat⟩ := p
      simp only at hp2 hp3 hp4 hp5
      subst hp2
      have HIW : Hid (wCompF len L by' at' = compLoop len L by' m (ps, pat) ∧ Wr wr q a len cap L pat by' mild ∧ Fr w wr (fun k => k = q)) := ⟨hp1, hp5, hp6⟩
      clear HI hp1 hp5 hp6
      cases m with
      | zero =>
        have HE : Hid (WStr w q a len cap L by' mild (wCompF len L by' at') (.returned (.string ps)) wr) := by rw [HIW.out.1]; exact ⟨rfl, HIW.out.2⟩
        go_wp2
        go_ret
        exact HE.out
      | succ m =>
        have hd : decide ((0 : Int) < (m : Int) + 1) = true := by rw [decide_eq_true_eq]; omega
        have HST : Hid (∀ r, nx len L 4 pat = r → compStep len L by' (ps, pat) = if r.1 = 0 then (if (nx len L 3 r.2).1 = 0 then (ps ++ ⟨#[33]⟩ ++ (letterF len L by' (nx len L 3 r.2).2).1, (letterF len L by' (nx len L 3 r.2).2).2) else (ps ++ ⟨#[33]⟩ ++ (partF len L by' (nx len L 3 r.2).2).1, (partF len L by' (nx len L 3 r.2).2).2)) else (ps ++ (partF len L by' r.2).1, (partF len L by' r.2).2)) := fun r hr => by subst hr; rfl
        have HSO := compStep_ok (len := len) (L := L) (by' := by') (ps, pat)
        simp only at HSO
        have HNX : Hid (∀ wZ c, compStep len L by' (ps, pat) = c → Wr wZ q a len cap L c.2 by' mild → Fr wr wZ (fun k => k = q) → ∃ p : ByteArray × Nat, wCompF len L by' at' = compLoop len L by' m p ∧ p.1 = c.1 ∧ p.1.size + 5 * m ≤ 14 ∧ p.2 + 5 * m ≤ 900000000 ∧ Wr wZ q a len cap L p.2 by' mild ∧ Fr w wZ (fun k => k = q)) := fun wZ c hc h1 h2 => by
          subst hc
          exact ⟨compStep len L by' (ps, pat), HIW.out.1, rfl, by omega, by omega, h1, HIW.out.2.2.q h2⟩
        have HN4 : Hid (Calls Tryz.prog 44 #[.pointer (some ⟨q, 0, none⟩), .int .i64 4] wr fun e w' => WNext wr q a len cap L by' mild (nx len L 4 pat) e w') := wnext_any wr q a len cap L pat by' mild 4 HIW.out.2.1 (by decide) (by decide) (by omega)
        have m4 := nx_at (len := len) (L := L) (n := 4) (at' := pat)
        have HS4 := HST.out _ rfl
        clear HST HSO
        generalize nx len L 4 pat = r4 at HN4 m4 HS4
        obtain ⟨nt, atn⟩ := r4
        simp only at m4 HS4
        have HS5 : Hid (compStep len L by' (ps, pat) = if nt = 0 then (if (nx len L 3 atn).1 = 0 then (ps ++ ⟨#[33]⟩ ++ (letterF len L by' (nx len L 3 atn).2).1, (letterF len L by' (nx len L 3 atn).2).2) else (ps ++ ⟨#[33]⟩ ++ (partF len L by' (nx len L 3 atn).2).1, (partF len L by' (nx len L 3 atn).2).2)) else (ps ++ (partF len L by' atn).1, (partF len L by' atn).2)) := HS4
        clear HS4
        go_wp2_with fail
        refine HN4.out.mono ?_
        rintro e wA ⟨rfl, hwA, hfA⟩
        have HWA : Hid (Wr wA q a len cap L atn by' mild ∧ Fr wr wA (fun k => k = q)) := ⟨hwA, hfA⟩
        clear hwA hfA HN4
        by_cases hn0 : nt = 0
        · subst hn0
          have HS6 : Hid (∀ r, nx len L 3 atn = r → compStep len L by' (ps, pat) = if r.1 = 0 then (ps ++ ⟨#[33]⟩ ++ (letterF len L by' r.2).1, (letterF len L by' r.2).2) else (ps ++ ⟨#[33]⟩ ++ (partF len L by' r.2).1, (partF len L by' r.2).2)) := fun r hr => by subst hr; rw [HS5.out, if_pos rfl]
          have HN3 : Hid (Calls Tryz.prog 44 #[.pointer (some ⟨q, 0, none⟩), .int .i64 3] wA fun e w' => WNext wA q a len cap L by' mild (nx len L 3 atn) e w') := wnext_any wA q a len cap L atn by' mild 3 HWA.out.1 (by decide) (by decide) (by omega)
          have m3 := nx_at (len := len) (L := L) (n := 3) (at' := atn)
          have HS7 := HS6.out _ rfl
          clear HS6 HS5
          generalize nx len L 3 atn = r3 at HN3 m3 HS7
          obtain ⟨kd, atk⟩ := r3
          simp only at m3 HS7
          have HS8 : Hid (compStep len L by' (ps, pat) = if kd = 0 then (ps ++ ⟨#[33]⟩ ++ (letterF len L by' atk).1, (letterF len L by' atk).2) else (ps ++ ⟨#[33]⟩ ++ (partF len L by' atk).1, (partF len L by' atk).2)) := HS7
          clear HS7
          have z1 : (ps ++ (⟨#[33]⟩ : ByteArray)).size = ps.size + 1 := ByteArray.size_append
          go_wp2_with fail
          refine HN3.out.mono ?_
          rintro e wB ⟨rfl, hwB, hfB⟩
          have HWB : Hid (Wr wB q a len cap L atk by' mild ∧ Fr wr wB (fun k => k = q)) := ⟨hwB, HWA.out.2.q hfB⟩
          clear hwB hfB HN3 HWA
          generalize ps ++ (⟨#[33]⟩ : ByteArray) = pe at z1 HS8 ⊢
          by_cases hk0 : kd = 0
          · have HS9 : Hid (compStep len L by' (ps, pat) = (pe ++ (letterF len L by' atk).1, (letterF len L by' atk).2)) := by unfold Hid; rw [HS8.out, if_pos hk0]
            subst hk0
            have HCL : Hid (Calls Tryz.prog 160 #[.pointer (some ⟨q, 0, none⟩)] wB fun e w' => WStr wB q a len cap L by' mild (letterF len L by' atk) e w') := wletter_any wB q a len cap L atk by' mild HWB.out.1 (by omega) hby
            have zl := letterF_size len L by' atk
            generalize letterF len L by' atk = lf at HS9 HCL zl
            obtain ⟨ls, atl⟩ := lf
            simp only at zl HS9
            have z2 : (pe ++ ls).size = ps.size + 2 := by rw [ByteArray.size_append, z1, zl]
            go_wp2_with fail
            refine HCL.out.mono ?_
            rintro e wC ⟨rfl, hwC, hfC⟩
            have HI2 := HNX.out wC _ HS9.out hwC (HWB.out.2.q hfC)
            simp only at HI2
            have HI3 : Hid (∃ p : ByteArray × Nat, wCompF len L by' at' = compLoop len L by' m p ∧ p.1 = pe ++ ls ∧ p.1.size + 5 * m ≤ 14 ∧ p.2 + 5 * m ≤ 900000000 ∧ Wr wC q a len cap L p.2 by' mild ∧ Fr w wC (fun k => k = q)) := HI2
            clear hwC hfC HI2 HNX HWB HS9 HS8 HIW HCL
            go_wp2
            go_roundg m
            case measure => omega
            case rel => exact ⟨m, _, rfl, by go_num, by omega, Nat.le_refl _, HI3⟩
          · have HS9 : Hid (compStep len L by' (ps, pat) = (pe ++ (partF len L by' atk).1, (partF len L by' atk).2)) := by unfold Hid; rw [HS8.out, if_neg hk0]
            have gk0 : ((kd : Int) == 0) = false := by rw [beq_eq_false_iff_ne]; omega
            have HCL : Hid (Calls Tryz.prog 161 #[.pointer (some ⟨q, 0, none⟩)] wB fun e w' => WStr wB q a len cap L by' mild (partF len L by' atk) e w') := wpart_any wB q a len cap L atk by' mild HWB.out.1 (by omega) hby
            have zl := partF_size len L by' atk
            generalize partF len L by' atk = lf at HS9 HCL zl
            obtain ⟨ls, atl⟩ := lf
            simp only at zl HS9
            have z2 : (pe ++ ls).size ≤ ps.size + 5 := by rw [ByteArray.size_append, z1]; omega
            clear hk0
            go_wp2_with fail
            refine HCL.out.mono ?_
            rintro e wC ⟨rfl, hwC, hfC⟩
            have HI2 := HNX.out wC _ HS9.out hwC (HWB.out.2.q hfC)
            simp only at HI2
            have HI3 : Hid (∃ p : ByteArray × Nat, wCompF len L by' at' = compLoop len L by' m p ∧ p.1 = pe ++ ls ∧ p.1.size + 5 * m ≤ 14 ∧ p.2 + 5 * m ≤ 900000000 ∧ Wr wC q a len cap L p.2 by' mild ∧ Fr w wC (fun k => k = q)) := HI2
            clear hwC hfC HI2 HNX HWB HS9 HS8 HIW HCL
            go_wp2
            go_roundg m
            case measure => omega
            case rel => exact ⟨m, _, rfl, by go_num, by omega, Nat.le_refl _, HI3⟩
        · have HS9 : Hid (compStep len L by' (ps, pat) = (ps ++ (partF len L by' atn).1, (partF len L by' atn).2)) := by unfold Hid; rw [HS5.out, if_neg hn0]
          have gn0 : ((nt : Int) == 0) = false := by rw [beq_eq_false_iff_ne]; omega
          have HCL : Hid (Calls Tryz.prog 161 #[.pointer (some ⟨q, 0, none⟩)] wA fun e w' => WStr wA q a len cap L by' mild (partF len L by' atn) e w') := wpart_any wA q a len cap L atn by' mild HWA.out.1 (by omega) hby
          have zl := partF_size len L by' atn
          generalize partF len L by' atn = lf at HS9 HCL zl
          obtain ⟨ls, atl⟩ := lf
          simp only at zl HS9
          have z2 : (ps ++ ls).size ≤ ps.size + 4 := by rw [ByteArray.size_append]; omega
          clear hn0
          go_wp2_with fail
          refine HCL.out.mono ?_
          rintro e wC ⟨rfl, hwC, hfC⟩
          have HI2 := HNX.out wC _ HS9.out hwC (HWA.out.2.q hfC)
          simp only at HI2
          have HI3 : Hid (∃ p : ByteArray × Nat, wCompF len L by' at' = compLoop len L by' m p ∧ p.1 = ps ++ ls ∧ p.1.size + 5 * m ≤ 14 ∧ p.2 + 5 * m ≤ 900000000 ∧ Wr wC q a len cap L p.2 by' mild ∧ Fr w wC (fun k => k = q)) := HI2
          clear hwC hfC HI2 HNX HWA HS9 HS5 HIW HCL
          go_wp2
          go_roundg m
          case measure => omega
          case rel => exact ⟨m, _, rfl, by go_num, by omega, Nat.le_refl _, HI3⟩
  · have HV := HRH.out
    rw [if_neg (by decide), if_neg (by decide)] at HV
    have HLC : Hid (Calls Tryz.prog 160 #[.pointer (some ⟨q, 0, none⟩)] w1 fun e w' => WStr w1 q a len cap L by' mild (cos, co2) e w') := by unfold Hid; rw [HV]; exact wletter_any w1 q a len cap L at1 by' mild HW1.out.1 (by omega) hby
    clear HV HRH HOK
    go_wp2_with fail
    refine HLC.out.mono ?_
    rintro e wX ⟨rfl, hwX, hfX⟩
    have HWc : Hid (Wr wX q a len cap L co2 by' mild ∧ Fr w wX (fun k => k = q)) := ⟨hwX, HW1.out.2.q hfX⟩
    clear hwX hfX HLC HW1
    go_wp2_with fail
    have HNC : Hid (Calls Tryz.prog 44 #[.pointer (some ⟨q, 0, none⟩), .int .i64 3] wX fun e w' => WNext wX q a len cap L by' mild (nx len L 3 co2) e w') := wnext_any wX q a len cap L co2 by' mild 3 HWc.out.1 (by decide) (by decide) (by omega)
    have n3 := nx_lt (len := len) (L := L) (n := 3) (at' := co2) (by decide)
    have n3a := nx_at (len := len) (L := L) (n := 3) (at' := co2)
    have HFI : Hid (∀ r, nx len L 3 co2 = r → wCompF len L by' at' = compLoop len L by' r.1 (cos, r.2)) := fun r hr => by subst hr; exact HCF.out _ rfl
    have HFJ := HFI.out _ rfl
    generalize nx len L 3 co2 = r3 at HNC n3 n3a HFJ
    obtain ⟨kk, at3⟩ := r3
    simp only at n3 n3a HFJ
    have HFK : Hid (wCompF len L by' at' = compLoop len L by' kk (cos, at3)) := HFJ
    clear HFI HFJ
    refine HNC.out.mono ?_
    rintro e wY ⟨rfl, hwY, hfY⟩
    have HL0 : Hid (∃ p : ByteArray × Nat, wCompF len L by' at' = compLoop len L by' kk p ∧ p.1 = cos ∧ p.1.size + 5 * kk ≤ 14 ∧ p.2 + 5 * kk ≤ 900000000 ∧ Wr wY q a len cap L p.2 by' mild ∧ Fr w wY (fun k => k = q)) := ⟨(cos, at3), HFK.out, rfl, by show cos.size + 5 * kk ≤ 14; omega, by show at3 + 5 * kk ≤ _; omega, hwY, HWc.out.2.q hfY⟩
    clear hwY hfY HFK HNC HWc
    go_wp2_with fail
    go_loopg [3, 4] kk (fun gk sv kv wr => ∃ (m : Nat) (s : ByteArray), sv = .string s ∧ kv = .int .i64 m ∧ m ≤ 2 ∧ m ≤ gk ∧ Hid (∃ p : ByteArray × Nat, wCompF len L by' at' = compLoop len L by' m p ∧ p.1 = s ∧ p.1.size + 5 * m ≤ 14 ∧ p.2 + 5 * m ≤ 900000000 ∧ Wr wr q a len cap L p.2 by' mild ∧ Fr w wr (fun k => k = q)))
    case atStart => exact ⟨kk, cos, rfl, rfl, by omega, Nat.le_refl _, HL0⟩
    case round =>
      obtain ⟨m, s, rfl, rfl, hm2, hgk, HI⟩ := hrel
      obtain ⟨p, hp1, hp2, hp3, hp4, hp5, hp6⟩ := HI.out
      obtain ⟨ps, pat⟩ := p
      simp only at hp2 hp3 hp4 hp5
      subst hp2
      have HIW : Hid (wCompF len L by' at' = compLoop len L by' m (ps, pat) ∧ Wr wr q a len cap L pat by' mild ∧ Fr w wr (fun k => k = q)) := ⟨hp1, hp5, hp6⟩
      clear HI hp1 hp5 hp6
      cases m with
      | zero =>
        have HE : Hid (WStr w q a len cap L by' mild (wCompF len L by' at') (.returned (.string ps)) wr) := by rw [HIW.out.1]; exact ⟨rfl, HIW.out.2⟩
        go_wp2
        go_ret
        exact HE.out
      | succ m =>
        have hd : decide ((0 : Int) < (m : Int) + 1) = true := by rw [decide_eq_true_eq]; omega
        have HST : Hid (∀ r, nx len L 4 pat = r → compStep len L by' (ps, pat) = if r.1 = 0 then (if (nx len L 3 r.2).1 = 0 then (ps ++ ⟨#[33]⟩ ++ (letterF len L by' (nx len L 3 r.2).2).1, (letterF len L by' (nx len L 3 r.2).2).2) else (ps ++ ⟨#[33]⟩ ++ (partF len L by' (nx len L 3 r.2).2).1, (partF len L by' (nx len L 3 r.2).2).2)) else (ps ++ (partF len L by' r.2).1, (partF len L by' r.2).2)) := fun r hr => by subst hr; rfl
        have HSO := compStep_ok (len := len) (L := L) (by' := by') (ps, pat)
        simp only at HSO
        have HNX : Hid (∀ wZ c, compStep len L by' (ps, pat) = c → Wr wZ q a len cap L c.2 by' mild → Fr wr wZ (fun k => k = q) → ∃ p : ByteArray × Nat, wCompF len L by' at' = compLoop len L by' m p ∧ p.1 = c.1 ∧ p.1.size + 5 * m ≤ 14 ∧ p.2 + 5 * m ≤ 900000000 ∧ Wr wZ q a len cap L p.2 by' mild ∧ Fr w wZ (fun k => k = q)) := fun wZ c hc h1 h2 => by
          subst hc
          exact ⟨compStep len L by' (ps, pat), HIW.out.1, rfl, by omega, by omega, h1, HIW.out.2.2.q h2⟩
        have HN4 : Hid (Calls Tryz.prog 44 #[.pointer (some ⟨q, 0, none⟩), .int .i64 4] wr fun e w' => WNext wr q a len cap L by' mild (nx len L 4 pat) e w') := wnext_any wr q a len cap L pat by' mild 4 HIW.out.2.1 (by decide) (by decide) (by omega)
        have m4 := nx_at (len := len) (L := L) (n := 4) (at' := pat)
        have HS4 := HST.out _ rfl
        clear HST HSO
        generalize nx len L 4 pat = r4 at HN4 m4 HS4
        obtain ⟨nt, atn⟩ := r4
        simp only at m4 HS4
        have HS5 : Hid (compStep len L by' (ps, pat) = if nt = 0 then (if (nx len L 3 atn).1 = 0 then (ps ++ ⟨#[33]⟩ ++ (letterF len L by' (nx len L 3 atn).2).1, (letterF len L by' (nx len L 3 atn).2).2) else (ps ++ ⟨#[33]⟩ ++ (partF len L by' (nx len L 3 atn).2).1, (partF len L by' (nx len L 3 atn).2).2)) else (ps ++ (partF len L by' atn).1, (partF len L by' atn).2)) := HS4
        clear HS4
        go_wp2_with fail
        refine HN4.out.mono ?_
        rintro e wA ⟨rfl, hwA, hfA⟩
        have HWA : Hid (Wr wA q a len cap L atn by' mild ∧ Fr wr wA (fun k => k = q)) := ⟨hwA, hfA⟩
        clear hwA hfA HN4
        by_cases hn0 : nt = 0
        · subst hn0
          have HS6 : Hid (∀ r, nx len L 3 atn = r → compStep len L by' (ps, pat) = if r.1 = 0 then (ps ++ ⟨#[33]⟩ ++ (letterF len L by' r.2).1, (letterF len L by' r.2).2) else (ps ++ ⟨#[33]⟩ ++ (partF len L by' r.2).1, (partF len L by' r.2).2)) := fun r hr => by subst hr; rw [HS5.out, if_pos rfl]
          have HN3 : Hid (Calls Tryz.prog 44 #[.pointer (some ⟨q, 0, none⟩), .int .i64 3] wA fun e w' => WNext wA q a len cap L by' mild (nx len L 3 atn) e w') := wnext_any wA q a len cap L atn by' mild 3 HWA.out.1 (by decide) (by decide) (by omega)
          have m3 := nx_at (len := len) (L := L) (n := 3) (at' := atn)
          have HS7 := HS6.out _ rfl
          clear HS6 HS5
          generalize nx len L 3 atn = r3 at HN3 m3 HS7
          obtain ⟨kd, atk⟩ := r3
          simp only at m3 HS7
          have HS8 : Hid (compStep len L by' (ps, pat) = if kd = 0 then (ps ++ ⟨#[33]⟩ ++ (letterF len L by' atk).1, (letterF len L by' atk).2) else (ps ++ ⟨#[33]⟩ ++ (partF len L by' atk).1, (partF len L by' atk).2)) := HS7
          clear HS7
          have z1 : (ps ++ (⟨#[33]⟩ : ByteArray)).size = ps.size + 1 := ByteArray.size_append
          go_wp2_with fail
          refine HN3.out.mono ?_
          rintro e wB ⟨rfl, hwB, hfB⟩
          have HWB : Hid (Wr wB q a len cap L atk by' mild ∧ Fr wr wB (fun k => k = q)) := ⟨hwB, HWA.out.2.q hfB⟩
          clear hwB hfB HN3 HWA
          generalize ps ++ (⟨#[33]⟩ : ByteArray) = pe at z1 HS8 ⊢
          by_cases hk0 : kd = 0
          · have HS9 : Hid (compStep len L by' (ps, pat) = (pe ++ (letterF len L by' atk).1, (letterF len L by' atk).2)) := by unfold Hid; rw [HS8.out, if_pos hk0]
            subst hk0
            have HCL : Hid (Calls Tryz.prog 160 #[.pointer (some ⟨q, 0, none⟩)] wB fun e w' => WStr wB q a len cap L by' mild (letterF len L by' atk) e w') := wletter_any wB q a len cap L atk by' mild HWB.out.1 (by omega) hby
            have zl := letterF_size len L by' atk
            generalize letterF len L by' atk = lf at HS9 HCL zl
            obtain ⟨ls, atl⟩ := lf
            simp only at zl HS9
            have z2 : (pe ++ ls).size = ps.size + 2 := by rw [ByteArray.size_append, z1, zl]
            go_wp2_with fail
            refine HCL.out.mono ?_
            rintro e wC ⟨rfl, hwC, hfC⟩
            have HI2 := HNX.out wC _ HS9.out hwC (HWB.out.2.q hfC)
            simp only at HI2
            have HI3 : Hid (∃ p : ByteArray × Nat, wCompF len L by' at' = compLoop len L by' m p ∧ p.1 = pe ++ ls ∧ p.1.size + 5 * m ≤ 14 ∧ p.2 + 5 * m ≤ 900000000 ∧ Wr wC q a len cap L p.2 by' mild ∧ Fr w wC (fun k => k = q)) := HI2
            clear hwC hfC HI2 HNX HWB HS9 HS8 HIW HCL
            go_wp2
            go_roundg m
            case measure => omega
            case rel => exact ⟨m, _, rfl, by go_num, by omega, Nat.le_refl _, HI3⟩
          · have HS9 : Hid (compStep len L by' (ps, pat) = (pe ++ (partF len L by' atk).1, (partF len L by' atk).2)) := by unfold Hid; rw [HS8.out, if_neg hk0]
            have gk0 : ((kd : Int) == 0) = false := by rw [beq_eq_false_iff_ne]; omega
            have HCL : Hid (Calls Tryz.prog 161 #[.pointer (some ⟨q, 0, none⟩)] wB fun e w' => WStr wB q a len cap L by' mild (partF len L by' atk) e w') := wpart_any wB q a len cap L atk by' mild HWB.out.1 (by omega) hby
            have zl := partF_size len L by' atk
            generalize partF len L by' atk = lf at HS9 HCL zl
            obtain ⟨ls, atl⟩ := lf
            simp only at zl HS9
            have z2 : (pe ++ ls).size ≤ ps.size + 5 := by rw [ByteArray.size_append, z1]; omega
            clear hk0
            go_wp2_with fail
            refine HCL.out.mono ?_
            rintro e wC ⟨rfl, hwC, hfC⟩
            have HI2 := HNX.out wC _ HS9.out hwC (HWB.out.2.q hfC)
            simp only at HI2
            have HI3 : Hid (∃ p : ByteArray × Nat, wCompF len L by' at' = compLoop len L by' m p ∧ p.1 = pe ++ ls ∧ p.1.size + 5 * m ≤ 14 ∧ p.2 + 5 * m ≤ 900000000 ∧ Wr wC q a len cap L p.2 by' mild ∧ Fr w wC (fun k => k = q)) := HI2
            clear hwC hfC HI2 HNX HWB HS9 HS8 HIW HCL
            go_wp2
            go_roundg m
            case measure => omega
            case rel => exact ⟨m, _, rfl, by go_num, by omega, Nat.le_refl _, HI3⟩
        · have HS9 : Hid (compStep len L by' (ps, pat) = (ps ++ (partF len L by' atn).1, (partF len L by' atn).2)) := by unfold Hid; rw [HS5.out, if_neg hn0]
          have gn0 : ((nt : Int) == 0) = false := by rw [beq_eq_false_iff_ne]; omega
          have HCL : Hid (Calls Tryz.prog 161 #[.pointer (some ⟨q, 0, none⟩)] wA fun e w' => WStr wA q a len cap L by' mild (partF len L by' atn) e w') := wpart_any wA q a len cap L atn by' mild HWA.out.1 (by omega) hby
          have zl := partF_size len L by' atn
          generalize partF len L by' atn = lf at HS9 HCL zl
          obtain ⟨ls, atl⟩ := lf
          simp only at zl HS9
          have z2 : (ps ++ ls).size ≤ ps.size + 4 := by rw [ByteArray.size_append]; omega
          clear hn0
          go_wp2_with fail
          refine HCL.out.mono ?_
          rintro e wC ⟨rfl, hwC, hfC⟩
          have HI2 := HNX.out wC _ HS9.out hwC (HWA.out.2.q hfC)
          simp only at HI2
          have HI3 : Hid (∃ p : ByteArray × Nat, wCompF len L by' at' = compLoop len L by' m p ∧ p.1 = ps ++ ls ∧ p.1.size + 5 * m ≤ 14 ∧ p.2 + 5 * m ≤ 900000000 ∧ Wr wC q a len cap L p.2 by' mild ∧ Fr w wC (fun k => k = q)) := HI2
          clear hwC hfC HI2 HNX HWA HS9 HS5 HIW HCL
          go_wp2
          go_roundg m
          case measure => omega
          case rel => exact ⟨m, _, rfl, by go_num, by omega, Nat.le_refl _, HI3⟩
  · have HV := HRH.out
    rw [if_neg (by decide), if_neg (by decide)] at HV
    have HLC : Hid (Calls Tryz.prog 160 #[.pointer (some ⟨q, 0, none⟩)] w1 fun e w' => WStr w1 q a len cap L by' mild (cos, co2) e w') := by unfold Hid; rw [HV]; exact wletter_any w1 q a len cap L at1 by' mild HW1.out.1 (by omega) hby
    clear HV HRH HOK
    go_wp2_with fail
    refine HLC.out.mono ?_
    rintro e wX ⟨rfl, hwX, hfX⟩
    have HWc : Hid (Wr wX q a len cap L co2 by' mild ∧ Fr w wX (fun k => k = q)) := ⟨hwX, HW1.out.2.q hfX⟩
    clear hwX hfX HLC HW1
    go_wp2_with fail
    have HNC : Hid (Calls Tryz.prog 44 #[.pointer (some ⟨q, 0, none⟩), .int .i64 3] wX fun e w' => WNext wX q a len cap L by' mild (nx len L 3 co2) e w') := wnext_any wX q a len cap L co2 by' mild 3 HWc.out.1 (by decide) (by decide) (by omega)
    have n3 := nx_lt (len := len) (L := L) (n := 3) (at' := co2) (by decide)
    have n3a := nx_at (len := len) (L := L) (n := 3) (at' := co2)
    have HFI : Hid (∀ r, nx len L 3 co2 = r → wCompF len L by' at' = compLoop len L by' r.1 (cos, r.2)) := fun r hr => by subst hr; exact HCF.out _ rfl
    have HFJ := HFI.out _ rfl
    generalize nx len L 3 co2 = r3 at HNC n3 n3a HFJ
    obtain ⟨kk, at3⟩ := r3
    simp only at n3 n3a HFJ
    have HFK : Hid (wCompF len L by' at' = compLoop len L by' kk (cos, at3)) := HFJ
    clear HFI HFJ
    refine HNC.out.mono ?_
    rintro e wY ⟨rfl, hwY, hfY⟩
    have HL0 : Hid (∃ p : ByteArray × Nat, wCompF len L by' at' = compLoop len L by' kk p ∧ p.1 = cos ∧ p.1.size + 5 * kk ≤ 14 ∧ p.2 + 5 * kk ≤ 900000000 ∧ Wr wY q a len cap L p.2 by' mild ∧ Fr w wY (fun k => k = q)) := ⟨(cos, at3), HFK.out, rfl, by show cos.size + 5 * kk ≤ 14; omega, by show at3 + 5 * kk ≤ _; omega, hwY, HWc.out.2.q hfY⟩
    clear hwY hfY HFK HNC HWc
    go_wp2_with fail
    go_loopg [3, 4] kk (fun gk sv kv wr => ∃ (m : Nat) (s : ByteArray), sv = .string s ∧ kv = .int .i64 m ∧ m ≤ 2 ∧ m ≤ gk ∧ Hid (∃ p : ByteArray × Nat, wCompF len L by' at' = compLoop len L by' m p ∧ p.1 = s ∧ p.1.size + 5 * m ≤ 14 ∧ p.2 + 5 * m ≤ 900000000 ∧ Wr wr q a len cap L p.2 by' mild ∧ Fr w wr (fun k => k = q)))
    case atStart => exact ⟨kk, cos, rfl, rfl, by omega, Nat.le_refl _, HL0⟩
    case round =>
      obtain ⟨m, s, rfl, rfl, hm2, hgk, HI⟩ := hrel
      obtain ⟨p, hp1, hp2, hp3, hp4, hp5, hp6⟩ := HI.out
      obtain ⟨ps, pat⟩ := p
      simp only at hp2 hp3 hp4 hp5
      subst hp2
      have HIW : Hid (wCompF len L by' at' = compLoop len L by' m (ps, pat) ∧ Wr wr q a len cap L pat by' mild ∧ Fr w wr (fun k => k = q)) := ⟨hp1, hp5, hp6⟩
      clear HI hp1 hp5 hp6
      cases m with
      | zero =>
        have HE : Hid (WStr w q a len cap L by' mild (wCompF len L by' at') (.returned (.string ps)) wr) := by rw [HIW.out.1]; exact ⟨rfl, HIW.out.2⟩
        go_wp2
        go_ret
        exact HE.out
      | succ m =>
        have hd : decide ((0 : Int) < (m : Int) + 1) = true := by rw [decide_eq_true_eq]; omega
        have HST : Hid (∀ r, nx len L 4 pat = r → compStep len L by' (ps, pat) = if r.1 = 0 then (if (nx len L 3 r.2).1 = 0 then (ps ++ ⟨#[33]⟩ ++ (letterF len L by' (nx len L 3 r.2).2).1, (letterF len L by' (nx len L 3 r.2).2).2) else (ps ++ ⟨#[33]⟩ ++ (partF len L by' (nx len L 3 r.2).2).1, (partF len L by' (nx len L 3 r.2).2).2)) else (ps ++ (partF len L by' r.2).1, (partF len L by' r.2).2)) := fun r hr => by subst hr; rfl
        have HSO := compStep_ok (len := len) (L := L) (by' := by') (ps, pat)
        simp only at HSO
        have HNX : Hid (∀ wZ c, compStep len L by' (ps, pat) = c → Wr wZ q a len cap L c.2 by' mild → Fr wr wZ (fun k => k = q) → ∃ p : ByteArray × Nat, wCompF len L by' at' = compLoop len L by' m p ∧ p.1 = c.1 ∧ p.1.size + 5 * m ≤ 14 ∧ p.2 + 5 * m ≤ 900000000 ∧ Wr wZ q a len cap L p.2 by' mild ∧ Fr w wZ (fun k => k = q)) := fun wZ c hc h1 h2 => by
          subst hc
          exact ⟨compStep len L by' (ps, pat), HIW.out.1, rfl, by omega, by omega, h1, HIW.out.2.2.q h2⟩
        have HN4 : Hid (Calls Tryz.prog 44 #[.pointer (some ⟨q, 0, none⟩), .int .i64 4] wr fun e w' => WNext wr q a len cap L by' mild (nx len L 4 pat) e w') := wnext_any wr q a len cap L pat by' mild 4 HIW.out.2.1 (by decide) (by decide) (by omega)
        have m4 := nx_at (len := len) (L := L) (n := 4) (at' := pat)
        have HS4 := HST.out _ rfl
        clear HST HSO
        generalize nx len L 4 pat = r4 at HN4 m4 HS4
        obtain ⟨nt, atn⟩ := r4
        simp only at m4 HS4
        have HS5 : Hid (compStep len L by' (ps, pat) = if nt = 0 then (if (nx len L 3 atn).1 = 0 then (ps ++ ⟨#[33]⟩ ++ (letterF len L by' (nx len L 3 atn).2).1, (letterF len L by' (nx len L 3 atn).2).2) else (ps ++ ⟨#[33]⟩ ++ (partF len L by' (nx len L 3 atn).2).1, (partF len L by' (nx len L 3 atn).2).2)) else (ps ++ (partF len L by' atn).1, (partF len L by' atn).2)) := HS4
        clear HS4
        go_wp2_with fail
        refine HN4.out.mono ?_
        rintro e wA ⟨rfl, hwA, hfA⟩
        have HWA : Hid (Wr wA q a len cap L atn by' mild ∧ Fr wr wA (fun k => k = q)) := ⟨hwA, hfA⟩
        clear hwA hfA HN4
        by_cases hn0 : nt = 0
        · subst hn0
          have HS6 : Hid (∀ r, nx len L 3 atn = r → compStep len L by' (ps, pat) = if r.1 = 0 then (ps ++ ⟨#[33]⟩ ++ (letterF len L by' r.2).1, (letterF len L by' r.2).2) else (ps ++ ⟨#[33]⟩ ++ (partF len L by' r.2).1, (partF len L by' r.2).2)) := fun r hr => by subst hr; rw [HS5.out, if_pos rfl]
          have HN3 : Hid (Calls Tryz.prog 44 #[.pointer (some ⟨q, 0, none⟩), .int .i64 3] wA fun e w' => WNext wA q a len cap L by' mild (nx len L 3 atn) e w') := wnext_any wA q a len cap L atn by' mild 3 HWA.out.1 (by decide) (by decide) (by omega)
          have m3 := nx_at (len := len) (L := L) (n := 3) (at' := atn)
          have HS7 := HS6.out _ rfl
          clear HS6 HS5
          generalize nx len L 3 atn = r3 at HN3 m3 HS7
          obtain ⟨kd, atk⟩ := r3
          simp only at m3 HS7
          have HS8 : Hid (compStep len L by' (ps, pat) = if kd = 0 then (ps ++ ⟨#[33]⟩ ++ (letterF len L by' atk).1, (letterF len L by' atk).2) else (ps ++ ⟨#[33]⟩ ++ (partF len L by' atk).1, (partF len L by' atk).2)) := HS7
          clear HS7
          have z1 : (ps ++ (⟨#[33]⟩ : ByteArray)).size = ps.size + 1 := ByteArray.size_append
          go_wp2_with fail
          refine HN3.out.mono ?_
          rintro e wB ⟨rfl, hwB, hfB⟩
          have HWB : Hid (Wr wB q a len cap L atk by' mild ∧ Fr wr wB (fun k => k = q)) := ⟨hwB, HWA.out.2.q hfB⟩
          clear hwB hfB HN3 HWA
          generalize ps ++ (⟨#[33]⟩ : ByteArray) = pe at z1 HS8 ⊢
          by_cases hk0 : kd = 0
          · have HS9 : Hid (compStep len L by' (ps, pat) = (pe ++ (letterF len L by' atk).1, (letterF len L by' atk).2)) := by unfold Hid; rw [HS8.out, if_pos hk0]
            subst hk0
            have HCL : Hid (Calls Tryz.prog 160 #[.pointer (some ⟨q, 0, none⟩)] wB fun e w' => WStr wB q a len cap L by' mild (letterF len L by' atk) e w') := wletter_any wB q a len cap L atk by' mild HWB.out.1 (by omega) hby
            have zl := letterF_size len L by' atk
            generalize letterF len L by' atk = lf at HS9 HCL zl
            obtain ⟨ls, atl⟩ := lf
            simp only at zl HS9
            have z2 : (pe ++ ls).size = ps.size + 2 := by rw [ByteArray.size_append, z1, zl]
            go_wp2_with fail
            refine HCL.out.mono ?_
            rintro e wC ⟨rfl, hwC, hfC⟩
            have HI2 := HNX.out wC _ HS9.out hwC (HWB.out.2.q hfC)
            simp only at HI2
            have HI3 : Hid (∃ p : ByteArray × Nat, wCompF len L by' at' = compLoop len L by' m p ∧ p.1 = pe ++ ls ∧ p.1.size + 5 * m ≤ 14 ∧ p.2 + 5 * m ≤ 900000000 ∧ Wr wC q a len cap L p.2 by' mild ∧ Fr w wC (fun k => k = q)) := HI2
            clear hwC hfC HI2 HNX HWB HS9 HS8 HIW HCL
            go_wp2
            go_roundg m
            case measure => omega
            case rel => exact ⟨m, _, rfl, by go_num, by omega, Nat.le_refl _, HI3⟩
          · have HS9 : Hid (compStep len L by' (ps, pat) = (pe ++ (partF len L by' atk).1, (partF len L by' atk).2)) := by unfold Hid; rw [HS8.out, if_neg hk0]
            have gk0 : ((kd : Int) == 0) = false := by rw [beq_eq_false_iff_ne]; omega
            have HCL : Hid (Calls Tryz.prog 161 #[.pointer (some ⟨q, 0, none⟩)] wB fun e w' => WStr wB q a len cap L by' mild (partF len L by' atk) e w') := wpart_any wB q a len cap L atk by' mild HWB.out.1 (by omega) hby
            have zl := partF_size len L by' atk
            generalize partF len L by' atk = lf at HS9 HCL zl
            obtain ⟨ls, atl⟩ := lf
            simp only at zl HS9
            have z2 : (pe ++ ls).size ≤ ps.size + 5 := by rw [ByteArray.size_append, z1]; omega
            clear hk0
            go_wp2_with fail
            refine HCL.out.mono ?_
            rintro e wC ⟨rfl, hwC, hfC⟩
            have HI2 := HNX.out wC _ HS9.out hwC (HWB.out.2.q hfC)
            simp only at HI2
            have HI3 : Hid (∃ p : ByteArray × Nat, wCompF len L by' at' = compLoop len L by' m p ∧ p.1 = pe ++ ls ∧ p.1.size + 5 * m ≤ 14 ∧ p.2 + 5 * m ≤ 900000000 ∧ Wr wC q a len cap L p.2 by' mild ∧ Fr w wC (fun k => k = q)) := HI2
            clear hwC hfC HI2 HNX HWB HS9 HS8 HIW HCL
            go_wp2
            go_roundg m
            case measure => omega
            case rel => exact ⟨m, _, rfl, by go_num, by omega, Nat.le_refl _, HI3⟩
        · have HS9 : Hid (compStep len L by' (ps, pat) = (ps ++ (partF len L by' atn).1, (partF len L by' atn).2)) := by unfold Hid; rw [HS5.out, if_neg hn0]
          have gn0 : ((nt : Int) == 0) = false := by rw [beq_eq_false_iff_ne]; omega
          have HCL : Hid (Calls Tryz.prog 161 #[.pointer (some ⟨q, 0, none⟩)] wA fun e w' => WStr wA q a len cap L by' mild (partF len L by' atn) e w') := wpart_any wA q a len cap L atn by' mild HWA.out.1 (by omega) hby
          have zl := partF_size len L by' atn
          generalize partF len L by' atn = lf at HS9 HCL zl
          obtain ⟨ls, atl⟩ := lf
          simp only at zl HS9
          have z2 : (ps ++ ls).size ≤ ps.size + 4 := by rw [ByteArray.size_append]; omega
          clear hn0
          go_wp2_with fail
          refine HCL.out.mono ?_
          rintro e wC ⟨rfl, hwC, hfC⟩
          have HI2 := HNX.out wC _ HS9.out hwC (HWA.out.2.q hfC)
          simp only at HI2
          have HI3 : Hid (∃ p : ByteArray × Nat, wCompF len L by' at' = compLoop len L by' m p ∧ p.1 = ps ++ ls ∧ p.1.size + 5 * m ≤ 14 ∧ p.2 + 5 * m ≤ 900000000 ∧ Wr wC q a len cap L p.2 by' mild ∧ Fr w wC (fun k => k = q)) := HI2
          clear hwC hfC HI2 HNX HWA HS9 HS5 HIW HCL
          go_wp2
          go_roundg m
          case measure => omega
          case rel => exact ⟨m, _, rfl, by go_num, by omega, Nat.le_refl _, HI3⟩
  · have HV := HRH.out
    rw [if_neg (by decide), if_pos rfl] at HV
    have HLC : Hid (Calls Tryz.prog 161 #[.pointer (some ⟨q, 0, none⟩)] w1 fun e w' => WStr w1 q a len cap L by' mild (cos, co2) e w') := by unfold Hid; rw [HV]; exact wpart_any w1 q a len cap L at1 by' mild HW1.out.1 (by omega) hby
    clear HV HRH HOK
    go_wp2_with fail
    refine HLC.out.mono ?_
    rintro e wX ⟨rfl, hwX, hfX⟩
    have HWc : Hid (Wr wX q a len cap L co2 by' mild ∧ Fr w wX (fun k => k = q)) := ⟨hwX, HW1.out.2.q hfX⟩
    clear hwX hfX HLC HW1
    go_wp2_with fail
    have HNC : Hid (Calls Tryz.prog 44 #[.pointer (some ⟨q, 0, none⟩), .int .i64 3] wX fun e w' => WNext wX q a len cap L by' mild (nx len L 3 co2) e w') := wnext_any wX q a len cap L co2 by' mild 3 HWc.out.1 (by decide) (by decide) (by omega)
    have n3 := nx_lt (len := len) (L := L) (n := 3) (at' := co2) (by decide)
    have n3a := nx_at (len := len) (L := L) (n := 3) (at' := co2)
    have HFI : Hid (∀ r, nx len L 3 co2 = r → wCompF len L by' at' = compLoop len L by' r.1 (cos, r.2)) := fun r hr => by subst hr; exact HCF.out _ rfl
    have HFJ := HFI.out _ rfl
    generalize nx len L 3 co2 = r3 at HNC n3 n3a HFJ
    obtain ⟨kk, at3⟩ := r3
    simp only at n3 n3a HFJ
    have HFK : Hid (wCompF len L by' at' = compLoop len L by' kk (cos, at3)) := HFJ
    clear HFI HFJ
    refine HNC.out.mono ?_
    rintro e wY ⟨rfl, hwY, hfY⟩
    have HL0 : Hid (∃ p : ByteArray × Nat, wCompF len L by' at' = compLoop len L by' kk p ∧ p.1 = cos ∧ p.1.size + 5 * kk ≤ 14 ∧ p.2 + 5 * kk ≤ 900000000 ∧ Wr wY q a len cap L p.2 by' mild ∧ Fr w wY (fun k => k = q)) := ⟨(cos, at3), HFK.out, rfl, by show cos.size + 5 * kk ≤ 14; omega, by show at3 + 5 * kk ≤ _; omega, hwY, HWc.out.2.q hfY⟩
    clear hwY hfY HFK HNC HWc
    go_wp2_with fail
    go_loopg [3, 4] kk (fun gk sv kv wr => ∃ (m : Nat) (s : ByteArray), sv = .string s ∧ kv = .int .i64 m ∧ m ≤ 2 ∧ m ≤ gk ∧ Hid (∃ p : ByteArray × Nat, wCompF len L by' at' = compLoop len L by' m p ∧ p.1 = s ∧ p.1.size + 5 * m ≤ 14 ∧ p.2 + 5 * m ≤ 900000000 ∧ Wr wr q a len cap L p.2 by' mild ∧ Fr w wr (fun k => k = q)))
    case atStart => exact ⟨kk, cos, rfl, rfl, by omega, Nat.le_refl _, HL0⟩
    case round =>
      obtain ⟨m, s, rfl, rfl, hm2, hgk, HI⟩ := hrel
      obtain ⟨p, hp1, hp2, hp3, hp4, hp5, hp6⟩ := HI.out
      obtain ⟨ps, pat⟩ := p
      simp only at hp2 hp3 hp4 hp5
      subst hp2
      have HIW : Hid (wCompF len L by' at' = compLoop len L by' m (ps, pat) ∧ Wr wr q a len cap L pat by' mild ∧ Fr w wr (fun k => k = q)) := ⟨hp1, hp5, hp6⟩
      clear HI hp1 hp5 hp6
      cases m with
      | zero =>
        have HE : Hid (WStr w q a len cap L by' mild (wCompF len L by' at') (.returned (.string ps)) wr) := by rw [HIW.out.1]; exact ⟨rfl, HIW.out.2⟩
        go_wp2
        go_ret
        exact HE.out
      | succ m =>
        have hd : decide ((0 : Int) < (m : Int) + 1) = true := by rw [decide_eq_true_eq]; omega
        have HST : Hid (∀ r, nx len L 4 pat = r → compStep len L by' (ps, pat) = if r.1 = 0 then (if (nx len L 3 r.2).1 = 0 then (ps ++ ⟨#[33]⟩ ++ (letterF len L by' (nx len L 3 r.2).2).1, (letterF len L by' (nx len L 3 r.2).2).2) else (ps ++ ⟨#[33]⟩ ++ (partF len L by' (nx len L 3 r.2).2).1, (partF len L by' (nx len L 3 r.2).2).2)) else (ps ++ (partF len L by' r.2).1, (partF len L by' r.2).2)) := fun r hr => by subst hr; rfl
        have HSO := compStep_ok (len := len) (L := L) (by' := by') (ps, pat)
        simp only at HSO
        have HNX : Hid (∀ wZ c, compStep len L by' (ps, pat) = c → Wr wZ q a len cap L c.2 by' mild → Fr wr wZ (fun k => k = q) → ∃ p : ByteArray × Nat, wCompF len L by' at' = compLoop len L by' m p ∧ p.1 = c.1 ∧ p.1.size + 5 * m ≤ 14 ∧ p.2 + 5 * m ≤ 900000000 ∧ Wr wZ q a len cap L p.2 by' mild ∧ Fr w wZ (fun k => k = q)) := fun wZ c hc h1 h2 => by
          subst hc
          exact ⟨compStep len L by' (ps, pat), HIW.out.1, rfl, by omega, by omega, h1, HIW.out.2.2.q h2⟩
        have HN4 : Hid (Calls Tryz.prog 44 #[.pointer (some ⟨q, 0, none⟩), .int .i64 4] wr fun e w' => WNext wr q a len cap L by' mild (nx len L 4 pat) e w') := wnext_any wr q a len cap L pat by' mild 4 HIW.out.2.1 (by decide) (by decide) (by omega)
        have m4 := nx_at (len := len) (L := L) (n := 4) (at' := pat)
        have HS4 := HST.out _ rfl
        clear HST HSO
        generalize nx len L 4 pat = r4 at HN4 m4 HS4
        obtain ⟨nt, atn⟩ := r4
        simp only at m4 HS4
        have HS5 : Hid (compStep len L by' (ps, pat) = if nt = 0 then (if (nx len L 3 atn).1 = 0 then (ps ++ ⟨#[33]⟩ ++ (letterF len L by' (nx len L 3 atn).2).1, (letterF len L by' (nx len L 3 atn).2).2) else (ps ++ ⟨#[33]⟩ ++ (partF len L by' (nx len L 3 atn).2).1, (partF len L by' (nx len L 3 atn).2).2)) else (ps ++ (partF len L by' atn).1, (partF len L by' atn).2)) := HS4
        clear HS4
        go_wp2_with fail
        refine HN4.out.mono ?_
        rintro e wA ⟨rfl, hwA, hfA⟩
        have HWA : Hid (Wr wA q a len cap L atn by' mild ∧ Fr wr wA (fun k => k = q)) := ⟨hwA, hfA⟩
        clear hwA hfA HN4
        by_cases hn0 : nt = 0
        · subst hn0
          have HS6 : Hid (∀ r, nx len L 3 atn = r → compStep len L by' (ps, pat) = if r.1 = 0 then (ps ++ ⟨#[33]⟩ ++ (letterF len L by' r.2).1, (letterF len L by' r.2).2) else (ps ++ ⟨#[33]⟩ ++ (partF len L by' r.2).1, (partF len L by' r.2).2)) := fun r hr => by subst hr; rw [HS5.out, if_pos rfl]
          have HN3 : Hid (Calls Tryz.prog 44 #[.pointer (some ⟨q, 0, none⟩), .int .i64 3] wA fun e w' => WNext wA q a len cap L by' mild (nx len L 3 atn) e w') := wnext_any wA q a len cap L atn by' mild 3 HWA.out.1 (by decide) (by decide) (by omega)
          have m3 := nx_at (len := len) (L := L) (n := 3) (at' := atn)
          have HS7 := HS6.out _ rfl
          clear HS6 HS5
          generalize nx len L 3 atn = r3 at HN3 m3 HS7
          obtain ⟨kd, atk⟩ := r3
          simp only at m3 HS7
          have HS8 : Hid (compStep len L by' (ps, pat) = if kd = 0 then (ps ++ ⟨#[33]⟩ ++ (letterF len L by' atk).1, (letterF len L by' atk).2) else (ps ++ ⟨#[33]⟩ ++ (partF len L by' atk).1, (partF len L by' atk).2)) := HS7
          clear HS7
          have z1 : (ps ++ (⟨#[33]⟩ : ByteArray)).size = ps.size + 1 := ByteArray.size_append
          go_wp2_with fail
          refine HN3.out.mono ?_
          rintro e wB ⟨rfl, hwB, hfB⟩
          have HWB : Hid (Wr wB q a len cap L atk by' mild ∧ Fr wr wB (fun k => k = q)) := ⟨hwB, HWA.out.2.q hfB⟩
          clear hwB hfB HN3 HWA
          generalize ps ++ (⟨#[33]⟩ : ByteArray) = pe at z1 HS8 ⊢
          by_cases hk0 : kd = 0
          · have HS9 : Hid (compStep len L by' (ps, pat) = (pe ++ (letterF len L by' atk).1, (letterF len L by' atk).2)) := by unfold Hid; rw [HS8.out, if_pos hk0]
            subst hk0
            have HCL : Hid (Calls Tryz.prog 160 #[.pointer (some ⟨q, 0, none⟩)] wB fun e w' => WStr wB q a len cap L by' mild (letterF len L by' atk) e w') := wletter_any wB q a len cap L atk by' mild HWB.out.1 (by omega) hby
            have zl := letterF_size len L by' atk
            generalize letterF len L by' atk = lf at HS9 HCL zl
            obtain ⟨ls, atl⟩ := lf
            simp only at zl HS9
            have z2 : (pe ++ ls).size = ps.size + 2 := by rw [ByteArray.size_append, z1, zl]
            go_wp2_with fail
            refine HCL.out.mono ?_
            rintro e wC ⟨rfl, hwC, hfC⟩
            have HI2 := HNX.out wC _ HS9.out hwC (HWB.out.2.q hfC)
            simp only at HI2
            have HI3 : Hid (∃ p : ByteArray × Nat, wCompF len L by' at' = compLoop len L by' m p ∧ p.1 = pe ++ ls ∧ p.1.size + 5 * m ≤ 14 ∧ p.2 + 5 * m ≤ 900000000 ∧ Wr wC q a len cap L p.2 by' mild ∧ Fr w wC (fun k => k = q)) := HI2
            clear hwC hfC HI2 HNX HWB HS9 HS8 HIW HCL
            go_wp2
            go_roundg m
            case measure => omega
            case rel => exact ⟨m, _, rfl, by go_num, by omega, Nat.le_refl _, HI3⟩
          · have HS9 : Hid (compStep len L by' (ps, pat) = (pe ++ (partF len L by' atk).1, (partF len L by' atk).2)) := by unfold Hid; rw [HS8.out, if_neg hk0]
            have gk0 : ((kd : Int) == 0) = false := by rw [beq_eq_false_iff_ne]; omega
            have HCL : Hid (Calls Tryz.prog 161 #[.pointer (some ⟨q, 0, none⟩)] wB fun e w' => WStr wB q a len cap L by' mild (partF len L by' atk) e w') := wpart_any wB q a len cap L atk by' mild HWB.out.1 (by omega) hby
            have zl := partF_size len L by' atk
            generalize partF len L by' atk = lf at HS9 HCL zl
            obtain ⟨ls, atl⟩ := lf
            simp only at zl HS9
            have z2 : (pe ++ ls).size ≤ ps.size + 5 := by rw [ByteArray.size_append, z1]; omega
            clear hk0
            go_wp2_with fail
            refine HCL.out.mono ?_
            rintro e wC ⟨rfl, hwC, hfC⟩
            have HI2 := HNX.out wC _ HS9.out hwC (HWB.out.2.q hfC)
            simp only at HI2
            have HI3 : Hid (∃ p : ByteArray × Nat, wCompF len L by' at' = compLoop len L by' m p ∧ p.1 = pe ++ ls ∧ p.1.size + 5 * m ≤ 14 ∧ p.2 + 5 * m ≤ 900000000 ∧ Wr wC q a len cap L p.2 by' mild ∧ Fr w wC (fun k => k = q)) := HI2
            clear hwC hfC HI2 HNX HWB HS9 HS8 HIW HCL
            go_wp2
            go_roundg m
            case measure => omega
            case rel => exact ⟨m, _, rfl, by go_num, by omega, Nat.le_refl _, HI3⟩
        · have HS9 : Hid (compStep len L by' (ps, pat) = (ps ++ (partF len L by' atn).1, (partF len L by' atn).2)) := by unfold Hid; rw [HS5.out, if_neg hn0]
          have gn0 : ((nt : Int) == 0) = false := by rw [beq_eq_false_iff_ne]; omega
          have HCL : Hid (Calls Tryz.prog 161 #[.pointer (some ⟨q, 0, none⟩)] wA fun e w' => WStr wA q a len cap L by' mild (partF len L by' atn) e w') := wpart_any wA q a len cap L atn by' mild HWA.out.1 (by omega) hby
          have zl := partF_size len L by' atn
          generalize partF len L by' atn = lf at HS9 HCL zl
          obtain ⟨ls, atl⟩ := lf
          simp only at zl HS9
          have z2 : (ps ++ ls).size ≤ ps.size + 4 := by rw [ByteArray.size_append]; omega
          clear hn0
          go_wp2_with fail
          refine HCL.out.mono ?_
          rintro e wC ⟨rfl, hwC, hfC⟩
          have HI2 := HNX.out wC _ HS9.out hwC (HWA.out.2.q hfC)
          simp only at HI2
          have HI3 : Hid (∃ p : ByteArray × Nat, wCompF len L by' at' = compLoop len L by' m p ∧ p.1 = ps ++ ls ∧ p.1.size + 5 * m ≤ 14 ∧ p.2 + 5 * m ≤ 900000000 ∧ Wr wC q a len cap L p.2 by' mild ∧ Fr w wC (fun k => k = q)) := HI2
          clear hwC hfC HI2 HNX HWA HS9 HS5 HIW HCL
          go_wp2
          go_roundg m
          case measure => omega
          case rel => exact ⟨m, _, rfl, by go_num, by omega, Nat.le_refl _, HI3⟩
end
end Go.Proofs.YtblfffbmklkhmaaGreat
