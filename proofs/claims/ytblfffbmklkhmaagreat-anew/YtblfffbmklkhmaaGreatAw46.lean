/- Own work. -/
import Derived.Test.YtblfffbmklkhmaaGreatAw45
namespace Go.Proofs.YtblfffbmklkhmaaGreat
open Go.RowKit
/-- The i-th sign. -/
def sgB (i : Nat) : ByteArray := (⟨#[32, 32, 62, 43, 126]⟩ : ByteArray).extract i (i + 1)
theorem sgB_size : ∀ i, i < 5 → (sgB i).size = 1 := by decide
def selStep (len : Nat) (L : Nat → Int) (by' : Nat) (p : ByteArray × Nat) : ByteArray × Nat :=
  (p.1 ++ sgB (nx len L 5 p.2).1 ++ (wCompF len L by' (nx len L 5 p.2).2).1, (wCompF len L by' (nx len L 5 p.2).2).2)
def selLoop (len : Nat) (L : Nat → Int) (by' : Nat) : Nat → ByteArray × Nat → ByteArray × Nat
  | 0, p => p
  | k + 1, p => selLoop len L by' k (selStep len L by' p)
def wSelF (len : Nat) (L : Nat → Int) (by' at' : Nat) : ByteArray × Nat :=
  selLoop len L by' (nx len L 3 (wCompF len L by' at').2).1 ((wCompF len L by' at').1, (nx len L 3 (wCompF len L by' at').2).2)
section
variable {len : Nat} {L : Nat → Int} {by' : Nat}
theorem selStep_ok (p : ByteArray × Nat) : (selStep len L by' p).1.size ≤ p.1.size + 15 ∧ (selStep len L by' p).2 ≤ p.2 + 16 := by
  have h1 := nx_at (len := len) (L := L) (n := 5) (at' := p.2)
  have h2 := nx_lt (len := len) (L := L) (n := 5) (at' := p.2) (by decide)
  have h3 := wCompF_ok (len := len) (L := L) (by' := by') (nx len L 5 p.2).2
  have h4 := sgB_size _ h2
  refine ⟨?_, ?_⟩
  · show (p.1 ++ sgB _ ++ _ : ByteArray).size ≤ _
    rw [ByteArray.size_append, ByteArray.size_append]
    omega
  · show (wCompF len L by' _).2 ≤ _
    omega
theorem selLoop_ok : ∀ (k : Nat) (p : ByteArray × Nat), (selLoop len L by' k p).1.size ≤ p.1.size + 15 * k ∧ (selLoop len L by' k p).2 ≤ p.2 + 16 * k
  | 0, p => ⟨Nat.le_refl _, Nat.le_refl _⟩
  | k + 1, p => by
    have h1 := selLoop_ok k (selStep len L by' p)
    have h2 := selStep_ok (len := len) (L := L) (by' := by') p
    show (selLoop len L by' k (selStep len L by' p)).1.size ≤ _ ∧ (selLoop len L by' k (selStep len L by' p)).2 ≤ _
    omega
theorem wSelF_ok (at' : Nat) : (wSelF len L by' at').1.size ≤ 44 ∧ (wSelF len L by' at').2 ≤ at' + 48 := by
  have h1 := wCompF_ok (len := len) (L := L) (by' := by') at'
  have h2 := nx_at (len := len) (L := L) (n := 3) (at' := (wCompF len L by' at').2)
  have h3 := nx_lt (len := len) (L := L) (n := 3) (at' := (wCompF len L by' at').2) (by decide)
  have h4 := selLoop_ok (len := len) (L := L) (by' := by') (nx len L 3 (wCompF len L by' at').2).1 ((wCompF len L by' at').1, (nx len L 3 (wCompF len L by' at').2).2)
  simp only at h4
  unfold wSelF
  omega
end
section
set_option maxRecDepth 100000
set_option maxHeartbeats 4000000
variable (w : World) (q : Nat) (a : Option Addr) (len cap : Nat) (L : Nat → Int) (at' by' : Nat) (mild : Bool)
theorem wsel_any (h : Wr w q a len cap L at' by' mild) (hat : at' ≤ 700000000) (hby : by' ≤ 25) : Calls Tryz.prog 78 #[.pointer (some ⟨q, 0, none⟩)] w fun e w' => WStr w q a len cap L by' mild (wSelF len L by' at') e w' := by
  have HW : Hid (Wr w q a len cap L at' by' mild) := h
  have HOK2 := wCompF_ok (len := len) (L := L) (by' := by') at'
  have HCF : Hid (∀ c, wCompF len L by' at' = c → ∀ r, nx len L 3 c.2 = r → wSelF len L by' at' = selLoop len L by' r.1 (c.1, r.2)) := fun c hc r hr => by subst hc hr; rfl
  have HC0 : Hid (Calls Tryz.prog 125 #[.pointer (some ⟨q, 0, none⟩)] w fun e w' => WStr w q a len cap L by' mild (wCompF len L by' at') e w') := wcomp_any w q a len cap L at' by' mild h (by omega) hby
  have HFC := HCF.out _ rfl
  clear h HCF
  generalize wCompF len L by' at' = co at HOK2 HC0 HFC
  obtain ⟨cos, co2⟩ := co
  simp only at HOK2 HFC
  have HFD : Hid (∀ r, nx len L 3 co2 = r → wSelF len L by' at' = selLoop len L by' r.1 (cos, r.2)) := HFC
  clear HFC
  go_enter Tryz.func78, Tryz.ntmps78
  go_wp2_with fail
  refine HC0.out.mono ?_
  rintro e wX ⟨rfl, hwX, hfX⟩
  have HWc : Hid (Wr wX q a len cap L co2 by' mild ∧ Fr w wX (fun k => k = q)) := ⟨hwX, hfX⟩
  clear hwX hfX HC0
  have HNC : Hid (Calls Tryz.prog 44 #[.pointer (some ⟨q, 0, none⟩), .int .i64 3] wX fun e w' => WNext wX q a len cap L by' mild (nx len L 3 co2) e w') := wnext_any wX q a len cap L co2 by' mild 3 HWc.out.1 (by decide) (by decide) (by omega)
  have n3 := nx_lt (len := len) (L := L) (n := 3) (at' := co2) (by decide)
  have n3a := nx_at (len := len) (L := L) (n := 3) (at' := co2)
  have HFJ := HFD.out _ rfl
  generalize nx len L 3 co2 = r3 at HNC n3 n3a HFJ
  obtain ⟨kk, at3⟩ := r3
  simp only at n3 n3a HFJ
  have HFK : Hid (wSelF len L by' at' = selLoop len L by' kk (cos, at3)) := HFJ
  clear HFD HFJ
  go_wp2_with fail
  refine HNC.out.mono ?_
  rintro e wY ⟨rfl, hwY, hfY⟩
  have HL0 : Hid (∃ p : ByteArray × Nat, wSelF len L by' at' = selLoop len L by' kk p ∧ p.1 = cos ∧ p.1.size + 15 * kk ≤ 44 ∧ p.2 + 16 * kk ≤ 790000000 ∧ Wr wY q a len cap L p.2 by' mild ∧ Fr w wY (fun k => k = q)) := ⟨(cos, at3), HFK.out, rfl, by show cos.size + 15 * kk ≤ 44; omega, by show at3 + 16 * kk ≤ _; omega, hwY, HWc.out.2.q hfY⟩
  clear hwY hfY HFK HNC HWc
  go_wp2_with fail
  go_loopg [3, 5] kk (fun gk sv kv wr => ∃ (m : Nat) (s : ByteArray), sv = .string s ∧ kv = .int .i64 m ∧ m ≤ 2 ∧ m ≤ gk ∧ Hid (∃ p : ByteArray × Nat, wSelF len L by' at' = selLoop len L by' m p ∧ p.1 = s ∧ p.1.size + 15 * m ≤ 44 ∧ p.2 + 16 * m ≤ 790000000 ∧ Wr wr q a len cap L p.2 by' mild ∧ Fr w wr (fun k => k = q)))
  case atStart => exact ⟨kk, cos, rfl, rfl, by omega, Nat.le_refl _, HL0⟩
  case round =>
    obtain ⟨m, s, rfl, rfl, hm2, hgk, HI⟩ := hrel
    obtain ⟨p, hp1, hp2, hp3, hp4, hp5, hp6⟩ := HI.out
    obtain ⟨ps, pat⟩ := p
    simp only at hp2 hp3 hp4 hp5
    subst hp2
    have HIW : Hid (wSelF len L by' at' = selLoop len L by' m (ps, pat) ∧ Wr wr q a len cap L pat by' mild ∧ Fr w wr (fun k => k = q)) := ⟨hp1, hp5, hp6⟩
    clear HI hp1 hp5 hp6
    cases m with
    | zero =>
      have HE : Hid (WStr w q a len cap L by' mild (wSelF len L by' at') (.returned (.string ps)) wr) := by rw [HIW.out.1]; exact ⟨rfl, HIW.out.2⟩
      go_wp2
      go_ret
      exact HE.out
    | succ m =>
      have hd : decide ((0 : Int) < (m : Int) + 1) = true := by rw [decide_eq_true_eq]; omega
      have HST : Hid (∀ r, nx len L 5 pat = r → ∀ c, wCompF len L by' r.2 = c → selStep len L by' (ps, pat) = (ps ++ sgB r.1 ++ c.1, c.2)) := fun r hr c hc => by subst hr hc; rfl
      have HSO := selStep_ok (len := len) (L := L) (by' := by') (ps, pat)
      simp only at HSO
      have HNX : Hid (∀ wZ c, selStep len L by' (ps, pat) = c → Wr wZ q a len cap L c.2 by' mild → Fr wr wZ (fun k => k = q) → ∃ p : ByteArray × Nat, wSelF len L by' at' = selLoop len L by' m p ∧ p.1 = c.1 ∧ p.1.size + 15 * m ≤ 44 ∧ p.2 + 16 * m ≤ 790000000 ∧ Wr wZ q a len cap L p.2 by' mild ∧ Fr w wZ (fun k => k = q)) := fun wZ c hc h1 h2 => by
        subst hc
        exact ⟨selStep len L by' (ps, pat), HIW.out.1, rfl, by omega, by omega, h1, HIW.out.2.2.q h2⟩
      have HN5 : Hid (Calls Tryz.prog 44 #[.pointer (some ⟨q, 0, none⟩), .int .i64 5] wr fun e w' => WNext wr q a len cap L by' mild (nx len L 5 pat) e w') := wnext_any wr q a len cap L pat by' mild 5 HIW.out.2.1 (by decide) (by decide) (by omega)
      have m5 := nx_at (len := len) (L := L) (n := 5) (at' := pat)
      have l5 := nx_lt (len := len) (L := L) (n := 5) (at' := pat) (by decide)
      have HS4 := HST.out _ rfl
      clear HST HSO
      generalize nx len L 5 pat = r5 at HN5 m5 l5 HS4
      obtain ⟨i, atn⟩ := r5
      simp only at m5 l5 HS4
      have HS5 : Hid (∀ c, wCompF len L by' atn = c → selStep len L by' (ps, pat) = (ps ++ sgB i ++ c.1, c.2)) := HS4
      have zs := sgB_size i l5
      have zs' : ((⟨#[32, 32, 62, 43, 126]⟩ : ByteArray).extract i (i + 1)).size = 1 := zs
      clear HS4
      go_wp2_with fail
      refine HN5.out.mono ?_
      rintro e wA ⟨rfl, hwA, hfA⟩
      have HWA : Hid (Wr wA q a len cap L atn by' mild ∧ Fr wr wA (fun k => k = q)) := ⟨hwA, hfA⟩
      clear hwA hfA HN5
      have HCD : Hid (Calls Tryz.prog 125 #[.pointer (some ⟨q, 0, none⟩)] wA.drew fun e w' => WStr wA.drew q a len cap L by' mild (wCompF len L by' atn) e w') := wcomp_any wA.drew q a len cap L atn by' mild (HWA.out.1.below (Below.refl _ _).drew) (by omega) hby
      have zc := (wCompF_ok (len := len) (L := L) (by' := by') atn).1
      have HS6 := HS5.out _ rfl
      generalize wCompF len L by' atn = cf at HCD zc HS6
      obtain ⟨cs, atc⟩ := cf
      simp only at zc HS6
      have HS7 : Hid (selStep len L by' (ps, pat) = (ps ++ sgB i ++ cs, atc)) := HS6
      clear HS6 HS5
      have z1 : (ps ++ (⟨#[32, 32, 62, 43, 126]⟩ : ByteArray).extract i (i + 1)).size = ps.size + 1 := by rw [ByteArray.size_append, zs']
      have z2 : (ps ++ (⟨#[32, 32, 62, 43, 126]⟩ : ByteArray).extract i (i + 1) ++ cs).size ≤ ps.size + 15 := by rw [ByteArray.size_append, z1]; omega
      have hwr : IntKind.i64.wrap ((i : Int) + 1) = (i : Int) + 1 := by rw [IntKind.wrap_i64]; omega
      have hpa : (0 : Int) ≤ (i : Int) := by omega
      have hpb : (i : Int) ≤ (i : Int) + 1 := by omega
      have hpc : (i : Int) + 1 ≤ 5 := by omega
      have hpd : (i : Int) + 1 ≤ ((⟨#[32, 32, 62, 43, 126]⟩ : ByteArray).size : Int) := hpc
      have hpe : (0 : Int) ≤ (i : Int) + 1 := by omega
      have zmin : min (i + 1) 5 - i = 1 := by omega
      have hq0 : ¬ (9223372036854775807 : Int) < (ps.size : Int) + ((min (i + 1) 5 - i : Nat) : Int) := by omega
      have hq1 : ¬ (9223372036854775807 : Int) < (ps.size : Int) + 1 := by omega
      have hq2 : ¬ (9223372036854775807 : Int) < (ps.size : Int) + 1 + (cs.size : Int) := by omega
      have hA : ¬ (9223372036854775807 : Int) < (ps.size : Int) + ((min (i + 1) 5 - i : Nat) : Int) := hq0
      have hB : ¬ (9223372036854775807 : Int) < (ps.size : Int) + (((⟨#[32, 32, 62, 43, 126]⟩ : ByteArray).extract i (i + 1)).size : Int) := by rw [zs']; exact hq1
      have hC : ¬ IntKind.i64.max < ((ps.size + ((⟨#[32, 32, 62, 43, 126]⟩ : ByteArray).extract i (i + 1)).size : Nat) : Int) := by rw [zs']; show ¬ (9223372036854775807 : Int) < _; omega
      have hD : ¬ (9223372036854775807 : Int) < (ps.size : Int) + ((min (i + 1) 5 - i : Nat) : Int) + (cs.size : Int) := by omega
      have hE : ¬ (9223372036854775807 : Int) < (ps.size : Int) + (((⟨#[32, 32, 62, 43, 126]⟩ : ByteArray).extract i (i + 1)).size : Int) + (cs.size : Int) := by rw [zs']; exact hq2
      have hG : ¬ (9223372036854775807 : Int) < ((ps ++ ((⟨#[32, 32, 62, 43, 126]⟩ : ByteArray).extract i (i + 1))).size : Int) + (cs.size : Int) := by rw [z1]; omega
      go_upto_region 7 with fail
      have HKM : Hid (m + 1 ≤ gk ∧ m + 1 ≤ 2) := ⟨hgk, hm2⟩
      clear z1 z2 zs zs' zmin hq0 hq2 hp3 hp4 hm2 hgk m5 hd hq1 zc HOK2 n3 n3a hat
      go_region_with ((go_at_call 125; refine HCD.out.mono ?_; rintro e wC ⟨rfl, hwC, hfC⟩; have HX : Hid (Wr wC q a len cap L atc by' mild ∧ Fr wr wC (fun k => k = q)) := ⟨hwC, HWA.out.2.q ⟨hfC.os, hfC.tape, hfC.output, hfC.size, hfC.block⟩⟩; clear hwC hfC))
      all_goals
        have HI3 : Hid (∃ p : ByteArray × Nat, wSelF len L by' at' = selLoop len L by' m p ∧ p.1 = ps ++ (⟨#[32, 32, 62, 43, 126]⟩ : ByteArray).extract i (i + 1) ++ cs ∧ p.1.size + 15 * m ≤ 44 ∧ p.2 + 16 * m ≤ 790000000 ∧ Wr wC q a len cap L p.2 by' mild ∧ Fr w wC (fun k => k = q)) := HNX.out wC _ HS7.out HX.out.1 HX.out.2
        have hkm := HKM.out
        clear HNX HWA HS7 HIW HCD HX hA hB hC hD hE hG
        go_wp2
        go_roundg m
        case measure => omega
        case rel => exact ⟨m, _, rfl, by go_num, by omega, Nat.le_refl _, HI3⟩
end
end Go.Proofs.YtblfffbmklkhmaaGreat
