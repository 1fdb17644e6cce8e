/- Own work. -/
import Derived.Test.YtblfffbmklkhmaaGreatAw46
namespace Go.Proofs.YtblfffbmklkhmaaGreat
open Go.RowKit
theorem prB_size : ∀ p, p < 9 → (prB p).size = 1 := by decide
def declMid (len : Nat) (L : Nat → Int) (s0 : ByteArray) (c : Nat × Nat) : ByteArray × Nat :=
  if c.1 = 0 then (s0 ++ ⟨#[105]⟩, c.2) else if c.1 = 1 then (s0 ++ ⟨#[114]⟩, c.2) else if c.1 = 2 then (s0 ++ ⟨#[117]⟩, c.2)
  else if c.1 = 3 ∨ c.1 = 4 then (s0 ++ ⟨#[36]⟩ ++ prB (6 + (nx len L 3 c.2).1), (nx len L 3 c.2).2)
  else (s0 ++ digB (1 + (nx len L 9 c.2).1) ++ digB (nx len L 10 (nx len L 9 c.2).2).1, (nx len L 10 (nx len L 9 c.2).2).2)
def declEnd (len : Nat) (L : Nat → Int) (mild : Bool) (m : ByteArray × Nat) : ByteArray × Nat := if (nx len L 5 m.2).1 = 0 ∧ mild = false then (m.1 ++ ⟨#[33]⟩, (nx len L 5 m.2).2) else (m.1, (nx len L 5 m.2).2)
def wDeclF (len : Nat) (L : Nat → Int) (mild : Bool) (at' : Nat) : ByteArray × Nat :=
  declEnd len L mild (declMid len L (prB (nx len L 9 at').1 ++ ⟨#[58]⟩) (nx len L 8 (nx len L 9 at').2))
section
set_option maxRecDepth 100000
set_option maxHeartbeats 4000000
variable (w : World) (q : Nat) (a : Option Addr) (len cap : Nat) (L : Nat → Int) (at' by' : Nat) (mild : Bool)
theorem wdecl_any (h : Wr w q a len cap L at' by' mild) (hat : at' ≤ 900000000) : Calls Tryz.prog 79 #[.pointer (some ⟨q, 0, none⟩)] w fun e w' => WStr w q a len cap L by' mild (wDeclF len L mild at') e w' := by
  have HW : Hid (Wr w q a len cap L at' by' mild) := h
  have HN9 : Hid (Calls Tryz.prog 44 #[.pointer (some ⟨q, 0, none⟩), .int .i64 9] w fun e w' => WNext w q a len cap L by' mild (nx len L 9 at') e w') := wnext_any w q a len cap L at' by' mild 9 h (by decide) (by decide) (by omega)
  have l9 := nx_lt (len := len) (L := L) (n := 9) (at' := at') (by decide)
  have m9 := nx_at (len := len) (L := L) (n := 9) (at' := at')
  have HF0 : Hid (∀ r, nx len L 9 at' = r → wDeclF len L mild at' = declEnd len L mild (declMid len L (prB r.1 ++ ⟨#[58]⟩) (nx len L 8 r.2))) := fun r hr => by subst hr; rfl
  have HF1 := HF0.out _ rfl
  clear h HF0
  generalize nx len L 9 at' = r9 at HN9 l9 m9 HF1
  obtain ⟨p, at1⟩ := r9
  simp only at l9 m9 HF1
  have HF2 : Hid (∀ c, nx len L 8 at1 = c → wDeclF len L mild at' = declEnd len L mild (declMid len L (prB p ++ ⟨#[58]⟩) c)) := fun c hc => by subst hc; exact HF1
  clear HF1
  have hwr : IntKind.i64.wrap ((p : Int) + 1) = (p : Int) + 1 := by rw [IntKind.wrap_i64]; omega
  have hpa : (0 : Int) ≤ (p : Int) := by omega
  have hpb : (p : Int) ≤ (p : Int) + 1 := by omega
  have hpc : (p : Int) + 1 ≤ 9 := by omega
  have hpd : (p : Int) + 1 ≤ ((⟨#[65, 66, 67, 68, 69, 70, 88, 89, 90]⟩ : ByteArray).size : Int) := hpc
  have hpe : (0 : Int) ≤ (p : Int) + 1 := by omega
  have zp : ((⟨#[65, 66, 67, 68, 69, 70, 88, 89, 90]⟩ : ByteArray).extract p (p + 1)).size = 1 := prB_size p l9
  go_enter Tryz.func79, Tryz.ntmps79
  go_wp2_with fail
  refine HN9.out.mono ?_
  rintro e w1 ⟨rfl, hw1, hf1⟩
  have HW1 : Hid (Wr w1 q a len cap L at1 by' mild ∧ Fr w w1 (fun k => k = q)) := ⟨hw1, hf1⟩
  clear hw1 hf1 HN9
  have HN8 : Hid (Calls Tryz.prog 44 #[.pointer (some ⟨q, 0, none⟩), .int .i64 8] w1 fun e w' => WNext w1 q a len cap L by' mild (nx len L 8 at1) e w') := wnext_any w1 q a len cap L at1 by' mild 8 HW1.out.1 (by decide) (by decide) (by omega)
  have l8 := nx_lt (len := len) (L := L) (n := 8) (at' := at1) (by decide)
  have m8 := nx_at (len := len) (L := L) (n := 8) (at' := at1)
  have HF3 := HF2.out _ rfl
  generalize nx len L 8 at1 = r8 at HN8 l8 m8 HF3
  obtain ⟨c, at2⟩ := r8
  simp only at l8 m8
  have HF4 : Hid (wDeclF len L mild at' = declEnd len L mild (declMid len L ((⟨#[65, 66, 67, 68, 69, 70, 88, 89, 90]⟩ : ByteArray).extract p (p + 1) ++ ⟨#[58]⟩) (c, at2))) := HF3
  clear HF2 HF3
  go_wp2_with fail
  refine HN8.out.mono ?_
  rintro e w2 ⟨rfl, hw2, hf2⟩
  have HW2 : Hid (Wr w2 q a len cap L at2 by' mild ∧ Fr w w2 (fun k => k = q)) := ⟨hw2, HW1.out.2.q hf2⟩
  clear hw2 hf2 HN8 HW1
  have z0 : ((⟨#[65, 66, 67, 68, 69, 70, 88, 89, 90]⟩ : ByteArray).extract p (p + 1) ++ (⟨#[58]⟩ : ByteArray)).size = 2 := by rw [ByteArray.size_append, zp]; rfl
  generalize (⟨#[65, 66, 67, 68, 69, 70, 88, 89, 90]⟩ : ByteArray).extract p (p + 1) ++ (⟨#[58]⟩ : ByteArray) = s0 at z0 HF4 ⊢
  obtain ⟨md, hmd⟩ : ∃ md, declMid len L s0 (c, at2) = md := ⟨_, rfl⟩
  have HM : Hid (md = if c = 0 then (s0 ++ ⟨#[105]⟩, at2) else if c = 1 then (s0 ++ ⟨#[114]⟩, at2) else if c = 2 then (s0 ++ ⟨#[117]⟩, at2) else if c = 3 ∨ c = 4 then (s0 ++ ⟨#[36]⟩ ++ prB (6 + (nx len L 3 at2).1), (nx len L 3 at2).2) else (s0 ++ digB (1 + (nx len L 9 at2).1) ++ digB (nx len L 10 (nx len L 9 at2).2).1, (nx len L 10 (nx len L 9 at2).2).2)) := by unfold Hid; rw [← hmd]; rfl
  have HDF : Hid (∀ m, md = m → wDeclF len L mild at' = if (nx len L 5 m.2).1 = 0 ∧ mild = false then (m.1 ++ ⟨#[33]⟩, (nx len L 5 m.2).2) else (m.1, (nx len L 5 m.2).2)) := fun m hm => by subst hm; rw [HF4.out, hmd]; rfl
  clear HF4 hmd zp hwr hpa hpb hpc hpd hpe
  have hcc : c = 0 ∨ c = 1 ∨ c = 2 ∨ c = 3 ∨ c = 4 ∨ c = 5 ∨ c = 6 ∨ c = 7 := by omega
  rcases hcc with rfl | rfl | rfl | rfl | rfl | rfl | rfl | rfl
  · have HV := HM.out
    rw [if_pos rfl] at HV
    obtain ⟨sm, hsm⟩ : ∃ sm, s0 ++ (⟨#[105]⟩ : ByteArray) = sm := ⟨_, rfl⟩
    have zm : (s0 ++ (⟨#[105]⟩ : ByteArray)).size = 3 := by rw [ByteArray.size_append, z0]; rfl
    have HSM : Hid (s0 ++ (⟨#[105]⟩ : ByteArray) = sm) := hsm
    have zsm : sm.size ≤ 6 := by rw [← hsm, zm]; decide
    have HFD : Hid (∀ r, nx len L 5 at2 = r → wDeclF len L mild at' = if r.1 = 0 ∧ mild = false then (sm ++ ⟨#[33]⟩, r.2) else (sm, r.2)) := fun r hr => by subst hr; rw [HDF.out _ HV, hsm]
    obtain ⟨wX, hwX⟩ : ∃ wX, wX = w2 := ⟨_, rfl⟩
    subst hwX
    obtain ⟨atm, hatm⟩ : ∃ atm, atm = at2 := ⟨_, rfl⟩
    subst hatm
    have HWc : Hid (Wr wX q a len cap L atm by' mild ∧ Fr w wX (fun k => k = q)) := HW2.out
    clear HV HM HDF HW2 hsm
    go_wp2_with fail
    rw [HSM.out]
    clear zm
    have HN5 : Hid (Calls Tryz.prog 44 #[.pointer (some ⟨q, 0, none⟩), .int .i64 5] wX fun e w' => WNext wX q a len cap L by' mild (nx len L 5 atm) e w') := wnext_any wX q a len cap L atm by' mild 5 HWc.out.1 (by decide) (by decide) (by omega)
    have HFJ := HFD.out _ rfl
    generalize nx len L 5 atm = r5 at HN5 HFJ
    obtain ⟨mu, at5⟩ := r5
    simp only at HFJ
    have HFK : Hid (wDeclF len L mild at' = if mu = 0 ∧ mild = false then (sm ++ ⟨#[33]⟩, at5) else (sm, at5)) := HFJ
    clear HFJ HFD
    refine HN5.out.mono ?_
    rintro e wY ⟨rfl, hwY, hfY⟩
    have HWY : Hid (Wr wY q a len cap L at5 by' mild ∧ Fr w wY (fun k => k = q)) := ⟨hwY, HWc.out.2.q hfY⟩
    have ym : wY.cell? ⟨q, 3, none⟩ = some (.bool mild) := cell_of_blk hwY.blk rfl
    have yl : q < wY.heap.size := hwY.lt
    have z9 : (sm ++ (⟨#[33]⟩ : ByteArray)).size ≤ 7 := by rw [ByteArray.size_append]; show sm.size + 1 ≤ 7; omega
    clear hwY hfY HN5 HWc
    by_cases hmu : mu = 0
    · subst hmu
      cases mild with
      | false =>
        have HE : Hid (WStr w q a len cap L by' false (wDeclF len L false at') (.returned (.string (sm ++ ⟨#[33]⟩))) wY) := by rw [HFK.out, if_pos ⟨rfl, rfl⟩]; exact ⟨rfl, HWY.out.1, HWY.out.2⟩
        clear HFK HWY
        go_wp2
        go_ret
        exact HE.out
      | true =>
        have HE : Hid (WStr w q a len cap L by' true (wDeclF len L true at') (.returned (.string sm)) wY) := by rw [HFK.out, if_neg (by simp)]; exact ⟨rfl, HWY.out.1, HWY.out.2⟩
        clear HFK HWY
        go_wp2
        go_ret
        exact HE.out
    · have gmu : ((mu : Int) == 0) = false := by rw [beq_eq_false_iff_ne]; omega
      have HE : Hid (WStr w q a len cap L by' mild (wDeclF len L mild at') (.returned (.string sm)) wY) := by rw [HFK.out, if_neg (fun h => hmu h.1)]; exact ⟨rfl, HWY.out.1, HWY.out.2⟩
      clear HFK HWY hmu
      go_wp2
      go_ret
      exact HE.out
  · have HV := HM.out
    rw [if_neg (by decide), if_pos rfl] at HV
    obtain ⟨sm, hsm⟩ : ∃ sm, s0 ++ (⟨#[114]⟩ : ByteArray) = sm := ⟨_, rfl⟩
    have zm : (s0 ++ (⟨#[114]⟩ : ByteArray)).size = 3 := by rw [ByteArray.size_append, z0]; rfl
    have HSM : Hid (s0 ++ (⟨#[114]⟩ : ByteArray) = sm) := hsm
    have zsm : sm.size ≤ 6 := by rw [← hsm, zm]; decide
    have HFD : Hid (∀ r, nx len L 5 at2 = r → wDeclF len L mild at' = if r.1 = 0 ∧ mild = false then (sm ++ ⟨#[33]⟩, r.2) else (sm, r.2)) := fun r hr => by subst hr; rw [HDF.out _ HV, hsm]
    obtain ⟨wX, hwX⟩ : ∃ wX, wX = w2 := ⟨_, rfl⟩
    subst hwX
    obtain ⟨atm, hatm⟩ : ∃ atm, atm = at2 := ⟨_, rfl⟩
    subst hatm
    have HWc : Hid (Wr wX q a len cap L atm by' mild ∧ Fr w wX (fun k => k = q)) := HW2.out
    clear HV HM HDF HW2 hsm
    go_wp2_with fail
    rw [HSM.out]
    clear zm
    have HN5 : Hid (Calls Tryz.prog 44 #[.pointer (some ⟨q, 0, none⟩), .int .i64 5] wX fun e w' => WNext wX q a len cap L by' mild (nx len L 5 atm) e w') := wnext_any wX q a len cap L atm by' mild 5 HWc.out.1 (by decide) (by decide) (by omega)
    have HFJ := HFD.out _ rfl
    generalize nx len L 5 atm = r5 at HN5 HFJ
    obtain ⟨mu, at5⟩ := r5
    simp only at HFJ
    have HFK : Hid (wDeclF len L mild at' = if mu = 0 ∧ mild = false then (sm ++ ⟨#[33]⟩, at5) else (sm, at5)) := HFJ
    clear HFJ HFD
    refine HN5.out.mono ?_
    rintro e wY ⟨rfl, hwY, hfY⟩
    have HWY : Hid (Wr wY q a len cap L at5 by' mild ∧ Fr w wY (fun k => k = q)) := ⟨hwY, HWc.out.2.q hfY⟩
    have ym : wY.cell? ⟨q, 3, none⟩ = some (.bool mild) := cell_of_blk hwY.blk rfl
    have yl : q < wY.heap.size := hwY.lt
    have z9 : (sm ++ (⟨#[33]⟩ : ByteArray)).size ≤ 7 := by rw [ByteArray.size_append]; show sm.size + 1 ≤ 7; omega
    clear hwY hfY HN5 HWc
    by_cases hmu : mu = 0
    · subst hmu
      cases mild with
      | false =>
        have HE : Hid (WStr w q a len cap L by' false (wDeclF len L false at') (.returned (.string (sm ++ ⟨#[33]⟩))) wY) := by rw [HFK.out, if_pos ⟨rfl, rfl⟩]; exact ⟨rfl, HWY.out.1, HWY.out.2⟩
        clear HFK HWY
        go_wp2
        go_ret
        exact HE.out
      | true =>
        have HE : Hid (WStr w q a len cap L by' true (wDeclF len L true at') (.returned (.string sm)) wY) := by rw [HFK.out, if_neg (by simp)]; exact ⟨rfl, HWY.out.1, HWY.out.2⟩
        clear HFK HWY
        go_wp2
        go_ret
        exact HE.out
    · have gmu : ((mu : Int) == 0) = false := by rw [beq_eq_false_iff_ne]; omega
      have HE : Hid (WStr w q a len cap L by' mild (wDeclF len L mild at') (.returned (.string sm)) wY) := by rw [HFK.out, if_neg (fun h => hmu h.1)]; exact ⟨rfl, HWY.out.1, HWY.out.2⟩
      clear HFK HWY hmu
      go_wp2
      go_ret
      exact HE.out
  · have HV := HM.out
    rw [if_neg (by decide), if_neg (by decide), if_pos rfl] at HV
    obtain ⟨sm, hsm⟩ : ∃ sm, s0 ++ (⟨#[117]⟩ : ByteArray) = sm := ⟨_, rfl⟩
    have zm : (s0 ++ (⟨#[117]⟩ : ByteArray)).size = 3 := by rw [ByteArray.size_append, z0]; rfl
    have HSM : Hid (s0 ++ (⟨#[117]⟩ : ByteArray) = sm) := hsm
    have zsm : sm.size ≤ 6 := by rw [← hsm, zm]; decide
    have HFD : Hid (∀ r, nx len L 5 at2 = r → wDeclF len L mild at' = if r.1 = 0 ∧ mild = false then (sm ++ ⟨#[33]⟩, r.2) else (sm, r.2)) := fun r hr => by subst hr; rw [HDF.out _ HV, hsm]
    obtain ⟨wX, hwX⟩ : ∃ wX, wX = w2 := ⟨_, rfl⟩
    subst hwX
    obtain ⟨atm, hatm⟩ : ∃ atm, atm = at2 := ⟨_, rfl⟩
    subst hatm
    have HWc : Hid (Wr wX q a len cap L atm by' mild ∧ Fr w wX (fun k => k = q)) := HW2.out
    clear HV HM HDF HW2 hsm
    go_wp2_with fail
    rw [HSM.out]
    clear zm
    have HN5 : Hid (Calls Tryz.prog 44 #[.pointer (some ⟨q, 0, none⟩), .int .i64 5] wX fun e w' => WNext wX q a len cap L by' mild (nx len L 5 atm) e w') := wnext_any wX q a len cap L atm by' mild 5 HWc.out.1 (by decide) (by decide) (by omega)
    have HFJ := HFD.out _ rfl
    generalize nx len L 5 atm = r5 at HN5 HFJ
    obtain ⟨mu, at5⟩ := r5
    simp only at HFJ
    have HFK : Hid (wDeclF len L mild at' = if mu = 0 ∧ mild = false then (sm ++ ⟨#[33]⟩, at5) else (sm, at5)) := HFJ
    clear HFJ HFD
    refine HN5.out.mono ?_
    rintro e wY ⟨rfl, hwY, hfY⟩
    have HWY : Hid (Wr wY q a len cap L at5 by' mild ∧ Fr w wY (fun k => k = q)) := ⟨hwY, HWc.out.2.q hfY⟩
    have ym : wY.cell? ⟨q, 3, none⟩ = some (.bool mild) := cell_of_blk hwY.blk rfl
    have yl : q < wY.heap.size := hwY.lt
    have z9 : (sm ++ (⟨#[33]⟩ : ByteArray)).size ≤ 7 := by rw [ByteArray.size_append]; show sm.size + 1 ≤ 7; omega
    clear hwY hfY HN5 HWc
    by_cases hmu : mu = 0
    · subst hmu
      cases mild with
      | false =>
        have HE : Hid (WStr w q a len cap L by' false (wDeclF len L false at') (.returned (.string (sm ++ ⟨#[33]⟩))) wY) := by rw [HFK.out, if_pos ⟨rfl, rfl⟩]; exact ⟨rfl, HWY.out.1, HWY.out.2⟩
        clear HFK HWY
        go_wp2
        go_ret
        exact HE.out
      | true =>
        have HE : Hid (WStr w q a len cap L by' true (wDeclF len L true at') (.returned (.string sm)) wY) := by rw [HFK.out, if_neg (by simp)]; exact ⟨rfl, HWY.out.1, HWY.out.2⟩
        clear HFK HWY
        go_wp2
        go_ret
        exact HE.out
    · have gmu : ((mu : Int) == 0) = false := by rw [beq_eq_false_iff_ne]; omega
      have HE : Hid (WStr w q a len cap L by' mild (wDeclF len L mild at') (.returned (.string sm)) wY) := by rw [HFK.out, if_neg (fun h => hmu h.1)]; exact ⟨rfl, HWY.out.1, HWY.out.2⟩
      clear HFK HWY hmu
      go_wp2
      go_ret
      exact HE.out
  · have HV := HM.out
    rw [if_neg (by decide), if_neg (by decide), if_neg (by decide), if_pos (by decide)] at HV
    have HN3 : Hid (Calls Tryz.prog 44 #[.pointer (some ⟨q, 0, none⟩), .int .i64 3] w2 fun e w' => WNext w2 q a len cap L by' mild (nx len L 3 at2) e w') := wnext_any w2 q a len cap L at2 by' mild 3 HW2.out.1 (by decide) (by decide) (by omega)
    have l3 := nx_lt (len := len) (L := L) (n := 3) (at' := at2) (by decide)
    have m3 := nx_at (len := len) (L := L) (n := 3) (at' := at2)
    generalize nx len L 3 at2 = r3 at HN3 l3 m3 HV
    obtain ⟨vv, atm⟩ := r3
    simp only at l3 m3 HV
    have hv9 : 6 + vv < 9 := by omega
    have zv : ((⟨#[65, 66, 67, 68, 69, 70, 88, 89, 90]⟩ : ByteArray).extract (6 + vv) (6 + vv + 1)).size = 1 := prB_size (6 + vv) hv9
    have z1 : (s0 ++ (⟨#[36]⟩ : ByteArray)).size = 3 := by rw [ByteArray.size_append, z0]; rfl
    obtain ⟨sm, hsm⟩ : ∃ sm, s0 ++ (⟨#[36]⟩ : ByteArray) ++ (⟨#[65, 66, 67, 68, 69, 70, 88, 89, 90]⟩ : ByteArray).extract (6 + vv) (6 + vv + 1) = sm := ⟨_, rfl⟩
    have zm : (s0 ++ (⟨#[36]⟩ : ByteArray) ++ (⟨#[65, 66, 67, 68, 69, 70, 88, 89, 90]⟩ : ByteArray).extract (6 + vv) (6 + vv + 1)).size = 4 := by rw [ByteArray.size_append, z1, zv]
    have HSM : Hid (s0 ++ (⟨#[36]⟩ : ByteArray) ++ (⟨#[65, 66, 67, 68, 69, 70, 88, 89, 90]⟩ : ByteArray).extract (6 + vv) (6 + vv + 1) = sm) := hsm
    have zsm : sm.size ≤ 6 := by rw [← hsm, zm]; decide
    have HFD : Hid (∀ r, nx len L 5 atm = r → wDeclF len L mild at' = if r.1 = 0 ∧ mild = false then (sm ++ ⟨#[33]⟩, r.2) else (sm, r.2)) := fun r hr => by subst hr; rw [HDF.out _ HV]; unfold prB; rw [hsm]
    clear HV HM HDF hsm
    go_wp2_with fail
    refine HN3.out.mono ?_
    rintro e wX ⟨rfl, hwX, hfX⟩
    have HWc : Hid (Wr wX q a len cap L atm by' mild ∧ Fr w wX (fun k => k = q)) := ⟨hwX, HW2.out.2.q hfX⟩
    clear hwX hfX HN3 HW2
    generalize hvv : 6 + vv = v6 at *
    have HV6 : Hid ((6 : Int) + (vv : Int) = (v6 : Int)) := by unfold Hid; omega
    have hv6 : (6 : Int) + (vv : Int) = (v6 : Int) := HV6.out
    have hpa : (0 : Int) ≤ (v6 : Int) := by omega
    have hpb : (v6 : Int) ≤ (v6 : Int) + 1 := by omega
    have hpc : (v6 : Int) + 1 ≤ 9 := by omega
    have hpd : (v6 : Int) + 1 ≤ ((⟨#[65, 66, 67, 68, 69, 70, 88, 89, 90]⟩ : ByteArray).size : Int) := hpc
    have hpe : (0 : Int) ≤ (v6 : Int) + 1 := by omega
    clear hvv
    go_wp2_with fail
    rw [HSM.out]
    clear zm zv z1 hpa hpb hpc hpd hpe hv6
    have HN5 : Hid (Calls Tryz.prog 44 #[.pointer (some ⟨q, 0, none⟩), .int .i64 5] wX fun e w' => WNext wX q a len cap L by' mild (nx len L 5 atm) e w') := wnext_any wX q a len cap L atm by' mild 5 HWc.out.1 (by decide) (by decide) (by omega)
    have HFJ := HFD.out _ rfl
    generalize nx len L 5 atm = r5 at HN5 HFJ
    obtain ⟨mu, at5⟩ := r5
    simp only at HFJ
    have HFK : Hid (wDeclF len L mild at' = if mu = 0 ∧ mild = false then (sm ++ ⟨#[33]⟩, at5) else (sm, at5)) := HFJ
    clear HFJ HFD
    refine HN5.out.mono ?_
    rintro e wY ⟨rfl, hwY, hfY⟩
    have HWY : Hid (Wr wY q a len cap L at5 by' mild ∧ Fr w wY (fun k => k = q)) := ⟨hwY, HWc.out.2.q hfY⟩
    have ym : wY.cell? ⟨q, 3, none⟩ = some (.bool mild) := cell_of_blk hwY.blk rfl
    have yl : q < wY.heap.size := hwY.lt
    have z9 : (sm ++ (⟨#[33]⟩ : ByteArray)).size ≤ 7 := by rw [ByteArray.size_append]; show sm.size + 1 ≤ 7; omega
    clear hwY hfY HN5 HWc
    by_cases hmu : mu = 0
    · subst hmu
      cases mild with
      | false =>
        have HE : Hid (WStr w q a len cap L by' false (wDeclF len L false at') (.returned (.string (sm ++ ⟨#[33]⟩))) wY) := by rw [HFK.out, if_pos ⟨rfl, rfl⟩]; exact ⟨rfl, HWY.out.1, HWY.out.2⟩
        clear HFK HWY
        go_wp2
        go_ret
        exact HE.out
      | true =>
        have HE : Hid (WStr w q a len cap L by' true (wDeclF len L true at') (.returned (.string sm)) wY) := by rw [HFK.out, if_neg (by simp)]; exact ⟨rfl, HWY.out.1, HWY.out.2⟩
        clear HFK HWY
        go_wp2
        go_ret
        exact HE.out
    · have gmu : ((mu : Int) == 0) = false := by rw [beq_eq_false_iff_ne]; omega
      have HE : Hid (WStr w q a len cap L by' mild (wDeclF len L mild at') (.returned (.string sm)) wY) := by rw [HFK.out, if_neg (fun h => hmu h.1)]; exact ⟨rfl, HWY.out.1, HWY.out.2⟩
      clear HFK HWY hmu
      go_wp2
      go_ret
      exact HE.out
  · have HV := HM.out
    rw [if_neg (by decide), if_neg (by decide), if_neg (by decide), if_pos (by decide)] at HV
    have HN3 : Hid (Calls Tryz.prog 44 #[.pointer (some ⟨q, 0, none⟩), .int .i64 3] w2 fun e w' => WNext w2 q a len cap L by' mild (nx len L 3 at2) e w') := wnext_any w2 q a len cap L at2 by' mild 3 HW2.out.1 (by decide) (by decide) (by omega)
    have l3 := nx_lt (len := len) (L := L) (n := 3) (at' := at2) (by decide)
    have m3 := nx_at (len := len) (L := L) (n := 3) (at' := at2)
    generalize nx len L 3 at2 = r3 at HN3 l3 m3 HV
    obtain ⟨vv, atm⟩ := r3
    simp only at l3 m3 HV
    have hv9 : 6 + vv < 9 := by omega
    have zv : ((⟨#[65, 66, 67, 68, 69, 70, 88, 89, 90]⟩ : ByteArray).extract (6 + vv) (6 + vv + 1)).size = 1 := prB_size (6 + vv) hv9
    have z1 : (s0 ++ (⟨#[36]⟩ : ByteArray)).size = 3 := by rw [ByteArray.size_append, z0]; rfl
    obtain ⟨sm, hsm⟩ : ∃ sm, s0 ++ (⟨#[36]⟩ : ByteArray) ++ (⟨#[65, 66, 67, 68, 69, 70, 88, 89, 90]⟩ : ByteArray).extract (6 + vv) (6 + vv + 1) = sm := ⟨_, rfl⟩
    have zm : (s0 ++ (⟨#[36]⟩ : ByteArray) ++ (⟨#[65, 66, 67, 68, 69, 70, 88, 89, 90]⟩ : ByteArray).extract (6 + vv) (6 + vv + 1)).size = 4 := by rw [ByteArray.size_append, z1, zv]
    have HSM : Hid (s0 ++ (⟨#[36]⟩ : ByteArray) ++ (⟨#[65, 66, 67, 68, 69, 70, 88, 89, 90]⟩ : ByteArray).extract (6 + vv) (6 + vv + 1) = sm) := hsm
    have zsm : sm.size ≤ 6 := by rw [← hsm, zm]; decide
    have HFD : Hid (∀ r, nx len L 5 atm = r → wDeclF len L mild at' = if r.1 = 0 ∧ mild = false then (sm ++ ⟨#[33]⟩, r.2) else (sm, r.2)) := fun r hr => by subst hr; rw [HDF.out _ HV]; unfold prB; rw [hsm]
    clear HV HM HDF hsm
    go_wp2_with fail
    refine HN3.out.mono ?_
    rintro e wX ⟨rfl, hwX, hfX⟩
    have HWc : Hid (Wr wX q a len cap L atm by' mild ∧ Fr w wX (fun k => k = q)) := ⟨hwX, HW2.out.2.q hfX⟩
    clear hwX hfX HN3 HW2
    generalize hvv : 6 + vv = v6 at *
    have HV6 : Hid ((6 : Int) + (vv : Int) = (v6 : Int)) := by unfold Hid; omega
    have hv6 : (6 : Int) + (vv : Int) = (v6 : Int) := HV6.out
    have hpa : (0 : Int) ≤ (v6 : Int) := by omega
    have hpb : (v6 : Int) ≤ (v6 : Int) + 1 := by omega
    have hpc : (v6 : Int) + 1 ≤ 9 := by omega
    have hpd : (v6 : Int) + 1 ≤ ((⟨#[65, 66, 67, 68, 69, 70, 88, 89, 90]⟩ : ByteArray).size : Int) := hpc
    have hpe : (0 : Int) ≤ (v6 : Int) + 1 := by omega
    clear hvv
    go_wp2_with fail
    rw [HSM.out]
    clear zm zv z1 hpa hpb hpc hpd hpe hv6
    have HN5 : Hid (Calls Tryz.prog 44 #[.pointer (some ⟨q, 0, none⟩), .int .i64 5] wX fun e w' => WNext wX q a len cap L by' mild (nx len L 5 atm) e w') := wnext_any wX q a len cap L atm by' mild 5 HWc.out.1 (by decide) (by decide) (by omega)
    have HFJ := HFD.out _ rfl
    generalize nx len L 5 atm = r5 at HN5 HFJ
    obtain ⟨mu, at5⟩ := r5
    simp only at HFJ
    have HFK : Hid (wDeclF len L mild at' = if mu = 0 ∧ mild = false then (sm ++ ⟨#[33]⟩, at5) else (sm, at5)) := HFJ
    clear HFJ HFD
    refine HN5.out.mono ?_
    rintro e wY ⟨rfl, hwY, hfY⟩
    have HWY : Hid (Wr wY q a len cap L at5 by' mild ∧ Fr w wY (fun k => k = q)) := ⟨hwY, HWc.out.2.q hfY⟩
    have ym : wY.cell? ⟨q, 3, none⟩ = some (.bool mild) := cell_of_blk hwY.blk rfl
    have yl : q < wY.heap.size := hwY.lt
    have z9 : (sm ++ (⟨#[33]⟩ : ByteArray)).size ≤ 7 := by rw [ByteArray.size_append]; show sm.size + 1 ≤ 7; omega
    clear hwY hfY HN5 HWc
    by_cases hmu : mu = 0
    · subst hmu
      cases mild with
      | false =>
        have HE : Hid (WStr w q a len cap L by' false (wDeclF len L false at') (.returned (.string (sm ++ ⟨#[33]⟩))) wY) := by rw [HFK.out, if_pos ⟨rfl, rfl⟩]; exact ⟨rfl, HWY.out.1, HWY.out.2⟩
        clear HFK HWY
        go_wp2
        go_ret
        exact HE.out
      | true =>
        have HE : Hid (WStr w q a len cap L by' true (wDeclF len L true at') (.returned (.string sm)) wY) := by rw [HFK.out, if_neg (by simp)]; exact ⟨rfl, HWY.out.1, HWY.out.2⟩
        clear HFK HWY
        go_wp2
        go_ret
        exact HE.out
    · have gmu : ((mu : Int) == 0) = false := by rw [beq_eq_false_iff_ne]; omega
      have HE : Hid (WStr w q a len cap L by' mild (wDeclF len L mild at') (.returned (.string sm)) wY) := by rw [HFK.out, if_neg (fun h => hmu h.1)]; exact ⟨rfl, HWY.out.1, HWY.out.2⟩
      clear HFK HWY hmu
      go_wp2
      go_ret
      exact HE.out
  · have HV := HM.out
    rw [if_neg (by decide), if_neg (by decide), if_neg (by decide), if_neg (by decide)] at HV
    have HN3 : Hid (Calls Tryz.prog 44 #[.pointer (some ⟨q, 0, none⟩), .int .i64 9] w2 fun e w' => WNext w2 q a len cap L by' mild (nx len L 9 at2) e w') := wnext_any w2 q a len cap L at2 by' mild 9 HW2.out.1 (by decide) (by decide) (by omega)
    have l3 := nx_lt (len := len) (L := L) (n := 9) (at' := at2) (by decide)
    have m3 := nx_at (len := len) (L := L) (n := 9) (at' := at2)
    generalize nx len L 9 at2 = r3 at HN3 l3 m3 HV
    obtain ⟨d1, atd⟩ := r3
    simp only at l3 m3 HV
    go_wp2_with fail
    refine HN3.out.mono ?_
    rintro e wA ⟨rfl, hwA, hfA⟩
    have HWA : Hid (Wr wA q a len cap L atd by' mild ∧ Fr w wA (fun k => k = q)) := ⟨hwA, HW2.out.2.q hfA⟩
    clear hwA hfA HN3 HW2
    have HKD : Hid (Calls Tryz.prog 18 #[.int .i64 (1 + (d1 : Int))] wA fun e w' => e = .returned (.string (digB (1 + d1))) ∧ Below wA.heap.size wA w') := by
      have := kdigit_any wA (1 + d1) (by omega)
      rwa [show ((1 + d1 : Nat) : Int) = 1 + (d1 : Int) from by omega] at this
    have zd := digB_size (1 + d1)
    generalize digB (1 + d1) = ds at HKD zd HV
    go_wp2_with fail
    refine HKD.out.mono ?_
    rintro e wB ⟨rfl, hBB⟩
    have HWB : Hid (Wr wB q a len cap L atd by' mild ∧ Fr w wB (fun k => k = q)) := ⟨HWA.out.1.below hBB, HWA.out.2.below hBB⟩
    clear hBB HKD HWA
    have HNT : Hid (Calls Tryz.prog 44 #[.pointer (some ⟨q, 0, none⟩), .int .i64 10] wB fun e w' => WNext wB q a len cap L by' mild (nx len L 10 atd) e w') := wnext_any wB q a len cap L atd by' mild 10 HWB.out.1 (by decide) (by decide) (by omega)
    have lt := nx_lt (len := len) (L := L) (n := 10) (at' := atd) (by decide)
    have mt := nx_at (len := len) (L := L) (n := 10) (at' := atd)
    generalize nx len L 10 atd = rt at HNT lt mt HV
    obtain ⟨d2, atm⟩ := rt
    simp only at lt mt HV
    have z1 : (s0 ++ ds).size = 3 := by rw [ByteArray.size_append, z0, zd]
    go_wp2_with fail
    refine HNT.out.mono ?_
    rintro e wC ⟨rfl, hwC, hfC⟩
    have HWC : Hid (Wr wC q a len cap L atm by' mild ∧ Fr w wC (fun k => k = q)) := ⟨hwC, HWB.out.2.q hfC⟩
    clear hwC hfC HNT HWB
    have HKE := kdigit_any wC d2 (by omega)
    have ze := digB_size d2
    generalize digB d2 = es at HKE ze HV
    have HKE2 : Hid (Calls Tryz.prog 18 #[.int .i64 d2] wC fun e w' => e = .returned (.string es) ∧ Below wC.heap.size wC w') := HKE
    clear HKE
    obtain ⟨sm, hsm⟩ : ∃ sm, s0 ++ ds ++ es = sm := ⟨_, rfl⟩
    have zm : (s0 ++ ds ++ es).size = 4 := by rw [ByteArray.size_append, z1, ze]
    have HSM : Hid (s0 ++ ds ++ es = sm) := hsm
    have zsm : sm.size ≤ 6 := by rw [← hsm, zm]; decide
    have HFD : Hid (∀ r, nx len L 5 atm = r → wDeclF len L mild at' = if r.1 = 0 ∧ mild = false then (sm ++ ⟨#[33]⟩, r.2) else (sm, r.2)) := fun r hr => by subst hr; rw [HDF.out _ HV, hsm]
    clear HV HM HDF hsm
    go_wp2_with fail
    refine HKE2.out.mono ?_
    rintro e wX ⟨rfl, hBX⟩
    have HWc : Hid (Wr wX q a len cap L atm by' mild ∧ Fr w wX (fun k => k = q)) := ⟨HWC.out.1.below hBX, HWC.out.2.below hBX⟩
    clear hBX HKE2 HWC
    go_wp2_with fail
    rw [HSM.out]
    clear zm z1
    have HN5 : Hid (Calls Tryz.prog 44 #[.pointer (some ⟨q, 0, none⟩), .int .i64 5] wX fun e w' => WNext wX q a len cap L by' mild (nx len L 5 atm) e w') := wnext_any wX q a len cap L atm by' mild 5 HWc.out.1 (by decide) (by decide) (by omega)
    have HFJ := HFD.out _ rfl
    generalize nx len L 5 atm = r5 at HN5 HFJ
    obtain ⟨mu, at5⟩ := r5
    simp only at HFJ
    have HFK : Hid (wDeclF len L mild at' = if mu = 0 ∧ mild = false then (sm ++ ⟨#[33]⟩, at5) else (sm, at5)) := HFJ
    clear HFJ HFD
    refine HN5.out.mono ?_
    rintro e wY ⟨rfl, hwY, hfY⟩
    have HWY : Hid (Wr wY q a len cap L at5 by' mild ∧ Fr w wY (fun k => k = q)) := ⟨hwY, HWc.out.2.q hfY⟩
    have ym : wY.cell? ⟨q, 3, none⟩ = some (.bool mild) := cell_of_blk hwY.blk rfl
    have yl : q < wY.heap.size := hwY.lt
    have z9 : (sm ++ (⟨#[33]⟩ : ByteArray)).size ≤ 7 := by rw [ByteArray.size_append]; show sm.size + 1 ≤ 7; omega
    clear hwY hfY HN5 HWc
    by_cases hmu : mu = 0
    · subst hmu
      cases mild with
      | false =>
        have HE : Hid (WStr w q a len cap L by' false (wDeclF len L false at') (.returned (.string (sm ++ ⟨#[33]⟩))) wY) := by rw [HFK.out, if_pos ⟨rfl, rfl⟩]; exact ⟨rfl, HWY.out.1, HWY.out.2⟩
        clear HFK HWY
        go_wp2
        go_ret
        exact HE.out
      | true =>
        have HE : Hid (WStr w q a len cap L by' true (wDeclF len L true at') (.returned (.string sm)) wY) := by rw [HFK.out, if_neg (by simp)]; exact ⟨rfl, HWY.out.1, HWY.out.2⟩
        clear HFK HWY
        go_wp2
        go_ret
        exact HE.out
    · have gmu : ((mu : Int) == 0) = false := by rw [beq_eq_false_iff_ne]; omega
      have HE : Hid (WStr w q a len cap L by' mild (wDeclF len L mild at') (.returned (.string sm)) wY) := by rw [HFK.out, if_neg (fun h => hmu h.1)]; exact ⟨rfl, HWY.out.1, HWY.out.2⟩
      clear HFK HWY hmu
      go_wp2
      go_ret
      exact HE.out
  · have HV := HM.out
    rw [if_neg (by decide), if_neg (by decide), if_neg (by decide), if_neg (by decide)] at HV
    have HN3 : Hid (Calls Tryz.prog 44 #[.pointer (some ⟨q, 0, none⟩), .int .i64 9] w2 fun e w' => WNext w2 q a len cap L by' mild (nx len L 9 at2) e w') := wnext_any w2 q a len cap L at2 by' mild 9 HW2.out.1 (by decide) (by decide) (by omega)
    have l3 := nx_lt (len := len) (L := L) (n := 9) (at' := at2) (by decide)
    have m3 := nx_at (len := len) (L := L) (n := 9) (at' := at2)
    generalize nx len L 9 at2 = r3 at HN3 l3 m3 HV
    obtain ⟨d1, atd⟩ := r3
    simp only at l3 m3 HV
    go_wp2_with fail
    refine HN3.out.mono ?_
    rintro e wA ⟨rfl, hwA, hfA⟩
    have HWA : Hid (Wr wA q a len cap L atd by' mild ∧ Fr w wA (fun k => k = q)) := ⟨hwA, HW2.out.2.q hfA⟩
    clear hwA hfA HN3 HW2
    have HKD : Hid (Calls Tryz.prog 18 #[.int .i64 (1 + (d1 : Int))] wA fun e w' => e = .returned (.string (digB (1 + d1))) ∧ Below wA.heap.size wA w') := by
      have := kdigit_any wA (1 + d1) (by omega)
      rwa [show ((1 + d1 : Nat) : Int) = 1 + (d1 : Int) from by omega] at this
    have zd := digB_size (1 + d1)
    generalize digB (1 + d1) = ds at HKD zd HV
    go_wp2_with fail
    refine HKD.out.mono ?_
    rintro e wB ⟨rfl, hBB⟩
    have HWB : Hid (Wr wB q a len cap L atd by' mild ∧ Fr w wB (fun k => k = q)) := ⟨HWA.out.1.below hBB, HWA.out.2.below hBB⟩
    clear hBB HKD HWA
    have HNT : Hid (Calls Tryz.prog 44 #[.pointer (some ⟨q, 0, none⟩), .int .i64 10] wB fun e w' => WNext wB q a len cap L by' mild (nx len L 10 atd) e w') := wnext_any wB q a len cap L atd by' mild 10 HWB.out.1 (by decide) (by decide) (by omega)
    have lt := nx_lt (len := len) (L := L) (n := 10) (at' := atd) (by decide)
    have mt := nx_at (len := len) (L := L) (n := 10) (at' := atd)
    generalize nx len L 10 atd = rt at HNT lt mt HV
    obtain ⟨d2, atm⟩ := rt
    simp only at lt mt HV
    have z1 : (s0 ++ ds).size = 3 := by rw [ByteArray.size_append, z0, zd]
    go_wp2_with fail
    refine HNT.out.mono ?_
    rintro e wC ⟨rfl, hwC, hfC⟩
    have HWC : Hid (Wr wC q a len cap L atm by' mild ∧ Fr w wC (fun k => k = q)) := ⟨hwC, HWB.out.2.q hfC⟩
    clear hwC hfC HNT HWB
    have HKE := kdigit_any wC d2 (by omega)
    have ze := digB_size d2
    generalize digB d2 = es at HKE ze HV
    have HKE2 : Hid (Calls Tryz.prog 18 #[.int .i64 d2] wC fun e w' => e = .returned (.string es) ∧ Below wC.heap.size wC w') := HKE
    clear HKE
    obtain ⟨sm, hsm⟩ : ∃ sm, s0 ++ ds ++ es = sm := ⟨_, rfl⟩
    have zm : (s0 ++ ds ++ es).size = 4 := by rw [ByteArray.size_append, z1, ze]
    have HSM : Hid (s0 ++ ds ++ es = sm) := hsm
    have zsm : sm.size ≤ 6 := by rw [← hsm, zm]; decide
    have HFD : Hid (∀ r, nx len L 5 atm = r → wDeclF len L mild at' = if r.1 = 0 ∧ mild = false then (sm ++ ⟨#[33]⟩, r.2) else (sm, r.2)) := fun r hr => by subst hr; rw [HDF.out _ HV, hsm]
    clear HV HM HDF hsm
    go_wp2_with fail
    refine HKE2.out.mono ?_
    rintro e wX ⟨rfl, hBX⟩
    have HWc : Hid (Wr wX q a len cap L atm by' mild ∧ Fr w wX (fun k => k = q)) := ⟨HWC.out.1.below hBX, HWC.out.2.below hBX⟩
    clear hBX HKE2 HWC
    go_wp2_with fail
    rw [HSM.out]
    clear zm z1
    have HN5 : Hid (Calls Tryz.prog 44 #[.pointer (some ⟨q, 0, none⟩), .int .i64 5] wX fun e w' => WNext wX q a len cap L by' mild (nx len L 5 atm) e w') := wnext_any wX q a len cap L atm by' mild 5 HWc.out.1 (by decide) (by decide) (by omega)
    have HFJ := HFD.out _ rfl
    generalize nx len L 5 atm = r5 at HN5 HFJ
    obtain ⟨mu, at5⟩ := r5
    simp only at HFJ
    have HFK : Hid (wDeclF len L mild at' = if mu = 0 ∧ mild = false then (sm ++ ⟨#[33]⟩, at5) else (sm, at5)) := HFJ
    clear HFJ HFD
    refine HN5.out.mono ?_
    rintro e wY ⟨rfl, hwY, hfY⟩
    have HWY : Hid (Wr wY q a len cap L at5 by' mild ∧ Fr w wY (fun k => k = q)) := ⟨hwY, HWc.out.2.q hfY⟩
    have ym : wY.cell? ⟨q, 3, none⟩ = some (.bool mild) := cell_of_blk hwY.blk rfl
    have yl : q < wY.heap.size := hwY.lt
    have z9 : (sm ++ (⟨#[33]⟩ : ByteArray)).size ≤ 7 := by rw [ByteArray.size_append]; show sm.size + 1 ≤ 7; omega
    clear hwY hfY HN5 HWc
    by_cases hmu : mu = 0
    · subst hmu
      cases mild with
      | false =>
        have HE : Hid (WStr w q a len cap L by' false (wDeclF len L false at') (.returned (.string (sm ++ ⟨#[33]⟩))) wY) := by rw [HFK.out, if_pos ⟨rfl, rfl⟩]; exact ⟨rfl, HWY.out.1, HWY.out.2⟩
        clear HFK HWY
        go_wp2
        go_ret
        exact HE.out
      | true =>
        have HE : Hid (WStr w q a len cap L by' true (wDeclF len L true at') (.returned (.string sm)) wY) := by rw [HFK.out, if_neg (by simp)]; exact ⟨rfl, HWY.out.1, HWY.out.2⟩
        clear HFK HWY
        go_wp2
        go_ret
        exact HE.out
    · have gmu : ((mu : Int) == 0) = false := by rw [beq_eq_false_iff_ne]; omega
      have HE : Hid (WStr w q a len cap L by' mild (wDeclF len L mild at') (.returned (.string sm)) wY) := by rw [HFK.out, if_neg (fun h => hmu h.1)]; exact ⟨rfl, HWY.out.1, HWY.out.2⟩
      clear HFK HWY hmu
      go_wp2
      go_ret
      exact HE.out
  · have HV := HM.out
    rw [if_neg (by decide), if_neg (by decide), if_neg (by decide), if_neg (by decide)] at HV
    have HN3 : Hid (Calls Tryz.prog 44 #[.pointer (some ⟨q, 0, none⟩), .int .i64 9] w2 fun e w' => WNext w2 q a len cap L by' mild (nx len L 9 at2) e w') := wnext_any w2 q a len cap L at2 by' mild 9 HW2.out.1 (by decide) (by decide) (by omega)
    have l3 := nx_lt (len := len) (L := L) (n := 9) (at' := at2) (by decide)
    have m3 := nx_at (len := len) (L := L) (n := 9) (at' := at2)
    generalize nx len L 9 at2 = r3 at HN3 l3 m3 HV
    obtain ⟨d1, atd⟩ := r3
    simp only at l3 m3 HV
    go_wp2_with fail
    refine HN3.out.mono ?_
    rintro e wA ⟨rfl, hwA, hfA⟩
    have HWA : Hid (Wr wA q a len cap L atd by' mild ∧ Fr w wA (fun k => k = q)) := ⟨hwA, HW2.out.2.q hfA⟩
    clear hwA hfA HN3 HW2
    have HKD : Hid (Calls Tryz.prog 18 #[.int .i64 (1 + (d1 : Int))] wA fun e w' => e = .returned (.string (digB (1 + d1))) ∧ Below wA.heap.size wA w') := by
      have := kdigit_any wA (1 + d1) (by omega)
      rwa [show ((1 + d1 : Nat) : Int) = 1 + (d1 : Int) from by omega] at this
    have zd := digB_size (1 + d1)
    generalize digB (1 + d1) = ds at HKD zd HV
    go_wp2_with fail
    refine HKD.out.mono ?_
    rintro e wB ⟨rfl, hBB⟩
    have HWB : Hid (Wr wB q a len cap L atd by' mild ∧ Fr w wB (fun k => k = q)) := ⟨HWA.out.1.below hBB, HWA.out.2.below hBB⟩
    clear hBB HKD HWA
    have HNT : Hid (Calls Tryz.prog 44 #[.pointer (some ⟨q, 0, none⟩), .int .i64 10] wB fun e w' => WNext wB q a len cap L by' mild (nx len L 10 atd) e w') := wnext_any wB q a len cap L atd by' mild 10 HWB.out.1 (by decide) (by decide) (by omega)
    have lt := nx_lt (len := len) (L := L) (n := 10) (at' := atd) (by decide)
    have mt := nx_at (len := len) (L := L) (n := 10) (at' := atd)
    generalize nx len L 10 atd = rt at HNT lt mt HV
    obtain ⟨d2, atm⟩ := rt
    simp only at lt mt HV
    have z1 : (s0 ++ ds).size = 3 := by rw [ByteArray.size_append, z0, zd]
    go_wp2_with fail
    refine HNT.out.mono ?_
    rintro e wC ⟨rfl, hwC, hfC⟩
    have HWC : Hid (Wr wC q a len cap L atm by' mild ∧ Fr w wC (fun k => k = q)) := ⟨hwC, HWB.out.2.q hfC⟩
    clear hwC hfC HNT HWB
    have HKE := kdigit_any wC d2 (by omega)
    have ze := digB_size d2
    generalize digB d2 = es at HKE ze HV
    have HKE2 : Hid (Calls Tryz.prog 18 #[.int .i64 d2] wC fun e w' => e = .returned (.string es) ∧ Below wC.heap.size wC w') := HKE
    clear HKE
    obtain ⟨sm, hsm⟩ : ∃ sm, s0 ++ ds ++ es = sm := ⟨_, rfl⟩
    have zm : (s0 ++ ds ++ es).size = 4 := by rw [ByteArray.size_append, z1, ze]
    have HSM : Hid (s0 ++ ds ++ es = sm) := hsm
    have zsm : sm.size ≤ 6 := by rw [← hsm, zm]; decide
    have HFD : Hid (∀ r, nx len L 5 atm = r → wDeclF len L mild at' = if r.1 = 0 ∧ mild = false then (sm ++ ⟨#[33]⟩, r.2) else (sm, r.2)) := fun r hr => by subst hr; rw [HDF.out _ HV, hsm]
    clear HV HM HDF hsm
    go_wp2_with fail
    refine HKE2.out.mono ?_
    rintro e wX ⟨rfl, hBX⟩
    have HWc : Hid (Wr wX q a len cap L atm by' mild ∧ Fr w wX (fun k => k = q)) := ⟨HWC.out.1.below hBX, HWC.out.2.below hBX⟩
    clear hBX HKE2 HWC
    go_wp2_with fail
    rw [HSM.out]
    clear zm z1
    have HN5 : Hid (Calls Tryz.prog 44 #[.pointer (some ⟨q, 0, none⟩), .int .i64 5] wX fun e w' => WNext wX q a len cap L by' mild (nx len L 5 atm) e w') := wnext_any wX q a len cap L atm by' mild 5 HWc.out.1 (by decide) (by decide) (by omega)
    have HFJ := HFD.out _ rfl
    generalize nx len L 5 atm = r5 at HN5 HFJ
    obtain ⟨mu, at5⟩ := r5
    simp only at HFJ
    have HFK : Hid (wDeclF len L mild at' = if mu = 0 ∧ mild = false then (sm ++ ⟨#[33]⟩, at5) else (sm, at5)) := HFJ
    clear HFJ HFD
    refine HN5.out.mono ?_
    rintro e wY ⟨rfl, hwY, hfY⟩
    have HWY : Hid (Wr wY q a len cap L at5 by' mild ∧ Fr w wY (fun k => k = q)) := ⟨hwY, HWc.out.2.q hfY⟩
    have ym : wY.cell? ⟨q, 3, none⟩ = some (.bool mild) := cell_of_blk hwY.blk rfl
    have yl : q < wY.heap.size := hwY.lt
    have z9 : (sm ++ (⟨#[33]⟩ : ByteArray)).size ≤ 7 := by rw [ByteArray.size_append]; show sm.size + 1 ≤ 7; omega
    clear hwY hfY HN5 HWc
    by_cases hmu : mu = 0
    · subst hmu
      cases mild with
      | false =>
        have HE : Hid (WStr w q a len cap L by' false (wDeclF len L false at') (.returned (.string (sm ++ ⟨#[33]⟩))) wY) := by rw [HFK.out, if_pos ⟨rfl, rfl⟩]; exact ⟨rfl, HWY.out.1, HWY.out.2⟩
        clear HFK HWY
        go_wp2
        go_ret
        exact HE.out
      | true =>
        have HE : Hid (WStr w q a len cap L by' true (wDeclF len L true at') (.returned (.string sm)) wY) := by rw [HFK.out, if_neg (by simp)]; exact ⟨rfl, HWY.out.1, HWY.out.2⟩
        clear HFK HWY
        go_wp2
        go_ret
        exact HE.out
    · have gmu : ((mu : Int) == 0) = false := by rw [beq_eq_false_iff_ne]; omega
      have HE : Hid (WStr w q a len cap L by' mild (wDeclF len L mild at') (.returned (.string sm)) wY) := by rw [HFK.out, if_neg (fun h => hmu h.1)]; exact ⟨rfl, HWY.out.1, HWY.out.2⟩
      clear HFK HWY hmu
      go_wp2
      go_ret
      exact HE.out
end
end Go.Proofs.YtblfffbmklkhmaaGreat
