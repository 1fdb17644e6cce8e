/- Own work. -/
import Derived.Test.YtblfffbmklkhmaaGreatAw43
import Derived.Test.YtblfffbmklkhmaaGreatAw26
namespace Go.Proofs.YtblfffbmklkhmaaGreat
open Go.RowKit
/-- The next raw number, picked; and where the writer stands then. -/
def nx (len : Nat) (L : Nat → Int) (n at' : Nat) : Nat × Nat := if len = 0 then (0, at') else (pickZ (L (at' % len)) n, at' + 1)
theorem nx_lt {len : Nat} {L : Nat → Int} {n at' : Nat} (hn : 0 < n) : (nx len L n at').1 < n := by
  unfold nx
  split
  · exact hn
  · exact pickZ_lt _ hn
theorem nx_at {len : Nat} {L : Nat → Int} {n at' : Nat} : (nx len L n at').2 ≤ at' + 1 := by
  unfold nx
  split <;> simp
/-- A writer in memory. -/
structure Wr (w : World) (q : Nat) (a : Option Addr) (len cap : Nat) (L : Nat → Int) (at' by' : Nat) (mild : Bool) : Prop where
  blk : w.heap[q]? = some (.cells #[.slice a len cap, .int .i64 at', .int .i64 by', .bool mild] 100 (0, 0))
  row : ∀ i, i < len → ∃ g off, a = some ⟨g, off, none⟩ ∧ g ≠ q ∧ g < w.heap.size ∧ w.cell? ⟨g, off + i, none⟩ = some (.int .i64 (L i))
  fit : ∀ i, i < len → Fit (L i)
  few : len ≤ 4611686018427387904
section
variable {w w' : World} {q : Nat} {a : Option Addr} {len cap : Nat} {L : Nat → Int} {at' by' : Nat} {mild : Bool}
theorem Wr.lt (h : Wr w q a len cap L at' by' mild) : q < w.heap.size := (Array.getElem?_eq_some_iff.1 h.blk).1
theorem Wr.below (h : Wr w q a len cap L at' by' mild) (hB : Below w.heap.size w w') : Wr w' q a len cap L at' by' mild :=
  ⟨(hB.block q h.lt).trans h.blk, fun i hi => by
    obtain ⟨g, off, h1, h2, h3, h4⟩ := h.row i hi
    exact ⟨g, off, h1, h2, Nat.lt_of_lt_of_le h3 hB.size, (hB.cell (p := ⟨g, off + i, none⟩) h3).trans h4⟩, h.fit, h.few⟩
theorem Wr.step (h : Wr w q a len cap L at' by' mild) (k : Nat) : Wr (w.setCell ⟨q, 1, none⟩ (.int .i64 k)) q a len cap L k by' mild :=
  ⟨by rw [heap_setCell_row h.blk]; rfl, fun i hi => by
    obtain ⟨g, off, h1, h2, h3, h4⟩ := h.row i hi
    refine ⟨g, off, h1, h2, by simpa using h3, ?_⟩
    have hb := Below.heap_setCell w ⟨q, 1, none⟩ (.int .i64 (k : Int)) g h2
    have h5 := h4
    unfold World.cell? at h5 ⊢
    rw [hb]
    exact h5, h.fit, h.few⟩
end
/-- What a part of the writer has written. -/
def WStr (w : World) (q : Nat) (a : Option Addr) (len cap : Nat) (L : Nat → Int) (by' : Nat) (mild : Bool) (r : ByteArray × Nat) (e : Ending) (w' : World) : Prop :=
  e = .returned (.string r.1) ∧ Wr w' q a len cap L r.2 by' mild ∧ Fr w w' (fun k => k = q)
def WNext (w : World) (q : Nat) (a : Option Addr) (len cap : Nat) (L : Nat → Int) (by' : Nat) (mild : Bool) (r : Nat × Nat) (e : Ending) (w' : World) : Prop :=
  e = .returned (.int .i64 r.1) ∧ Wr w' q a len cap L r.2 by' mild ∧ Fr w w' (fun k => k = q)
section
set_option maxRecDepth 100000
set_option maxHeartbeats 2000000
variable (w : World) (q : Nat) (a : Option Addr) (len cap : Nat) (L : Nat → Int) (at' by' : Nat) (mild : Bool)
theorem wnext_any (n : Nat) (h : Wr w q a len cap L at' by' mild) (hn : 0 < n) (hn2 : n ≤ 1000) (hat : at' ≤ 1000000000) : Calls Tryz.prog 44 #[.pointer (some ⟨q, 0, none⟩), .int .i64 n] w fun e w' => WNext w q a len cap L by' mild (nx len L n at') e w' := by
  have HW : Hid (Wr w q a len cap L at' by' mild) := h
  have q0 : w.cell? ⟨q, 0, none⟩ = some (.slice a len cap) := cell_of_blk h.blk rfl
  have q1 : w.cell? ⟨q, 1, none⟩ = some (.int .i64 at') := cell_of_blk h.blk rfl
  have qf : w.frozen? ⟨q, 1, none⟩ = false := frozen_of_blk h.blk
  have hql := h.lt
  have hfew := h.few
  by_cases h0 : len = 0
  · subst h0
    have HE : Hid (WNext w q a 0 cap L by' mild (nx 0 L n at') (.returned (.int .i64 0)) w) := ⟨rfl, HW.out, Fr.refl _ _⟩
    clear h
    go_enter Tryz.func44, Tryz.ntmps44
    go_wp2
    go_ret
    exact HE.out
  · have g0 : ((len : Int) == 0) = false := by simp [h0]
    have hm : at' % len < len := Nat.mod_lt _ (by omega)
    obtain ⟨g, off, hg, hgq, hgl, hgc⟩ := h.row (at' % len) hm
    subst hg
    have HF : Hid (Fit (L (at' % len))) := h.fit _ hm
    have HX : Hid (nx len L n at' = (pickZ (L (at' % len)) n, at' + 1)) := by unfold Hid nx; rw [if_neg h0]
    have hrem : Int.tmod (at' : Int) (len : Int) = ((at' % len : Nat) : Int) := by rw [Int.ofNat_tmod]
    clear h h0
    generalize at' % len = mi at hm hgc HF HX hrem
    generalize L mi = z at hgc HF HX
    have HPC : Hid (∀ k, Calls Tryz.prog 17 #[.int .i64 z, .int .i64 n] (w.drewN k) fun e w' => e = .returned (.int .i64 ((pickZ z n : Nat) : Int)) ∧ w' = w.drewN k) := fun k => kpick_any _ z n HF.out hn hn2
    have hml : (mi : Int) < (len : Int) := by omega
    have hm0 : (0 : Int) ≤ (mi : Int) := by omega
    generalize pickZ z n = v at HPC HX
    have HE : Hid (∀ k, WNext w q (some ⟨g, off, none⟩) len cap L by' mild (nx len L n at') (.returned (.int .i64 v)) ((w.drewN k).setCell ⟨q, 1, none⟩ (.int .i64 ((at' : Int) + 1)))) := fun k => by
      rw [HX.out]
      refine ⟨rfl, ?_, ?_⟩
      · have h1 : Wr (w.drewN k) q (some ⟨g, off, none⟩) len cap L at' by' mild := HW.out.below (below_draws (Below.refl _ _) k)
        have := h1.step (at' + 1)
        rwa [show ((at' + 1 : Nat) : Int) = (at' : Int) + 1 from by omega] at this
      · exact ((Fr.refl w (fun k => k = q)).below (below_draws (Below.refl _ _) k)).set (p := ⟨q, 1, none⟩) (Or.inl rfl) _
    go_enter Tryz.func44, Tryz.ntmps44
    go_upto_region 3 with fail
    go_quiet ((go_at_call 17; exact Calls.quiet_of_same (HPC.out _)))
    go_wp2
    go_ret
    exact HE.out _
def letterF (len : Nat) (L : Nat → Int) (by' at' : Nat) : ByteArray × Nat := (letB ((nx len L 4 at').1 + by'), (nx len L 4 at').2)
theorem wletter_any (h : Wr w q a len cap L at' by' mild) (hat : at' ≤ 1000000000) (hby : by' ≤ 25) : Calls Tryz.prog 160 #[.pointer (some ⟨q, 0, none⟩)] w fun e w' => WStr w q a len cap L by' mild (letterF len L by' at') e w' := by
  have HW : Hid (Wr w q a len cap L at' by' mild) := h
  have hql := h.lt
  have HD : Hid (Wr w.drew q a len cap L at' by' mild) := h.below (Below.refl _ _).drew
  have h4 := nx_lt (len := len) (L := L) (n := 4) (at' := at') (by decide)
  have HLF : Hid (letterF len L by' at' = (letB ((nx len L 4 at').1 + by'), (nx len L 4 at').2)) := rfl
  have HNC : Hid (Calls Tryz.prog 44 #[.pointer (some ⟨q, 0, none⟩), .int .i64 4] w.drew fun e w' => WNext w.drew q a len cap L by' mild (nx len L 4 at') e w') := wnext_any w.drew q a len cap L at' by' mild 4 HD.out (by decide) (by decide) hat
  have HC : Hid (∀ wx at2, Wr wx q a len cap L at2 by' mild → wx.cell? ⟨q, 2, none⟩ = some (.int .i64 by')) := fun wx at2 hx => cell_of_blk hx.blk rfl
  clear h
  generalize nx len L 4 at' = r at h4 HLF HNC
  obtain ⟨k, at2⟩ := r
  simp only at h4 HLF
  go_enter Tryz.func160, Tryz.ntmps160
  go_upto_region 1 with fail
  go_region_held3 (fun w' => w'.cell? ⟨q, 2, none⟩ = some (.int .i64 by')) (first | exact HC.out _ _ HD.out | exact HC.out _ _ HY.out.1 | exact HC.out _ _ HX.out.1)
    (first | (go_at_call 44; refine HNC.out.mono ?_; rintro e w1 ⟨rfl, hw1, hf1⟩; have HX : Hid (Wr w1 q a len cap L at2 by' mild ∧ Fr w.drew w1 (fun k => k = q)) := ⟨hw1, hf1⟩; clear hw1 hf1) | (go_at_call 25; refine (kletter_any _ k by' (by omega) hby).mono ?_; rintro e w2 ⟨rfl, hB2⟩; have HY : Hid (Wr w2 q a len cap L at2 by' mild ∧ Fr w.drew w2 (fun k => k = q)) := ⟨HX.out.1.below hB2, HX.out.2.below hB2⟩; clear hB2))
  all_goals
    go_wp2
    go_ret
    rw [HLF.out]
    exact ⟨rfl, HY.out.1, ⟨HY.out.2.os, HY.out.2.tape, HY.out.2.output, HY.out.2.size, HY.out.2.block⟩⟩
def partF (len : Nat) (L : Nat → Int) (by' at' : Nat) : ByteArray × Nat :=
  if (nx len L 8 at').1 < 3 then (⟨#[46]⟩ ++ (letterF len L by' (nx len L 8 at').2).1, (letterF len L by' (nx len L 8 at').2).2)
  else if (nx len L 8 at').1 = 3 then (⟨#[35]⟩ ++ (letterF len L by' (nx len L 8 at').2).1, (letterF len L by' (nx len L 8 at').2).2)
  else if (nx len L 8 at').1 = 4 then (⟨#[58, 102]⟩, (nx len L 8 at').2)
  else if (nx len L 8 at').1 = 5 then (⟨#[58, 108]⟩, (nx len L 8 at').2)
  else if (nx len L 8 at').1 = 6 then (⟨#[58, 101]⟩, (nx len L 8 at').2)
  else (⟨#[58, 110]⟩ ++ digB (nx len L 4 (nx len L 8 at').2).1 ++ digB (nx len L 5 (nx len L 4 (nx len L 8 at').2).2).1, (nx len L 5 (nx len L 4 (nx len L 8 at').2).2).2)
end
end Go.Proofs.YtblfffbmklkhmaaGreat

namespace Go.Proofs.YtblfffbmklkhmaaGreat
open Go.RowKit
theorem digB_size (k : Nat) : (digB k).size = 1 := rfl
theorem letterF_size (len : Nat) (L : Nat → Int) (by' at' : Nat) : (letterF len L by' at').1.size = 1 := rfl
theorem letterF_at (len : Nat) (L : Nat → Int) (by' at' : Nat) : (letterF len L by' at').2 ≤ at' + 1 := nx_at
theorem partF_at (len : Nat) (L : Nat → Int) (by' at' : Nat) : (partF len L by' at').2 ≤ at' + 3 := by
  have h1 := nx_at (len := len) (L := L) (n := 8) (at' := at')
  have h2 := letterF_at len L by' (nx len L 8 at').2
  have h3 := nx_at (len := len) (L := L) (n := 4) (at' := (nx len L 8 at').2)
  have h4 := nx_at (len := len) (L := L) (n := 5) (at' := (nx len L 4 (nx len L 8 at').2).2)
  unfold partF
  (repeat' split) <;> simp only <;> omega
theorem partF_size (len : Nat) (L : Nat → Int) (by' at' : Nat) : (partF len L by' at').1.size ≤ 4 := by
  unfold partF
  (repeat' split) <;> simp [ByteArray.size_append, letterF_size, digB_size] <;> decide
theorem Fr.q {w w1 w2 : World} {q : Nat} (h : Fr w w1 (fun k => k = q)) (h2 : Fr w1 w2 (fun k => k = q)) : Fr w w2 (fun k => k = q) := h.trans h2
section
set_option maxRecDepth 100000
set_option maxHeartbeats 4000000
variable (w : World) (q : Nat) (a : Option Addr) (len cap : Nat) (L : Nat → Int) (at' by' : Nat) (mild : Bool)
theorem wpart_any (h : Wr w q a len cap L at' by' mild) (hat : at' ≤ 900000000) (hby : by' ≤ 25) : Calls Tryz.prog 161 #[.pointer (some ⟨q, 0, none⟩)] w fun e w' => WStr w q a len cap L by' mild (partF len L by' at') e w' := by
  have HW : Hid (Wr w q a len cap L at' by' mild) := h
  have h8 := nx_lt (len := len) (L := L) (n := 8) (at' := at') (by decide)
  have ha8 := nx_at (len := len) (L := L) (n := 8) (at' := at')
  have HP : Hid (∀ r, nx len L 8 at' = r → partF len L by' at' = if r.1 < 3 then (⟨#[46]⟩ ++ (letterF len L by' r.2).1, (letterF len L by' r.2).2) else if r.1 = 3 then (⟨#[35]⟩ ++ (letterF len L by' r.2).1, (letterF len L by' r.2).2) else if r.1 = 4 then (⟨#[58, 102]⟩, r.2) else if r.1 = 5 then (⟨#[58, 108]⟩, r.2) else if r.1 = 6 then (⟨#[58, 101]⟩, r.2) else (⟨#[58, 110]⟩ ++ digB (nx len L 4 r.2).1 ++ digB (nx len L 5 (nx len L 4 r.2).2).1, (nx len L 5 (nx len L 4 r.2).2).2)) := fun r hr => by subst hr; rfl
  clear h
  go_enter Tryz.func161, Tryz.ntmps161
  go_wp2_with fail
  refine (wnext_any w q a len cap L at' by' mild 8 HW.out (by decide) (by decide) (by omega)).mono ?_
  rintro e w1 ⟨rfl, hw1, hf1⟩
  have HR := HP.out _ rfl
  generalize nx len L 8 at' = r at h8 ha8 hw1 HR ⊢
  obtain ⟨k, at1⟩ := r
  simp only at h8 ha8 hw1 HR
  have HW1 : Hid (Wr w1 q a len cap L at1 by' mild ∧ Fr w w1 (fun k => k = q)) := ⟨hw1, hf1⟩
  have HRH : Hid (partF len L by' at' = if k < 3 then (⟨#[46]⟩ ++ (letterF len L by' at1).1, (letterF len L by' at1).2) else if k = 3 then (⟨#[35]⟩ ++ (letterF len L by' at1).1, (letterF len L by' at1).2) else if k = 4 then (⟨#[58, 102]⟩, at1) else if k = 5 then (⟨#[58, 108]⟩, at1) else if k = 6 then (⟨#[58, 101]⟩, at1) else (⟨#[58, 110]⟩ ++ digB (nx len L 4 at1).1 ++ digB (nx len L 5 (nx len L 4 at1).2).1, (nx len L 5 (nx len L 4 at1).2).2)) := HR
  clear HR HP hw1 hf1
  by_cases hk3 : k < 3
  · have HRV : Hid (partF len L by' at' = (⟨#[46]⟩ ++ (letterF len L by' at1).1, (letterF len L by' at1).2)) := by unfold Hid; rw [HRH.out, if_pos hk3]
    have hkc : k = 0 ∨ k = 1 ∨ k = 2 := by omega
    clear HRH hk3
    have hs1 := letterF_size len L by' at1
    have HLC : Hid (Calls Tryz.prog 160 #[.pointer (some ⟨q, 0, none⟩)] w1 fun e w' => WStr w1 q a len cap L by' mild (letterF len L by' at1) e w') := wletter_any w1 q a len cap L at1 by' mild HW1.out.1 (by omega) hby
    generalize letterF len L by' at1 = lf at hs1 HRV HLC
    obtain ⟨ls, at2⟩ := lf
    simp only at hs1 HRV
    have hs2 : ((⟨#[46]⟩ : ByteArray) ++ ls).size = 2 := by rw [ByteArray.size_append, hs1]; rfl
    rcases hkc with rfl | rfl | rfl
    all_goals
      go_wp2_with fail
      refine HLC.out.mono ?_
      rintro e w2 ⟨rfl, hw2, hf2⟩
      have HE : Hid (WStr w q a len cap L by' mild (partF len L by' at') (.returned (.string (⟨#[46]⟩ ++ ls))) w2) := by rw [HRV.out]; exact ⟨rfl, hw2, HW1.out.2.q hf2⟩
      clear hw2 hf2
      go_wp2
      go_ret
      exact HE.out
  have hk3' := hk3
  by_cases hk4 : k = 3
  · have HRV : Hid (partF len L by' at' = (⟨#[35]⟩ ++ (letterF len L by' at1).1, (letterF len L by' at1).2)) := by unfold Hid; rw [HRH.out, if_neg hk3, if_pos hk4]
    subst hk4
    clear HRH hk3 hk3'
    have hs1 := letterF_size len L by' at1
    have HLC : Hid (Calls Tryz.prog 160 #[.pointer (some ⟨q, 0, none⟩)] w1 fun e w' => WStr w1 q a len cap L by' mild (letterF len L by' at1) e w') := wletter_any w1 q a len cap L at1 by' mild HW1.out.1 (by omega) hby
    generalize letterF len L by' at1 = lf at hs1 HRV HLC
    obtain ⟨ls, at2⟩ := lf
    simp only at hs1 HRV
    have hs2 : ((⟨#[35]⟩ : ByteArray) ++ ls).size = 2 := by rw [ByteArray.size_append, hs1]; rfl
    go_wp2_with fail
    refine HLC.out.mono ?_
    rintro e w2 ⟨rfl, hw2, hf2⟩
    have HE : Hid (WStr w q a len cap L by' mild (partF len L by' at') (.returned (.string (⟨#[35]⟩ ++ ls))) w2) := by rw [HRV.out]; exact ⟨rfl, hw2, HW1.out.2.q hf2⟩
    clear hw2 hf2
    go_wp2
    go_ret
    exact HE.out
  by_cases hk5 : k = 4
  · have HE : Hid (WStr w q a len cap L by' mild (partF len L by' at') (.returned (.string ⟨#[58, 102]⟩)) w1) := by rw [HRH.out, if_neg hk3, if_neg hk4, if_pos hk5]; exact ⟨rfl, HW1.out.1, HW1.out.2⟩
    subst hk5
    clear HRH
    go_wp2
    go_ret
    exact HE.out
  by_cases hk6 : k = 5
  · have HE : Hid (WStr w q a len cap L by' mild (partF len L by' at') (.returned (.string ⟨#[58, 108]⟩)) w1) := by rw [HRH.out, if_neg hk3, if_neg hk4, if_neg hk5, if_pos hk6]; exact ⟨rfl, HW1.out.1, HW1.out.2⟩
    subst hk6
    clear HRH
    go_wp2
    go_ret
    exact HE.out
  by_cases hk7 : k = 6
  · have HE : Hid (WStr w q a len cap L by' mild (partF len L by' at') (.returned (.string ⟨#[58, 101]⟩)) w1) := by rw [HRH.out, if_neg hk3, if_neg hk4, if_neg hk5, if_neg hk6, if_pos hk7]; exact ⟨rfl, HW1.out.1, HW1.out.2⟩
    subst hk7
    clear HRH
    go_wp2
    go_ret
    exact HE.out
  have hk8 : k = 7 := by omega
  have HRV : Hid (partF len L by' at' = (⟨#[58, 110]⟩ ++ digB (nx len L 4 at1).1 ++ digB (nx len L 5 (nx len L 4 at1).2).1, (nx len L 5 (nx len L 4 at1).2).2)) := by unfold Hid; rw [HRH.out, if_neg hk3, if_neg hk4, if_neg hk5, if_neg hk6, if_neg hk7]
  subst hk8
  clear HRH hk3 hk3' hk4 hk5 hk6 hk7
  have n4 := nx_lt (len := len) (L := L) (n := 4) (at' := at1) (by decide)
  have n4a := nx_at (len := len) (L := L) (n := 4) (at' := at1)
  have HNC : Hid (Calls Tryz.prog 44 #[.pointer (some ⟨q, 0, none⟩), .int .i64 4] w1 fun e w' => WNext w1 q a len cap L by' mild (nx len L 4 at1) e w') := wnext_any w1 q a len cap L at1 by' mild 4 HW1.out.1 (by decide) (by decide) (by omega)
  generalize nx len L 4 at1 = r4 at n4 n4a HNC HRV
  obtain ⟨d, at2⟩ := r4
  simp only at n4 n4a HRV
  go_wp2_with fail
  refine HNC.out.mono ?_
  rintro e w2 ⟨rfl, hw2, hf2⟩
  have HW2 : Hid (Wr w2 q a len cap L at2 by' mild ∧ Fr w w2 (fun k => k = q)) := ⟨hw2, HW1.out.2.q hf2⟩
  clear hw2 hf2
  go_wp2_with fail
  refine (kdigit_any w2 d (by omega)).mono ?_
  rintro e w3 ⟨rfl, hB3⟩
  have HW3 : Hid (Wr w3 q a len cap L at2 by' mild ∧ Fr w w3 (fun k => k = q)) := ⟨HW2.out.1.below hB3, HW2.out.2.below hB3⟩
  clear hB3
  have n5 := nx_lt (len := len) (L := L) (n := 5) (at' := at2) (by decide)
  have HND : Hid (Calls Tryz.prog 44 #[.pointer (some ⟨q, 0, none⟩), .int .i64 5] w3 fun e w' => WNext w3 q a len cap L by' mild (nx len L 5 at2) e w') := wnext_any w3 q a len cap L at2 by' mild 5 HW3.out.1 (by decide) (by decide) (by omega)
  generalize nx len L 5 at2 = r5 at n5 HND HRV
  obtain ⟨d2, at3⟩ := r5
  simp only at n5 HRV
  have hs1 := digB_size d
  generalize digB d = ds at hs1 HRV ⊢
  have hs2 : ((⟨#[58, 110]⟩ : ByteArray) ++ ds).size = 3 := by rw [ByteArray.size_append, hs1]; rfl
  go_wp2_with fail
  refine HND.out.mono ?_
  rintro e w4 ⟨rfl, hw4, hf4⟩
  have HW4 : Hid (Wr w4 q a len cap L at3 by' mild ∧ Fr w w4 (fun k => k = q)) := ⟨hw4, HW3.out.2.q hf4⟩
  clear hw4 hf4
  go_wp2_with fail
  refine (kdigit_any w4 d2 (by omega)).mono ?_
  rintro e w5 ⟨rfl, hB5⟩
  have hs3 := digB_size d2
  generalize digB d2 = ds2 at hs3 HRV ⊢
  have hs4 : ((⟨#[58, 110]⟩ : ByteArray) ++ ds ++ ds2).size = 4 := by rw [ByteArray.size_append, hs2, hs3]
  have HE : Hid (WStr w q a len cap L by' mild (partF len L by' at') (.returned (.string (⟨#[58, 110]⟩ ++ ds ++ ds2))) w5) := by rw [HRV.out]; exact ⟨rfl, HW4.out.1.below hB5, HW4.out.2.below hB5⟩
  clear hB5
  go_wp2
  go_ret
  exact HE.out
end
end Go.Proofs.YtblfffbmklkhmaaGreat
