/- Own work. -/
import Derived.Test.YtblfffbmklkhmaaGreatHe25
import Derived.Test.YtblfffbmklkhmaaGreatHe17
import Derived.ProofKit
import Derived.Deep.Slices
import Derived.OpenShut
namespace Go.Proofs.YtblfffbmklkhmaaGreat
open Go.RowKit
/-- A script, or none. -/
def Sc (w : World) (a0 : Option Addr) (len : Nat) (K X Y Z : Nat → Int) : Prop := len = 0 ∨ ∃ b0 off, a0 = some ⟨b0, off, none⟩ ∧ Stp w b0 off len K X Y Z
theorem GDM.below {DS : World → Value → Tree → Nat → (Nat → Mk) → List PRu → (Nat → Prop) → Prop} {w w' : World} {g : Nat} {px vl : Value} {made b : Nat} {M : Nat → Mk} {ns : List GN} {rs : List PRu} {Fg Fx : Nat → Prop} (hP : DocOK DS) (h : GDM DS w g px vl made b M ns rs Fg Fx) (hB : Below w.heap.size w w') : GDM DS w' g px vl made b M ns rs Fg Fx :=
  ⟨h.gr.below hB, h.pw, hP.keep h.ds (fun k _ hl => hB.block k hl) hB.size, h.inb, h.inn, h.inl, h.ink, h.gx, fun k hk => Nat.lt_of_lt_of_le (h.here k hk) hB.size⟩
section
set_option maxRecDepth 100000
set_option maxHeartbeats 1500000
variable {DS : World → Value → Tree → Nat → (Nat → Mk) → List PRu → (Nat → Prop) → Prop}
theorem kgrow_sc (hP : DocOK DS) {w0 : World} (w : World) (g : Nat) (px vl : Value) (made b : Nat) (ns : List GN) (rs : List PRu) (Fg Fx : Nat → Prop) (h : GD DS w g px vl made b ns rs Fg Fx) (last : Int) (hl7 : last ≤ 7) (hb : b ≤ 25) (a0 : Option Addr) (len cap : Nat) (K X Y Z : Nat → Int) (hs : Sc w0 a0 len K X Y Z) (hB : Below w0.heap.size w0 w) (hna : ∀ k, Fg k ∨ Fx k → w0.heap.size ≤ k) (hm : made + len ≤ 4611686018427387904) :
    Calls Tryz.prog 20 #[.pointer (some ⟨g, 0, none⟩), .slice a0 len cap, .int .i64 last] w fun e w' => KStepPost DS w (fun k => Fg k ∨ Fx k) g px b (growS b last K X Y Z (ns.map GN.pl) made len).1 (growS b last K X Y Z (ns.map GN.pl) made len).2 rs e w' := by
  rcases hs with rfl | ⟨b0, off, rfl, hs⟩
  · exact kgrow_none w g px vl made b ns rs Fg Fx h last a0 cap
  · refine kgrow_any hP w g px vl made b ns rs Fg Fx h last hl7 hb b0 off len cap K X Y Z (hs.keep (hB.block b0 hs.lt)) (fun hk => ?_) hm
    have h1 := hna b0 hk
    have h2 := hs.lt
    omega
def heirsX (d : ByteArray) : ByteArray := ((((((((⟨#[35, 122, 123, 65, 58]⟩ : ByteArray) ++ d) ++ ⟨#[59, 66, 58, 50]⟩) ++ d) ++ ⟨#[59, 88, 58, 51]⟩) ++ d) ++ ⟨#[59, 89, 58, 36, 88, 59, 68, 58, 52]⟩) ++ d) ++ ⟨#[59, 69, 58, 36, 88, 59, 67, 58, 36, 89, 125]⟩
theorem heirs_size : ∀ k, k < 90 → (heirsT k).size ≤ maxLen := by decide +kernel
theorem heirs_any (hP : DocOK DS) (w : World) (a0 : Option Addr) (len cap : Nat) (K X Y Z : Nat → Int) (hs : Sc w a0 len K X Y Z) (hl : len ≤ 4611686018427387903) (v : Int) (hv : Fit v) :
    Calls Tryz.prog 7 #[.slice a0 len cap, .int .i64 v] w fun e w' => e = .returned (.bool true) ∧ Below w.heap.size w w' := by
  have HP : Hid (DocOK DS) := hP
  have HS : Hid (Sc w a0 len K X Y Z) := hs
  have HPC : Hid (∀ W, Calls Tryz.prog 17 #[.int .i64 v, .int .i64 90] W fun e w' => e = .returned (.int .i64 ((pickZ v 90 : Nat) : Int)) ∧ w' = W) := fun W => kpick_any W v 90 hv (by decide) (by decide)
  have hk : pickZ v 90 < 90 := pickZ_lt v (by decide)
  clear hP hs
  generalize pickZ v 90 = k at HPC hk
  have HD1 : Hid (∀ W, Calls Tryz.prog 18 #[.int .i64 (1 + (k : Int) / 10)] W fun e w' => e = .returned (.string (digB (1 + k / 10))) ∧ Below W.heap.size W w') := fun W => by
    have := kdigit_any W (1 + k / 10) (by omega)
    rwa [show ((1 + k / 10 : Nat) : Int) = 1 + (k : Int) / 10 from by omega] at this
  have HD2 : Hid (∀ W, Calls Tryz.prog 18 #[.int .i64 ((k : Int) % 10)] W fun e w' => e = .returned (.string (digB (k % 10))) ∧ Below W.heap.size W w') := fun W => by
    have := kdigit_any W (k % 10) (by omega)
    rwa [show ((k % 10 : Nat) : Int) = (k : Int) % 10 from by omega] at this
  have HPL : Hid (∀ W, Calls Tryz.prog 19 #[.string (heirsT k), .int .i64 0] W fun e w' => KPlantPost DS W 0 [heirsU k] e w') := fun W => by
    have := kplant_any HP.out W (heirsT k) 0 (by omega) (heirs_size k hk) (heirs_chk k hk)
    rwa [heirs_rules k hk] at this
  go_enter Tryz.func7, Tryz.ntmps7
  go_wp2_with fail
  refine (khead_any HP.out w).mono ?_
  rintro e w1 ⟨rfl, hB1⟩
  have HB1 : Hid (Below w.heap.size w w1) := hB1
  clear hB1
  go_wp2_with fail
  refine (HPC.out _).mono ?_
  rintro e w2 ⟨rfl, rfl⟩
  go_wp2_with fail
  refine (HD1.out _).mono ?_
  rintro e w3 ⟨rfl, hB3⟩
  have HB3 : Hid (Below w.heap.size w w3) := HB1.out.trans (hB3.mono HB1.out.size)
  clear hB3
  go_wp2_with fail
  refine (HD2.out _).mono ?_
  rintro e w4 ⟨rfl, hB4⟩
  have HB4 : Hid (Below w.heap.size w w4) := HB3.out.trans (hB4.mono HB3.out.size)
  clear hB4
  go_upto_region 4 with fail
  have hd2 : (digB (1 + k / 10) ++ digB (k % 10)).size = 2 := rfl
  have HPL2 : Hid (∀ W, Calls Tryz.prog 19 #[.string (heirsX (digB (1 + k / 10) ++ digB (k % 10))), .int .i64 0] W fun e w' => KPlantPost DS W 0 [heirsU k] e w') := HPL.out
  generalize digB (1 + k / 10) ++ digB (k % 10) = d at hd2 HPL2 ⊢
  have t1 : ((⟨#[35, 122, 123, 65, 58]⟩ : ByteArray) ++ d).size = 7 := by rw [ByteArray.size_append, hd2]; rfl
  have t2 : ((⟨#[35, 122, 123, 65, 58]⟩ : ByteArray) ++ d ++ ⟨#[59, 66, 58, 50]⟩).size = 11 := by rw [ByteArray.size_append, t1]; rfl
  have t3 : ((⟨#[35, 122, 123, 65, 58]⟩ : ByteArray) ++ d ++ ⟨#[59, 66, 58, 50]⟩ ++ d).size = 13 := by rw [ByteArray.size_append, t2, hd2]
  have t4 : ((⟨#[35, 122, 123, 65, 58]⟩ : ByteArray) ++ d ++ ⟨#[59, 66, 58, 50]⟩ ++ d ++ ⟨#[59, 88, 58, 51]⟩).size = 17 := by rw [ByteArray.size_append, t3]; rfl
  have t5 : ((⟨#[35, 122, 123, 65, 58]⟩ : ByteArray) ++ d ++ ⟨#[59, 66, 58, 50]⟩ ++ d ++ ⟨#[59, 88, 58, 51]⟩ ++ d).size = 19 := by rw [ByteArray.size_append, t4, hd2]
  have t6 : ((⟨#[35, 122, 123, 65, 58]⟩ : ByteArray) ++ d ++ ⟨#[59, 66, 58, 50]⟩ ++ d ++ ⟨#[59, 88, 58, 51]⟩ ++ d ++ ⟨#[59, 89, 58, 36, 88, 59, 68, 58, 52]⟩).size = 28 := by rw [ByteArray.size_append, t5]; rfl
  have t7 : ((⟨#[35, 122, 123, 65, 58]⟩ : ByteArray) ++ d ++ ⟨#[59, 66, 58, 50]⟩ ++ d ++ ⟨#[59, 88, 58, 51]⟩ ++ d ++ ⟨#[59, 89, 58, 36, 88, 59, 68, 58, 52]⟩ ++ d).size = 30 := by rw [ByteArray.size_append, t6, hd2]
  go_wp2_with fail
  refine (HPL2.out _).mono ?_
  rintro e w5 ⟨g, px, vl, n0, Fg, Fx, rfl, hgd, hin, hB5⟩
  have HGD : Hid (GD DS w5 g px vl 1 0 [rootN n0 0] [heirsU k] Fg Fx ∧ (∀ k, Fg k ∨ Fx k → w.heap.size ≤ k) ∧ Below w.heap.size w w5) := ⟨hgd, fun k hk => Nat.le_trans HB4.out.size (hin k hk), HB4.out.trans (hB5.mono HB4.out.size)⟩
  clear hgd hin hB5
  go_wp2_with fail
  refine (kgrow_sc HP.out w5 g px vl 1 0 [rootN n0 0] [heirsU k] Fg Fx HGD.out.1 7 (by decide) (by decide) a0 len cap K X Y Z HS.out HGD.out.2.2 HGD.out.2.1 (by omega)).mono ?_
  rintro e w6 ⟨rfl, vl1, ns, Fg1, Fx1, hS, hgd, hin, hfr⟩
  have HNM : Hid (NamOK (ns.map GN.pl)) := by
    unfold Hid
    rw [← hS]
    exact nam_grow 7 K X Y Z _ 1 nam_root len
  generalize (growS 0 7 K X Y Z ([rootN n0 0].map GN.pl) 1 len).2 = made at hgd
  have HGD6 : Hid (GD DS w6 g px vl1 made 0 ns [heirsU k] Fg1 Fx1 ∧ (∀ k, Fg1 k ∨ Fx1 k → w.heap.size ≤ k) ∧ Below w.heap.size w w6) := ⟨hgd, fun k hk => (hin k hk).elim (HGD.out.2.1 k) (fun h => Nat.le_trans HGD.out.2.2.size h), HGD.out.2.2.trans (below_fr hfr HGD.out.2.2.size HGD.out.2.1)⟩
  obtain ⟨pa, rfl⟩ := HP.out.ptr hgd.ds
  have c0 := cell_of_blk hgd.gr.blk (k := 0) rfl
  have hgl := hgd.gr.lt
  clear hS hgd hin hfr
  have HZR : Hid (namErr (treeS (ns.map GN.pl)) 0 ⟨#[122]⟩ = 0) := by
    obtain ⟨l0, hl0⟩ := HGD6.out.1.pw.tw.root
    unfold Hid namErr
    rw [show tFind (treeS (ns.map GN.pl)) 0 = some l0 from tFind_mem HGD6.out.1.pw.tw.nums hl0]
    show (if (⟨#[122]⟩ : ByteArray).size ≠ 0 ∧ isLetter (⟨#[122]⟩ : ByteArray) = false then (4 : Int) else 0) = 0
    decide
  go_wp2_with fail
  refine (HP.out.nam _ (.pointer (some pa)) (treeS (ns.map GN.pl)) made (mOf 0 (ns.map GN.pl)) [heirsU k] Fx1 0 ⟨#[122]⟩ HGD6.out.1.ds).mono ?_
  rw [HZR.out]
  rintro e w7 ⟨y, rfl, rfl, hds, hfr⟩
  have HGM : Hid (∃ Fx', GDM DS w7 g (.pointer (some pa)) vl1 made 0 (zM (ns.map GN.pl)) ns [heirsU k] Fg1 Fx' ∧ (∀ k, Fg1 k ∨ Fx' k → w.heap.size ≤ k) ∧ Below w.heap.size w w7) := by
    have hG := HGD6.out.1
    refine ⟨fun k => More Fx1 w6 k ∧ k < w7.heap.size, ⟨hG.doc hfr, hG.pw, HP.out.here hds, hG.inb, hG.inn, hG.inl, hG.ink, fun k hk hx => ?_, fun k hk => ?_⟩, fun k hk => ?_, HGD6.out.2.2.trans (below_fr hfr HGD6.out.2.2.size (fun k hk => HGD6.out.2.1 k (Or.inr hk)))⟩
    · rcases hx.1 with h1 | h1
      · exact hG.gx k hk h1
      · have := hG.here k (Or.inl hk); omega
    · rcases hk with hk | hk
      · have := hG.here k (Or.inl hk); have := hfr.size; omega
      · exact hk.2
    · rcases hk with hk | hk
      · exact HGD6.out.2.1 k (Or.inl hk)
      · rcases hk.1 with h1 | h1
        · exact HGD6.out.2.1 k (Or.inr h1)
        · exact Nat.le_trans HGD6.out.2.2.size h1
  have HVAL : Hid (∀ n ∈ ns, (n.par < 0 ↔ n.num = 0) ∧ ∀ p, valS (zM (ns.map GN.pl)) (ns.map GN.pl) [heirsU k] n.num p = (if n.num = 0 then rootV k else restV k).getD p 0) := fun n hn => by
    have hG := HGD6.out.1
    have hm : n.pl ∈ ns.map GN.pl := List.mem_map.2 ⟨n, hn, rfl⟩
    have hz := hG.pw.tw.par_neg (mem_treeS hm)
    have hp := hG.pw.par n.pl hm
    refine ⟨?_, fun p => ?_⟩
    · rw [show n.par = tPar (treeS (ns.map GN.pl)) n.pl.num from hp]
      exact hz
    · unfold valS
      rw [heirs_val (k := n.num) hG.pw.tw (zM_root _) (zM_rest hG.pw HNM.out) hk (mem_treeS hm)]
  obtain ⟨hln0, hln⟩ := HGD6.out.1.len
  obtain ⟨ag, cg, hvl⟩ := own_shape HGD6.out.1.gr.row
  subst hvl
  clear hds hfr HGD6 HGD c0 hgl HNM HZR
  go_wp2_with fail
  go_loopg [11] ns.length (fun gk iv wr => ∃ i : Nat, iv = .int .i64 i ∧ i ≤ ns.length ∧ ns.length - i ≤ gk ∧ Hid (∃ Fx', GDM DS wr g (.pointer (some pa)) (.slice ag ns.length cg) made 0 (zM (ns.map GN.pl)) ns [heirsU k] Fg1 Fx' ∧ (∀ k, Fg1 k ∨ Fx' k → w.heap.size ≤ k) ∧ Below w.heap.size w wr))
  case atStart => exact ⟨0, rfl, Nat.zero_le _, by omega, HGM⟩
  case round =>
    obtain ⟨i, rfl, hi, hgk, HI⟩ := hrel
    obtain ⟨Fx2, hgm, hin, hB⟩ := HI.out
    have HG : Hid (GDM DS wr g (.pointer (some pa)) (.slice ag ns.length cg) made 0 (zM (ns.map GN.pl)) ns [heirsU k] Fg1 Fx2 ∧ (∀ k, Fg1 k ∨ Fx2 k → w.heap.size ≤ k) ∧ Below w.heap.size w wr) := ⟨hgm, hin, hB⟩
    have u1 := hgm.gr.c1
    have hgl := hgm.gr.lt
    clear hgm hin hB HI
    by_cases hlt : i < ns.length
    · have hd : decide ((i : Int) < (ns.length : Int)) = true := by simp; omega
      have hii : (i : Int) < (ns.length : Int) := by omega
      obtain ⟨r, hr, hrl, q2, _, _⟩ := HG.out.1.gr.at' hlt
      subst hr
      have HMX : Hid (ns[i] ∈ ns) := List.getElem_mem hlt
      obtain ⟨n, hni⟩ : ∃ n, ns[i] = n := ⟨_, rfl⟩
      have HNI : Hid (ns[i] = n) := hni
      rw [hni] at q2 HMX
      clear hni
      obtain ⟨n0', n1, _, _, _, hnb⟩ := node_cells (HG.out.1.gr.nd n HMX.out)
      obtain ⟨hpar, hval⟩ := HVAL.out n HMX.out
      have HV : Hid (∀ p, valS (zM (ns.map GN.pl)) (ns.map GN.pl) [heirsU k] n.num p = (if n.num = 0 then rootV k else restV k).getD p 0) := hval
      by_cases hnp : n.par < 0
      · have gp : decide (n.par < 0) = true := by simpa using hnp
        have HN0 : Hid (n.num = 0) := hpar.1 hnp
        clear hpar hval hnp
        go_upto_region 19 with fail
        have HW2 : Hid (Below wr.heap.size wr (wr.alloc (.cells #[.int .i64 (10 + (k : Int)), .int .i64 (200 + (10 + (k : Int))), .int .i64 (300 + (10 + (k : Int))), .int .i64 (400 + (10 + (k : Int))), .int .i64 (300 + (10 + (k : Int))), .int .i64 (6), .int .i64 (300 + (10 + (k : Int))), .int .i64 (300 + (10 + (k : Int))), .int .i64 (0)] 38)) ∧ (wr.alloc (.cells #[.int .i64 (10 + (k : Int)), .int .i64 (200 + (10 + (k : Int))), .int .i64 (300 + (10 + (k : Int))), .int .i64 (400 + (10 + (k : Int))), .int .i64 (300 + (10 + (k : Int))), .int .i64 (6), .int .i64 (300 + (10 + (k : Int))), .int .i64 (300 + (10 + (k : Int))), .int .i64 (0)] 38)).heap[wr.heap.size]? = some (.cells #[.int .i64 (10 + (k : Int)), .int .i64 (200 + (10 + (k : Int))), .int .i64 (300 + (10 + (k : Int))), .int .i64 (400 + (10 + (k : Int))), .int .i64 (300 + (10 + (k : Int))), .int .i64 (6), .int .i64 (300 + (10 + (k : Int))), .int .i64 (300 + (10 + (k : Int))), .int .i64 (0)] 38)) := ⟨(Below.refl _ _).alloc (Nat.le_refl _) _, heap_alloc_new wr _⟩
        generalize wr.alloc (.cells #[.int .i64 (10 + (k : Int)), .int .i64 (200 + (10 + (k : Int))), .int .i64 (300 + (10 + (k : Int))), .int .i64 (400 + (10 + (k : Int))), .int .i64 (300 + (10 + (k : Int))), .int .i64 (6), .int .i64 (300 + (10 + (k : Int))), .int .i64 (300 + (10 + (k : Int))), .int .i64 (0)] 38) = W2 at HW2 ⊢
        have HG2 : Hid (GDM DS W2 g (.pointer (some pa)) (.slice (some ⟨r, 0, none⟩) ns.length cg) made 0 (zM (ns.map GN.pl)) ns [heirsU k] Fg1 Fx2) := HG.out.1.below HP.out HW2.out.1
        clear u1 q2 n0' n1 hgl hrl hnb
        have u1 := HG2.out.gr.c1
        have hgl := HG2.out.gr.lt
        obtain ⟨r2, hr2, hrl, q2, _, _⟩ := HG2.out.gr.at' hlt
        injection hr2 with hr2
        injection hr2 with hr2 _ _
        subst hr2
        rw [HNI.out] at q2
        obtain ⟨n0', _, _, _, _, hnb⟩ := node_cells (HG2.out.gr.nd n HMX.out)
        have HEQ : Hid (∀ p, p < 9 → valS (zM (ns.map GN.pl)) (ns.map GN.pl) [heirsU k] n.num p = [10 + (k : Int), 200 + (10 + (k : Int)), 300 + (10 + (k : Int)), 400 + (10 + (k : Int)), 300 + (10 + (k : Int)), 6, 300 + (10 + (k : Int)), 300 + (10 + (k : Int)), 0].getD p 0) := fun p hp => by
          rw [HV.out p, if_pos HN0.out]
          have e : ∀ a : Int, a + (10 + (k : Int)) = (a + 10) + k := fun a => by omega
          rw [e 200, e 300, e 400]
          rfl
        generalize HVV : valS (zM (ns.map GN.pl)) (ns.map GN.pl) [heirsU k] n.num = VV at HEQ
        clear HV
        go_wp2_with fail
        refine (kall_any HP.out W2 g (.pointer (some pa)) (.slice (some ⟨r, 0, none⟩) ns.length cg) made 0 (zM (ns.map GN.pl)) ns [heirsU k] Fg1 Fx2 HG2.out n HMX.out).mono ?_
        rw [HVV]
        unfold KAllPost nineV
        rintro e w8 ⟨rfl, Fx3, hgd3, hin3, hfr3⟩
        have hW8 : w8.heap[wr.heap.size]? = some (.cells #[.int .i64 (10 + (k : Int)), .int .i64 (200 + (10 + (k : Int))), .int .i64 (300 + (10 + (k : Int))), .int .i64 (400 + (10 + (k : Int))), .int .i64 (300 + (10 + (k : Int))), .int .i64 (6), .int .i64 (300 + (10 + (k : Int))), .int .i64 (300 + (10 + (k : Int))), .int .i64 (0)] 38) := (hfr3.block wr.heap.size (Array.getElem?_eq_some_iff.1 HW2.out.2).1 (fun hx => Nat.lt_irrefl _ (HG.out.1.here _ (Or.inr hx)))).trans HW2.out.2
        have y0 : w8.cell? ⟨wr.heap.size, 0, none⟩ = some (.int .i64 (10 + (k : Int))) := cell_of_blk hW8 rfl
        have y1 : w8.cell? ⟨wr.heap.size, 1, none⟩ = some (.int .i64 (200 + (10 + (k : Int)))) := cell_of_blk hW8 rfl
        have y2 : w8.cell? ⟨wr.heap.size, 2, none⟩ = some (.int .i64 (300 + (10 + (k : Int)))) := cell_of_blk hW8 rfl
        have y3 : w8.cell? ⟨wr.heap.size, 3, none⟩ = some (.int .i64 (400 + (10 + (k : Int)))) := cell_of_blk hW8 rfl
        have y4 : w8.cell? ⟨wr.heap.size, 4, none⟩ = some (.int .i64 (300 + (10 + (k : Int)))) := cell_of_blk hW8 rfl
        have y5 : w8.cell? ⟨wr.heap.size, 5, none⟩ = some (.int .i64 (6)) := cell_of_blk hW8 rfl
        have y6 : w8.cell? ⟨wr.heap.size, 6, none⟩ = some (.int .i64 (300 + (10 + (k : Int)))) := cell_of_blk hW8 rfl
        have y7 : w8.cell? ⟨wr.heap.size, 7, none⟩ = some (.int .i64 (300 + (10 + (k : Int)))) := cell_of_blk hW8 rfl
        have y8 : w8.cell? ⟨wr.heap.size, 8, none⟩ = some (.int .i64 (0)) := cell_of_blk hW8 rfl
        have hl8 : wr.heap.size < w8.heap.size := (Array.getElem?_eq_some_iff.1 hW8).1
        have HSM : Hid (∀ W, Calls Tryz.prog 23 #[.agg #[.int .i64 (VV 0), .int .i64 (VV 1), .int .i64 (VV 2), .int .i64 (VV 3), .int .i64 (VV 4), .int .i64 (VV 5), .int .i64 (VV 6), .int .i64 (VV 7), .int .i64 (VV 8)], .agg #[.int .i64 (10 + (k : Int)), .int .i64 (200 + (10 + (k : Int))), .int .i64 (300 + (10 + (k : Int))), .int .i64 (400 + (10 + (k : Int))), .int .i64 (300 + (10 + (k : Int))), .int .i64 (6), .int .i64 (300 + (10 + (k : Int))), .int .i64 (300 + (10 + (k : Int))), .int .i64 (0)]] W fun e w' => e = .returned (.bool true) ∧ Below W.heap.size W w') := fun W => ksame_any W VV (fun p => [10 + (k : Int), 200 + (10 + (k : Int)), 300 + (10 + (k : Int)), 400 + (10 + (k : Int)), 300 + (10 + (k : Int)), 6, 300 + (10 + (k : Int)), 300 + (10 + (k : Int)), 0].getD p 0) HEQ.out
        have HB2 : Hid (Below w.heap.size w W2) := HG.out.2.2.trans (HW2.out.1.mono HG.out.2.2.size)
        have HB8 : Hid (Below w.heap.size w w8) := HB2.out.trans (below_fr hfr3 HB2.out.size (fun j hj => HG.out.2.1 j (Or.inr hj)))
        have HG8 : Hid (GDM DS w8 g (.pointer (some pa)) (.slice (some ⟨r, 0, none⟩) ns.length cg) made 0 (zM (ns.map GN.pl)) ns [heirsU k] Fg1 Fx3 ∧ ∀ j, Fg1 j ∨ Fx3 j → w.heap.size ≤ j) := ⟨hgd3, fun j hj => hj.elim (fun h => HG.out.2.1 j (Or.inl h)) (fun h => (hin3 j h).elim (fun h => HG.out.2.1 j (Or.inr h)) (fun h => Nat.le_trans HB2.out.size h))⟩
        clear hgd3 hin3 hfr3 hW8 HEQ HVV u1 hgl q2 n0' hnb hrl HG2 HW2
        go_wp2_with fail
        refine (HSM.out _).mono ?_
        rintro e w9 ⟨rfl, hB9⟩
        have HB9 : Hid (Below w8.heap.size w8 w9) := ((Below.refl _ _).alloc (Nat.le_refl _) (.cells #[.int .i64 (VV 0), .int .i64 (VV 1), .int .i64 (VV 2), .int .i64 (VV 3), .int .i64 (VV 4), .int .i64 (VV 5), .int .i64 (VV 6), .int .i64 (VV 7), .int .i64 (VV 8)] 38)).trans (hB9.mono (by simp))
        have HI9 : Hid (∃ Fx', GDM DS w9 g (.pointer (some pa)) (.slice (some ⟨r, 0, none⟩) ns.length cg) made 0 (zM (ns.map GN.pl)) ns [heirsU k] Fg1 Fx' ∧ (∀ k, Fg1 k ∨ Fx' k → w.heap.size ≤ k) ∧ Below w.heap.size w w9) := ⟨Fx3, HG8.out.1.below HP.out HB9.out, HG8.out.2, HB8.out.trans (HB9.out.mono HB8.out.size)⟩
        clear hB9 HG HG8 y0 y1 y2 y3 y4 y5 y6 y7 y8 hl8
        go_wp2
        go_roundg (ns.length - (i + 1))
        case measure => omega
        case rel => exact ⟨i + 1, by go_num, by omega, Nat.le_refl _, HI9⟩
      · have gp : decide (n.par < 0) = false := by simpa using hnp
        have HN0 : Hid (n.num ≠ 0) := fun h => hnp (hpar.2 h)
        clear hpar hval hnp
        go_upto_region 19 with fail
        have HW2 : Hid (Below wr.heap.size wr (wr.alloc (.cells #[.int .i64 (10 + (k : Int)), .int .i64 (200 + (10 + (k : Int))), .int .i64 (300 + (10 + (k : Int))), .int .i64 (4), .int .i64 (5), .int .i64 (6), .int .i64 (300 + (10 + (k : Int))), .int .i64 (300 + (10 + (k : Int))), .int .i64 (0)] 38)) ∧ (wr.alloc (.cells #[.int .i64 (10 + (k : Int)), .int .i64 (200 + (10 + (k : Int))), .int .i64 (300 + (10 + (k : Int))), .int .i64 (4), .int .i64 (5), .int .i64 (6), .int .i64 (300 + (10 + (k : Int))), .int .i64 (300 + (10 + (k : Int))), .int .i64 (0)] 38)).heap[wr.heap.size]? = some (.cells #[.int .i64 (10 + (k : Int)), .int .i64 (200 + (10 + (k : Int))), .int .i64 (300 + (10 + (k : Int))), .int .i64 (4), .int .i64 (5), .int .i64 (6), .int .i64 (300 + (10 + (k : Int))), .int .i64 (300 + (10 + (k : Int))), .int .i64 (0)] 38)) := ⟨(Below.refl _ _).alloc (Nat.le_refl _) _, heap_alloc_new wr _⟩
        generalize wr.alloc (.cells #[.int .i64 (10 + (k : Int)), .int .i64 (200 + (10 + (k : Int))), .int .i64 (300 + (10 + (k : Int))), .int .i64 (4), .int .i64 (5), .int .i64 (6), .int .i64 (300 + (10 + (k : Int))), .int .i64 (300 + (10 + (k : Int))), .int .i64 (0)] 38) = W2 at HW2 ⊢
        have HG2 : Hid (GDM DS W2 g (.pointer (some pa)) (.slice (some ⟨r, 0, none⟩) ns.length cg) made 0 (zM (ns.map GN.pl)) ns [heirsU k] Fg1 Fx2) := HG.out.1.below HP.out HW2.out.1
        clear u1 q2 n0' n1 hgl hrl hnb
        have u1 := HG2.out.gr.c1
        have hgl := HG2.out.gr.lt
        obtain ⟨r2, hr2, hrl, q2, _, _⟩ := HG2.out.gr.at' hlt
        injection hr2 with hr2
        injection hr2 with hr2 _ _
        subst hr2
        rw [HNI.out] at q2
        obtain ⟨n0', _, _, _, _, hnb⟩ := node_cells (HG2.out.gr.nd n HMX.out)
        have HEQ : Hid (∀ p, p < 9 → valS (zM (ns.map GN.pl)) (ns.map GN.pl) [heirsU k] n.num p = [10 + (k : Int), 200 + (10 + (k : Int)), 300 + (10 + (k : Int)), 4, 5, 6, 300 + (10 + (k : Int)), 300 + (10 + (k : Int)), 0].getD p 0) := fun p hp => by
          rw [HV.out p, if_neg HN0.out]
          have e : ∀ a : Int, a + (10 + (k : Int)) = (a + 10) + k := fun a => by omega
          rw [e 200, e 300]
          rfl
        generalize HVV : valS (zM (ns.map GN.pl)) (ns.map GN.pl) [heirsU k] n.num = VV at HEQ
        clear HV
        go_wp2_with fail
        refine (kall_any HP.out W2 g (.pointer (some pa)) (.slice (some ⟨r, 0, none⟩) ns.length cg) made 0 (zM (ns.map GN.pl)) ns [heirsU k] Fg1 Fx2 HG2.out n HMX.out).mono ?_
        rw [HVV]
        unfold KAllPost nineV
        rintro e w8 ⟨rfl, Fx3, hgd3, hin3, hfr3⟩
        have hW8 : w8.heap[wr.heap.size]? = some (.cells #[.int .i64 (10 + (k : Int)), .int .i64 (200 + (10 + (k : Int))), .int .i64 (300 + (10 + (k : Int))), .int .i64 (4), .int .i64 (5), .int .i64 (6), .int .i64 (300 + (10 + (k : Int))), .int .i64 (300 + (10 + (k : Int))), .int .i64 (0)] 38) := (hfr3.block wr.heap.size (Array.getElem?_eq_some_iff.1 HW2.out.2).1 (fun hx => Nat.lt_irrefl _ (HG.out.1.here _ (Or.inr hx)))).trans HW2.out.2
        have y0 : w8.cell? ⟨wr.heap.size, 0, none⟩ = some (.int .i64 (10 + (k : Int))) := cell_of_blk hW8 rfl
        have y1 : w8.cell? ⟨wr.heap.size, 1, none⟩ = some (.int .i64 (200 + (10 + (k : Int)))) := cell_of_blk hW8 rfl
        have y2 : w8.cell? ⟨wr.heap.size, 2, none⟩ = some (.int .i64 (300 + (10 + (k : Int)))) := cell_of_blk hW8 rfl
        have y3 : w8.cell? ⟨wr.heap.size, 3, none⟩ = some (.int .i64 (4)) := cell_of_blk hW8 rfl
        have y4 : w8.cell? ⟨wr.heap.size, 4, none⟩ = some (.int .i64 (5)) := cell_of_blk hW8 rfl
        have y5 : w8.cell? ⟨wr.heap.size, 5, none⟩ = some (.int .i64 (6)) := cell_of_blk hW8 rfl
        have y6 : w8.cell? ⟨wr.heap.size, 6, none⟩ = some (.int .i64 (300 + (10 + (k : Int)))) := cell_of_blk hW8 rfl
        have y7 : w8.cell? ⟨wr.heap.size, 7, none⟩ = some (.int .i64 (300 + (10 + (k : Int)))) := cell_of_blk hW8 rfl
        have y8 : w8.cell? ⟨wr.heap.size, 8, none⟩ = some (.int .i64 (0)) := cell_of_blk hW8 rfl
        have hl8 : wr.heap.size < w8.heap.size := (Array.getElem?_eq_some_iff.1 hW8).1
        have HSM : Hid (∀ W, Calls Tryz.prog 23 #[.agg #[.int .i64 (VV 0), .int .i64 (VV 1), .int .i64 (VV 2), .int .i64 (VV 3), .int .i64 (VV 4), .int .i64 (VV 5), .int .i64 (VV 6), .int .i64 (VV 7), .int .i64 (VV 8)], .agg #[.int .i64 (10 + (k : Int)), .int .i64 (200 + (10 + (k : Int))), .int .i64 (300 + (10 + (k : Int))), .int .i64 (4), .int .i64 (5), .int .i64 (6), .int .i64 (300 + (10 + (k : Int))), .int .i64 (300 + (10 + (k : Int))), .int .i64 (0)]] W fun e w' => e = .returned (.bool true) ∧ Below W.heap.size W w') := fun W => ksame_any W VV (fun p => [10 + (k : Int), 200 + (10 + (k : Int)), 300 + (10 + (k : Int)), 4, 5, 6, 300 + (10 + (k : Int)), 300 + (10 + (k : Int)), 0].getD p 0) HEQ.out
        have HB2 : Hid (Below w.heap.size w W2) := HG.out.2.2.trans (HW2.out.1.mono HG.out.2.2.size)
        have HB8 : Hid (Below w.heap.size w w8) := HB2.out.trans (below_fr hfr3 HB2.out.size (fun j hj => HG.out.2.1 j (Or.inr hj)))
        have HG8 : Hid (GDM DS w8 g (.pointer (some pa)) (.slice (some ⟨r, 0, none⟩) ns.length cg) made 0 (zM (ns.map GN.pl)) ns [heirsU k] Fg1 Fx3 ∧ ∀ j, Fg1 j ∨ Fx3 j → w.heap.size ≤ j) := ⟨hgd3, fun j hj => hj.elim (fun h => HG.out.2.1 j (Or.inl h)) (fun h => (hin3 j h).elim (fun h => HG.out.2.1 j (Or.inr h)) (fun h => Nat.le_trans HB2.out.size h))⟩
        clear hgd3 hin3 hfr3 hW8 HEQ HVV u1 hgl q2 n0' hnb hrl HG2 HW2
        go_wp2_with fail
        refine (HSM.out _).mono ?_
        rintro e w9 ⟨rfl, hB9⟩
        have HB9 : Hid (Below w8.heap.size w8 w9) := ((Below.refl _ _).alloc (Nat.le_refl _) (.cells #[.int .i64 (VV 0), .int .i64 (VV 1), .int .i64 (VV 2), .int .i64 (VV 3), .int .i64 (VV 4), .int .i64 (VV 5), .int .i64 (VV 6), .int .i64 (VV 7), .int .i64 (VV 8)] 38)).trans (hB9.mono (by simp))
        have HI9 : Hid (∃ Fx', GDM DS w9 g (.pointer (some pa)) (.slice (some ⟨r, 0, none⟩) ns.length cg) made 0 (zM (ns.map GN.pl)) ns [heirsU k] Fg1 Fx' ∧ (∀ k, Fg1 k ∨ Fx' k → w.heap.size ≤ k) ∧ Below w.heap.size w w9) := ⟨Fx3, HG8.out.1.below HP.out HB9.out, HG8.out.2, HB8.out.trans (HB9.out.mono HB8.out.size)⟩
        clear hB9 HG HG8 y0 y1 y2 y3 y4 y5 y6 y7 y8 hl8
        go_wp2
        go_roundg (ns.length - (i + 1))
        case measure => omega
        case rel => exact ⟨i + 1, by go_num, by omega, Nat.le_refl _, HI9⟩
    · have hd : decide ((i : Int) < (ns.length : Int)) = false := by simp; omega
      go_wp2
      go_ret
      exact ⟨rfl, HG.out.2.2⟩
end
end Go.Proofs.YtblfffbmklkhmaaGreat

namespace Go.Proofs.YtblfffbmklkhmaaGreat
open Go.ChangeShapes Go.WideShapes Go.ChangeAt Go.RowKit
theorem Tryz.own : ownKnob Tryz.prog.godebug = none := by kernel_rfl
theorem Tryz.laidOut : laidOutB Tryz.prog = true := by kernel_rfl
theorem Tryz.cells3 : Tryz.prog.cellsOf 3 = 1 := by kernel_rfl
end Go.Proofs.YtblfffbmklkhmaaGreat

namespace Go.Proofs.YtblfffbmklkhmaaGreat
open Go.ChangeShapes Go.WideShapes Go.ChangeAt Go.RowKit
theorem Tryz.cells78 : Tryz.prog.cellsOf 78 = 4 := by kernel_rfl
theorem four {α : Type} (l : List α) (h : l.length = 4) : ∃ a b c d, l = [a, b, c, d] := by
  match l, h with
  | [a, b, c, d], _ => exact ⟨a, b, c, d, rfl⟩
theorem fit_wf {n : Int} (h : (Lit.int .i64 n).wf = true) : Fit n := by
  have h2 : IntKind.i64.min ≤ n ∧ n ≤ IntKind.i64.max := by simpa [Lit.wf] using h
  exact h2
theorem open_steps {H : Type} {enc : TypeId × Value → H} {W : World} {a0 : Option Addr} {len cap fuel : Nat} {x : DataW H × List MemPlace} (h : DataW.trod enc Tryz.prog W 0 (fun _ => true) true fuel 25 [.slice a0 len cap] = some x) :
    ∃ K X Y Z, Sc W a0 len K X Y Z ∧ len ≤ maxLen := by
  rcases Go.Deep.open_slice Tryz.underlying25 h with ⟨hcs, _⟩ | ⟨a, len', cap', m, n, D, Pl, hcs, _, hl, hm, hmm, _, hx⟩
  · simp only [List.cons.injEq, Value.slice.injEq, and_true] at hcs
    exact ⟨fun _ => 0, fun _ => 0, fun _ => 0, fun _ => 0, Or.inl hcs.2.1, by rw [hcs.2.1]; exact Nat.zero_le _⟩
  · simp only [List.cons.injEq, Value.slice.injEq, and_true] at hcs
    obtain ⟨rfl, rfl, rfl⟩ := hcs
    by_cases h0 : len = 0
    · exact ⟨fun _ => 0, fun _ => 0, fun _ => 0, fun _ => 0, Or.inl h0, by rw [h0]; exact Nat.zero_le _⟩
    simp only [if_true] at hmm
    rw [Tryz.cells78] at hx
    have each : ∀ i, i < len → ∃ q : Int × Int × Int × Int,
        W.cell? (a.add (i * 4)) = some (.int .i64 q.1) ∧ W.cell? (a.add (i * 4 + 1)) = some (.int .i64 q.2.1) ∧ W.cell? (a.add (i * 4 + 2)) = some (.int .i64 q.2.2.1) ∧ W.cell? (a.add (i * 4 + 3)) = some (.int .i64 q.2.2.2) ∧ Fit q.2.1 ∧ Fit q.2.2.1 ∧ Fit q.2.2.2 := by
      intro i hi
      obtain ⟨cs', h1, h2⟩ := hx i (by omega)
      obtain ⟨_, hlen, hcell⟩ := World.cells?_some h1
      obtain ⟨xs, k, _, _, _, hxl, hf⟩ := DataW.trod_struct Tryz.underlying78 h2
      obtain ⟨v0, v1, v2, v3, rfl⟩ := four cs' hlen
      obtain ⟨y0, y1, y2, y3, rfl⟩ := four xs (by rw [hxl]; rfl)
      have g0 := hf 0 _ rfl
      have g1 := hf 1 _ rfl
      have g2 := hf 2 _ rfl
      have g3 := hf 3 _ rfl
      simp [Tryz.cells3] at g0 g1 g2 g3
      obtain ⟨n0, e0, _, _⟩ := DataW.trod_int Tryz.underlying3 g0
      obtain ⟨n1, e1, _, f1⟩ := DataW.trod_int Tryz.underlying3 g1
      obtain ⟨n2, e2, _, f2⟩ := DataW.trod_int Tryz.underlying3 g2
      obtain ⟨n3, e3, _, f3⟩ := DataW.trod_int Tryz.underlying3 g3
      simp only [List.cons.injEq, and_true] at e0 e1 e2 e3
      subst e0 e1 e2 e3
      have c0 := hcell 0 (by omega)
      have c1 := hcell 1 (by omega)
      have c2 := hcell 2 (by omega)
      have c3 := hcell 3 (by omega)
      rw [Go.Deep.add_add] at c0 c1 c2 c3
      exact ⟨(n0, n1, n2, n3), by simpa using c0, by simpa using c1, by simpa using c2, by simpa using c3, fit_wf f1, fit_wf f2, fit_wf f3⟩
    obtain ⟨q, hq⟩ := Go.Deep.choose_lt each
    obtain ⟨b, off, spot⟩ := a
    have hspot : spot = none := by simpa [Addr.add] using World.cell?_spot (hq 0 (by omega)).1
    subst hspot
    have hlt : b < W.heap.size := by simpa [Addr.add] using World.block_lt_of_cell? W _ (hq 0 (by omega)).1
    refine ⟨fun i => (q i).1, fun i => (q i).2.1, fun i => (q i).2.2.1, fun i => (q i).2.2.2, Or.inr ⟨b, off, rfl, ⟨?_, ?_, ?_, ?_, fun i hi => (hq i hi).2.2.2.2, hlt⟩⟩, by omega⟩
    all_goals intro i hi
    · have := (hq i hi).1; rw [Go.WideShapes.add_plain] at this; exact this
    · have := (hq i hi).2.1; rw [Go.WideShapes.add_plain, ← Nat.add_assoc] at this; exact this
    · have := (hq i hi).2.2.1; rw [Go.WideShapes.add_plain, ← Nat.add_assoc] at this; exact this
    · have := (hq i hi).2.2.2.1; rw [Go.WideShapes.add_plain, ← Nat.add_assoc] at this; exact this
end Go.Proofs.YtblfffbmklkhmaaGreat
