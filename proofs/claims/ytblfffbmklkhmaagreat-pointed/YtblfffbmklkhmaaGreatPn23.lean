/- Own work. -/
import Derived.Test.YtblfffbmklkhmaaGreatPn22
import Derived.Test.YtblfffbmklkhmaaGreatPn15
import Derived.ProofKit
import Derived.Deep.Slices
import Derived.OpenShut
namespace Go.Proofs.YtblfffbmklkhmaaGreat
open Go.RowKit
section
set_option maxRecDepth 100000
set_option maxHeartbeats 1500000
variable {DS : World → Value → Tree → Nat → (Nat → Mk) → List PRu → (Nat → Prop) → Prop}
theorem point_new : ∀ a, a < 5 → ∀ b, b < 5 → newErr (pointX (digB a) (digB b)) (letB 0) = 0 := by decide +kernel
theorem point_size : ∀ a, a < 5 → ∀ b, b < 5 → (pointX (digB a) (digB b)).size ≤ maxLen := by decide +kernel
theorem pointed_any (hP : DocOK DS) (w : World) (a0 : Option Addr) (len cap : Nat) (K X Y Z : Nat → Int) (hs : Sc w a0 len K X Y Z) (hl : len ≤ 4611686018427387903) (vi vj : Int) (hvi : Fit vi) (hvj : Fit vj) :
    Calls Tryz.prog 8 #[.slice a0 len cap, .int .i64 vi, .int .i64 vj] w fun e w' => e = .returned (.bool true) ∧ Below w.heap.size w w' := by
  have HP : Hid (DocOK DS) := hP
  have HS : Hid (Sc w a0 len K X Y Z) := hs
  have HPC : Hid (∀ W, Calls Tryz.prog 17 #[.int .i64 vi, .int .i64 4] W fun e w' => e = .returned (.int .i64 ((pickZ vi 4 : Nat) : Int)) ∧ w' = W) := fun W => kpick_any W vi 4 hvi (by decide) (by decide)
  have HPD : Hid (∀ W, Calls Tryz.prog 17 #[.int .i64 vj, .int .i64 4] W fun e w' => e = .returned (.int .i64 ((pickZ vj 4 : Nat) : Int)) ∧ w' = W) := fun W => kpick_any W vj 4 hvj (by decide) (by decide)
  have hk : pickZ vi 4 < 4 := pickZ_lt vi (by decide)
  have hk2 : pickZ vj 4 < 4 := pickZ_lt vj (by decide)
  clear hP hs
  generalize pickZ vi 4 = a' at HPC hk
  generalize pickZ vj 4 = b' at HPD hk2
  obtain ⟨a, hae⟩ : ∃ a, 1 + a' = a := ⟨_, rfl⟩
  obtain ⟨b, hbe⟩ : ∃ b, 1 + b' = b := ⟨_, rfl⟩
  have ha1 : 1 ≤ a := by omega
  have ha5 : a < 5 := by omega
  have hb1 : 1 ≤ b := by omega
  have hb5 : b < 5 := by omega
  have ea : (1 : Int) + (a' : Int) = (a : Int) := by omega
  have eb : (1 : Int) + (b' : Int) = (b : Int) := by omega
  have HDA : Hid (∀ W, Calls Tryz.prog 18 #[.int .i64 a] W fun e w' => e = .returned (.string (digB a)) ∧ Below W.heap.size W w') := fun W => kdigit_any W a (by omega)
  have HDB : Hid (∀ W, Calls Tryz.prog 18 #[.int .i64 b] W fun e w' => e = .returned (.string (digB b)) ∧ Below W.heap.size W w') := fun W => kdigit_any W b (by omega)
  have HNW : Hid (∀ W, Calls Tryz.prog 24 #[.string (pointX (digB a) (digB b)), .string (letB 0)] W fun e w' => Below W.heap.size W w' ∧ ∃ px, e = .returned (.tuple #[px, .int .i64 0]) ∧ DS w' px [(0, [])] 1 (fun _ => newMk (letB 0)) [pU1 a, pU2 a b] (fun k => W.heap.size ≤ k)) := fun W => (HP.out.new W (pointX (digB a) (digB b)) (letB 0) (point_size a ha5 b hb5)).mono (fun e w' h => by
    obtain ⟨h1, h2 | ⟨_, px, h2, h3⟩⟩ := h
    · exact absurd (point_new a ha5 b hb5) h2.1
    · rw [point_rules a ha5 b hb5] at h3
      exact ⟨h1, px, h2, h3⟩)
  clear hae hbe
  go_enter Tryz.func8, Tryz.ntmps8
  go_wp2_with fail
  refine (khead_any HP.out w).mono ?_
  rintro e w1 ⟨rfl, hB1⟩
  have HB1 : Hid (Below w.heap.size w w1) := hB1
  clear hB1
  go_wp2_with fail
  refine (HPC.out _).mono ?_
  rintro e w2 ⟨rfl, rfl⟩
  go_upto_region 3 with fail
  go_wp2_with fail
  refine (HPD.out _).mono ?_
  rintro e w3 ⟨rfl, rfl⟩
  go_upto_region 4 with fail
  have da1 : (digB a).size = 1 := rfl
  have db1 : (digB b).size = 1 := rfl
  have HNW2 : Hid (∀ W, Calls Tryz.prog 24 #[.string (pointX (digB a) (digB b)), .string (letB 0)] W fun e w' => Below W.heap.size W w' ∧ ∃ px, e = .returned (.tuple #[px, .int .i64 0]) ∧ DS w' px [(0, [])] 1 (fun _ => newMk (letB 0)) [pU1 a, pU2 a b] (fun k => W.heap.size ≤ k)) := HNW.out
  clear HNW
  generalize digB a = da at da1 HNW2 HDA
  generalize digB b = db at db1 HNW2 HDB
  have t1 : ((⟨#[35, 122, 62, 58, 110, 48]⟩ : ByteArray) ++ da).size = 7 := by rw [ByteArray.size_append, da1]; rfl
  have t2 : ((⟨#[35, 122, 62, 58, 110, 48]⟩ : ByteArray) ++ da ++ ⟨#[123, 68, 58, 53, 48, 48, 125, 35, 122, 62, 58, 110, 48]⟩).size = 20 := by rw [ByteArray.size_append, t1]; rfl
  have t3 : ((⟨#[35, 122, 62, 58, 110, 48]⟩ : ByteArray) ++ da ++ ⟨#[123, 68, 58, 53, 48, 48, 125, 35, 122, 62, 58, 110, 48]⟩ ++ da).size = 21 := by rw [ByteArray.size_append, t2, da1]
  have t4 : ((⟨#[35, 122, 62, 58, 110, 48]⟩ : ByteArray) ++ da ++ ⟨#[123, 68, 58, 53, 48, 48, 125, 35, 122, 62, 58, 110, 48]⟩ ++ da ++ ⟨#[62, 58, 110, 48]⟩).size = 25 := by rw [ByteArray.size_append, t3]; rfl
  have t5 : ((⟨#[35, 122, 62, 58, 110, 48]⟩ : ByteArray) ++ da ++ ⟨#[123, 68, 58, 53, 48, 48, 125, 35, 122, 62, 58, 110, 48]⟩ ++ da ++ ⟨#[62, 58, 110, 48]⟩ ++ db).size = 26 := by rw [ByteArray.size_append, t4, db1]
  have HLT : Hid (∀ W, Calls Tryz.prog 25 #[.int .i64 0, .int .i64 0] W fun e w' => e = .returned (.string (letB 0)) ∧ Below W.heap.size W w') := fun W => kletter_any (w := W) 0 0 (by omega) (by omega)
  go_wp2_with fail
  refine (HDA.out _).mono ?_
  rintro e w4 ⟨rfl, hB4⟩
  have HB4 : Hid (Below w.heap.size w w4) := HB1.out.trans (hB4.mono HB1.out.size)
  clear hB4
  go_wp2_with fail
  refine (HDA.out _).mono ?_
  rintro e w5 ⟨rfl, hB5⟩
  have HB5 : Hid (Below w.heap.size w w5) := HB4.out.trans (hB5.mono HB4.out.size)
  clear hB5
  go_wp2_with fail
  refine (HDB.out _).mono ?_
  rintro e w6 ⟨rfl, hB6⟩
  have HB6 : Hid (Below w.heap.size w w6) := HB5.out.trans (hB6.mono HB5.out.size)
  clear hB6
  go_wp2_with fail
  refine (HLT.out _).mono ?_
  rintro e w7 ⟨rfl, hB7⟩
  have HB7 : Hid (Below w.heap.size w w7) := HB6.out.trans (hB7.mono HB6.out.size)
  clear hB7
  go_wp2_with fail
  refine (HNW2.out _).mono ?_
  rintro e w8 ⟨hB8, px, rfl, hds⟩
  obtain ⟨pa, rfl⟩ := HP.out.ptr hds
  have HB8 : Hid (Below w.heap.size w w8) := HB7.out.trans (hB8.mono HB7.out.size)
  have HDS : Hid (DS w8 (.pointer (some pa)) [(0, [])] 1 (fun _ => newMk (letB 0)) [pU1 a, pU2 a b] (fun k => w7.heap.size ≤ k)) := hds
  clear hB8 hds
  go_wp2_with fail
  refine (HLT.out _).mono ?_
  rintro e w9 ⟨rfl, hB9⟩
  have HB9 : Hid (Below w.heap.size w w9) := HB8.out.trans (hB9.mono HB8.out.size)
  have HDS9 : Hid (DS w9 (.pointer (some pa)) [(0, [])] 1 (fun _ => newMk (letB 0)) [pU1 a, pU2 a b] (fun k => w7.heap.size ≤ k)) := HP.out.keep HDS.out (fun k _ hl => hB9.block k hl) hB9.size
  clear hB9
  have HGD0 := gd_root HP.out HDS9.out
  go_upto_region 9 with fail
  have HGD : Hid (GD DS (((w9.alloc (rootN w9.heap.size 0).blk).alloc (.cells #[.pointer (some ⟨w9.heap.size, 0, none⟩)] 43)).alloc (.cells #[.pointer (some pa), .slice (some ⟨w9.heap.size + 1, 0, none⟩) 1 1, .int .i64 1, .int .i64 0] 36)) (w9.heap.size + 2) (.pointer (some pa)) (.slice (some ⟨w9.heap.size + 1, 0, none⟩) 1 1) 1 0 [rootN w9.heap.size 0] [pU1 a, pU2 a b] (fun k => w9.heap.size ≤ k ∧ k < w9.heap.size + 3) (fun k => w7.heap.size ≤ k ∧ k < w9.heap.size) ∧ Below w.heap.size w (((w9.alloc (rootN w9.heap.size 0).blk).alloc (.cells #[.pointer (some ⟨w9.heap.size, 0, none⟩)] 43)).alloc (.cells #[.pointer (some pa), .slice (some ⟨w9.heap.size + 1, 0, none⟩) 1 1, .int .i64 1, .int .i64 0] 36))) := ⟨HGD0, ((HB9.out.alloc HB9.out.size _).alloc (by have := HB9.out.size; simp; omega) _).alloc (by have := HB9.out.size; simp; omega) _⟩
  have HFW : Hid (∀ k, (w9.heap.size ≤ k ∧ k < w9.heap.size + 3) ∨ (w7.heap.size ≤ k ∧ k < w9.heap.size) → w.heap.size ≤ k) := fun k hk => by
    have h1 := HB9.out.size
    have h2 := HB7.out.size
    rcases hk with hk | hk
    · have := hk.1; omega
    · have := hk.1; omega
  clear HGD0 HDS HDS9
  go_wp2_with fail
  refine (kgrow_sc HP.out _ (w9.heap.size + 2) (.pointer (some pa)) _ 1 0 [rootN w9.heap.size 0] [pU1 a, pU2 a b] _ _ HGD.out.1 7 (by decide) (by decide) a0 len cap K X Y Z HS.out HGD.out.2 HFW.out (by omega)).mono ?_
  rintro e w10 ⟨rfl, vl1, ns, Fg1, Fx1, hS, hgd, hin, hfr⟩
  have HNM : Hid (NamOK (ns.map GN.pl)) := by
    unfold Hid
    rw [← hS]
    exact nam_grow 7 K X Y Z _ 1 nam_root len
  generalize (growS 0 7 K X Y Z ([rootN w9.heap.size 0].map GN.pl) 1 len).2 = made at hgd
  have HGD6 : Hid (GD DS w10 (w9.heap.size + 2) (.pointer (some pa)) vl1 made 0 ns [pU1 a, pU2 a b] Fg1 Fx1 ∧ (∀ k, Fg1 k ∨ Fx1 k → w.heap.size ≤ k) ∧ Below w.heap.size w w10) := ⟨hgd, fun k hk => (hin k hk).elim (HFW.out k) (fun h => Nat.le_trans HGD.out.2.size h), HGD.out.2.trans (below_fr hfr HGD.out.2.size HFW.out)⟩
  clear hS hgd hin hfr HGD HFW HB9 HB8 HB7 HB6 HB5 HB4 HB1
  generalize w9.heap.size + 2 = g at HGD6 ⊢
  have HZR : Hid (namErr (treeS (ns.map GN.pl)) 0 ⟨#[122]⟩ = 0) := by
    obtain ⟨l0, hl0⟩ := HGD6.out.1.pw.tw.root
    unfold Hid namErr
    rw [show tFind (treeS (ns.map GN.pl)) 0 = some l0 from tFind_mem HGD6.out.1.pw.tw.nums hl0]
    show (if (⟨#[122]⟩ : ByteArray).size ≠ 0 ∧ isLetter (⟨#[122]⟩ : ByteArray) = false then (4 : Int) else 0) = 0
    decide
  go_wp2_with fail
  refine (HP.out.nam _ (.pointer (some pa)) (treeS (ns.map GN.pl)) made (mOf 0 (ns.map GN.pl)) [pU1 a, pU2 a b] Fx1 0 ⟨#[122]⟩ HGD6.out.1.ds).mono ?_
  rw [HZR.out]
  rintro e w11 ⟨y, rfl, rfl, hds, hfr⟩
  have HGM : Hid (∃ Fx', GDM DS w11 g (.pointer (some pa)) vl1 made 0 (zM (ns.map GN.pl)) ns [pU1 a, pU2 a b] Fg1 Fx' ∧ (∀ k, Fg1 k ∨ Fx' k → w.heap.size ≤ k) ∧ Below w.heap.size w w11) := by
    have hG := HGD6.out.1
    refine ⟨fun k => More Fx1 w10 k ∧ k < w11.heap.size, ⟨hG.doc hfr, hG.pw, HP.out.here hds, hG.inb, hG.inn, hG.inl, hG.ink, fun k hk hx => ?_, fun k hk => ?_⟩, fun k hk => ?_, HGD6.out.2.2.trans (below_fr hfr HGD6.out.2.2.size (fun k hk => HGD6.out.2.1 k (Or.inr hk)))⟩
    · rcases hx.1 with h1 | h1
      · exact hG.gx k hk h1
      · have := hG.here k (Or.inl hk); omega
    · rcases hk with hk | hk
      · have := hG.here k (Or.inl hk); have := hfr.size; omega
      · exact hk.2
    · rcases hk with hk | hk
      · exact HGD6.out.2.1 k (Or.inl hk)
      · rcases hk.1 with h1 | h1
        · exact HGD6.out.2.1 k (Or.inr h1)
        · exact Nat.le_trans HGD6.out.2.2.size h1
  have HVAL0 : Hid (∀ n ∈ ns, (valS (zM (ns.map GN.pl)) (ns.map GN.pl) [pU1 a, pU2 a b] n.num 3 == 500) = ((n.num : Int) == oneZ (treeS (ns.map GN.pl)) a) ∧ (valS (zM (ns.map GN.pl)) (ns.map GN.pl) [pU1 a, pU2 a b] n.num 4 == 600) = ((n.num : Int) == twoZ (treeS (ns.map GN.pl)) a b)) := fun n hn => by
    have hG := HGD6.out.1
    exact point_hon (k := n.num) hG.pw.tw (zM_root _) (zM_rest hG.pw HNM.out) ha1 hb1 (mem_treeS (List.mem_map.2 ⟨n, hn, rfl⟩ : n.pl ∈ ns.map GN.pl))
  have HGT : Hid (GT ns (treeS (ns.map GN.pl)) made ∧ ∀ n ∈ ns, kidsOf (treeS (ns.map GN.pl)) n.num = n.kids) := ⟨HGD6.out.1.gt, fun n hn => by
    unfold kidsOf
    rw [show tFind (treeS (ns.map GN.pl)) n.num = some n.kids from treeS_find HGD6.out.1.pw (List.mem_map.2 ⟨n, hn, rfl⟩ : n.pl ∈ ns.map GN.pl)]
    rfl⟩
  obtain ⟨hln0, hln⟩ := HGD6.out.1.len
  obtain ⟨ag, cg, hvl⟩ := own_shape HGD6.out.1.gr.row
  subst hvl
  obtain ⟨rr, hrr, _, _, _, _⟩ := HGD6.out.1.gr.at' hln0
  subst hrr
  have HGR : Hid (GR w11 g (.pointer (some pa)) (.slice (some ⟨rr, 0, none⟩) ns.length cg) made 0 ns) := by obtain ⟨_, h1, _, _⟩ := HGM.out; exact h1.gr
  obtain ⟨rt, hrt⟩ : ∃ rt, Hid (rt ∈ ns ∧ rt.num = 0 ∧ (findG ns 0).getD ns[0] = rt) := by
    obtain ⟨l0, hl0⟩ := HGD6.out.1.pw.tw.root
    obtain ⟨x, hx, hx0, _⟩ := of_treeS hl0
    obtain ⟨n, hn, rfl⟩ := List.mem_map.1 hx
    have h0 : n.num = 0 := hx0
    refine ⟨n, hn, h0, ?_⟩
    have := findG_mem HGT.out.1.nums hn
    rw [h0] at this
    rw [show findG ns 0 = some n from this]
    rfl
  clear hds hfr HGD6 HNM HZR
  have u1 := HGR.out.c1
  have hgl := HGR.out.lt
  go_wp2_with fail
  refine (kfind_any w11 g (.pointer (some pa)) (.slice (some ⟨rr, 0, none⟩) ns.length cg) made 0 ns 0 HGR.out hln hln0).mono ?_
  rw [hrt.out.2.2]
  rintro e w12 ⟨rfl, rfl⟩
  obtain ⟨ak, ck, hks⟩ := own_shape (HGR.out.kid rt hrt.out.1)
  obtain ⟨_, _, _, p8, _, hrb⟩ := node_cells (HGR.out.nd rt hrt.out.1)
  rw [hks] at p8
  have HKR : Hid (w12.ownsRow 0 3 1 (.slice ak rt.kids.length ck) rt.kids.length (ints rt.kids)) := by have := HGR.out.kid rt hrt.out.1; rw [hks] at this; exact this
  have HK0 : Hid (kidsOf (treeS (ns.map GN.pl)) 0 = rt.kids) := by
    have := HGT.out.2 rt hrt.out.1
    rw [hrt.out.2.1] at this
    exact this
  clear hks
  have hsub : IntKind.i64.wrap ((a : Int) - 1) = ((a - 1 : Nat) : Int) := by rw [IntKind.wrap_i64]; omega
  have hsub1 : (a : Int) - 1 = ((a - 1 : Nat) : Int) := by omega
  have hsubb : IntKind.i64.wrap ((b : Int) - 1) = ((b - 1 : Nat) : Int) := by rw [IntKind.wrap_i64]; omega
  have hsubb1 : (b : Int) - 1 = ((b - 1 : Nat) : Int) := by omega
  by_cases hla : a ≤ rt.kids.length
  · have hda : decide ((a : Int) ≤ (rt.kids.length : Int)) = true := by simp; omega
    have hlt0 : a - 1 < rt.kids.length := by omega
    have hia : ((a - 1 : Nat) : Int) < (rt.kids.length : Int) := by omega
    obtain ⟨gb, hgb, hgbl, hgc⟩ := own_cells HKR.out (by omega)
    subst hgb
    have q0 := hgc _ _ (ints_at hlt0)
    clear hgc
    have HO1 : Hid ((kidsOf (treeS (ns.map GN.pl)) 0)[a - 1]? = some rt.kids[a - 1] ∧ rt.kids[a - 1] ∈ rt.kids) := ⟨by rw [HK0.out]; exact List.getElem?_eq_getElem hlt0, List.getElem_mem hlt0⟩
    generalize rt.kids[a - 1] = o at q0 HO1
    have HBM : Hid (1 ≤ b ∧ 1 ≤ a) := ⟨hb1, ha1⟩
    generalize hamE : a - 1 = am at hsub hsub1 hia q0 HO1 hlt0
    have HAM : Hid (a - 1 = am) := hamE
    clear hamE
    obtain ⟨n1, hn1⟩ : ∃ n1, Hid (n1 ∈ ns ∧ (findG ns (o : Int)).getD ns[0] = n1 ∧ kidsOf (treeS (ns.map GN.pl)) (o : Int) = n1.kids) := by
      obtain ⟨l1, hl1⟩ := HGT.out.1.tw.kin (rt.num, rt.kids) (by rw [HGT.out.1.tree]; exact List.mem_map.2 ⟨rt, hrt.out.1, rfl⟩) o HO1.out.2
      rw [HGT.out.1.tree] at hl1
      obtain ⟨x, hx, hxe⟩ := List.mem_map.1 hl1
      injection hxe with hx1 _
      refine ⟨x, hx, ?_, ?_⟩
      · have := findG_mem HGT.out.1.nums hx
        rw [hx1] at this
        rw [this]
        rfl
      · have := HGT.out.2 x hx
        rw [hx1] at this
        exact this
    go_wp2_with fail
    refine (kfind_any w12 g (.pointer (some pa)) (.slice (some ⟨rr, 0, none⟩) ns.length cg) made 0 ns (o : Int) HGR.out hln hln0).mono ?_
    rw [hn1.out.2.1]
    rintro e w13 ⟨rfl, rfl⟩
    obtain ⟨ak1, ck1, hks1⟩ := own_shape (HGR.out.kid n1 hn1.out.1)
    obtain ⟨_, _, _, p81, _, hrb1⟩ := node_cells (HGR.out.nd n1 hn1.out.1)
    rw [hks1] at p81
    have HKR1 : Hid (w13.ownsRow 0 3 1 (.slice ak1 n1.kids.length ck1) n1.kids.length (ints n1.kids)) := by have := HGR.out.kid n1 hn1.out.1; rw [hks1] at this; exact this
    clear hks1
    by_cases hlb : b ≤ n1.kids.length
    · have hdb : decide ((b : Int) ≤ (n1.kids.length : Int)) = true := by simp; omega
      have hlt1 : b - 1 < n1.kids.length := by omega
      have hib : ((b - 1 : Nat) : Int) < (n1.kids.length : Int) := by omega
      obtain ⟨gb1, hgb1, hgbl1, hgc⟩ := own_cells HKR1.out (by omega)
      subst hgb1
      have q01 := hgc _ _ (ints_at hlt1)
      clear hgc
      have HO2 : Hid ((kidsOf (treeS (ns.map GN.pl)) (o : Int))[b - 1]? = some n1.kids[b - 1]) := by unfold Hid; rw [hn1.out.2.2]; exact List.getElem?_eq_getElem hlt1
      generalize n1.kids[b - 1] = tt at q01 HO2
      have HVAL : Hid (∀ n ∈ ns, (valS (zM (ns.map GN.pl)) (ns.map GN.pl) [pU1 a, pU2 a b] n.num 3 == 500) = ((n.num : Int) == (o : Int)) ∧ (valS (zM (ns.map GN.pl)) (ns.map GN.pl) [pU1 a, pU2 a b] n.num 4 == 600) = ((n.num : Int) == (tt : Int))) := by
        intro n hn
        have h1 := HVAL0.out n hn
        unfold oneZ twoZ at h1
        rw [HAM.out, HO1.out.1] at h1
        dsimp only at h1
        rw [HO2.out] at h1
        exact h1
      generalize b - 1 = bm at hsubb hsubb1 hib q01 hlt1
      clear u1 hgl
      go_wp2_with fail
      go_loopg [19] ns.length (fun gk iv wr => ∃ i : Nat, iv = .int .i64 i ∧ i ≤ ns.length ∧ ns.length - i ≤ gk ∧ Hid (∃ Fx', GDM DS wr g (.pointer (some pa)) (.slice (some ⟨rr, 0, none⟩) ns.length cg) made 0 (zM (ns.map GN.pl)) ns [pU1 a, pU2 a b] Fg1 Fx' ∧ (∀ k, Fg1 k ∨ Fx' k → w.heap.size ≤ k) ∧ Below w.heap.size w wr))
      case atStart => exact ⟨0, rfl, Nat.zero_le _, by omega, HGM⟩
      case round =>
        obtain ⟨i, rfl, hi, hgk, HI⟩ := hrel
        obtain ⟨Fx2, hgm, hin, hB⟩ := HI.out
        have HG : Hid (GDM DS wr g (.pointer (some pa)) (.slice (some ⟨rr, 0, none⟩) ns.length cg) made 0 (zM (ns.map GN.pl)) ns [pU1 a, pU2 a b] Fg1 Fx2 ∧ (∀ k, Fg1 k ∨ Fx2 k → w.heap.size ≤ k) ∧ Below w.heap.size w wr) := ⟨hgm, hin, hB⟩
        have u1 := hgm.gr.c1
        have hgl := hgm.gr.lt
        clear hgm hin hB HI
        by_cases hlt : i < ns.length
        · have hd : decide ((i : Int) < (ns.length : Int)) = true := by simp; omega
          have hii : (i : Int) < (ns.length : Int) := by omega
          obtain ⟨r, hr, hrl, q2, _, _⟩ := HG.out.1.gr.at' hlt
          injection hr with hr
          injection hr with hr _ _
          subst hr
          have HMX : Hid (ns[i] ∈ ns) := List.getElem_mem hlt
          obtain ⟨n, hni⟩ : ∃ n, ns[i] = n := ⟨_, rfl⟩
          have HNI : Hid (ns[i] = n) := hni
          rw [hni] at q2 HMX
          clear hni
          obtain ⟨n0', _, _, _, _, hnb⟩ := node_cells (HG.out.1.gr.nd n HMX.out)
          obtain ⟨hv3, hv4⟩ := HVAL.out n HMX.out
          generalize HVV : valS (zM (ns.map GN.pl)) (ns.map GN.pl) [pU1 a, pU2 a b] n.num = VV at hv3 hv4
          go_wp2_with fail
          refine (kall_any HP.out wr g (.pointer (some pa)) (.slice (some ⟨rr, 0, none⟩) ns.length cg) made 0 (zM (ns.map GN.pl)) ns [pU1 a, pU2 a b] Fg1 Fx2 HG.out.1 n HMX.out).mono ?_
          rw [HVV]
          unfold KAllPost nineV
          rintro e w8 ⟨rfl, Fx3, hgd3, hin3, hfr3⟩
          have HB8 : Hid (Below w.heap.size w w8) := HG.out.2.2.trans (below_fr hfr3 HG.out.2.2.size (fun j hj => HG.out.2.1 j (Or.inr hj)))
          have HG8 : Hid (GDM DS w8 g (.pointer (some pa)) (.slice (some ⟨rr, 0, none⟩) ns.length cg) made 0 (zM (ns.map GN.pl)) ns [pU1 a, pU2 a b] Fg1 Fx3 ∧ ∀ j, Fg1 j ∨ Fx3 j → w.heap.size ≤ j) := ⟨hgd3, fun j hj => hj.elim (fun h => HG.out.2.1 j (Or.inl h)) (fun h => (hin3 j h).elim (fun h => HG.out.2.1 j (Or.inr h)) (fun h => Nat.le_trans HG.out.2.2.size h))⟩
          clear hgd3 hin3 hfr3 HVV u1 hgl q2 n0' hnb hrl
          have HI9 : Hid (∃ Fx', GDM DS (w8.alloc (.cells #[.int .i64 (VV 0), .int .i64 (VV 1), .int .i64 (VV 2), .int .i64 (VV 3), .int .i64 (VV 4), .int .i64 (VV 5), .int .i64 (VV 6), .int .i64 (VV 7), .int .i64 (VV 8)] 38)) g (.pointer (some pa)) (.slice (some ⟨rr, 0, none⟩) ns.length cg) made 0 (zM (ns.map GN.pl)) ns [pU1 a, pU2 a b] Fg1 Fx' ∧ (∀ k, Fg1 k ∨ Fx' k → w.heap.size ≤ k) ∧ Below w.heap.size w (w8.alloc (.cells #[.int .i64 (VV 0), .int .i64 (VV 1), .int .i64 (VV 2), .int .i64 (VV 3), .int .i64 (VV 4), .int .i64 (VV 5), .int .i64 (VV 6), .int .i64 (VV 7), .int .i64 (VV 8)] 38))) := ⟨Fx3, HG8.out.1.below HP.out ((Below.refl _ _).alloc (Nat.le_refl _) _), HG8.out.2, HB8.out.alloc HB8.out.size _⟩
          have u1 := HG8.out.1.gr.c1
          have hgl := HG8.out.1.gr.lt
          obtain ⟨r2, hr2, hrl, q2, _, _⟩ := HG8.out.1.gr.at' hlt
          injection hr2 with hr2
          injection hr2 with hr2 _ _
          subst hr2
          rw [HNI.out] at q2
          obtain ⟨n0', _, _, _, _, hnb⟩ := node_cells (HG8.out.1.gr.nd n HMX.out)
          clear HG HG8
          go_wp2
          go_roundg (ns.length - (i + 1))
          case measure => omega
          case rel => exact ⟨i + 1, by go_num, by omega, Nat.le_refl _, HI9⟩
        · have hd : decide ((i : Int) < (ns.length : Int)) = false := by simp; omega
          go_wp2
          go_ret
          exact ⟨rfl, HG.out.2.2⟩
    · have hdb : decide ((b : Int) ≤ (n1.kids.length : Int)) = false := by simp; omega
      have HO2 : Hid ((kidsOf (treeS (ns.map GN.pl)) (o : Int))[b - 1]? = none) := by unfold Hid; rw [hn1.out.2.2]; exact List.getElem?_eq_none (by omega)
      have HVAL : Hid (∀ n ∈ ns, (valS (zM (ns.map GN.pl)) (ns.map GN.pl) [pU1 a, pU2 a b] n.num 3 == 500) = ((n.num : Int) == (o : Int)) ∧ (valS (zM (ns.map GN.pl)) (ns.map GN.pl) [pU1 a, pU2 a b] n.num 4 == 600) = ((n.num : Int) == -1)) := by
        intro n hn
        have h1 := HVAL0.out n hn
        unfold oneZ twoZ at h1
        rw [HAM.out, HO1.out.1] at h1
        dsimp only at h1
        rw [HO2.out] at h1
        exact h1
      clear u1 hgl
      go_wp2_with fail
      go_loopg [19] ns.length (fun gk iv wr => ∃ i : Nat, iv = .int .i64 i ∧ i ≤ ns.length ∧ ns.length - i ≤ gk ∧ Hid (∃ Fx', GDM DS wr g (.pointer (some pa)) (.slice (some ⟨rr, 0, none⟩) ns.length cg) made 0 (zM (ns.map GN.pl)) ns [pU1 a, pU2 a b] Fg1 Fx' ∧ (∀ k, Fg1 k ∨ Fx' k → w.heap.size ≤ k) ∧ Below w.heap.size w wr))
      case atStart => exact ⟨0, rfl, Nat.zero_le _, by omega, HGM⟩
      case round =>
        obtain ⟨i, rfl, hi, hgk, HI⟩ := hrel
        obtain ⟨Fx2, hgm, hin, hB⟩ := HI.out
        have HG : Hid (GDM DS wr g (.pointer (some pa)) (.slice (some ⟨rr, 0, none⟩) ns.length cg) made 0 (zM (ns.map GN.pl)) ns [pU1 a, pU2 a b] Fg1 Fx2 ∧ (∀ k, Fg1 k ∨ Fx2 k → w.heap.size ≤ k) ∧ Below w.heap.size w wr) := ⟨hgm, hin, hB⟩
        have u1 := hgm.gr.c1
        have hgl := hgm.gr.lt
        clear hgm hin hB HI
        by_cases hlt : i < ns.length
        · have hd : decide ((i : Int) < (ns.length : Int)) = true := by simp; omega
          have hii : (i : Int) < (ns.length : Int) := by omega
          obtain ⟨r, hr, hrl, q2, _, _⟩ := HG.out.1.gr.at' hlt
          injection hr with hr
          injection hr with hr _ _
          subst hr
          have HMX : Hid (ns[i] ∈ ns) := List.getElem_mem hlt
          obtain ⟨n, hni⟩ : ∃ n, ns[i] = n := ⟨_, rfl⟩
          have HNI : Hid (ns[i] = n) := hni
          rw [hni] at q2 HMX
          clear hni
          obtain ⟨n0', _, _, _, _, hnb⟩ := node_cells (HG.out.1.gr.nd n HMX.out)
          obtain ⟨hv3, hv4⟩ := HVAL.out n HMX.out
          generalize HVV : valS (zM (ns.map GN.pl)) (ns.map GN.pl) [pU1 a, pU2 a b] n.num = VV at hv3 hv4
          go_wp2_with fail
          refine (kall_any HP.out wr g (.pointer (some pa)) (.slice (some ⟨rr, 0, none⟩) ns.length cg) made 0 (zM (ns.map GN.pl)) ns [pU1 a, pU2 a b] Fg1 Fx2 HG.out.1 n HMX.out).mono ?_
          rw [HVV]
          unfold KAllPost nineV
          rintro e w8 ⟨rfl, Fx3, hgd3, hin3, hfr3⟩
          have HB8 : Hid (Below w.heap.size w w8) := HG.out.2.2.trans (below_fr hfr3 HG.out.2.2.size (fun j hj => HG.out.2.1 j (Or.inr hj)))
          have HG8 : Hid (GDM DS w8 g (.pointer (some pa)) (.slice (some ⟨rr, 0, none⟩) ns.length cg) made 0 (zM (ns.map GN.pl)) ns [pU1 a, pU2 a b] Fg1 Fx3 ∧ ∀ j, Fg1 j ∨ Fx3 j → w.heap.size ≤ j) := ⟨hgd3, fun j hj => hj.elim (fun h => HG.out.2.1 j (Or.inl h)) (fun h => (hin3 j h).elim (fun h => HG.out.2.1 j (Or.inr h)) (fun h => Nat.le_trans HG.out.2.2.size h))⟩
          clear hgd3 hin3 hfr3 HVV u1 hgl q2 n0' hnb hrl
          have HI9 : Hid (∃ Fx', GDM DS (w8.alloc (.cells #[.int .i64 (VV 0), .int .i64 (VV 1), .int .i64 (VV 2), .int .i64 (VV 3), .int .i64 (VV 4), .int .i64 (VV 5), .int .i64 (VV 6), .int .i64 (VV 7), .int .i64 (VV 8)] 38)) g (.pointer (some pa)) (.slice (some ⟨rr, 0, none⟩) ns.length cg) made 0 (zM (ns.map GN.pl)) ns [pU1 a, pU2 a b] Fg1 Fx' ∧ (∀ k, Fg1 k ∨ Fx' k → w.heap.size ≤ k) ∧ Below w.heap.size w (w8.alloc (.cells #[.int .i64 (VV 0), .int .i64 (VV 1), .int .i64 (VV 2), .int .i64 (VV 3), .int .i64 (VV 4), .int .i64 (VV 5), .int .i64 (VV 6), .int .i64 (VV 7), .int .i64 (VV 8)] 38))) := ⟨Fx3, HG8.out.1.below HP.out ((Below.refl _ _).alloc (Nat.le_refl _) _), HG8.out.2, HB8.out.alloc HB8.out.size _⟩
          have u1 := HG8.out.1.gr.c1
          have hgl := HG8.out.1.gr.lt
          obtain ⟨r2, hr2, hrl, q2, _, _⟩ := HG8.out.1.gr.at' hlt
          injection hr2 with hr2
          injection hr2 with hr2 _ _
          subst hr2
          rw [HNI.out] at q2
          obtain ⟨n0', _, _, _, _, hnb⟩ := node_cells (HG8.out.1.gr.nd n HMX.out)
          clear HG HG8
          go_wp2
          go_roundg (ns.length - (i + 1))
          case measure => omega
          case rel => exact ⟨i + 1, by go_num, by omega, Nat.le_refl _, HI9⟩
        · have hd : decide ((i : Int) < (ns.length : Int)) = false := by simp; omega
          go_wp2
          go_ret
          exact ⟨rfl, HG.out.2.2⟩
  · have hda : decide ((a : Int) ≤ (rt.kids.length : Int)) = false := by simp; omega
    have HVAL : Hid (∀ n ∈ ns, (valS (zM (ns.map GN.pl)) (ns.map GN.pl) [pU1 a, pU2 a b] n.num 3 == 500) = ((n.num : Int) == -1) ∧ (valS (zM (ns.map GN.pl)) (ns.map GN.pl) [pU1 a, pU2 a b] n.num 4 == 600) = ((n.num : Int) == -1)) := by
      have hno : (kidsOf (treeS (ns.map GN.pl)) 0)[a - 1]? = none := by rw [HK0.out]; exact List.getElem?_eq_none (by omega)
      intro n hn
      have h1 := HVAL0.out n hn
      unfold oneZ twoZ at h1
      rw [hno] at h1
      exact h1
    clear u1 hgl
    go_wp2_with fail
    go_loopg [19] ns.length (fun gk iv wr => ∃ i : Nat, iv = .int .i64 i ∧ i ≤ ns.length ∧ ns.length - i ≤ gk ∧ Hid (∃ Fx', GDM DS wr g (.pointer (some pa)) (.slice (some ⟨rr, 0, none⟩) ns.length cg) made 0 (zM (ns.map GN.pl)) ns [pU1 a, pU2 a b] Fg1 Fx' ∧ (∀ k, Fg1 k ∨ Fx' k → w.heap.size ≤ k) ∧ Below w.heap.size w wr))
    case atStart => exact ⟨0, rfl, Nat.zero_le _, by omega, HGM⟩
    case round =>
      obtain ⟨i, rfl, hi, hgk, HI⟩ := hrel
      obtain ⟨Fx2, hgm, hin, hB⟩ := HI.out
      have HG : Hid (GDM DS wr g (.pointer (some pa)) (.slice (some ⟨rr, 0, none⟩) ns.length cg) made 0 (zM (ns.map GN.pl)) ns [pU1 a, pU2 a b] Fg1 Fx2 ∧ (∀ k, Fg1 k ∨ Fx2 k → w.heap.size ≤ k) ∧ Below w.heap.size w wr) := ⟨hgm, hin, hB⟩
      have u1 := hgm.gr.c1
      have hgl := hgm.gr.lt
      clear hgm hin hB HI
      by_cases hlt : i < ns.length
      · have hd : decide ((i : Int) < (ns.length : Int)) = true := by simp; omega
        have hii : (i : Int) < (ns.length : Int) := by omega
        obtain ⟨r, hr, hrl, q2, _, _⟩ := HG.out.1.gr.at' hlt
        injection hr with hr
        injection hr with hr _ _
        subst hr
        have HMX : Hid (ns[i] ∈ ns) := List.getElem_mem hlt
        obtain ⟨n, hni⟩ : ∃ n, ns[i] = n := ⟨_, rfl⟩
        have HNI : Hid (ns[i] = n) := hni
        rw [hni] at q2 HMX
        clear hni
        obtain ⟨n0', _, _, _, _, hnb⟩ := node_cells (HG.out.1.gr.nd n HMX.out)
        obtain ⟨hv3, hv4⟩ := HVAL.out n HMX.out
        generalize HVV : valS (zM (ns.map GN.pl)) (ns.map GN.pl) [pU1 a, pU2 a b] n.num = VV at hv3 hv4
        go_wp2_with fail
        refine (kall_any HP.out wr g (.pointer (some pa)) (.slice (some ⟨rr, 0, none⟩) ns.length cg) made 0 (zM (ns.map GN.pl)) ns [pU1 a, pU2 a b] Fg1 Fx2 HG.out.1 n HMX.out).mono ?_
        rw [HVV]
        unfold KAllPost nineV
        rintro e w8 ⟨rfl, Fx3, hgd3, hin3, hfr3⟩
        have HB8 : Hid (Below w.heap.size w w8) := HG.out.2.2.trans (below_fr hfr3 HG.out.2.2.size (fun j hj => HG.out.2.1 j (Or.inr hj)))
        have HG8 : Hid (GDM DS w8 g (.pointer (some pa)) (.slice (some ⟨rr, 0, none⟩) ns.length cg) made 0 (zM (ns.map GN.pl)) ns [pU1 a, pU2 a b] Fg1 Fx3 ∧ ∀ j, Fg1 j ∨ Fx3 j → w.heap.size ≤ j) := ⟨hgd3, fun j hj => hj.elim (fun h => HG.out.2.1 j (Or.inl h)) (fun h => (hin3 j h).elim (fun h => HG.out.2.1 j (Or.inr h)) (fun h => Nat.le_trans HG.out.2.2.size h))⟩
        clear hgd3 hin3 hfr3 HVV u1 hgl q2 n0' hnb hrl
        have HI9 : Hid (∃ Fx', GDM DS (w8.alloc (.cells #[.int .i64 (VV 0), .int .i64 (VV 1), .int .i64 (VV 2), .int .i64 (VV 3), .int .i64 (VV 4), .int .i64 (VV 5), .int .i64 (VV 6), .int .i64 (VV 7), .int .i64 (VV 8)] 38)) g (.pointer (some pa)) (.slice (some ⟨rr, 0, none⟩) ns.length cg) made 0 (zM (ns.map GN.pl)) ns [pU1 a, pU2 a b] Fg1 Fx' ∧ (∀ k, Fg1 k ∨ Fx' k → w.heap.size ≤ k) ∧ Below w.heap.size w (w8.alloc (.cells #[.int .i64 (VV 0), .int .i64 (VV 1), .int .i64 (VV 2), .int .i64 (VV 3), .int .i64 (VV 4), .int .i64 (VV 5), .int .i64 (VV 6), .int .i64 (VV 7), .int .i64 (VV 8)] 38))) := ⟨Fx3, HG8.out.1.below HP.out ((Below.refl _ _).alloc (Nat.le_refl _) _), HG8.out.2, HB8.out.alloc HB8.out.size _⟩
        have u1 := HG8.out.1.gr.c1
        have hgl := HG8.out.1.gr.lt
        obtain ⟨r2, hr2, hrl, q2, _, _⟩ := HG8.out.1.gr.at' hlt
        injection hr2 with hr2
        injection hr2 with hr2 _ _
        subst hr2
        rw [HNI.out] at q2
        obtain ⟨n0', _, _, _, _, hnb⟩ := node_cells (HG8.out.1.gr.nd n HMX.out)
        clear HG HG8
        go_wp2
        go_roundg (ns.length - (i + 1))
        case measure => omega
        case rel => exact ⟨i + 1, by go_num, by omega, Nat.le_refl _, HI9⟩
      · have hd : decide ((i : Int) < (ns.length : Int)) = false := by simp; omega
        go_wp2
        go_ret
        exact ⟨rfl, HG.out.2.2⟩
end
end Go.Proofs.YtblfffbmklkhmaaGreat

namespace Go.Proofs.YtblfffbmklkhmaaGreat
open Go.ChangeShapes Go.WideShapes Go.ChangeAt Go.RowKit
theorem Tryz.own : ownKnob Tryz.prog.godebug = none := by kernel_rfl
theorem Tryz.laidOut : laidOutB Tryz.prog = true := by kernel_rfl
theorem Tryz.cells3 : Tryz.prog.cellsOf 3 = 1 := by kernel_rfl
end Go.Proofs.YtblfffbmklkhmaaGreat

namespace Go.Proofs.YtblfffbmklkhmaaGreat
open Go.ChangeShapes Go.WideShapes Go.ChangeAt Go.RowKit
theorem Tryz.cells78 : Tryz.prog.cellsOf 78 = 4 := by kernel_rfl
theorem four {α : Type} (l : List α) (h : l.length = 4) : ∃ a b c d, l = [a, b, c, d] := by
  match l, h with
  | [a, b, c, d], _ => exact ⟨a, b, c, d, rfl⟩
theorem fit_wf {n : Int} (h : (Lit.int .i64 n).wf = true) : Fit n := by
  have h2 : IntKind.i64.min ≤ n ∧ n ≤ IntKind.i64.max := by simpa [Lit.wf] using h
  exact h2
theorem open_steps {H : Type} {enc : TypeId × Value → H} {W : World} {a0 : Option Addr} {len cap fuel : Nat} {x : DataW H × List MemPlace} (h : DataW.trod enc Tryz.prog W 0 (fun _ => true) true fuel 25 [.slice a0 len cap] = some x) :
    ∃ K X Y Z, Sc W a0 len K X Y Z ∧ len ≤ maxLen := by
  rcases Go.Deep.open_slice Tryz.underlying25 h with ⟨hcs, _⟩ | ⟨a, len', cap', m, n, D, Pl, hcs, _, hl, hm, hmm, _, hx⟩
  · simp only [List.cons.injEq, Value.slice.injEq, and_true] at hcs
    exact ⟨fun _ => 0, fun _ => 0, fun _ => 0, fun _ => 0, Or.inl hcs.2.1, by rw [hcs.2.1]; exact Nat.zero_le _⟩
  · simp only [List.cons.injEq, Value.slice.injEq, and_true] at hcs
    obtain ⟨rfl, rfl, rfl⟩ := hcs
    by_cases h0 : len = 0
    · exact ⟨fun _ => 0, fun _ => 0, fun _ => 0, fun _ => 0, Or.inl h0, by rw [h0]; exact Nat.zero_le _⟩
    simp only [if_true] at hmm
    rw [Tryz.cells78] at hx
    have each : ∀ i, i < len → ∃ q : Int × Int × Int × Int,
        W.cell? (a.add (i * 4)) = some (.int .i64 q.1) ∧ W.cell? (a.add (i * 4 + 1)) = some (.int .i64 q.2.1) ∧ W.cell? (a.add (i * 4 + 2)) = some (.int .i64 q.2.2.1) ∧ W.cell? (a.add (i * 4 + 3)) = some (.int .i64 q.2.2.2) ∧ Fit q.2.1 ∧ Fit q.2.2.1 ∧ Fit q.2.2.2 := by
      intro i hi
      obtain ⟨cs', h1, h2⟩ := hx i (by omega)
      obtain ⟨_, hlen, hcell⟩ := World.cells?_some h1
      obtain ⟨xs, k, _, _, _, hxl, hf⟩ := DataW.trod_struct Tryz.underlying78 h2
      obtain ⟨v0, v1, v2, v3, rfl⟩ := four cs' hlen
      obtain ⟨y0, y1, y2, y3, rfl⟩ := four xs (by rw [hxl]; rfl)
      have g0 := hf 0 _ rfl
      have g1 := hf 1 _ rfl
      have g2 := hf 2 _ rfl
      have g3 := hf 3 _ rfl
      simp [Tryz.cells3] at g0 g1 g2 g3
      obtain ⟨n0, e0, _, _⟩ := DataW.trod_int Tryz.underlying3 g0
      obtain ⟨n1, e1, _, f1⟩ := DataW.trod_int Tryz.underlying3 g1
      obtain ⟨n2, e2, _, f2⟩ := DataW.trod_int Tryz.underlying3 g2
      obtain ⟨n3, e3, _, f3⟩ := DataW.trod_int Tryz.underlying3 g3
      simp only [List.cons.injEq, and_true] at e0 e1 e2 e3
      subst e0 e1 e2 e3
      have c0 := hcell 0 (by omega)
      have c1 := hcell 1 (by omega)
      have c2 := hcell 2 (by omega)
      have c3 := hcell 3 (by omega)
      rw [Go.Deep.add_add] at c0 c1 c2 c3
      exact ⟨(n0, n1, n2, n3), by simpa using c0, by simpa using c1, by simpa using c2, by simpa using c3, fit_wf f1, fit_wf f2, fit_wf f3⟩
    obtain ⟨q, hq⟩ := Go.Deep.choose_lt each
    obtain ⟨b, off, spot⟩ := a
    have hspot : spot = none := by simpa [Addr.add] using World.cell?_spot (hq 0 (by omega)).1
    subst hspot
    have hlt : b < W.heap.size := by simpa [Addr.add] using World.block_lt_of_cell? W _ (hq 0 (by omega)).1
    refine ⟨fun i => (q i).1, fun i => (q i).2.1, fun i => (q i).2.2.1, fun i => (q i).2.2.2, Or.inr ⟨b, off, rfl, ⟨?_, ?_, ?_, ?_, fun i hi => (hq i hi).2.2.2.2, hlt⟩⟩, by omega⟩
    all_goals intro i hi
    · have := (hq i hi).1; rw [Go.WideShapes.add_plain] at this; exact this
    · have := (hq i hi).2.1; rw [Go.WideShapes.add_plain, ← Nat.add_assoc] at this; exact this
    · have := (hq i hi).2.2.1; rw [Go.WideShapes.add_plain, ← Nat.add_assoc] at this; exact this
    · have := (hq i hi).2.2.2.1; rw [Go.WideShapes.add_plain, ← Nat.add_assoc] at this; exact this
end Go.Proofs.YtblfffbmklkhmaaGreat
