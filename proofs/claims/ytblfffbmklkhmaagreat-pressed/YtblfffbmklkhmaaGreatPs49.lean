/- Own work. -/
import Derived.Test.YtblfffbmklkhmaaGreatPs48
import Derived.Test.YtblfffbmklkhmaaGreatPs44
namespace Go.Proofs.YtblfffbmklkhmaaGreat
open Go.RowKit
section
set_option maxRecDepth 100000
set_option maxHeartbeats 4000000
variable {DS : World → Value → Tree → Nat → (Nat → Mk) → List PRu → (Nat → Prop) → Prop}
theorem pressed_any (hP : DocOK DS) (w : World) (al : Option Addr) (ll lc : Nat) (L : Nat → Int) (hI : Il w al ll L) (hll : ll ≤ 4611686018427387904) (a0 : Option Addr) (len cap : Nat) (K X Y Z : Nat → Int) (hs : Sc w a0 len K X Y Z) (hl : len ≤ 4611686018427387903) (lav : Int) (hla : Fit lav) (vav : Int) (hva : Fit vav) :
    Calls Tryz.prog 9 #[.slice al ll lc, .slice a0 len cap, .int .i64 lav, .int .i64 vav] w fun e w' => e = .returned (.bool true) ∧ Below w.heap.size w w' := by
  have HP : Hid (DocOK DS) := hP
  have HS : Hid (Sc w a0 len K X Y Z) := hs
  have HPV : Hid (∀ W, Calls Tryz.prog 17 #[.int .i64 vav, .int .i64 1000] W fun e w' => e = .returned (.int .i64 ((pickZ vav 1000 : Nat) : Int)) ∧ w' = W) := fun W => kpick_any W vav 1000 hva (by decide) (by decide)
  have HPY : Hid (∀ W, Calls Tryz.prog 17 #[.int .i64 lav, .int .i64 10] W fun e w' => e = .returned (.int .i64 ((pickZ lav 10 : Nat) : Int)) ∧ w' = W) := fun W => kpick_any W lav 10 hla (by decide) (by decide)
  have hvv : pickZ vav 1000 < 1000 := pickZ_lt vav (by decide)
  have hdl : pickZ lav 10 < 10 := pickZ_lt lav (by decide)
  generalize pickZ vav 1000 = vv at HPV hvv
  generalize pickZ lav 10 = dl at HPY hdl
  have HSH : Hid (∀ W, Below w.heap.size w W → Calls Tryz.prog 27 #[.slice al ll lc, .int .i64 0, .bool true, .int .i64 380] W fun e w' => e = .returned (.string (wSheetF ll L 0 true 380)) ∧ Below W.heap.size W w') := fun W hW => ksheet_any W al ll lc L 0 true 380 (hI.below hW) hll (by decide) (by decide)
  obtain ⟨ra, hra, hab⟩ := sheet_ast (len := ll) (L := L) (mild := true) 380
  have hzs : (wSheetF ll L 0 true 380).size ≤ 380 := wSheetF_size
  have HPL0 : Hid (∀ W, Calls Tryz.prog 19 #[.string (wSheetF ll L 0 true 380), .int .i64 0] W fun e w' => KPlantPost DS W 0 (ra.map (toR 0)) e w') := fun W => by
    have := kplant_any HP.out W (wSheetF ll L 0 true 380) 0 (by decide) (by unfold maxLen; omega) (by rw [wSheet_chk (by decide)])
    rwa [sheet_of (by omega) (fun r hr => (hra r hr).1) (hab 0)] at this
  have HPLt : Hid (∀ t, t.size ≤ 400 → bl t = [64, 48 + dl, 42, 123, 65, 58, 48 + vv / 100, 48 + vv / 10 % 10, 48 + vv % 10, 33, 125] ++ bl (wSheetF ll L 0 true 380) → ∀ W, Calls Tryz.prog 19 #[.string t, .int .i64 0] W fun e w' => KPlantPost DS W 0 (prR dl (vv : Int) :: ra.map (toR 0)) e w') := fun t hz ht W => by
    have := kplant_any HP.out W t 0 (by decide) (by unfold maxLen; omega) (by rw [pr_chk (by omega) (by omega) (by omega) (by omega) hz ht])
    have hso : sheetOf t = (prA dl (vv / 100) (vv / 10 % 10) (vv % 10) :: ra).map (toR 0) := sheet_of hz (fun r hr => by
      rcases List.mem_cons.1 hr with h | h
      · rw [h]; exact pr_ok (by omega) (by omega) (by omega)
      · exact (hra r h).1) (by rw [List.flatMap_cons, pr_ren, ht, hab 0])
    rwa [hso, List.map_cons, pr_to, num3] at this
  have HMI : Hid (∀ r ∈ ra.map (toR 0), MildR r) := mild_to hra
  clear hP hs hI hra hab
  generalize ra.map (toR 0) = rs at HPL0 HPLt HMI
  generalize wSheetF ll L 0 true 380 = s0 at HSH HPL0 HPLt hzs
  have HD1 : Hid (∀ W, Calls Tryz.prog 18 #[.int .i64 ((vv : Int) / 100)] W fun e w' => e = .returned (.string (digB (vv / 100))) ∧ Below W.heap.size W w') := fun W => by
    have := kdigit_any W (vv / 100) (by omega)
    rwa [show ((vv / 100 : Nat) : Int) = (vv : Int) / 100 from by omega] at this
  have HD2 : Hid (∀ W, Calls Tryz.prog 18 #[.int .i64 ((vv : Int) / 10 % 10)] W fun e w' => e = .returned (.string (digB (vv / 10 % 10))) ∧ Below W.heap.size W w') := fun W => by
    have := kdigit_any W (vv / 10 % 10) (by omega)
    rwa [show ((vv / 10 % 10 : Nat) : Int) = (vv : Int) / 10 % 10 from by omega] at this
  have HD3 : Hid (∀ W, Calls Tryz.prog 18 #[.int .i64 ((vv : Int) % 10)] W fun e w' => e = .returned (.string (digB (vv % 10))) ∧ Below W.heap.size W w') := fun W => by
    have := kdigit_any W (vv % 10) (by omega)
    rwa [show ((vv % 10 : Nat) : Int) = (vv : Int) % 10 from by omega] at this
  have HD0 : Hid (∀ W, Calls Tryz.prog 18 #[.int .i64 (dl : Int)] W fun e w' => e = .returned (.string (digB dl)) ∧ Below W.heap.size W w') := fun W => kdigit_any W dl (by omega)
  have HBL : Hid (∀ e0 e1 e2 e3 : ByteArray, e0 = digB dl → e1 = digB (vv / 100) → e2 = digB (vv / 10 % 10) → e3 = digB (vv % 10) → bl ((⟨#[64]⟩ : ByteArray) ++ e0 ++ ⟨#[42, 123, 65, 58]⟩ ++ e1 ++ e2 ++ e3 ++ ⟨#[33, 125]⟩ ++ s0) = [64, 48 + dl, 42, 123, 65, 58, 48 + vv / 100, 48 + vv / 10 % 10, 48 + vv % 10, 33, 125] ++ bl s0) := fun e0 e1 e2 e3 h0 h1 h2 h3 => by
    rw [h0, h1, h2, h3]
    rw [bl_append, bl_append, bl_append, bl_append, bl_append, bl_append, bl_append, bl_dig hdl, bl_dig (by omega), bl_dig (by omega), bl_dig (by omega)]
    rfl
  go_enter Tryz.func9, Tryz.ntmps9
  go_wp2_with fail
  refine (khead_any HP.out w).mono ?_
  rintro e w1 ⟨rfl, hB1⟩
  have HB1 : Hid (Below w.heap.size w w1) := hB1
  clear hB1
  go_wp2_with fail
  refine (HSH.out _ HB1.out).mono ?_
  rintro e w2 ⟨rfl, hB2⟩
  have HB2 : Hid (Below w.heap.size w w2) := HB1.out.trans (hB2.mono HB1.out.size)
  clear hB2 HB1 HSH
  go_wp2_with fail
  refine (HPV.out _).mono ?_
  rintro e w2b ⟨rfl, rfl⟩
  clear HPV
  go_wp2_with fail
  refine (HPY.out _).mono ?_
  rintro e w2b ⟨rfl, rfl⟩
  clear HPY
  have z0 := digB_size dl
  have z1 := digB_size (vv / 100)
  have z2 := digB_size (vv / 10 % 10)
  have z3 := digB_size (vv % 10)
  have HBL2 := HBL.out _ _ _ _ rfl rfl rfl rfl
  generalize digB dl = e0 at HD0 z0 HBL2
  generalize digB (vv / 100) = e1 at HD1 z1 HBL2
  generalize digB (vv / 10 % 10) = e2 at HD2 z2 HBL2
  generalize digB (vv % 10) = e3 at HD3 z3 HBL2
  have t1 : ((⟨#[64]⟩ : ByteArray) ++ e0).size = 2 := by rw [ByteArray.size_append, z0]; rfl
  have t2 : ((⟨#[64]⟩ : ByteArray) ++ e0 ++ ⟨#[42, 123, 65, 58]⟩).size = 6 := by rw [ByteArray.size_append, t1]; rfl
  have t3 : ((⟨#[64]⟩ : ByteArray) ++ e0 ++ ⟨#[42, 123, 65, 58]⟩ ++ e1).size = 7 := by rw [ByteArray.size_append, t2, z1]
  have t4 : ((⟨#[64]⟩ : ByteArray) ++ e0 ++ ⟨#[42, 123, 65, 58]⟩ ++ e1 ++ e2).size = 8 := by rw [ByteArray.size_append, t3, z2]
  have t5 : ((⟨#[64]⟩ : ByteArray) ++ e0 ++ ⟨#[42, 123, 65, 58]⟩ ++ e1 ++ e2 ++ e3).size = 9 := by rw [ByteArray.size_append, t4, z3]
  have t6 : ((⟨#[64]⟩ : ByteArray) ++ e0 ++ ⟨#[42, 123, 65, 58]⟩ ++ e1 ++ e2 ++ e3 ++ ⟨#[33, 125]⟩).size = 11 := by rw [ByteArray.size_append, t5]; rfl
  have t7 : ((⟨#[64]⟩ : ByteArray) ++ e0 ++ ⟨#[42, 123, 65, 58]⟩ ++ e1 ++ e2 ++ e3 ++ ⟨#[33, 125]⟩ ++ s0).size ≤ 391 := by rw [ByteArray.size_append, t6]; omega
  have HT0 : Hid (∀ W, Calls Tryz.prog 19 #[.string ((⟨#[64]⟩ : ByteArray) ++ e0 ++ ⟨#[42, 123, 65, 58]⟩ ++ e1 ++ e2 ++ e3 ++ ⟨#[33, 125]⟩ ++ s0), .int .i64 0] W fun e w' => KPlantPost DS W 0 (prR dl (vv : Int) :: rs) e w') := HPLt.out _ (by omega) HBL2
  clear HBL HBL2 HPLt
  go_wp2_with fail
  refine (HD0.out _).mono ?_
  rintro e w2c ⟨rfl, hB2c⟩
  have HB2c : Hid (Below w.heap.size w w2c) := HB2.out.trans (hB2c.mono HB2.out.size)
  clear hB2c HB2 HD0
  go_wp2_with fail
  refine (HD1.out _).mono ?_
  rintro e w2d ⟨rfl, hB2d⟩
  have HB2d : Hid (Below w.heap.size w w2d) := HB2c.out.trans (hB2d.mono HB2c.out.size)
  clear hB2d HB2c HD1
  go_wp2_with fail
  refine (HD2.out _).mono ?_
  rintro e w2e ⟨rfl, hB2e⟩
  have HB2e : Hid (Below w.heap.size w w2e) := HB2d.out.trans (hB2e.mono HB2d.out.size)
  clear hB2e HB2d HD2
  go_wp2_with fail
  refine (HD3.out _).mono ?_
  rintro e w2f ⟨rfl, hB2f⟩
  have HB2f : Hid (Below w.heap.size w w2f) := HB2e.out.trans (hB2f.mono HB2e.out.size)
  clear hB2f HB2e HD3
  go_upto_region 5 with fail
  generalize (⟨#[64]⟩ : ByteArray) ++ e0 ++ ⟨#[42, 123, 65, 58]⟩ ++ e1 ++ e2 ++ e3 ++ ⟨#[33, 125]⟩ ++ s0 = tt at t7 HT0 ⊢
  clear t1 t2 t3 t4 t5 t6
  go_wp2_with fail
  refine (HPL0.out _).mono ?_
  rintro e w3 ⟨g, px, vl, n0, Fg, Fx, rfl, hgd, hin, hB3⟩
  have HGD : Hid (GD DS w3 g px vl 1 0 [rootN n0 0] rs Fg Fx ∧ (∀ k, Fg k ∨ Fx k → w.heap.size ≤ k) ∧ Below w.heap.size w w3) := ⟨hgd, fun k hk => Nat.le_trans HB2f.out.size (hin k hk), HB2f.out.trans (hB3.mono HB2f.out.size)⟩
  clear hgd hin hB3 HB2f HPL0
  go_wp2_with fail
  refine (HT0.out _).mono ?_
  rintro e w4 ⟨g2, px2, vl2, n02, Fg2, Fx2, rfl, hgd, hin, hB4⟩
  have HT : Hid (Two DS w w4 g px vl 1 0 [rootN n0 0] rs Fg Fx g2 px2 vl2 1 0 [rootN n02 0] (prR dl (vv : Int) :: rs) Fg2 Fx2) := two_plant HP.out HGD.out.1 HGD.out.2.1 HGD.out.2.2 hgd hin hB4
  clear hgd hin hB4 HGD HT0
  obtain ⟨rs2, hrs2⟩ : ∃ rs2, rs2 = prR dl (vv : Int) :: rs := ⟨_, rfl⟩
  have HPR : Hid (rs2 = prR dl (vv : Int) :: rs) := hrs2
  rw [← hrs2] at HT
  clear hrs2
  go_wp2_with fail
  refine (kgrow_sc HP.out w4 g px vl 1 0 [rootN n0 0] rs Fg Fx HT.out.one 7 (by decide) (by decide) a0 len cap K X Y Z HS.out HT.out.bl HT.out.na (by omega)).mono ?_
  rintro e w5 ⟨rfl, vl1, ns, Fg1, Fx1, hS, hgd, hin, hfr⟩
  have HT5 : Hid (Two DS w w5 g px vl1 (growS 0 7 K X Y Z ([rootN n0 0].map GN.pl) 1 len).2 0 ns rs Fg1 Fx1 g2 px2 vl2 1 0 [rootN n02 0] rs2 Fg2 Fx2) := HT.out.turn HP.out hgd hin (fun _ hk => hk) hfr
  have HS1 : Hid ((growS 0 7 K X Y Z [rootS 0] 1 len).1 = ns.map GN.pl) := hS
  clear hS hgd hin hfr HT
  generalize (growS 0 7 K X Y Z ([rootN n0 0].map GN.pl) 1 len).2 = made at HT5
  go_wp2_with fail
  refine (kgrow_sc HP.out w5 g2 px2 vl2 1 0 [rootN n02 0] rs2 Fg2 Fx2 HT5.out.two 7 (by decide) (by decide) a0 len cap K X Y Z HS.out HT5.out.bl HT5.out.nb (by omega)).mono ?_
  rintro e w6 ⟨rfl, vl3, ns2, Fg3, Fx3, hS, hgd, hin, hfr⟩
  have HT6 : Hid (Two DS w w6 g px vl1 made 0 ns rs Fg1 Fx1 g2 px2 vl3 (growS 0 7 K X Y Z ([rootN n02 0].map GN.pl) 1 len).2 0 ns2 rs2 Fg3 Fx3) := (HT5.out.swap.turn HP.out hgd hin (fun _ hk => hk) hfr).swap
  have HNN : Hid (ns.map GN.pl = ns2.map GN.pl) := by unfold Hid; rw [← HS1.out, ← hS]; rfl
  clear hS hgd hin hfr HT5 HS1
  generalize (growS 0 7 K X Y Z ([rootN n02 0].map GN.pl) 1 len).2 = made2 at HT6
  have HVAL : Hid (∀ n ∈ ns, ∃ n2 ∈ ns2, n2.num = n.num ∧ ∀ p, valS (mOf 0 (ns2.map GN.pl)) (ns2.map GN.pl) rs2 n2.num p = if p = 0 then (vv : Int) else valS (mOf 0 (ns.map GN.pl)) (ns.map GN.pl) rs n.num p) := fun n hn => by
    have h1 : n.pl ∈ ns2.map GN.pl := by rw [← HNN.out]; exact List.mem_map.2 ⟨n, hn, rfl⟩
    obtain ⟨n2, h2, h3⟩ := List.mem_map.1 h1
    have h4 : n2.num = n.num := congrArg PNd.num h3
    refine ⟨n2, h2, h4, fun p => ?_⟩
    have hp := style_press (viewT (treeS (ns.map GN.pl)) (mOf 0 (ns.map GN.pl))) dl (vv : Int) HMI.out n.num
    rw [h4, ← HNN.out, HPR.out]
    unfold valS
    by_cases h0 : p = 0
    · rw [if_pos h0, h0]; exact hp.1
    · rw [if_neg h0]; exact hp.2 p h0
  clear HMI HPR
  obtain ⟨hln0, hln⟩ := HT6.out.one.len
  obtain ⟨ag, cg, hvl⟩ := own_shape HT6.out.one.gr.row
  subst hvl
  clear HNN
  have HT7 : Hid (∃ Fx Fx', Two DS w w6 g px (.slice ag ns.length cg) made 0 ns rs Fg1 Fx g2 px2 vl3 made2 0 ns2 rs2 Fg3 Fx') := ⟨_, _, HT6.out⟩
  clear HT6
  go_wp2_with fail
  go_loopg [16, 17, 18, 19, 20, 21] ns.length (fun gk iv s1 s2 s3 s4 s5 wr => ∃ i : Nat, iv = .int .i64 i ∧ i ≤ ns.length ∧ ns.length - i ≤ gk ∧ Hid (∃ Fx Fx', Two DS w wr g px (.slice ag ns.length cg) made 0 ns rs Fg1 Fx g2 px2 vl3 made2 0 ns2 rs2 Fg3 Fx'))
  case atStart => exact ⟨0, rfl, Nat.zero_le _, by omega, HT7⟩
  case round =>
    obtain ⟨i, rfl, hi, hgk, HI⟩ := hrel
    obtain ⟨Fx4, Fx5, ht⟩ := HI.out
    have HT : Hid (Two DS w wr g px (.slice ag ns.length cg) made 0 ns rs Fg1 Fx4 g2 px2 vl3 made2 0 ns2 rs2 Fg3 Fx5) := ht
    have u1 := ht.one.gr.c1
    have hgl := ht.one.gr.lt
    clear ht HI
    by_cases hlt : i < ns.length
    · have hd : decide ((i : Int) < (ns.length : Int)) = true := by simp; omega
      have hii : (i : Int) < (ns.length : Int) := by omega
      obtain ⟨r, hr, hrl, q2, _, _⟩ := HT.out.one.gr.at' hlt
      subst hr
      have HMX : Hid (ns[i] ∈ ns) := List.getElem_mem hlt
      obtain ⟨n, hni⟩ : ∃ n, ns[i] = n := ⟨_, rfl⟩
      have HNI : Hid (ns[i] = n) := hni
      rw [hni] at q2 HMX
      clear hni
      obtain ⟨n0', _, _, _, _, hnb⟩ := node_cells (HT.out.one.gr.nd n HMX.out)
      obtain ⟨m, hm1, hm2, hm3⟩ := HVAL.out n HMX.out
      have HM : Hid (m ∈ ns2 ∧ m.num = n.num ∧ ∀ p, valS (mOf 0 (ns2.map GN.pl)) (ns2.map GN.pl) rs2 m.num p = if p = 0 then (vv : Int) else valS (mOf 0 (ns.map GN.pl)) (ns.map GN.pl) rs n.num p) := ⟨hm1, hm2, hm3⟩
      clear hm1 hm2 hm3
      go_wp2_with fail
      refine (kall_any HP.out wr g px (.slice (some ⟨r, 0, none⟩) ns.length cg) made 0 (mOf 0 (ns.map GN.pl)) ns rs Fg1 Fx4 HT.out.one.gdm n HMX.out).mono ?_
      generalize HVV : valS (mOf 0 (ns.map GN.pl)) (ns.map GN.pl) rs n.num = VV at HM ⊢
      unfold KAllPost nineV
      rintro e w8 ⟨rfl, Fx6, hgd3, hin3, hfr3⟩
      have HT8 : Hid (Two DS w w8 g px (.slice (some ⟨r, 0, none⟩) ns.length cg) made 0 ns rs Fg1 Fx6 g2 px2 vl3 made2 0 ns2 rs2 Fg3 Fx5) := HT.out.all HP.out hgd3 hin3 hfr3
      clear hgd3 hin3 hfr3 HVV u1 hgl q2 n0' hnb hrl HT
      go_upto_region 17 with fail
      have HW9 : Hid (Below w8.heap.size w8 (w8.alloc (.cells #[.int .i64 (VV 0), .int .i64 (VV 1), .int .i64 (VV 2), .int .i64 (VV 3), .int .i64 (VV 4), .int .i64 (VV 5), .int .i64 (VV 6), .int .i64 (VV 7), .int .i64 (VV 8)] 38)) ∧ (w8.alloc (.cells #[.int .i64 (VV 0), .int .i64 (VV 1), .int .i64 (VV 2), .int .i64 (VV 3), .int .i64 (VV 4), .int .i64 (VV 5), .int .i64 (VV 6), .int .i64 (VV 7), .int .i64 (VV 8)] 38)).heap[w8.heap.size]? = some (.cells #[.int .i64 (VV 0), .int .i64 (VV 1), .int .i64 (VV 2), .int .i64 (VV 3), .int .i64 (VV 4), .int .i64 (VV 5), .int .i64 (VV 6), .int .i64 (VV 7), .int .i64 (VV 8)] 38)) := ⟨(Below.refl _ _).alloc (Nat.le_refl _) _, heap_alloc_new w8 _⟩
      generalize w8.alloc (.cells #[.int .i64 (VV 0), .int .i64 (VV 1), .int .i64 (VV 2), .int .i64 (VV 3), .int .i64 (VV 4), .int .i64 (VV 5), .int .i64 (VV 6), .int .i64 (VV 7), .int .i64 (VV 8)] 38) = W9 at HW9 ⊢
      have HT9 : Hid (Two DS w W9 g px (.slice (some ⟨r, 0, none⟩) ns.length cg) made 0 ns rs Fg1 Fx6 g2 px2 vl3 made2 0 ns2 rs2 Fg3 Fx5) := HT8.out.below HP.out HW9.out.1
      have HN9 : Hid (¬ Fx5 w8.heap.size) := fun hx => Nat.lt_irrefl _ (HT8.out.two.here _ (Or.inr hx))
      have HO8 : Hid (∀ k, (Fg1 k ∨ Fx6 k) ∨ Fg3 k → k ≠ w8.heap.size) := fun k hk he => by
        subst he
        rcases hk with hk | hk
        · exact Nat.lt_irrefl _ (HT8.out.one.here _ hk)
        · exact Nat.lt_irrefl _ (HT8.out.two.here _ (Or.inl hk))
      have HZ8 : Hid (w.heap.size ≤ w8.heap.size) := HT8.out.bl.size
      clear HT8
      have u1 := HT9.out.one.gr.c1
      have hgl := HT9.out.one.gr.lt
      obtain ⟨r2, hr2, hrl, q2, _, _⟩ := HT9.out.one.gr.at' hlt
      injection hr2 with hr2
      injection hr2 with hr2 _ _
      subst hr2
      rw [HNI.out] at q2
      obtain ⟨n0', _, _, _, _, hnb⟩ := node_cells (HT9.out.one.gr.nd n HMX.out)
      go_wp2_with fail
      have hkall := kall_any HP.out W9 g2 px2 vl3 made2 0 (mOf 0 (ns2.map GN.pl)) ns2 rs2 Fg3 Fx5 HT9.out.two.gdm m HM.out.1
      rw [HM.out.2.1] at hkall
      refine hkall.mono ?_
      have HEQ : Hid (∀ p, p < 9 → (if p = 0 then (vv : Int) else VV p) = valS (mOf 0 (ns2.map GN.pl)) (ns2.map GN.pl) rs2 n.num p) := fun p _ => by rw [← HM.out.2.2 p, HM.out.2.1]
      clear hkall HM
      generalize valS (mOf 0 (ns2.map GN.pl)) (ns2.map GN.pl) rs2 n.num = UU at HEQ ⊢
      unfold KAllPost nineV
      rintro e wA ⟨rfl, Fx7, hgd3, hin3, hfr3⟩
      have HTA : Hid (Two DS w wA g px (.slice (some ⟨r, 0, none⟩) ns.length cg) made 0 ns rs Fg1 Fx6 g2 px2 vl3 made2 0 ns2 rs2 Fg3 Fx7) := (HT9.out.swap.all HP.out hgd3 hin3 hfr3).swap
      have hl9 := (Array.getElem?_eq_some_iff.1 HW9.out.2).1
      have HNB : Hid (∀ k, (Fg1 k ∨ Fx6 k) ∨ Fg3 k ∨ Fx7 k → k ≠ w8.heap.size) := fun k hk he => by
        subst he
        rcases hk with hk | hk | hk
        · exact HO8.out _ (Or.inl hk) rfl
        · exact HO8.out _ (Or.inr hk) rfl
        · rcases hin3 _ hk with h1 | h1
          · exact HN9.out h1
          · omega
      have hWA : wA.heap[w8.heap.size]? = some (.cells #[.int .i64 (VV 0), .int .i64 (VV 1), .int .i64 (VV 2), .int .i64 (VV 3), .int .i64 (VV 4), .int .i64 (VV 5), .int .i64 (VV 6), .int .i64 (VV 7), .int .i64 (VV 8)] 38) := (hfr3.block w8.heap.size hl9 HN9.out).trans HW9.out.2
      have HBV : Hid (w.heap.size ≤ w8.heap.size) := HZ8.out
      generalize w8.heap.size = bv at hWA HNB HBV ⊢
      have y0 : wA.cell? ⟨bv, 0, none⟩ = some (.int .i64 (VV 0)) := cell_of_blk hWA rfl
      have y1 : wA.cell? ⟨bv, 1, none⟩ = some (.int .i64 (VV 1)) := cell_of_blk hWA rfl
      have y2 : wA.cell? ⟨bv, 2, none⟩ = some (.int .i64 (VV 2)) := cell_of_blk hWA rfl
      have y3 : wA.cell? ⟨bv, 3, none⟩ = some (.int .i64 (VV 3)) := cell_of_blk hWA rfl
      have y4 : wA.cell? ⟨bv, 4, none⟩ = some (.int .i64 (VV 4)) := cell_of_blk hWA rfl
      have y5 : wA.cell? ⟨bv, 5, none⟩ = some (.int .i64 (VV 5)) := cell_of_blk hWA rfl
      have y6 : wA.cell? ⟨bv, 6, none⟩ = some (.int .i64 (VV 6)) := cell_of_blk hWA rfl
      have y7 : wA.cell? ⟨bv, 7, none⟩ = some (.int .i64 (VV 7)) := cell_of_blk hWA rfl
      have y8 : wA.cell? ⟨bv, 8, none⟩ = some (.int .i64 (VV 8)) := cell_of_blk hWA rfl
      have yz : ∀ k, wA.frozen? ⟨bv, k, none⟩ = false := fun k => frozen_of_blk hWA
      have hlA : bv < wA.heap.size := (Array.getElem?_eq_some_iff.1 hWA).1
      have HSM : Hid (∀ W, Calls Tryz.prog 23 #[.agg #[.int .i64 (vv : Int), .int .i64 (VV 1), .int .i64 (VV 2), .int .i64 (VV 3), .int .i64 (VV 4), .int .i64 (VV 5), .int .i64 (VV 6), .int .i64 (VV 7), .int .i64 (VV 8)], .agg #[.int .i64 (UU 0), .int .i64 (UU 1), .int .i64 (UU 2), .int .i64 (UU 3), .int .i64 (UU 4), .int .i64 (UU 5), .int .i64 (UU 6), .int .i64 (UU 7), .int .i64 (UU 8)]] W fun e w' => e = .returned (.bool true) ∧ Below W.heap.size W w') := fun W => ksame_any W (fun p => if p = 0 then (vv : Int) else VV p) UU HEQ.out
      clear hgd3 hin3 hfr3 hWA HEQ u1 hgl q2 n0' hnb hrl HT9 hl9 HN9 HW9 HO8 HZ8
      go_wp2_with fail
      refine (HSM.out _).mono ?_
      rintro e wB ⟨rfl, hBB⟩
      have HTS : Hid (Two DS w (wA.setCell ⟨bv, 0, none⟩ (.int .i64 (vv : Int))) g px (.slice (some ⟨r, 0, none⟩) ns.length cg) made 0 ns rs Fg1 Fx6 g2 px2 vl3 made2 0 ns2 rs2 Fg3 Fx7) := by
        have hf : Fr wA (wA.setCell ⟨bv, 0, none⟩ (.int .i64 (vv : Int))) (fun k => k = bv) := (Fr.refl wA (fun k => k = bv)).set (p := ⟨bv, 0, none⟩) (Or.inl rfl) _
        exact ⟨HTA.out.one.apart HP.out hf (fun k hk => HNB.out k (Or.inl hk)), HTA.out.two.apart HP.out hf (fun k hk => HNB.out k (Or.inr hk)), HTA.out.ap, HTA.out.na, HTA.out.nb, HTA.out.bl.setCell (by show w.heap.size ≤ bv; exact HBV.out) _⟩
      have HBB : Hid (Below (wA.setCell ⟨bv, 0, none⟩ (.int .i64 (vv : Int))).heap.size (wA.setCell ⟨bv, 0, none⟩ (.int .i64 (vv : Int))) wB) := ((Below.refl _ _).alloc (Nat.le_refl _) (.cells #[.int .i64 (UU 0), .int .i64 (UU 1), .int .i64 (UU 2), .int .i64 (UU 3), .int .i64 (UU 4), .int .i64 (UU 5), .int .i64 (UU 6), .int .i64 (UU 7), .int .i64 (UU 8)] 38)).trans (hBB.mono (by simp))
      have HIB : Hid (∃ Fx Fx', Two DS w wB g px (.slice (some ⟨r, 0, none⟩) ns.length cg) made 0 ns rs Fg1 Fx g2 px2 vl3 made2 0 ns2 rs2 Fg3 Fx') := ⟨_, _, HTS.out.below HP.out HBB.out⟩
      clear hBB HTA HBB HSM HTS HNB HBV y0 y1 y2 y3 y4 y5 y6 y7 y8 yz hlA
      go_wp2
      go_roundg (ns.length - (i + 1))
      case measure => omega
      case rel => exact ⟨i + 1, by go_num, by omega, Nat.le_refl _, HIB⟩
    · have hd : decide ((i : Int) < (ns.length : Int)) = false := by simp; omega
      go_wp2
      go_ret
      exact ⟨rfl, HT.out.bl⟩
end
end Go.Proofs.YtblfffbmklkhmaaGreat

namespace Go.Proofs.YtblfffbmklkhmaaGreat
open Go.ChangeShapes Go.WideShapes Go.ChangeAt Go.RowKit
theorem pressed_args {W : World} {H : Type} {enc : TypeId × Value → H} {a0 : Option Addr} {l0 c0 g0 : Nat} {x0 : DataW H × List MemPlace} {a1 : Option Addr} {l1 c1 g1 : Nat} {x1 : DataW H × List MemPlace} (h0 : DataW.trod enc Tryz.prog W 0 (fun _ => true) true g0 40 [.slice a0 l0 c0] = some x0) (b0 : l0 ≤ 4611686018427387904) (h1 : DataW.trod enc Tryz.prog W 0 (fun _ => true) true g1 25 [.slice a1 l1 c1] = some x1) (b1 : l1 ≤ 1000000000000000) (n2 : Int) (f2 : Fit n2) (n3 : Int) (f3 : Fit n3) :
    Calls Tryz.prog 9 #[.slice a0 l0 c0, .slice a1 l1 c1, .int .i64 n2, .int .i64 n3] W fun e w' => e = .returned (.bool true) ∧ Below W.heap.size W w' := by
  obtain ⟨L0, hL0⟩ := open_ints h0
  obtain ⟨K1, X1, Y1, Z1, hs1, _⟩ := open_steps h1
  exact pressed_any doc_ok W a0 l0 c0 L0 hL0 b0 a1 l1 c1 K1 X1 Y1 Z1 hs1 (by omega) n2 f2 n3 f3
set_option maxRecDepth 100000 in
theorem pressed_lifted (os : Os) (started : os.Started) (H : Type) (enc : TypeId × Value → H) :
    ReturnsInHanded {} Tryz.checked os 9 .any (Rows.pressedSpec.pre6 enc Tryz.prog Tryz.f9 Rows.pressedRow.domain false) (Rows.pressedSpec.post enc Tryz.prog Tryz.f9 false true false false) := by
  refine returnsInHanded_of_change_sized (C := Tryz.checked) Tryz.own started (by kernel_rfl) Tryz.func9
    (ChangeSpec.witness6 (enc := enc) (C := Tryz.checked) false ⟨#[], #[.slice none 0 0, .slice none 0 0, .int .i64 0, .int .i64 0], []⟩ 8 (by kernel_rfl) (by kernel_rfl) (by kernel_rfl) (by kernel_rfl)) ?_
  intro W base args ds gs before hval0 hW _ hsz0 _
  have hval : ∀ (j : Nat) t v, Tryz.f9.params[j]? = some t → args[j]? = some v → Value.okWide Tryz.prog W .any base t v := hval0
  have hsz1 : (DataW.weightsEach Tryz.prog (Tryz.f9.params.toList ++ Rows.pressedSpec.plain.varTypes Tryz.prog) (ds ++ gs)).all (· ≤ reachBytes) = true := hsz0
  have hW' := hW
  obtain ⟨p, q, hA0, hV, rfl, _, _⟩ := hW
  have hA : DataW.TrodAll enc Tryz.prog W 0 (fun _ => true) true Tryz.f9.params.toList args.toList ds p := hA0
  rw [Tryz.params9] at hA hval hsz1
  obtain ⟨v0, v1, v2, v3, d0, d1, d2, d3, p0, p1, p2, p3, rfl, rfl, rfl, h0, h1, h2, h3⟩ := trodAll_four hA
  obtain ⟨rfl, rfl⟩ := trodVars_none hV
  obtain ⟨a0, l0, c0, rfl⟩ := okWide_slice Tryz.underlying40 (hval 0 40 v0 rfl rfl)
  obtain ⟨a1, l1, c1, rfl⟩ := okWide_slice Tryz.underlying25 (hval 1 25 v1 rfl rfl)
  obtain ⟨n2, rfl⟩ := okWide_int Tryz.underlying3 (hval 2 3 v2 rfl rfl)
  obtain ⟨n3, rfl⟩ := okWide_int Tryz.underlying3 (hval 3 3 v3 rfl rfl)
  have h0k := h0
  have h1k := h1
  have h2k := h2
  have h3k := h3
  obtain ⟨fuel0, hf0⟩ := h0
  obtain ⟨fuel1, hf1⟩ := h1
  have f2 := int_fit h2
  have f3 := int_fit h3
  clear hA0 hval0 hsz0
  simp only [List.append_nil] at hW'
  have hsz : (DataW.weightsEach Tryz.prog [40, 25, 3, 3] [d0, d1, d2, d3]).all (· ≤ reachBytes) = true := hsz1
  have b0 := ints_short (by simpa [Value.cells] using hf0) 0 rfl rfl hsz
  have b1 := steps_short_at (by simpa [Value.cells] using hf1) 1 rfl rfl hsz
  have hlt : ∀ x ∈ p0 ++ p1 ++ p2 ++ p3, x.block < W.heap.size := fun x hx => by simpa using hW'.lt x hx
  have hargs0 : ∀ (W' : World), Below W.heap.size W W' → DataW.Trod enc Tryz.prog W' 0 (fun b => decide (b < W.heap.size)) true 40 (.slice a0 l0 c0) d0 p0 :=
    fun W' hn => Below.trod Tryz.laidOut (by kernel_rfl) (of_decide_eq_true (by kernel_rfl)) h0k hn (fun x hx => hlt x (List.mem_append_left _ (List.mem_append_left _ (List.mem_append_left _ hx))))
  have hargs1 : ∀ (W' : World), Below W.heap.size W W' → DataW.Trod enc Tryz.prog W' 0 (fun b => decide (b < W.heap.size)) true 25 (.slice a1 l1 c1) d1 p1 :=
    fun W' hn => Below.trod Tryz.laidOut (by kernel_rfl) (of_decide_eq_true (by kernel_rfl)) h1k hn (fun x hx => hlt x (List.mem_append_left _ (List.mem_append_left _ (List.mem_append_right _ hx))))
  have hargs2 : ∀ (W' : World), Below W.heap.size W W' → DataW.Trod enc Tryz.prog W' 0 (fun b => decide (b < W.heap.size)) true 3 (.int .i64 n2) d2 p2 :=
    fun W' hn => Below.trod Tryz.laidOut (by kernel_rfl) (of_decide_eq_true (by kernel_rfl)) h2k hn (fun x hx => hlt x (List.mem_append_left _ (List.mem_append_right _ hx)))
  have hargs3 : ∀ (W' : World), Below W.heap.size W W' → DataW.Trod enc Tryz.prog W' 0 (fun b => decide (b < W.heap.size)) true 3 (.int .i64 n3) d3 p3 :=
    fun W' hn => Below.trod Tryz.laidOut (by kernel_rfl) (of_decide_eq_true (by kernel_rfl)) h3k hn (fun x hx => hlt x (List.mem_append_right _ hx))
  refine (pressed_args (by simpa [Value.cells] using hf0) b0 (by simpa [Value.cells] using hf1) b1 n2 f2 n3 f3).mono fun e W' ⟨he, hn⟩ => ?_
  subst he
  refine ⟨_, rfl, _, _, _, [], p0 ++ (p1 ++ (p2 ++ p3)), [], hW', ?_, ?_, rfl, hn.frame _, fun h => by cases h⟩
  · exact trodAll_mk1 (shut_bool Tryz.underlying4 true)
  · exact trodAll_mk4 (hargs0 _ hn) (hargs1 _ hn) (hargs2 _ hn) (hargs3 _ hn)
theorem pressed_holds : Rows.PressedSaid :=
  OpenClaim.holds_of_wide 9 Tryz.f9 rfl rfl rfl rfl rfl rfl rfl ⟨rfl, rfl, rfl, rfl, rfl⟩ rfl rfl rfl rfl rfl (by kernel_rfl) Tryz.func9 (by kernel_rfl)
    (of_decide_eq_true (by kernel_rfl)) (by unfold Func.isWrapper; first | (rw [if_pos (by decide +kernel)]; kernel_rfl) | (rw [if_neg (by decide +kernel)]; exact ⟨rfl, rfl⟩))
    (fun os started H enc _ => pressed_lifted os started H enc)
end Go.Proofs.YtblfffbmklkhmaaGreat
