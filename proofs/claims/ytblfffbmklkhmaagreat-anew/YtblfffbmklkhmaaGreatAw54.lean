/- Own work. -/
import Derived.Test.YtblfffbmklkhmaaGreatAw53
import Derived.Test.YtblfffbmklkhmaaGreatAw49
namespace Go.Proofs.YtblfffbmklkhmaaGreat
open Go.RowKit
section
set_option maxRecDepth 100000
set_option maxHeartbeats 4000000
variable {DS : World → Value → Tree → Nat → (Nat → Mk) → List PRu → (Nat → Prop) → Prop}
theorem anew_any (hP4 : DocOK4 DS) (w : World) (al : Option Addr) (ll lc : Nat) (L : Nat → Int) (hI : Il w al ll L) (hll : ll ≤ 4611686018427387904) (al2 : Option Addr) (ll2 lc2 : Nat) (L2 : Nat → Int) (hI2 : Il w al2 ll2 L2) (hll2 : ll2 ≤ 4611686018427387904)
    (a0 : Option Addr) (len cap : Nat) (K X Y Z : Nat → Int) (hs : Sc w a0 len K X Y Z) (hl : len ≤ 1000000000000001) (a1 : Option Addr) (len1 cap1 : Nat) (K1 X1 Y1 Z1 : Nat → Int) (hs1 : Sc w a1 len1 K1 X1 Y1 Z1) (hl1 : len1 ≤ 1000000000000001) :
    Calls Tryz.prog 11 #[.slice al ll lc, .slice al2 ll2 lc2, .slice a0 len cap, .slice a1 len1 cap1] w fun e w' => e = .returned (.bool true) ∧ Below w.heap.size w w' := by
  have HP4 : Hid (DocOK4 DS) := hP4
  have HP : Hid (DocOK DS) := hP4.toDocOK
  have HS : Hid (Sc w a0 len K X Y Z ∧ Sc w a1 len1 K1 X1 Y1 Z1) := ⟨hs, hs1⟩
  have HSH : Hid (∀ W, Below w.heap.size w W → Calls Tryz.prog 27 #[.slice al ll lc, .int .i64 0, .bool false, .int .i64 400] W fun e w' => e = .returned (.string (wSheetF ll L 0 false 400)) ∧ Below W.heap.size W w') := fun W hW => ksheet_any W al ll lc L 0 false 400 (hI.below hW) hll (by decide) (by decide)
  have HSH2 : Hid (∀ W, Below w.heap.size w W → Calls Tryz.prog 27 #[.slice al2 ll2 lc2, .int .i64 0, .bool false, .int .i64 400] W fun e w' => e = .returned (.string (wSheetF ll2 L2 0 false 400)) ∧ Below W.heap.size W w') := fun W hW => ksheet_any W al2 ll2 lc2 L2 0 false 400 (hI2.below hW) hll2 (by decide) (by decide)
  have HCK : Hid ((chk (wSheetF ll L 0 false 400)).1 = 0) := by unfold Hid; rw [wSheet_chk (Nat.le_refl _)]
  have HCK2 : Hid ((chk (wSheetF ll2 L2 0 false 400)).1 = 0) := by unfold Hid; rw [wSheet_chk (Nat.le_refl _)]
  have hsz : (wSheetF ll L 0 false 400).size ≤ 400 := wSheetF_size
  have hsz2 : (wSheetF ll2 L2 0 false 400).size ≤ 400 := wSheetF_size
  clear hP4 hs hs1 hI hI2
  generalize wSheetF ll L 0 false 400 = sh at HSH HCK hsz
  generalize wSheetF ll2 L2 0 false 400 = sh2 at HSH2 HCK2 hsz2
  have HPL : Hid (∀ W, Calls Tryz.prog 19 #[.string sh, .int .i64 0] W fun e w' => KPlantPost DS W 0 (sheetOf sh) e w') := fun W => kplant_any HP.out W sh 0 (by decide) (by unfold maxLen; omega) HCK.out
  have HPL2 : Hid (∀ W, Calls Tryz.prog 19 #[.string sh2, .int .i64 0] W fun e w' => KPlantPost DS W 0 (sheetOf sh2) e w') := fun W => kplant_any HP.out W sh2 0 (by decide) (by unfold maxLen; omega) HCK2.out
  have HML : Hid (sh2.size ≤ maxLen) := by unfold Hid maxLen; omega
  generalize sheetOf sh = rs at HPL
  obtain ⟨rs2, hrs2⟩ : ∃ rs2, rs2 = sheetOf sh2 := ⟨_, rfl⟩
  have HRS : Hid (rs2 = sheetOf sh2) := hrs2
  rw [← hrs2] at HPL2
  clear HCK hrs2
  go_enter Tryz.func11, Tryz.ntmps11
  go_wp2_with fail
  refine (khead_any HP.out w).mono ?_
  rintro e w1 ⟨rfl, hB1⟩
  have HB1 : Hid (Below w.heap.size w w1) := hB1
  clear hB1
  go_wp2_with fail
  refine (HSH.out _ HB1.out).mono ?_
  rintro e w2 ⟨rfl, hB2⟩
  have HB2 : Hid (Below w.heap.size w w2) := HB1.out.trans (hB2.mono HB1.out.size)
  clear hB2 HB1 HSH
  go_wp2_with fail
  refine (HSH2.out _ HB2.out).mono ?_
  rintro e w2b ⟨rfl, hB2⟩
  have HB2b : Hid (Below w.heap.size w w2b) := HB2.out.trans (hB2.mono HB2.out.size)
  clear hB2 HB2 HSH2
  go_wp2_with fail
  refine (HPL.out _).mono ?_
  rintro e w3 ⟨g, px, vl, n0, Fg, Fx, rfl, hgd, hin, hB3⟩
  have HGD : Hid (GD DS w3 g px vl 1 0 [rootN n0 0] rs Fg Fx ∧ (∀ k, Fg k ∨ Fx k → w.heap.size ≤ k) ∧ Below w.heap.size w w3) := ⟨hgd, fun k hk => Nat.le_trans HB2b.out.size (hin k hk), HB2b.out.trans (hB3.mono HB2b.out.size)⟩
  clear hgd hin hB3 HB2b
  go_wp2_with fail
  refine (HPL2.out _).mono ?_
  rintro e w4 ⟨g2, px2, vl2, n02, Fg2, Fx2, rfl, hgd, hin, hB4⟩
  have HT : Hid (Two DS w w4 g px vl 1 0 [rootN n0 0] rs Fg Fx g2 px2 vl2 1 0 [rootN n02 0] rs2 Fg2 Fx2) := two_plant HP.out HGD.out.1 HGD.out.2.1 HGD.out.2.2 hgd hin hB4
  clear hgd hin hB4 HGD HPL HPL2
  go_wp2_with fail
  refine (kgrow4_sc HP4.out w4 g px vl 1 0 [rootN n0 0] rs Fg Fx HT.out.one 11 (by decide) (by decide) a0 len cap K X Y Z HS.out.1 HT.out.bl HT.out.na (by omega)).mono ?_
  rintro e w5 ⟨rfl, vl1, ns, Fg1, Fx1, hS, hgd, hin, hfr⟩
  have HT5 : Hid (Two DS w w5 g px vl1 (growS 0 11 K X Y Z ([rootN n0 0].map GN.pl) 1 len).2 0 ns rs Fg1 Fx1 g2 px2 vl2 1 0 [rootN n02 0] rs2 Fg2 Fx2) := HT.out.turn HP.out hgd hin (fun _ hk => hk) hfr
  have HZ1 : Hid (SzS (ns.map GN.pl) (growS 0 11 K X Y Z ([rootN n0 0].map GN.pl) 1 len).2) := by
    unfold Hid
    rw [← hS]
    exact sz_grow 11 K X Y Z [rootS 0] 1 sz_root len
  have hmd := growS_made 0 11 K X Y Z ([rootN n0 0].map GN.pl) 1 len
  clear hS hgd hin hfr HT
  generalize (growS 0 11 K X Y Z ([rootN n0 0].map GN.pl) 1 len).2 = made at HT5 HZ1 hmd
  obtain ⟨pa, hpa⟩ := HP.out.ptr HT5.out.one.ds
  subst hpa
  have u0 := HT5.out.one.gr.c0
  have hgl := HT5.out.one.gr.lt
  go_wp2_with fail
  refine (HP.out.sht _ (.pointer (some pa)) (treeS (ns.map GN.pl)) made (mOf 0 (ns.map GN.pl)) rs Fx1 sh2 HML.out HT5.out.one.ds).mono ?_
  rintro e w6 ⟨y, rfl, hy, hds, hf6⟩
  rw [HCK2.out] at hy
  subst hy
  rw [if_pos rfl, ← HRS.out] at hds
  have HT6 : Hid (Two DS w w6 g (.pointer (some pa)) vl1 made 0 ns rs2 Fg1 (Grew Fx1 w5 w6) g2 px2 vl2 1 0 [rootN n02 0] rs2 Fg2 Fx2) := HT5.out.turn HP.out (HT5.out.one.sheet HP.out hds hf6) (fun k hk => by
    rcases hk with hk | hk
    · exact Or.inl (Or.inl hk)
    · exact hk.1.imp Or.inr id) (fun k hk => Or.inr hk) hf6
  clear hds hf6 HT5 u0 hgl HCK2 HRS HML
  generalize Grew Fx1 w5 w6 = Fx6 at HT6
  go_wp2_with fail
  refine (kgrow4_sc HP4.out w6 g (.pointer (some pa)) vl1 made 0 ns rs2 Fg1 Fx6 HT6.out.one 11 (by decide) (by decide) a1 len1 cap1 K1 X1 Y1 Z1 HS.out.2 HT6.out.bl HT6.out.na (by omega)).mono ?_
  rintro e w7 ⟨rfl, vl3, ns3, Fg3, Fx3, hS, hgd, hin, hfr⟩
  have HT7 : Hid (Two DS w w7 g (.pointer (some pa)) vl3 (growS 0 11 K1 X1 Y1 Z1 (ns.map GN.pl) made len1).2 0 ns3 rs2 Fg3 Fx3 g2 px2 vl2 1 0 [rootN n02 0] rs2 Fg2 Fx2) := HT6.out.turn HP.out hgd hin (fun _ hk => hk) hfr
  have HZ3 : Hid (SzS (ns3.map GN.pl) (growS 0 11 K1 X1 Y1 Z1 (ns.map GN.pl) made len1).2) := by
    unfold Hid
    rw [← hS]
    exact sz_grow 11 K1 X1 Y1 Z1 _ made HZ1.out len1
  clear hS hgd hin hfr HT6 HZ1 hmd
  generalize (growS 0 11 K1 X1 Y1 Z1 (ns.map GN.pl) made len1).2 = made3 at HT7 HZ3
  obtain ⟨pa2, hpa2⟩ := HP.out.ptr HT7.out.two.ds
  subst hpa2
  obtain ⟨x, hx, hx0⟩ : ∃ x ∈ ns3, x.num = 0 := by
    obtain ⟨l, hl⟩ := HT7.out.one.pw.tw.root
    obtain ⟨z, hz, h1, _⟩ := of_treeS hl
    obtain ⟨x, hx, rfl⟩ := List.mem_map.1 hz
    exact ⟨x, hx, h1⟩
  have HCO : Hid (Calls Tryz.prog 29 #[.pointer (some ⟨g, 0, none⟩), .pointer (some ⟨g2, 0, none⟩), .int .i64 0, .int .i64 0, .slice none 0 0] w7 fun e w' => CopPost DS w g (.pointer (some pa)) vl3 made3 ns3 rs2 Fg3 Fx3 g2 pa2 vl2 rs2 Fg2 x 0 [(0, [])] (mOf 0 [rootS 0]) 1 [] e w') := by
    have h1 := copied_any HP.out w g (.pointer (some pa)) vl3 made3 ns3 rs2 Fg3 Fx3 g2 pa2 vl2 rs2 Fg2 HT7.out.one.pw HZ3.out.szok x hx w7 0 [(0, [])] (mOf 0 [rootS 0]) 1 [] (.slice none 0 0) Fx2
    have hxm : x.pl ∈ ns3.map GN.pl := List.mem_map.2 ⟨x, hx, rfl⟩
    rw [hx0] at h1
    exact h1 (root_pre (HP.out.tw HT7.out.two.ds) hxm hx0 HT7.out.one.pw) (by rw [root_mark]; exact congrArg newMk ((HZ3.out.2 x.pl hxm).2.2 hx0).symm) (two_cs HT7.out)
  have HX : Hid (x ∈ ns3 ∧ x.num = 0) := ⟨hx, hx0⟩
  have HPW : Hid (PW (ns3.map GN.pl) made3) := HT7.out.one.pw
  clear hx hx0 HT7 HZ3 HS
  go_wp2_with fail
  refine HCO.out.mono ?_
  rintro e w8 ⟨vp, T2, M2, made2, new, Fx4, rfl, hinv, hcs⟩
  rw [List.nil_append] at hcs
  obtain ⟨ap, cp, hvp⟩ := own_shape hcs.row
  subst hvp
  have HVAL : Hid (∀ z ∈ new, ∃ n ∈ ns3, n.num = z.1 ∧ (∃ l, (z.2, l) ∈ T2) ∧ ∀ p, valT T2 M2 rs2 z.2 p = valS (mOf 0 (ns3.map GN.pl)) (ns3.map GN.pl) rs2 n.num p) := fun z hz => by
    rw [HX.out.2] at hinv
    have hk : (0, x.kids) ∈ treeS (ns3.map GN.pl) := by
      have := mem_treeS (List.mem_map.2 ⟨x, HX.out.1, rfl⟩ : x.pl ∈ ns3.map GN.pl)
      rw [show x.pl.num = 0 from HX.out.2] at this
      exact this
    obtain ⟨ψ, hom, hps⟩ := hinv.whole hk
    obtain ⟨l, hl⟩ := (hps z hz).2
    obtain ⟨lz, hlz⟩ := hinv.inT z hz
    obtain ⟨y, hy, h1, _⟩ := of_treeS hlz
    obtain ⟨n, hn, rfl⟩ := List.mem_map.1 hy
    have h1' : n.num = z.1 := h1
    refine ⟨n, hn, h1', ⟨l, hl⟩, fun p => ?_⟩
    unfold valT valS
    rw [hom_style hom hinv.tw HPW.out.tw rs2 hl, (hps z hz).1, h1']
  have hnl : new.length ≤ 24 := by
    have h1 := hinv.len
    have h2 := hcs.one.len
    have h3 := nodup_len hinv.fst (m := (treeS (ns3.map GN.pl)).map Prod.fst) (fun k hk => by
      obtain ⟨z, hz, rfl⟩ := List.mem_map.1 hk
      obtain ⟨l, hl⟩ := hinv.inT z hz
      exact List.mem_map.2 ⟨_, hl, rfl⟩)
    rw [List.length_map, List.length_map, treeS_len, List.length_map] at h3
    have h4 : ([] ++ new).length = new.length := rfl
    omega
  have HC8 : Hid (∃ F1 F2, Cs DS w w8 g (.pointer (some pa)) vl3 made3 0 ns3 rs2 Fg3 F1 g2 (.pointer (some pa2)) vl2 made2 0 T2 made2 M2 rs2 Fg2 F2 (.slice ap (2 * new.length) cp) new) := ⟨_, _, hcs⟩
  clear hinv hcs HCO HX HPW
  generalize HLN : 2 * new.length = ln at HC8 ⊢
  have HLNH : Hid (2 * new.length = ln) := HLN
  clear HLN
  go_wp2_with fail
  go_loopg [16, 17, 18, 19, 20, 21] new.length (fun gk iv s1 s2 s3 s4 s5 wr => ∃ j m : Nat, iv = .int .i64 m ∧ Hid (m = 2 * j) ∧ j ≤ new.length ∧ new.length - j ≤ gk ∧ Hid (∃ F1 F2, Cs DS w wr g (.pointer (some pa)) vl3 made3 0 ns3 rs2 Fg3 F1 g2 (.pointer (some pa2)) vl2 made2 0 T2 made2 M2 rs2 Fg2 F2 (.slice ap ln cp) new))
  case atStart => exact ⟨0, 0, rfl, rfl, Nat.zero_le _, by omega, HC8⟩
  case round =>
    obtain ⟨j, m, rfl, HMJ, hj, hgk, HI⟩ := hrel
    obtain ⟨F1, F2, hc⟩ := HI.out
    have HC : Hid (Cs DS w wr g (.pointer (some pa)) vl3 made3 0 ns3 rs2 Fg3 F1 g2 (.pointer (some pa2)) vl2 made2 0 T2 made2 M2 rs2 Fg2 F2 (.slice ap ln cp) new) := hc
    clear hc HI
    have hm48 : (m : Int) ≤ 48 := by have := HMJ.out; omega
    by_cases hlt : j < new.length
    · have hml : (m : Int) + 1 < (ln : Int) := by have := HMJ.out; have := HLNH.out; omega
      have hml0 : (m : Int) < (ln : Int) := by omega
      have hml2 : m + 1 < ln := by omega
      have hd : decide ((m : Int) + 1 < (ln : Int)) = true := by simp; omega
      obtain ⟨r, hr, hrl, hrc⟩ := own_cells (a := ap) (n := ln) (c := cp) (by have := HC.out.row; rw [HLNH.out] at this; exact this) (by omega)
      subst hr
      obtain ⟨z, hz⟩ : ∃ z, new[j] = z := ⟨_, rfl⟩
      have q0 : wr.cell? ⟨r, m, none⟩ = some (.int .i64 (z.1 : Nat)) := by
        rw [HMJ.out, ← hz]
        exact hrc _ _ (pairL_at hlt).1
      have HQ1 : Hid ((pairL new)[m + 1]? = some (.int .i64 (z.2 : Nat))) := by
        unfold Hid
        rw [HMJ.out, ← hz]
        exact (pairL_at hlt).2
      obtain ⟨n, hn, hnn, ⟨lz, hlz⟩, hval⟩ := HVAL.out z (by rw [← hz]; exact List.getElem_mem hlt)
      rw [← hnn] at q0
      have HN : Hid (n ∈ ns3 ∧ (z.2, lz) ∈ T2 ∧ ∀ p, valT T2 M2 rs2 z.2 p = valS (mOf 0 (ns3.map GN.pl)) (ns3.map GN.pl) rs2 n.num p) := ⟨hn, hlz, hval⟩
      clear hz hn hnn hlz hval hrc
      generalize z.2 = zb at HQ1 HN
      go_wp2_with fail
      refine (kall_any HP.out wr g (.pointer (some pa)) vl3 made3 0 (mOf 0 (ns3.map GN.pl)) ns3 rs2 Fg3 F1 HC.out.one.gdm n HN.out.1).mono ?_
      generalize HVV : valS (mOf 0 (ns3.map GN.pl)) (ns3.map GN.pl) rs2 n.num = VV at HN ⊢
      unfold KAllPost nineV
      rintro e w9 ⟨rfl, F3, hgd3, hin3, hfr3⟩
      have HC9 : Hid (Cs DS w w9 g (.pointer (some pa)) vl3 made3 0 ns3 rs2 Fg3 F3 g2 (.pointer (some pa2)) vl2 made2 0 T2 made2 M2 rs2 Fg2 F2 (.slice (some ⟨r, 0, none⟩) ln cp) new) := HC.out.all1 HP.out hgd3 hin3 hfr3
      clear hgd3 hin3 hfr3 HVV q0 hrl HC
      go_upto_region 22 with fail
      have HWA : Hid (Below w9.heap.size w9 (w9.alloc (.cells #[.int .i64 (VV 0), .int .i64 (VV 1), .int .i64 (VV 2), .int .i64 (VV 3), .int .i64 (VV 4), .int .i64 (VV 5), .int .i64 (VV 6), .int .i64 (VV 7), .int .i64 (VV 8)] 38)) ∧ (w9.alloc (.cells #[.int .i64 (VV 0), .int .i64 (VV 1), .int .i64 (VV 2), .int .i64 (VV 3), .int .i64 (VV 4), .int .i64 (VV 5), .int .i64 (VV 6), .int .i64 (VV 7), .int .i64 (VV 8)] 38)).heap[w9.heap.size]? = some (.cells #[.int .i64 (VV 0), .int .i64 (VV 1), .int .i64 (VV 2), .int .i64 (VV 3), .int .i64 (VV 4), .int .i64 (VV 5), .int .i64 (VV 6), .int .i64 (VV 7), .int .i64 (VV 8)] 38)) := ⟨(Below.refl _ _).alloc (Nat.le_refl _) _, heap_alloc_new w9 _⟩
      generalize w9.alloc (.cells #[.int .i64 (VV 0), .int .i64 (VV 1), .int .i64 (VV 2), .int .i64 (VV 3), .int .i64 (VV 4), .int .i64 (VV 5), .int .i64 (VV 6), .int .i64 (VV 7), .int .i64 (VV 8)] 38) = WA at HWA ⊢
      have HCA : Hid (Cs DS w WA g (.pointer (some pa)) vl3 made3 0 ns3 rs2 Fg3 F3 g2 (.pointer (some pa2)) vl2 made2 0 T2 made2 M2 rs2 Fg2 F2 (.slice (some ⟨r, 0, none⟩) ln cp) new) := HC9.out.below HP.out HWA.out.1
      have HNA : Hid (¬ F2 w9.heap.size) := fun hx => Nat.lt_irrefl _ (HC9.out.two.here _ (Or.inr hx))
      clear HC9
      obtain ⟨r2, hr2, hrl, hrc⟩ := own_cells (a := some ⟨r, 0, none⟩) (n := ln) (c := cp) (by have := HCA.out.row; rw [HLNH.out] at this; exact this) (by omega)
      injection hr2 with hr2
      injection hr2 with hr2 _ _
      subst hr2
      have q1 : WA.cell? ⟨r, m + 1, none⟩ = some (.int .i64 (zb : Nat)) := hrc _ _ HQ1.out
      clear hrc
      go_wp2_with fail
      refine (kallX_any HP.out WA g2 (.pointer (some pa2)) vl2 made2 0 T2 made2 M2 rs2 Fg2 F2 HCA.out.two zb lz HN.out.2.1).mono ?_
      have HEQ : Hid (∀ p, p < 9 → VV p = valT T2 M2 rs2 zb p) := fun p _ => (HN.out.2.2 p).symm
      clear HN
      generalize valT T2 M2 rs2 zb = UU at HEQ ⊢
      unfold KAllXPost nineV
      rintro e wB ⟨rfl, F4, hgx3, hin3, hfr3⟩
      have HCB : Hid (Cs DS w wB g (.pointer (some pa)) vl3 made3 0 ns3 rs2 Fg3 F3 g2 (.pointer (some pa2)) vl2 made2 0 T2 made2 M2 rs2 Fg2 F4 (.slice (some ⟨r, 0, none⟩) ln cp) new) := HCA.out.all2 HP.out hgx3 hin3 hfr3
      have hl9 := (Array.getElem?_eq_some_iff.1 HWA.out.2).1
      have hWB : wB.heap[w9.heap.size]? = some (.cells #[.int .i64 (VV 0), .int .i64 (VV 1), .int .i64 (VV 2), .int .i64 (VV 3), .int .i64 (VV 4), .int .i64 (VV 5), .int .i64 (VV 6), .int .i64 (VV 7), .int .i64 (VV 8)] 38) := (hfr3.block w9.heap.size hl9 HNA.out).trans HWA.out.2
      generalize w9.heap.size = bv at hWB ⊢
      have y0 : wB.cell? ⟨bv, 0, none⟩ = some (.int .i64 (VV 0)) := cell_of_blk hWB rfl
      have y1 : wB.cell? ⟨bv, 1, none⟩ = some (.int .i64 (VV 1)) := cell_of_blk hWB rfl
      have y2 : wB.cell? ⟨bv, 2, none⟩ = some (.int .i64 (VV 2)) := cell_of_blk hWB rfl
      have y3 : wB.cell? ⟨bv, 3, none⟩ = some (.int .i64 (VV 3)) := cell_of_blk hWB rfl
      have y4 : wB.cell? ⟨bv, 4, none⟩ = some (.int .i64 (VV 4)) := cell_of_blk hWB rfl
      have y5 : wB.cell? ⟨bv, 5, none⟩ = some (.int .i64 (VV 5)) := cell_of_blk hWB rfl
      have y6 : wB.cell? ⟨bv, 6, none⟩ = some (.int .i64 (VV 6)) := cell_of_blk hWB rfl
      have y7 : wB.cell? ⟨bv, 7, none⟩ = some (.int .i64 (VV 7)) := cell_of_blk hWB rfl
      have y8 : wB.cell? ⟨bv, 8, none⟩ = some (.int .i64 (VV 8)) := cell_of_blk hWB rfl
      have hlB : bv < wB.heap.size := (Array.getElem?_eq_some_iff.1 hWB).1
      have HSM : Hid (∀ W, Calls Tryz.prog 23 #[.agg #[.int .i64 (VV 0), .int .i64 (VV 1), .int .i64 (VV 2), .int .i64 (VV 3), .int .i64 (VV 4), .int .i64 (VV 5), .int .i64 (VV 6), .int .i64 (VV 7), .int .i64 (VV 8)], .agg #[.int .i64 (UU 0), .int .i64 (UU 1), .int .i64 (UU 2), .int .i64 (UU 3), .int .i64 (UU 4), .int .i64 (UU 5), .int .i64 (UU 6), .int .i64 (UU 7), .int .i64 (UU 8)]] W fun e w' => e = .returned (.bool true) ∧ Below W.heap.size W w') := fun W => ksame_any W VV UU HEQ.out
      clear hgx3 hin3 hfr3 hWB HEQ q1 hrl HCA hl9 HNA HWA HQ1
      go_wp2_with fail
      refine (HSM.out _).mono ?_
      rintro e wC ⟨rfl, hBB⟩
      have HBB : Hid (Below wB.heap.size wB wC) := ((Below.refl _ _).alloc (Nat.le_refl _) (.cells #[.int .i64 (UU 0), .int .i64 (UU 1), .int .i64 (UU 2), .int .i64 (UU 3), .int .i64 (UU 4), .int .i64 (UU 5), .int .i64 (UU 6), .int .i64 (UU 7), .int .i64 (UU 8)] 38)).trans (hBB.mono (by simp))
      have HIB : Hid (∃ F1 F2, Cs DS w wC g (.pointer (some pa)) vl3 made3 0 ns3 rs2 Fg3 F1 g2 (.pointer (some pa2)) vl2 made2 0 T2 made2 M2 rs2 Fg2 F2 (.slice (some ⟨r, 0, none⟩) ln cp) new) := ⟨_, _, HCB.out.below HP.out HBB.out⟩
      have HMJ2 : Hid (m + 2 = 2 * (j + 1)) := by have := HMJ.out; unfold Hid; omega
      clear hBB HCB HBB HSM y0 y1 y2 y3 y4 y5 y6 y7 y8 hlB
      go_wp2
      go_roundg (new.length - (j + 1))
      case measure => omega
      case rel => exact ⟨j + 1, m + 2, by go_num, HMJ2, by omega, Nat.le_refl _, HIB⟩
    · have hml : ¬ (m : Int) + 1 < (ln : Int) := by have := HMJ.out; have := HLNH.out; omega
      have hd : decide ((m : Int) + 1 < (ln : Int)) = false := by simp; omega
      have HE : Hid (Below w.heap.size w wr) := HC.out.bl
      clear HC
      go_wp2
      go_ret
      exact ⟨rfl, HE.out⟩
end
end Go.Proofs.YtblfffbmklkhmaaGreat

namespace Go.Proofs.YtblfffbmklkhmaaGreat
open Go.ChangeShapes Go.WideShapes Go.ChangeAt Go.RowKit
theorem anew_args {W : World} {H : Type} {enc : TypeId × Value → H} {a0 : Option Addr} {l0 c0 g0 : Nat} {x0 : DataW H × List MemPlace} {a1 : Option Addr} {l1 c1 g1 : Nat} {x1 : DataW H × List MemPlace} {a2 : Option Addr} {l2 c2 g2 : Nat} {x2 : DataW H × List MemPlace} {a3 : Option Addr} {l3 c3 g3 : Nat} {x3 : DataW H × List MemPlace} (h0 : DataW.trod enc Tryz.prog W 0 (fun _ => true) true g0 40 [.slice a0 l0 c0] = some x0) (b0 : l0 ≤ 4611686018427387904) (h1 : DataW.trod enc Tryz.prog W 0 (fun _ => true) true g1 40 [.slice a1 l1 c1] = some x1) (b1 : l1 ≤ 4611686018427387904) (h2 : DataW.trod enc Tryz.prog W 0 (fun _ => true) true g2 25 [.slice a2 l2 c2] = some x2) (b2 : l2 ≤ 1000000000000000) (h3 : DataW.trod enc Tryz.prog W 0 (fun _ => true) true g3 25 [.slice a3 l3 c3] = some x3) (b3 : l3 ≤ 1000000000000000) :
    Calls Tryz.prog 11 #[.slice a0 l0 c0, .slice a1 l1 c1, .slice a2 l2 c2, .slice a3 l3 c3] W fun e w' => e = .returned (.bool true) ∧ Below W.heap.size W w' := by
  obtain ⟨L0, hL0⟩ := open_ints h0
  obtain ⟨L1, hL1⟩ := open_ints h1
  obtain ⟨K2, X2, Y2, Z2, hs2, _⟩ := open_steps h2
  obtain ⟨K3, X3, Y3, Z3, hs3, _⟩ := open_steps h3
  exact anew_any doc_ok4 W a0 l0 c0 L0 hL0 b0 a1 l1 c1 L1 hL1 b1 a2 l2 c2 K2 X2 Y2 Z2 hs2 (by omega) a3 l3 c3 K3 X3 Y3 Z3 hs3 (by omega)
set_option maxRecDepth 100000 in
theorem anew_lifted (os : Os) (started : os.Started) (H : Type) (enc : TypeId × Value → H) :
    ReturnsInHanded {} Tryz.checked os 11 .any (Rows.anewSpec.pre6 enc Tryz.prog Tryz.f11 Rows.anewRow.domain false) (Rows.anewSpec.post enc Tryz.prog Tryz.f11 false true false false) := by
  refine returnsInHanded_of_change_sized (C := Tryz.checked) Tryz.own started (by kernel_rfl) Tryz.func11
    (ChangeSpec.witness6 (enc := enc) (C := Tryz.checked) false ⟨#[], #[.slice none 0 0, .slice none 0 0, .slice none 0 0, .slice none 0 0], []⟩ 8 (by kernel_rfl) (by kernel_rfl) (by kernel_rfl) (by kernel_rfl)) ?_
  intro W base args ds gs before hval0 hW _ hsz0 _
  have hval : ∀ (j : Nat) t v, Tryz.f11.params[j]? = some t → args[j]? = some v → Value.okWide Tryz.prog W .any base t v := hval0
  have hsz1 : (DataW.weightsEach Tryz.prog (Tryz.f11.params.toList ++ Rows.anewSpec.plain.varTypes Tryz.prog) (ds ++ gs)).all (· ≤ reachBytes) = true := hsz0
  have hW' := hW
  obtain ⟨p, q, hA0, hV, rfl, _, _⟩ := hW
  have hA : DataW.TrodAll enc Tryz.prog W 0 (fun _ => true) true Tryz.f11.params.toList args.toList ds p := hA0
  rw [Tryz.params11] at hA hval hsz1
  obtain ⟨v0, v1, v2, v3, d0, d1, d2, d3, p0, p1, p2, p3, rfl, rfl, rfl, h0, h1, h2, h3⟩ := trodAll_four hA
  obtain ⟨rfl, rfl⟩ := trodVars_none hV
  obtain ⟨a0, l0, c0, rfl⟩ := okWide_slice Tryz.underlying40 (hval 0 40 v0 rfl rfl)
  obtain ⟨a1, l1, c1, rfl⟩ := okWide_slice Tryz.underlying40 (hval 1 40 v1 rfl rfl)
  obtain ⟨a2, l2, c2, rfl⟩ := okWide_slice Tryz.underlying25 (hval 2 25 v2 rfl rfl)
  obtain ⟨a3, l3, c3, rfl⟩ := okWide_slice Tryz.underlying25 (hval 3 25 v3 rfl rfl)
  have h0k := h0
  have h1k := h1
  have h2k := h2
  have h3k := h3
  obtain ⟨fuel0, hf0⟩ := h0
  obtain ⟨fuel1, hf1⟩ := h1
  obtain ⟨fuel2, hf2⟩ := h2
  obtain ⟨fuel3, hf3⟩ := h3
  clear hA0 hval0 hsz0
  simp only [List.append_nil] at hW'
  have hsz : (DataW.weightsEach Tryz.prog [40, 40, 25, 25] [d0, d1, d2, d3]).all (· ≤ reachBytes) = true := hsz1
  have b0 := ints_short (by simpa [Value.cells] using hf0) 0 rfl rfl hsz
  have b1 := ints_short (by simpa [Value.cells] using hf1) 1 rfl rfl hsz
  have b2 := steps_short_at (by simpa [Value.cells] using hf2) 2 rfl rfl hsz
  have b3 := steps_short_at (by simpa [Value.cells] using hf3) 3 rfl rfl hsz
  have hlt : ∀ x ∈ p0 ++ p1 ++ p2 ++ p3, x.block < W.heap.size := fun x hx => by simpa using hW'.lt x hx
  have hargs0 : ∀ (W' : World), Below W.heap.size W W' → DataW.Trod enc Tryz.prog W' 0 (fun b => decide (b < W.heap.size)) true 40 (.slice a0 l0 c0) d0 p0 :=
    fun W' hn => Below.trod Tryz.laidOut (by kernel_rfl) (of_decide_eq_true (by kernel_rfl)) h0k hn (fun x hx => hlt x (List.mem_append_left _ (List.mem_append_left _ (List.mem_append_left _ hx))))
  have hargs1 : ∀ (W' : World), Below W.heap.size W W' → DataW.Trod enc Tryz.prog W' 0 (fun b => decide (b < W.heap.size)) true 40 (.slice a1 l1 c1) d1 p1 :=
    fun W' hn => Below.trod Tryz.laidOut (by kernel_rfl) (of_decide_eq_true (by kernel_rfl)) h1k hn (fun x hx => hlt x (List.mem_append_left _ (List.mem_append_left _ (List.mem_append_right _ hx))))
  have hargs2 : ∀ (W' : World), Below W.heap.size W W' → DataW.Trod enc Tryz.prog W' 0 (fun b => decide (b < W.heap.size)) true 25 (.slice a2 l2 c2) d2 p2 :=
    fun W' hn => Below.trod Tryz.laidOut (by kernel_rfl) (of_decide_eq_true (by kernel_rfl)) h2k hn (fun x hx => hlt x (List.mem_append_left _ (List.mem_append_right _ hx)))
  have hargs3 : ∀ (W' : World), Below W.heap.size W W' → DataW.Trod enc Tryz.prog W' 0 (fun b => decide (b < W.heap.size)) true 25 (.slice a3 l3 c3) d3 p3 :=
    fun W' hn => Below.trod Tryz.laidOut (by kernel_rfl) (of_decide_eq_true (by kernel_rfl)) h3k hn (fun x hx => hlt x (List.mem_append_right _ hx))
  refine (anew_args (by simpa [Value.cells] using hf0) b0 (by simpa [Value.cells] using hf1) b1 (by simpa [Value.cells] using hf2) b2 (by simpa [Value.cells] using hf3) b3).mono fun e W' ⟨he, hn⟩ => ?_
  subst he
  refine ⟨_, rfl, _, _, _, [], p0 ++ (p1 ++ (p2 ++ p3)), [], hW', ?_, ?_, rfl, hn.frame _, fun h => by cases h⟩
  · exact trodAll_mk1 (shut_bool Tryz.underlying4 true)
  · exact trodAll_mk4 (hargs0 _ hn) (hargs1 _ hn) (hargs2 _ hn) (hargs3 _ hn)
theorem anew_holds : Rows.AnewSaid :=
  OpenClaim.holds_of_wide 11 Tryz.f11 rfl rfl rfl rfl rfl rfl rfl ⟨rfl, rfl, rfl, rfl, rfl⟩ rfl rfl rfl rfl rfl (by kernel_rfl) Tryz.func11 (by kernel_rfl)
    (of_decide_eq_true (by kernel_rfl)) (by unfold Func.isWrapper; first | (rw [if_pos (by decide +kernel)]; kernel_rfl) | (rw [if_neg (by decide +kernel)]; exact ⟨rfl, rfl⟩))
    (fun os started H enc _ => anew_lifted os started H enc)
end Go.Proofs.YtblfffbmklkhmaaGreat
