/- Own work. -/
import Derived.Test.YtblfffbmklkhmaaGreatFi46
import Derived.Test.YtblfffbmklkhmaaGreatFi47
namespace Go.Proofs.YtblfffbmklkhmaaGreat
open Go.RowKit
/-- In the midst of Finished: of the budgets lf is left, dn have been made fresh. -/
def FI (w0 : World) (g : Nat) (px vl : Value) (made : Nat) (ns : List GN) (rs : List PRu) (Fg : Nat → Prop) (lf dn : Nat) (wr : World) : Prop :=
  ∃ kl Fx, GD (DSl kl) wr g px vl made 0 ns rs Fg Fx ∧ scT (treeS (ns.map GN.pl)) kl ≤ lf ∧ dn + scT (treeS (ns.map GN.pl)) kl ≤ ns.length ∧ (∀ k, Fg k ∨ Fx k → w0.heap.size ≤ k) ∧ Below w0.heap.size w0 wr
theorem fi_start {w0 w : World} {g : Nat} {px vl : Value} {made : Nat} {ns : List GN} {rs : List PRu} {Fg Fx : Nat → Prop} (h : GD DSd w g px vl made 0 ns rs Fg Fx) (hn : ∀ k, Fg k ∨ Fx k → w0.heap.size ≤ k) (hB : Below w0.heap.size w0 w) : FI w0 g px vl made ns rs Fg ns.length 0 w := by
  obtain ⟨kl, hk⟩ := gd_kept h
  have h1 := sc_le (treeS (ns.map GN.pl)) kl
  rw [treeS_len, List.length_map] at h1
  exact ⟨kl, Fx, hk, h1, by omega, hn, hB⟩
/-- A slice. -/
theorem fi_slice {w0 w w1 : World} {g : Nat} {px vl : Value} {made : Nat} {ns : List GN} {rs : List PRu} {Fg : Nat → Prop} {lf dn : Nat} (h : FI w0 g px vl made ns rs Fg lf dn w) (hw : w1.heap = w.heap ∧ w1.os = w.os ∧ w1.tape = w.tape ∧ w1.output = w.output) (bz : Int) :
    Calls Tryz.prog 30 #[px, .int .i64 bz] w1 fun e w' => ∃ n : Nat, e = .returned (.int .i64 n) ∧ n ≤ bz.toNat ∧ n ≤ lf ∧ dn + n ≤ ns.length ∧ FI w0 g px vl made ns rs Fg (lf - bz.toNat) (dn + n) w' := by
  obtain ⟨kl, Fx, hg, h1, h2, h3, h4⟩ := h
  have hB1 : Below w.heap.size w w1 := ⟨hw.2.1, hw.2.2.1, hw.2.2.2, by rw [hw.1]; exact Nat.le_refl _, fun k _ => by rw [hw.1]⟩
  refine (dsli_any w1 px _ made _ rs kl Fx bz (hg.lbelow hB1).ds).mono ?_
  rintro e w' ⟨n, kl', rfl, hn, hs, _, hd, hf⟩
  obtain ⟨Fx', g1, g2⟩ := hg.lnext hB1 hd hf
  refine ⟨n, rfl, by omega, by omega, by omega, kl', Fx', g1, by omega, by omega, fun k hk => ?_, ?_⟩
  · rcases hk with hk | hk
    · exact h3 k (Or.inl hk)
    · rcases g2 k hk with g3 | g3
      · exact h3 k (Or.inr g3)
      · exact Nat.le_trans h4.size g3
  · have hB2 : Below w0.heap.size w0 w1 := h4.trans (hB1.mono h4.size)
    exact hB2.trans ⟨hf.os, hf.tape, hf.output, hf.size, fun k hk => hf.block k (Nat.lt_of_lt_of_le hk hB2.size) (fun hx => by have := h3 k (Or.inr hx); omega)⟩
theorem sc_none {T : Tree} {kl : List (Int × List Int)} (h : scT T kl = 0) {k : Nat} {l : List Nat} (hm : (k, l) ∈ T) : (findK kl k).isSome = true := by
  unfold scT at h
  have h1 := List.eq_nil_of_length_eq_zero h
  rw [List.filter_eq_nil_iff] at h1
  have h2 := h1 _ hm
  cases hf : findK kl (k : Int) with
  | none => exact absurd (by rw [hf]; rfl) h2
  | some x => rfl
theorem fi_cells {w0 w : World} {g : Nat} {px vl : Value} {made : Nat} {ns : List GN} {rs : List PRu} {Fg : Nat → Prop} {lf dn : Nat} (h : FI w0 g px vl made ns rs Fg lf dn w) : w.cell? ⟨g, 0, none⟩ = some px ∧ w.cell? ⟨g, 1, none⟩ = some vl ∧ g < w.heap.size := by
  obtain ⟨kl, Fx, hg, _⟩ := h
  exact ⟨cell_of_blk hg.gr.blk rfl, hg.gr.c1, hg.gr.lt⟩
theorem fi_below {w0 w w1 : World} {g : Nat} {px vl : Value} {made : Nat} {ns : List GN} {rs : List PRu} {Fg : Nat → Prop} {lf dn : Nat} (h : FI w0 g px vl made ns rs Fg lf dn w) (hB : Below w.heap.size w w1) : FI w0 g px vl made ns rs Fg lf dn w1 := by
  obtain ⟨kl, Fx, hg, h1, h2, h3, h4⟩ := h
  exact ⟨kl, Fx, hg.lbelow hB, h1, h2, h3, h4.trans (hB.mono h4.size)⟩
theorem fi_stale {w0 w : World} {g : Nat} {px vl : Value} {made : Nat} {ns : List GN} {rs : List PRu} {Fg : Nat → Prop} {dn : Nat} (h : FI w0 g px vl made ns rs Fg 0 dn w) :
    Calls Tryz.prog 31 #[px] w fun e w' => ∃ a c, e = .returned (.slice a 0 c) ∧ FI w0 g px vl made ns rs Fg 0 dn w' := by
  obtain ⟨kl, Fx, hg, h1, h2, h3, h4⟩ := h
  refine (dstl_any w px _ made _ rs kl Fx hg.ds).mono ?_
  rintro e w' ⟨l, a, c, rfl, _, hl, _, hB, _⟩
  have hl0 : l = [] := by
    cases l with
    | nil => rfl
    | cons x l =>
      obtain ⟨g1, k, lk, rfl, g3⟩ := hl x List.mem_cons_self
      have g4 := sc_none (Nat.le_zero.1 h1) g3
      rw [Option.isNone_iff_eq_none] at g1
      rw [g1] at g4
      cases g4
  subst hl0
  exact ⟨a, c, rfl, fi_below ⟨kl, Fx, hg, h1, h2, h3, h4⟩ hB⟩
theorem fi_kept {w0 w : World} {g : Nat} {px vl : Value} {made : Nat} {ns : List GN} {rs : List PRu} {Fg : Nat → Prop} {dn : Nat} (h : FI w0 g px vl made ns rs Fg 0 dn w) :
    Calls Tryz.prog 32 #[.pointer (some ⟨g, 0, none⟩)] w fun e w' => e = .returned (.bool true) ∧ Below w0.heap.size w0 w' := by
  obtain ⟨kl, Fx, hg, h1, h2, h3, h4⟩ := h
  refine (kkept_any w g px vl made 0 ns rs Fg Fx kl hg (fun n hn => ?_)).mono ?_
  · exact sc_none (Nat.le_zero.1 h1) (mem_treeS (List.mem_map.2 ⟨n, hn, rfl⟩ : n.pl ∈ ns.map GN.pl))
  · rintro e w' ⟨rfl, hf⟩
    exact ⟨rfl, h4.trans ⟨hf.os, hf.tape, hf.output, hf.size, fun k hk => hf.block k (Nat.lt_of_lt_of_le hk h4.size) (fun hx => by have := h3 k hx; omega)⟩⟩
section
set_option maxRecDepth 100000
set_option maxHeartbeats 4000000
theorem finished_any (w : World) (al : Option Addr) (ll lc : Nat) (L : Nat → Int) (hI : Il w al ll L) (hll : ll ≤ 4611686018427387904) (a0 : Option Addr) (len cap : Nat) (K X Y Z : Nat → Int) (hs : Sc w a0 len K X Y Z) (hl : len ≤ 4611686018427387903) (ab : Option Addr) (lb cb : Nat) (B : Nat → Int) (hIb : Il w ab lb B) (hlb : lb ≤ 4611686018427387904) :
    Calls Tryz.prog 14 #[.slice al ll lc, .slice a0 len cap, .slice ab lb cb] w fun e w' => e = .returned (.bool true) ∧ Below w.heap.size w w' := by
  have HP : Hid (DocOK DSd) := doc_ok
  have HS : Hid (Sc w a0 len K X Y Z) := hs
  have HIB : Hid (Il w ab lb B) := hIb
  have HSH : Hid (∀ W, Below w.heap.size w W → Calls Tryz.prog 27 #[.slice al ll lc, .int .i64 0, .bool false, .int .i64 400] W fun e w' => e = .returned (.string (wSheetF ll L 0 false 400)) ∧ Below W.heap.size W w') := fun W hW => ksheet_any W al ll lc L 0 false 400 (hI.below hW) hll (by decide) (by decide)
  have HCK : Hid ((chk (wSheetF ll L 0 false 400)).1 = 0) := by unfold Hid; rw [wSheet_chk (Nat.le_refl _)]
  have hsz : (wSheetF ll L 0 false 400).size ≤ 400 := wSheetF_size
  clear hs hI hIb
  generalize wSheetF ll L 0 false 400 = sh at HSH HCK hsz
  have HPL : Hid (∀ W, Calls Tryz.prog 19 #[.string sh, .int .i64 0] W fun e w' => KPlantPost DSd W 0 (sheetOf sh) e w') := fun W => kplant_any HP.out W sh 0 (by decide) (by unfold maxLen; omega) HCK.out
  generalize sheetOf sh = rs at HPL
  clear HCK
  go_enter Tryz.func14, Tryz.ntmps14
  go_wp2_with fail
  refine (khead_any HP.out w).mono ?_
  rintro e w1 ⟨rfl, hB1⟩
  have HB1 : Hid (Below w.heap.size w w1) := hB1
  clear hB1
  go_wp2_with fail
  refine (HSH.out _ HB1.out).mono ?_
  rintro e w2 ⟨rfl, hB2⟩
  have HB2 : Hid (Below w.heap.size w w2) := HB1.out.trans (hB2.mono HB1.out.size)
  clear hB2 HB1 HSH
  go_wp2_with fail
  refine (HPL.out _).mono ?_
  rintro e w3 ⟨g, px, vl, n0, Fg, Fx, rfl, hgd, hin, hB3⟩
  have HGD : Hid (GD DSd w3 g px vl 1 0 [rootN n0 0] rs Fg Fx ∧ (∀ k, Fg k ∨ Fx k → w.heap.size ≤ k) ∧ Below w.heap.size w w3) := ⟨hgd, fun k hk => Nat.le_trans HB2.out.size (hin k hk), HB2.out.trans (hB3.mono HB2.out.size)⟩
  clear hgd hin hB3 HB2 HPL
  go_wp2_with fail
  refine (kgrow4_sc doc_ok4 w3 g px vl 1 0 [rootN n0 0] rs Fg Fx HGD.out.1 11 (by decide) (by decide) a0 len cap K X Y Z HS.out HGD.out.2.2 HGD.out.2.1 (by omega)).mono ?_
  rintro e w5 ⟨rfl, vl1, ns, Fg1, Fx1, hS, hgd, hin, hfr⟩
  generalize (growS 0 11 K X Y Z ([rootN n0 0].map GN.pl) 1 len).2 = made at hgd
  obtain ⟨hln0, hln⟩ := hgd.len
  obtain ⟨pa, rfl⟩ := HP.out.ptr hgd.ds
  obtain ⟨ag, cg, hvl⟩ := own_shape hgd.gr.row
  subst hvl
  have HF5 : Hid (FI w g (.pointer (some pa)) (.slice ag ns.length cg) made ns rs Fg1 ns.length 0 w5) := fi_start hgd (fun k hk => (hin k hk).elim (HGD.out.2.1 k) (fun h => Nat.le_trans HGD.out.2.2.size h)) (HGD.out.2.2.trans (below_fr hfr HGD.out.2.2.size HGD.out.2.1))
  clear hS hgd hin hfr HGD
  obtain ⟨c0, c1, hgl⟩ := fi_cells HF5.out
  go_wp2_with fail
  clear c0 c1 hgl
  go_loopg [10, 11, 12, 13, 14] lb (fun gk lv dv iv bv nv wr => ∃ lf dn i : Nat, lv = .int .i64 lf ∧ dv = .int .i64 dn ∧ iv = .int .i64 i ∧ i ≤ lb ∧ lb - i ≤ gk ∧ lf ≤ ns.length ∧ dn ≤ ns.length ∧ Hid (FI w g (.pointer (some pa)) (.slice ag ns.length cg) made ns rs Fg1 lf dn wr))
  case atStart => exact ⟨ns.length, 0, 0, rfl, rfl, rfl, Nat.zero_le _, by omega, Nat.le_refl _, Nat.zero_le _, HF5⟩
  case round =>
    clear HF5
    obtain ⟨lf, dn, i, rfl, rfl, rfl, hi, hgk, hlf, hdn, HF⟩ := hrel
    obtain ⟨c0, c1, hgl⟩ := fi_cells HF.out
    by_cases hgo : i < lb ∧ 0 < lf
    · have hd1 : decide ((i : Int) < (lb : Int)) = true := by simp; omega
      have hd2 : decide ((0 : Int) < (lf : Int)) = true := by simp; omega
      have hi1 := hgo.1
      have hi2 := hgo.2
      clear hgo
      obtain ⟨gb, off, hab, hgbl, qb, hfit⟩ := HIB.out i hi1
      subst hab
      have HBL : Hid (Below w.heap.size w wr) := by
        obtain ⟨_, _, _, _, _, _, h⟩ := HF.out
        exact h
      have qb' := (HBL.out.cell (p := ⟨gb, off + i, none⟩) hgbl).trans qb
      have hgb2 : gb < wr.heap.size := Nat.lt_of_lt_of_le hgbl HBL.out.size
      have hii : (i : Int) < (lb : Int) := by omega
      have HPC : Hid (∀ W, Calls Tryz.prog 17 #[.int .i64 (B i), .int .i64 ((lf : Int) + 1)] W fun e w' => e = .returned (.int .i64 ((pickZ (B i) (lf + 1) : Nat) : Int)) ∧ w' = W) := fun W => by
        have := kpick_any W (B i) (lf + 1) hfit (by omega) (by omega)
        rwa [show ((lf + 1 : Nat) : Int) = (lf : Int) + 1 from by omega] at this
      have hbb := pickZ_lt (B i) (show 0 < lf + 1 by omega)
      clear qb hfit HBL
      generalize pickZ (B i) (lf + 1) = bb at HPC hbb
      generalize B i = z at qb' HPC
      go_wp2_with fail
      refine (HPC.out _).mono ?_
      rintro e wp ⟨rfl, rfl⟩
      clear qb' hgb2 HPC
      go_wp2_with fail
      refine (fi_slice HF.out ⟨rfl, rfl, rfl, rfl⟩ (bb : Int)).mono ?_
      rintro e w8 ⟨n, rfl, hn1, hn2, hn3, hf8⟩
      have HF8 : Hid (FI w g (.pointer (some pa)) (.slice ag ns.length cg) made ns rs Fg1 (lf - bb) (dn + n) w8) := by rw [Int.toNat_natCast] at hf8; exact hf8
      rw [Int.toNat_natCast] at hn1
      have hd3 : decide ((n : Int) < 0) = false := by simp
      have hd4 : decide ((bb : Int) < (n : Int)) = false := by simp; omega
      clear hf8 HF c0 c1 hgl
      go_wp2
      go_roundg (lb - (i + 1))
      case measure => omega
      case rel => exact ⟨lf - bb, dn + n, i + 1, by go_num, by go_num, by go_num, by omega, Nat.le_refl _, by omega, hn3, HF8⟩
    · have hstop : ¬ (i < lb) ∨ i < lb ∧ ¬ (0 < lf) := by omega
      clear hgo
      rcases hstop with hst | ⟨hst, hst2⟩
      · have hn1 : decide (i < lb) = false := by simp; omega
        have hn2 : decide ((i : Int) < (lb : Int)) = false := by simp; omega
        go_wp2_with fail
        clear hn1 hn2
        refine (fi_slice HF.out ⟨rfl, rfl, rfl, rfl⟩ (lf : Int)).mono ?_
        rintro e w8 ⟨n, rfl, hn1, hn2, hn3, hf8⟩
        have HF8 : Hid (FI w g (.pointer (some pa)) (.slice ag ns.length cg) made ns rs Fg1 0 (dn + n) w8) := by rw [Int.toNat_natCast, Nat.sub_self] at hf8; exact hf8
        clear hf8 HF c0 c1 hgl hn1
        obtain ⟨c0, c1, hgl⟩ := fi_cells HF8.out
        go_wp2_with fail
        refine (fi_slice HF8.out ⟨rfl, rfl, rfl, rfl⟩ 4611686018427387904).mono ?_
        rintro e w9 ⟨n9, rfl, _, hm2, _, hf9⟩
        obtain rfl : n9 = 0 := by omega
        have HF9 : Hid (FI w g (.pointer (some pa)) (.slice ag ns.length cg) made ns rs Fg1 0 (dn + n) w9) := by rw [Nat.zero_sub, Nat.add_zero] at hf9; exact hf9
        clear hf9 HF8 c0 c1 hgl hm2
        obtain ⟨c0, c1, hgl⟩ := fi_cells HF9.out
        go_wp2_with fail
        refine (fi_stale HF9.out).mono ?_
        rintro e wA ⟨sa, cs, rfl, hfA⟩
        have HFA : Hid (FI w g (.pointer (some pa)) (.slice ag ns.length cg) made ns rs Fg1 0 (dn + n) wA) := hfA
        clear hfA HF9 c0 c1 hgl
        obtain ⟨c0, c1, hgl⟩ := fi_cells HFA.out
        have hd3 : decide ((n : Int) < 0) = false := by simp
        have hd4 : decide ((lf : Int) < (n : Int)) = false := by simp; omega
        have hd5 : decide ((ns.length : Int) < (dn : Int) + (n : Int)) = false := by simp; omega
        go_wp2_with fail
        refine (fi_kept HFA.out).mono ?_
        rintro e wB ⟨rfl, hBB⟩
        have HBB : Hid (Below w.heap.size w wB) := hBB
        clear hBB HFA c0 c1 hgl
        go_wp2
        go_ret
        exact ⟨rfl, HBB.out⟩
      · have hn1 : decide (i < lb) = true := by simp; omega
        have hn2 : decide ((i : Int) < (lb : Int)) = true := by simp; omega
        have hn3 : decide (0 < lf) = false := by simp; omega
        have hn4 : decide ((0 : Int) < (lf : Int)) = false := by simp; omega
        go_wp2_with fail
        clear hn1 hn2 hn3 hn4
        refine (fi_slice HF.out ⟨rfl, rfl, rfl, rfl⟩ (lf : Int)).mono ?_
        rintro e w8 ⟨n, rfl, hn1, hn2, hn3, hf8⟩
        have HF8 : Hid (FI w g (.pointer (some pa)) (.slice ag ns.length cg) made ns rs Fg1 0 (dn + n) w8) := by rw [Int.toNat_natCast, Nat.sub_self] at hf8; exact hf8
        clear hf8 HF c0 c1 hgl hn1
        obtain ⟨c0, c1, hgl⟩ := fi_cells HF8.out
        go_wp2_with fail
        refine (fi_slice HF8.out ⟨rfl, rfl, rfl, rfl⟩ 4611686018427387904).mono ?_
        rintro e w9 ⟨n9, rfl, _, hm2, _, hf9⟩
        obtain rfl : n9 = 0 := by omega
        have HF9 : Hid (FI w g (.pointer (some pa)) (.slice ag ns.length cg) made ns rs Fg1 0 (dn + n) w9) := by rw [Nat.zero_sub, Nat.add_zero] at hf9; exact hf9
        clear hf9 HF8 c0 c1 hgl hm2
        obtain ⟨c0, c1, hgl⟩ := fi_cells HF9.out
        go_wp2_with fail
        refine (fi_stale HF9.out).mono ?_
        rintro e wA ⟨sa, cs, rfl, hfA⟩
        have HFA : Hid (FI w g (.pointer (some pa)) (.slice ag ns.length cg) made ns rs Fg1 0 (dn + n) wA) := hfA
        clear hfA HF9 c0 c1 hgl
        obtain ⟨c0, c1, hgl⟩ := fi_cells HFA.out
        have hd3 : decide ((n : Int) < 0) = false := by simp
        have hd4 : decide ((lf : Int) < (n : Int)) = false := by simp; omega
        have hd5 : decide ((ns.length : Int) < (dn : Int) + (n : Int)) = false := by simp; omega
        go_wp2_with fail
        refine (fi_kept HFA.out).mono ?_
        rintro e wB ⟨rfl, hBB⟩
        have HBB : Hid (Below w.heap.size w wB) := hBB
        clear hBB HFA c0 c1 hgl
        go_wp2
        go_ret
        exact ⟨rfl, HBB.out⟩
end
end Go.Proofs.YtblfffbmklkhmaaGreat

namespace Go.Proofs.YtblfffbmklkhmaaGreat
open Go.ChangeShapes Go.WideShapes Go.ChangeAt Go.RowKit
theorem finished_args {W : World} {al : Option Addr} {ll lc f2 : Nat} {a0 : Option Addr} {len cap fuel : Nat} {ab : Option Addr} {lb cb f3 : Nat} {H : Type} {enc : TypeId × Value → H} {x y z : DataW H × List MemPlace} (hi : DataW.trod enc Tryz.prog W 0 (fun _ => true) true f2 40 [.slice al ll lc] = some y) (h : DataW.trod enc Tryz.prog W 0 (fun _ => true) true fuel 25 [.slice a0 len cap] = some x) (hb : DataW.trod enc Tryz.prog W 0 (fun _ => true) true f3 40 [.slice ab lb cb] = some z) (hll : ll ≤ 4611686018427387904) (hl : len ≤ 1000000000000000) (hlb : lb ≤ 4611686018427387904) :
    Calls Tryz.prog 14 #[.slice al ll lc, .slice a0 len cap, .slice ab lb cb] W fun e w' => e = .returned (.bool true) ∧ Below W.heap.size W w' := by
  obtain ⟨K, X, Y, Z, hs, _⟩ := open_steps h
  obtain ⟨L, hL⟩ := open_ints hi
  obtain ⟨B, hB⟩ := open_ints hb
  exact finished_any W al ll lc L hL hll a0 len cap K X Y Z hs (by omega) ab lb cb B hB hlb
set_option maxRecDepth 100000 in
theorem finished_lifted (os : Os) (started : os.Started) (H : Type) (enc : TypeId × Value → H) :
    ReturnsInHanded {} Tryz.checked os 14 .any (Rows.finishedSpec.pre6 enc Tryz.prog Tryz.f14 Rows.finishedRow.domain false) (Rows.finishedSpec.post enc Tryz.prog Tryz.f14 false true false false) := by
  refine returnsInHanded_of_change_sized (C := Tryz.checked) Tryz.own started (by kernel_rfl) Tryz.func14
    (ChangeSpec.witness6 (enc := enc) (C := Tryz.checked) false ⟨#[], #[.slice none 0 0, .slice none 0 0, .slice none 0 0], []⟩ 8 (by kernel_rfl) (by kernel_rfl) (by kernel_rfl) (by kernel_rfl)) ?_
  intro W base args ds gs before hval0 hW _ hsz0 _
  have hval : ∀ (j : Nat) t v, Tryz.f14.params[j]? = some t → args[j]? = some v → Value.okWide Tryz.prog W .any base t v := hval0
  have hsz1 : (DataW.weightsEach Tryz.prog (Tryz.f14.params.toList ++ Rows.finishedSpec.plain.varTypes Tryz.prog) (ds ++ gs)).all (· ≤ reachBytes) = true := hsz0
  have hW' := hW
  obtain ⟨p, q, hA0, hV, rfl, _, _⟩ := hW
  have hA : DataW.TrodAll enc Tryz.prog W 0 (fun _ => true) true Tryz.f14.params.toList args.toList ds p := hA0
  rw [Tryz.params14] at hA hval hsz1
  obtain ⟨v0, v1, v2, d0, d1, d2, p0, p1, p2, rfl, rfl, rfl, h0, h1, h2⟩ := trodAll_three hA
  obtain ⟨rfl, rfl⟩ := trodVars_none hV
  obtain ⟨al, ll, lc, rfl⟩ := okWide_slice Tryz.underlying40 (hval 0 40 v0 rfl rfl)
  obtain ⟨a0, len, cap, rfl⟩ := okWide_slice Tryz.underlying25 (hval 1 25 v1 rfl rfl)
  obtain ⟨ab, lb, cb, rfl⟩ := okWide_slice Tryz.underlying40 (hval 2 40 v2 rfl rfl)
  have h0k := h0
  have h1k := h1
  have h2k := h2
  obtain ⟨fuel, hf⟩ := h0
  obtain ⟨fuel2, hf2⟩ := h1
  obtain ⟨fuel3, hf3⟩ := h2
  clear hA0 hval0 hsz0
  simp only [List.append_nil] at hW'
  have hsz : (DataW.weightsEach Tryz.prog [40, 25, 40] [d0, d1, d2]).all (· ≤ reachBytes) = true := hsz1
  have hll := ints_short (by simpa [Value.cells] using hf) 0 rfl rfl hsz
  have hlen := steps_short_at (by simpa [Value.cells] using hf2) 1 rfl rfl hsz
  have hlb := ints_short (by simpa [Value.cells] using hf3) 2 rfl rfl hsz
  have hlt : ∀ x ∈ p0 ++ p1 ++ p2, x.block < W.heap.size := fun x hx => hW'.lt x hx
  have hargs0 : ∀ (W' : World), Below W.heap.size W W' → DataW.Trod enc Tryz.prog W' 0 (fun b => decide (b < W.heap.size)) true 40 (.slice al ll lc) d0 p0 :=
    fun W' hn => Below.trod Tryz.laidOut (by kernel_rfl) (of_decide_eq_true (by kernel_rfl)) h0k hn (fun x hx => hlt x (List.mem_append_left _ (List.mem_append_left _ hx)))
  have hargs1 : ∀ (W' : World), Below W.heap.size W W' → DataW.Trod enc Tryz.prog W' 0 (fun b => decide (b < W.heap.size)) true 25 (.slice a0 len cap) d1 p1 :=
    fun W' hn => Below.trod Tryz.laidOut (by kernel_rfl) (of_decide_eq_true (by kernel_rfl)) h1k hn (fun x hx => hlt x (List.mem_append_left _ (List.mem_append_right _ hx)))
  have hargs2 : ∀ (W' : World), Below W.heap.size W W' → DataW.Trod enc Tryz.prog W' 0 (fun b => decide (b < W.heap.size)) true 40 (.slice ab lb cb) d2 p2 :=
    fun W' hn => Below.trod Tryz.laidOut (by kernel_rfl) (of_decide_eq_true (by kernel_rfl)) h2k hn (fun x hx => hlt x (List.mem_append_right _ hx))
  refine (finished_args (by simpa [Value.cells] using hf) (by simpa [Value.cells] using hf2) (by simpa [Value.cells] using hf3) hll hlen hlb).mono fun e W' ⟨he, hn⟩ => ?_
  subst he
  refine ⟨_, rfl, _, _, _, [], p0 ++ (p1 ++ p2), [], hW', ?_, ?_, rfl, hn.frame _, fun h => by cases h⟩
  · exact trodAll_mk1 (shut_bool Tryz.underlying4 true)
  · exact trodAll_mk3 (hargs0 _ hn) (hargs1 _ hn) (hargs2 _ hn)
theorem finished_holds : Rows.FinishedSaid :=
  OpenClaim.holds_of_wide 14 Tryz.f14 rfl rfl rfl rfl rfl rfl rfl ⟨rfl, rfl, rfl, rfl, rfl⟩ rfl rfl rfl rfl rfl (by kernel_rfl) Tryz.func14 (by kernel_rfl)
    (of_decide_eq_true (by kernel_rfl)) (by unfold Func.isWrapper; first | (rw [if_pos (by decide +kernel)]; kernel_rfl) | (rw [if_neg (by decide +kernel)]; exact ⟨rfl, rfl⟩))
    (fun os started H enc _ => finished_lifted os started H enc)
end Go.Proofs.YtblfffbmklkhmaaGreat
