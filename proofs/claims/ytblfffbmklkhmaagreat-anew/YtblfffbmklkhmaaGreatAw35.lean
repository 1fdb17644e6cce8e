/- Own work. -/
import Derived.Test.YtblfffbmklkhmaaGreatAw34
import Derived.Test.YtblfffbmklkhmaaGreatAw16
import Derived.Test.YtblfffbmklkhmaaGreatAw29
namespace Go.Proofs.YtblfffbmklkhmaaGreat
open Go.RowKit
/-- In the midst of winnersOf. -/
structure WnI (w : World) (W : List Clm) (wr : World) : Prop where
  rng : wr.rangeAt (w.heap.size + 2) 0 (flatW W)
  thr : wr.there (w.heap.size + 2) 0 63
  res : wr.there (w.heap.size + 1) 0 63
  below : Below w.heap.size w wr
  far : w.heap.size + 3 ≤ wr.heap.size
theorem WnI.go {w : World} {W : List Clm} {wr w' : World} (h : WnI w W wr) (hB : Below wr.heap.size wr w') : WnI w W w' := by
  have h1 := h.far
  have h2 := h.below.size
  exact ⟨range_below hB (by omega) h.rng, there_below hB (by omega) h.thr, there_below hB (by omega) h.res, h.below.trans (hB.mono h2), Nat.le_trans h1 hB.size⟩
theorem size_setCells (b : Nat) : ∀ (vs : List Value) (o : Nat) (wx : World), (wx.setCells b o vs).heap.size = wx.heap.size
  | [], _, _ => rfl
  | v :: vs, o, wx => by
    show ((wx.setCell _ v).setCells _ _ vs).heap.size = _
    rw [size_setCells b vs]
    simp
theorem WnI.put {w : World} {W : List Clm} {wr : World} (h : WnI w W wr) {W' : List Clm} (hl : W'.length = 9) : WnI w W' (wr.setCells (w.heap.size + 2) 0 (flatW W')) := by
  have e : (flatW W').length = 63 := by rw [flatW_len, hl]
  refine ⟨World.rangeAt_setCells_same wr _ 0 _ (by rw [e]; exact h.thr), World.there_setCells h.thr _ _ _, World.there_setCells h.res _ _ _, below_setCells (by omega) _ _ _ h.below, ?_⟩
  rw [size_setCells]
  exact h.far
theorem wni_start (w : World) (A : Array Value) (t1 t2 t3 : TypeId) (Z Y : Array Value) (hY : Y.size = 63) (hZ : Z = (flatW (List.replicate 9 Clm.none)).toArray) : WnI w (List.replicate 9 Clm.none) (((w.alloc (.cells A t1)).alloc (.cells Y t2)).alloc (.cells Z t3)) := by
  subst hZ
  have e1 : (w.alloc (.cells A t1)).heap.size = w.heap.size + 1 := by simp
  have e2 : ((w.alloc (.cells A t1)).alloc (.cells Y t2)).heap.size = w.heap.size + 2 := by simp
  refine ⟨?_, ?_, ?_, (((Below.refl _ _).alloc (Nat.le_refl _) _).alloc (by simp) _).alloc (by simp; omega) _, by simp⟩
  · have := range_new ((w.alloc (.cells A t1)).alloc (.cells Y t2)) (flatW (List.replicate 9 Clm.none)) t3
    rwa [e2] at this
  · have := there_new ((w.alloc (.cells A t1)).alloc (.cells Y t2)) (flatW (List.replicate 9 Clm.none)).toArray t3 63 (by rw [List.size_toArray, flatW_len, List.length_replicate]; decide)
    rwa [e2] at this
  · have := there_new (w.alloc (.cells A t1)) Y t2 63 (by omega)
    rw [e1] at this
    exact World.there_alloc this _
theorem rule_take {els : List PEl} {n : Int} {rs : List PRu} {i : Nat} (h : i < rs.length) : winnersP els (rs.take (i + 1)) n = ruleStep els n (winnersP els (rs.take i) n) rs[i] := by
  unfold winnersP
  rw [List.take_succ_eq_append_getElem h, List.foldl_append]
  rfl
theorem rule_fine {els : List PEl} {n : Int} : ∀ {rs : List PRu} {W : List Clm}, FineW W → (∀ r ∈ rs, ∀ d ∈ r.ds, d.fine) → FineW (rs.foldl (ruleStep els n) W)
  | [], _, h, _ => h
  | r :: rs, W, h, hd => by
    rw [List.foldl_cons]
    refine rule_fine ?_ (fun x hx => hd x (List.mem_cons_of_mem _ hx))
    unfold ruleStep
    split
    · exact fold_fine h (hd r List.mem_cons_self)
    · exact h
theorem none_fine : FineW (List.replicate 9 Clm.none) := by
  refine ⟨by simp, fun c hc => ?_⟩
  rw [List.eq_of_mem_replicate hc]
  exact ⟨by decide, by decide⟩
section
set_option maxRecDepth 100000
set_option maxHeartbeats 1500000
variable (w : World)
theorem pwinners_any (b : Nat) (a : Option Addr) (c : Nat) (els : List PEl) (n : Int) (ar : Option Addr) (cr : Nat) (xs : List Value) (rs : List PRu) (h : TRd w b a c els) (ho : RsRow w ar cr xs rs) :
    Calls Tryz.prog 162 #[.agg #[.slice ar rs.length cr], .pointer (some ⟨b, 1, none⟩), .int .i64 n] w fun e w' => PWin w (winnersP els rs n) e w' := by
  have HT : Hid (TRd w b a c els) := h
  have HO : Hid (RsRow w ar cr xs rs) := ho
  have hfew := ho.few
  have HF : Hid (∀ i, FineW (winnersP els (rs.take i) n)) := fun i => rule_fine none_fine (fun r hr => (ho.decl r (List.mem_of_mem_take hr)).2)
  clear h ho
  go_enter Tryz.func162, Tryz.ntmps162
  go_wp2_with fail
  go_loopg [15] rs.length (fun gk iv wr => ∃ i : Nat, iv = .int .i64 i ∧ i ≤ rs.length ∧ rs.length - i ≤ gk ∧ Hid (WnI w (winnersP els (rs.take i) n) wr))
  case atStart => exact ⟨0, rfl, Nat.zero_le _, by omega, wni_start w _ _ _ _ _ _ rfl rfl⟩
  case round =>
    obtain ⟨i, rfl, hi, hgk, HN⟩ := hrel
    have hfar := HN.out.far
    have hbz := HN.out.below.size
    by_cases hlt : i < rs.length
    · have hd : decide ((i : Int) < (rs.length : Int)) = true := by simp; omega
      obtain ⟨g, hg, hgl, hgc⟩ := own_cells HO.out.row (by omega)
      subst hg
      obtain ⟨sa, sc, ps, e1, e2, e3⟩ := ruls_at HO.out.ruls hlt
      obtain ⟨e0, da, dc, qs, f1, f2, f3⟩ := ruls_rest HO.out.ruls hlt
      have c0 := (HN.out.below.cell (p := ⟨g, i * 3, none⟩) hgl).trans (hgc _ _ e0)
      have c1 := (HN.out.below.cell (p := ⟨g, i * 3 + 1, none⟩) hgl).trans (hgc _ _ e1)
      have c2 := (HN.out.below.cell (p := ⟨g, i * 3 + 2, none⟩) hgl).trans (hgc _ _ f1)
      have HST : Hid (winnersP els (rs.take (i + 1)) n = ruleStep els n (winnersP els (rs.take i) n) rs[i]) := rule_take hlt
      have HSL : Hid (SlRow w sa sc ps rs[i].ss) := ⟨e2, e3, (HO.out.short _ (List.getElem_mem hlt)).1, (HO.out.short _ (List.getElem_mem hlt)).2, HO.out.fine _ (List.getElem_mem hlt)⟩
      have HDC : Hid (w.ownsRow 0 253 5 (.slice da rs[i].ds.length dc) rs[i].ds.length qs ∧ Decs qs rs[i].ds ∧ (∀ d ∈ rs[i].ds, d.fine) ∧ rs[i].ds.length ≤ 400) := ⟨f2, f3, (HO.out.decl _ (List.getElem_mem hlt)).2, (HO.out.decl _ (List.getElem_mem hlt)).1⟩
      have HFi : Hid (FineW (winnersP els (rs.take i) n)) := HF.out i
      have HFj : Hid (FineW (winnersP els (rs.take (i + 1)) n)) := HF.out (i + 1)
      clear e0 e1 e2 e3 f1 f2 f3 hgc
      generalize rs[i] = r at c0 c1 c2 HST HSL HDC
      obtain ⟨ly, ss, ds⟩ := r
      simp only at c0 c1 c2
      replace HSL : Hid (SlRow w sa sc ps ss) := HSL
      replace HDC : Hid (w.ownsRow 0 253 5 (.slice da ds.length dc) ds.length qs ∧ Decs qs ds ∧ (∀ d ∈ ds, d.fine) ∧ ds.length ≤ 400) := HDC
      generalize winnersP els (rs.take i) n = Wi at HN HST HFi
      obtain ⟨Wj, hWj⟩ : ∃ Wj, winnersP els (rs.take (i + 1)) n = Wj := ⟨_, rfl⟩
      have HWJ : Hid (winnersP els (rs.take (i + 1)) n = Wj) := hWj
      rw [hWj] at HST HFj
      clear hWj
      have HB2 : Hid (Below w.heap.size w (wr.alloc (.cells #[.int .i64 ly, .slice sa ss.length sc, .slice da ds.length dc] 138))) := HN.out.below.alloc hbz _
      go_wp2_with fail
      refine (pweightFor_any _ b a c els n ly sa sc ps ss (.slice da ds.length dc) ⟨_, _, _, rfl⟩ (HT.out.below HB2.out) (HSL.out.below HB2.out)).mono ?_
      rintro e w1 ⟨rfl, hB⟩
      have HN1 : Hid (WnI w Wi w1) := (HN.out.go ((Below.refl _ _).alloc (Nat.le_refl _) _)).go hB
      have hz1 : wr.heap.size < w1.heap.size := by have := hB.size; simp at this; omega
      have d0 : w1.cell? ⟨wr.heap.size, 0, none⟩ = some (.int .i64 ly) := (hB.cell (p := ⟨wr.heap.size, 0, none⟩) (by simp)).trans (cell_of_blk (heap_alloc_new wr _) rfl)
      have d1 : w1.cell? ⟨wr.heap.size, 1, none⟩ = some (.slice sa ss.length sc) := (hB.cell (p := ⟨wr.heap.size, 1, none⟩) (by simp)).trans (cell_of_blk (heap_alloc_new wr _) rfl)
      have d2 : w1.cell? ⟨wr.heap.size, 2, none⟩ = some (.slice da ds.length dc) := (hB.cell (p := ⟨wr.heap.size, 2, none⟩) (by simp)).trans (cell_of_blk (heap_alloc_new wr _) rfl)
      have hfar1 := HN1.out.far
      clear hB c0 c1 c2 HB2 HN
      have HST1 : Hid (Wj = if (weighP els n ss).2 then ds.foldl (stepP ly (weighP els n ss).1) Wi else Wi) := HST.out
      clear HST
      generalize weighP els n ss = wm at HST1 ⊢
      obtain ⟨wt, mt⟩ := wm
      simp only at HST1 ⊢
      cases mt with
      | false =>
        have HN2 : Hid (WnI w Wj w1) := by
          have : Wj = Wi := HST1.out
          rw [this]
          exact HN1.out
        clear HST1
        go_wp2
        go_roundg (rs.length - (i + 1))
        case measure => omega
        case rel => exact ⟨i + 1, by go_num, by omega, Nat.le_refl _, by unfold Hid; rw [HWJ.out]; exact HN2.out⟩
      | true =>
        have HST2 : Hid (Wj = ds.foldl (stepP ly wt) Wi) := HST1.out
        clear HST1
        have HSW : Hid ((Tryz.prog.info? 223).map (·.size) = some (flatW Wi).length) := sizeW HFi.out.1
        have HDC1 : Hid (w1.ownsRow 0 253 5 (.slice da ds.length dc) ds.length qs) := own_below HDC.out.1 HN1.out.below
        go_wp2_with (refine wpList_load_mid rfl 223 _ rfl (w.heap.size + 2) 0 rfl (flatW Wi) _ HN1.out.rng Tryz.underlying223 rfl HSW.out ?_)
        refine (pafter_any w1 Wi HFi.out ly wt sa ss.length sc da dc qs ds HDC1.out HDC.out.2.1 HDC.out.2.2.1 HDC.out.2.2.2).mono ?_
        rintro e w2 ⟨rfl, hB2⟩
        rw [← HST2.out]
        have HNx : Hid (WnI w Wi w2) := HN1.out.go hB2
        have HN2 : Hid (WnI w Wj (w2.setCells (w.heap.size + 2) 0 (flatW Wj))) := HNx.out.put HFj.out.1
        have hlen : (flatW Wj).toArray.size = 63 := List.size_toArray.trans (by rw [flatW_len, HFj.out.1])
        have HTH : Hid (w2.there (w.heap.size + 2) 0 (flatW Wj).toArray.size) := by unfold Hid; rw [hlen]; exact HNx.out.thr
        have HSW2 : Hid ((Tryz.prog.info? 223).map (·.size) = some (flatW Wj).toArray.size) := by unfold Hid; rw [hlen]; exact Tryz.sizeW
        have HON : Hid ((flatW Wj).toArray.all (·.oneCell') = true) := all_oneCell_toArray (one_win Wj)
        clear hB2 hlen d0 d1 d2 HST2 HSW
        go_wp2_with (refine wpList_store_mid rfl 223 _ _ rfl (w.heap.size + 2) 0 (flatW Wj).toArray rfl rfl HTH.out HSW2.out HON.out ?_)
        go_roundg (rs.length - (i + 1))
        case measure => omega
        case rel => exact ⟨i + 1, by go_num, by omega, Nat.le_refl _, by unfold Hid; rw [HWJ.out]; exact HN2.out⟩
    · have hd : decide ((i : Int) < (rs.length : Int)) = false := by simp; omega
      obtain rfl : i = rs.length := by omega
      rw [List.take_length] at HN
      have HFW : Hid (FineW (winnersP els rs n)) := by have := HF.out rs.length; rwa [List.take_length] at this
      obtain ⟨Wn, hWn⟩ : ∃ Wn, winnersP els rs n = Wn := ⟨_, rfl⟩
      rw [hWn] at HN HFW
      have HWN : Hid (winnersP els rs n = Wn) := hWn
      clear hWn
      have HSW : Hid ((Tryz.prog.info? 223).map (·.size) = some (flatW Wn).length) := sizeW HFW.out.1
      have hlen : (flatW Wn).toArray.size = 63 := List.size_toArray.trans (by rw [flatW_len, HFW.out.1])
      have HSW2 : Hid ((Tryz.prog.info? 223).map (·.size) = some (flatW Wn).toArray.size) := by unfold Hid; rw [hlen]; exact Tryz.sizeW
      have HTH : Hid (wr.there (w.heap.size + 1) 0 (flatW Wn).toArray.size) := by unfold Hid; rw [hlen]; exact HN.out.res
      have HON : Hid ((flatW Wn).toArray.all (·.oneCell') = true) := all_oneCell_toArray (one_win Wn)
      have HRE : Hid ((wr.setCells (w.heap.size + 1) 0 (flatW Wn)).rangeAt (w.heap.size + 1) 0 (flatW Wn)) := World.rangeAt_setCells_same wr _ 0 _ (by have := HTH.out; rwa [show (flatW Wn).toArray.size = (flatW Wn).length from List.size_toArray] at this)
      have HBE : Hid (Below w.heap.size w (wr.setCells (w.heap.size + 1) 0 (flatW Wn))) := below_setCells (by omega) _ _ _ HN.out.below
      clear hlen
      go_wp2_with (first | (refine wpList_load_mid rfl 223 _ rfl (w.heap.size + 2) 0 rfl (flatW Wn) _ HN.out.rng Tryz.underlying223 rfl HSW.out ?_) | (refine wpList_store_mid rfl 223 _ _ rfl (w.heap.size + 1) 0 (flatW Wn).toArray rfl rfl HTH.out HSW2.out HON.out ?_))
      exact bodyPost_ret (results_cell Tryz.results162 _ rfl HRE.out Tryz.underlying223 rfl HSW.out) rfl ⟨by rw [HWN.out], HBE.out⟩
end
end Go.Proofs.YtblfffbmklkhmaaGreat

namespace Go.Proofs.YtblfffbmklkhmaaGreat
open Go.RowKit
def namesC (cs : List PCp) (kd lt : Int) : Bool := cs.any fun c => c.ps.any fun p => decide (p.kd = kd) && decide (p.lt = lt)
theorem namesB_eq (rs : List PRu) (kd lt : Int) : namesB rs kd lt = rs.any fun r => r.ss.any fun cs => namesC cs kd lt := rfl
section
set_option maxRecDepth 100000
set_option maxHeartbeats 4000000
theorem pnamesC_any (w : World) (ac : Option Addr) (cc : Nat) (xs : List Value) (cs : List PCp) (kd lt : Int) (ho : ClRow w ac cc xs cs) : Calls Tryz.prog 74 #[.agg #[.slice ac cs.length cc], .int .i64 kd, .int .u8 lt] w fun e w' => PBool w (namesC cs kd lt) e w' := by
  have HO : Hid (ClRow w ac cc xs cs) := ho
  have hfew := ho.few
  clear ho
  go_enter Tryz.func74, Tryz.ntmps74
  go_wp2_with fail
  go_loopg [14] cs.length (fun gk iv wr => ∃ i : Nat, iv = .int .i64 i ∧ i ≤ cs.length ∧ cs.length - i ≤ gk ∧ Hid (Below w.heap.size w wr ∧ ∀ j (_ : j < cs.length), j < i → (cs[j].ps.any fun p => decide (p.kd = kd) && decide (p.lt = lt)) = false))
  case atStart => exact ⟨0, rfl, Nat.zero_le _, by omega, (Below.refl _ _).alloc (Nat.le_refl _) _, fun j _ h => by omega⟩
  case round =>
    obtain ⟨i, rfl, hi, hgk, HN⟩ := hrel
    obtain ⟨wo, rfl⟩ : ∃ wo, wo = wr := ⟨_, rfl⟩
    have hbz := HN.out.1.size
    by_cases hlt : i < cs.length
    · have hd : decide ((i : Int) < (cs.length : Int)) = true := by simp; omega
      obtain ⟨g, hg, hgl, hgc⟩ := own_cells HO.out.row (by omega)
      subst hg
      obtain ⟨ap, cp, ps, e0, e1, e2, e3, e4⟩ := comps_at HO.out.comps hlt
      have c0 := (HN.out.1.cell (p := ⟨g, i * 3, none⟩) hgl).trans (hgc _ _ e0)
      have c1 := (HN.out.1.cell (p := ⟨g, i * 3 + 1, none⟩) hgl).trans (hgc _ _ e1)
      have c2 := (HN.out.1.cell (p := ⟨g, i * 3 + 2, none⟩) hgl).trans (hgc _ _ e2)
      have HPS : Hid (w.ownsRow 0 192 5 (.slice ap cs[i].ps.length cp) cs[i].ps.length ps ∧ Kinds ps cs[i].ps) := ⟨e3, e4⟩
      have hpl := HO.out.short _ (List.getElem_mem hlt)
      have HNX : Hid ((cs[i].ps.any fun p => decide (p.kd = kd) && decide (p.lt = lt)) = false → ∀ j (_ : j < cs.length), j < i + 1 → (cs[j].ps.any fun p => decide (p.kd = kd) && decide (p.lt = lt)) = false) := fun hm j hj h1 => by
        by_cases e : j = i
        · subst e; exact hm
        · exact HN.out.2 j hj (by omega)
      have HY : Hid ((cs[i].ps.any fun p => decide (p.kd = kd) && decide (p.lt = lt)) = true → namesC cs kd lt = true) := fun h => by
        unfold namesC
        rw [List.any_eq_true]
        exact ⟨cs[i], List.getElem_mem hlt, h⟩
      clear e0 e1 e2 e3 e4 hgc
      generalize cs[i].sg = sg at c0
      generalize (cs[i].ty : Int) = ty at c1
      generalize cs[i].ps = pl at c2 HPS hpl HNX HY
      have HB1 : Hid (Below w.heap.size w (wo.alloc (.cells #[.int .u8 sg, .int .u8 ty, .slice ap pl.length cp] 190))) := HN.out.1.alloc hbz _
      clear HN
      go_wp2_with fail
      go_loopg [21] pl.length (fun gk iv wr => ∃ k : Nat, iv = .int .i64 k ∧ k ≤ pl.length ∧ pl.length - k ≤ gk ∧ Hid (Below w.heap.size w wr ∧ ∀ j (_ : j < pl.length), j < k → ¬ (pl[j].kd = kd ∧ pl[j].lt = lt)))
      case atStart => exact ⟨0, rfl, Nat.zero_le _, by omega, HB1.out, fun j _ h => by omega⟩
      case round =>
        obtain ⟨k, rfl, hk, hgk2, HJ⟩ := hrel
        have hjz := HJ.out.1.size
        by_cases hlk : k < pl.length
        · have hd2 : decide ((k : Int) < (pl.length : Int)) = true := by simp; omega
          obtain ⟨g2, hg2, hgl2, hgc2⟩ := own_cells HPS.out.1 (by omega)
          subst hg2
          obtain ⟨e0, e1, e2, e3, e4⟩ := kinds_at HPS.out.2 hlk
          have k0 := (HJ.out.1.cell (p := ⟨g2, k * 5, none⟩) hgl2).trans (hgc2 _ _ e0)
          have k1 := (HJ.out.1.cell (p := ⟨g2, k * 5 + 1, none⟩) hgl2).trans (hgc2 _ _ e1)
          have k2 := (HJ.out.1.cell (p := ⟨g2, k * 5 + 2, none⟩) hgl2).trans (hgc2 _ _ e2)
          have k3 := (HJ.out.1.cell (p := ⟨g2, k * 5 + 3, none⟩) hgl2).trans (hgc2 _ _ e3)
          have k4 := (HJ.out.1.cell (p := ⟨g2, k * 5 + 4, none⟩) hgl2).trans (hgc2 _ _ e4)
          have HNK : Hid (¬ (pl[k].kd = kd ∧ pl[k].lt = lt) → ∀ j (_ : j < pl.length), j < k + 1 → ¬ (pl[j].kd = kd ∧ pl[j].lt = lt)) := fun hm j hj h1 => by
            by_cases e : j = k
            · subst e; exact hm
            · exact HJ.out.2 j hj (by omega)
          have HYK : Hid (pl[k].kd = kd ∧ pl[k].lt = lt → namesC cs kd lt = true) := fun h => HY.out (by
            rw [List.any_eq_true]
            exact ⟨pl[k], List.getElem_mem hlk, by simp [h.1, h.2]⟩)
          clear e0 e1 e2 e3 e4 hgc2
          generalize pl[k].nt = pnt at k0
          generalize pl[k].kd = pkd at k1 HNK HYK
          generalize pl[k].lt = plt at k2 HNK HYK
          generalize pl[k].st = pst at k3
          generalize pl[k].sr = psr at k4
          have HB3 : Hid (Below w.heap.size w (wr.alloc (.cells #[.bool pnt, .int .i64 pkd, .int .u8 plt, .int .i64 pst, .int .i64 psr] 192))) := HJ.out.1.alloc hjz _
          by_cases h1 : pkd = kd
          · have g1 : (pkd == kd) = true := by simp [h1]
            by_cases h2 : plt = lt
            · have g2 : (plt == lt) = true := by simp [h2]
              have HR : Hid (PBool w (namesC cs kd lt) (.returned (.bool true)) (wr.alloc (.cells #[.bool pnt, .int .i64 pkd, .int .u8 plt, .int .i64 pst, .int .i64 psr] 192))) := ⟨by rw [HYK.out ⟨h1, h2⟩], HB3.out⟩
              clear h1 h2
              go_wp2
              go_ret
              exact HR.out
            · have g2 : (plt == lt) = false := by simp [h2]
              have HJ2 : Hid (Below w.heap.size w (wr.alloc (.cells #[.bool pnt, .int .i64 pkd, .int .u8 plt, .int .i64 pst, .int .i64 psr] 192)) ∧ ∀ j (_ : j < pl.length), j < k + 1 → ¬ (pl[j].kd = kd ∧ pl[j].lt = lt)) := ⟨HB3.out, HNK.out (fun h => h2 h.2)⟩
              clear h1 h2
              go_wp2
              go_roundg (pl.length - (k + 1))
              case measure => omega
              case rel => exact ⟨k + 1, by go_num, by omega, Nat.le_refl _, HJ2⟩
          · have g1 : (pkd == kd) = false := by simp [h1]
            have HJ2 : Hid (Below w.heap.size w (wr.alloc (.cells #[.bool pnt, .int .i64 pkd, .int .u8 plt, .int .i64 pst, .int .i64 psr] 192)) ∧ ∀ j (_ : j < pl.length), j < k + 1 → ¬ (pl[j].kd = kd ∧ pl[j].lt = lt)) := ⟨HB3.out, HNK.out (fun h => h1 h.1)⟩
            clear h1
            go_wp2
            go_roundg (pl.length - (k + 1))
            case measure => omega
            case rel => exact ⟨k + 1, by go_num, by omega, Nat.le_refl _, HJ2⟩
        · have hd2 : decide ((k : Int) < (pl.length : Int)) = false := by simp; omega
          have HN2 : Hid (Below w.heap.size w wr ∧ ∀ j (_ : j < cs.length), j < i + 1 → (cs[j].ps.any fun p => decide (p.kd = kd) && decide (p.lt = lt)) = false) := by
            refine ⟨HJ.out.1, HNX.out ?_⟩
            rw [List.any_eq_false]
            intro p hp hx
            obtain ⟨j, hj, rfl⟩ := List.getElem_of_mem hp
            refine HJ.out.2 j hj (by omega) ?_
            simpa using hx
          clear HJ
          go_wp2
          go_roundg (cs.length - (i + 1))
          case measure => omega
          case rel => exact ⟨i + 1, by go_num, by omega, Nat.le_refl _, HN2⟩
    · have hd : decide ((i : Int) < (cs.length : Int)) = false := by simp; omega
      have HR : Hid (PBool w (namesC cs kd lt) (.returned (.bool false)) wo) := by
        refine ⟨?_, HN.out.1⟩
        have : namesC cs kd lt = false := by
          unfold namesC
          rw [List.any_eq_false]
          intro x hx
          obtain ⟨j, hj, rfl⟩ := List.getElem_of_mem hx
          rw [HN.out.2 j hj (by omega)]
          decide
        rw [this]
      go_wp2
      go_ret
      exact HR.out
theorem pnamesB_any (w : World) (ar : Option Addr) (cr : Nat) (xs : List Value) (rs : List PRu) (kd lt : Int) (ho : RsRow w ar cr xs rs) : Calls Tryz.prog 40 #[.agg #[.slice ar rs.length cr], .int .i64 kd, .int .u8 lt] w fun e w' => PBool w (namesB rs kd lt) e w' := by
  have HO : Hid (RsRow w ar cr xs rs) := ho
  have hfew := ho.few
  clear ho
  go_enter Tryz.func40, Tryz.ntmps40
  go_wp2_with fail
  go_loopg [14] rs.length (fun gk iv wr => ∃ i : Nat, iv = .int .i64 i ∧ i ≤ rs.length ∧ rs.length - i ≤ gk ∧ Hid (Below w.heap.size w wr ∧ ∀ j (_ : j < rs.length), j < i → (rs[j].ss.any fun cs => namesC cs kd lt) = false))
  case atStart => exact ⟨0, rfl, Nat.zero_le _, by omega, (Below.refl _ _).alloc (Nat.le_refl _) _, fun j _ h => by omega⟩
  case round =>
    obtain ⟨i, rfl, hi, hgk, HN⟩ := hrel
    obtain ⟨wo, rfl⟩ : ∃ wo, wo = wr := ⟨_, rfl⟩
    have hbz := HN.out.1.size
    by_cases hlt : i < rs.length
    · have hd : decide ((i : Int) < (rs.length : Int)) = true := by simp; omega
      obtain ⟨g, hg, hgl, hgc⟩ := own_cells HO.out.row (by omega)
      subst hg
      obtain ⟨sa, sc, ps, e1, e2, e3⟩ := ruls_at HO.out.ruls hlt
      obtain ⟨e0, da, dc, qs, f1, f2, f3⟩ := ruls_rest HO.out.ruls hlt
      have c0 := (HN.out.1.cell (p := ⟨g, i * 3, none⟩) hgl).trans (hgc _ _ e0)
      have c1 := (HN.out.1.cell (p := ⟨g, i * 3 + 1, none⟩) hgl).trans (hgc _ _ e1)
      have c2 := (HN.out.1.cell (p := ⟨g, i * 3 + 2, none⟩) hgl).trans (hgc _ _ f1)
      have HSL : Hid (SlRow w sa sc ps rs[i].ss) := ⟨e2, e3, (HO.out.short _ (List.getElem_mem hlt)).1, (HO.out.short _ (List.getElem_mem hlt)).2, HO.out.fine _ (List.getElem_mem hlt)⟩
      have HNX : Hid ((rs[i].ss.any fun cs => namesC cs kd lt) = false → ∀ j (_ : j < rs.length), j < i + 1 → (rs[j].ss.any fun cs => namesC cs kd lt) = false) := fun hm j hj h1 => by
        by_cases e : j = i
        · subst e; exact hm
        · exact HN.out.2 j hj (by omega)
      have HY : Hid ((rs[i].ss.any fun cs => namesC cs kd lt) = true → namesB rs kd lt = true) := fun h => by
        rw [namesB_eq, List.any_eq_true]
        exact ⟨rs[i], List.getElem_mem hlt, h⟩
      clear e0 e1 e2 e3 f1 f2 f3 hgc
      generalize rs[i].ly = ly at c0
      generalize rs[i].ds.length = nd at c2
      generalize rs[i].ss = ss at c1 HSL HNX HY
      have hsl := HSL.out.few
      have HB1 : Hid (Below w.heap.size w (wo.alloc (.cells #[.int .i64 ly, .slice sa ss.length sc, .slice da nd dc] 138))) := HN.out.1.alloc hbz _
      clear HN
      go_wp2_with fail
      go_loopg [21] ss.length (fun gk iv wr => ∃ k : Nat, iv = .int .i64 k ∧ k ≤ ss.length ∧ ss.length - k ≤ gk ∧ Hid (Below w.heap.size w wr ∧ ∀ j (_ : j < ss.length), j < k → namesC ss[j] kd lt = false))
      case atStart => exact ⟨0, rfl, Nat.zero_le _, by omega, HB1.out, fun j _ h => by omega⟩
      case round =>
        obtain ⟨k, rfl, hk, hgk2, HJ⟩ := hrel
        have hjz := HJ.out.1.size
        by_cases hlk : k < ss.length
        · have hd2 : decide ((k : Int) < (ss.length : Int)) = true := by simp; omega
          obtain ⟨g2, hg2, hgl2, hgc2⟩ := own_cells HSL.out.row (by omega)
          subst hg2
          obtain ⟨ca, cc, qs2, e0, e1, e2⟩ := sels_at HSL.out.sels hlk
          have k0 := (HJ.out.1.cell (p := ⟨g2, k, none⟩) hgl2).trans (hgc2 _ _ e0)
          have HCL : Hid (ClRow w ca cc qs2 ss[k]) := ⟨e1, e2, (HSL.out.short _ (List.getElem_mem hlk)).1, (HSL.out.short _ (List.getElem_mem hlk)).2, HSL.out.fine _ (List.getElem_mem hlk)⟩
          have HNK : Hid (namesC ss[k] kd lt = false → ∀ j (_ : j < ss.length), j < k + 1 → namesC ss[j] kd lt = false) := fun hm j hj h1 => by
            by_cases e : j = k
            · subst e; exact hm
            · exact HJ.out.2 j hj (by omega)
          have HYK : Hid (namesC ss[k] kd lt = true → namesB rs kd lt = true) := fun h => HY.out (by
            rw [List.any_eq_true]
            exact ⟨ss[k], List.getElem_mem hlk, h⟩)
          clear e0 e1 e2 hgc2
          generalize ss[k] = cs at k0 HCL HNK HYK
          have HB3 : Hid (Below w.heap.size w (wr.alloc (.cells #[.slice ca cs.length cc] 141))) := HJ.out.1.alloc hjz _
          clear HJ
          go_wp2_with fail
          refine (pnamesC_any _ ca cc qs2 cs kd lt (HCL.out.below HB3.out)).mono ?_
          rintro e w3 ⟨rfl, hB3⟩
          have HB4 : Hid (Below w.heap.size w w3) := HB3.out.trans (hB3.mono HB3.out.size)
          clear hB3 HB3 k0
          cases hr : namesC cs kd lt with
          | true =>
            have HR : Hid (PBool w (namesB rs kd lt) (.returned (.bool true)) w3) := ⟨by rw [HYK.out hr], HB4.out⟩
            clear hr
            go_wp2
            go_ret
            exact HR.out
          | false =>
            have HJ2 : Hid (Below w.heap.size w w3 ∧ ∀ j (_ : j < ss.length), j < k + 1 → namesC ss[j] kd lt = false) := ⟨HB4.out, HNK.out hr⟩
            clear hr
            go_wp2
            go_roundg (ss.length - (k + 1))
            case measure => omega
            case rel => exact ⟨k + 1, by go_num, by omega, Nat.le_refl _, HJ2⟩
        · have hd2 : decide ((k : Int) < (ss.length : Int)) = false := by simp; omega
          have HN2 : Hid (Below w.heap.size w wr ∧ ∀ j (_ : j < rs.length), j < i + 1 → (rs[j].ss.any fun cs => namesC cs kd lt) = false) := by
            refine ⟨HJ.out.1, HNX.out ?_⟩
            rw [List.any_eq_false]
            intro p hp
            obtain ⟨j, hj, rfl⟩ := List.getElem_of_mem hp
            rw [HJ.out.2 j hj (by omega)]
            decide
          clear HJ
          go_wp2
          go_roundg (rs.length - (i + 1))
          case measure => omega
          case rel => exact ⟨i + 1, by go_num, by omega, Nat.le_refl _, HN2⟩
    · have hd : decide ((i : Int) < (rs.length : Int)) = false := by simp; omega
      have HR : Hid (PBool w (namesB rs kd lt) (.returned (.bool false)) wo) := by
        refine ⟨?_, HN.out.1⟩
        have : namesB rs kd lt = false := by
          rw [namesB_eq, List.any_eq_false]
          intro x hx
          obtain ⟨j, hj, rfl⟩ := List.getElem_of_mem hx
          rw [HN.out.2 j hj (by omega)]
          decide
        rw [this]
      go_wp2
      go_ret
      exact HR.out
end
end Go.Proofs.YtblfffbmklkhmaaGreat
