/- Own work. -/
import Derived.Test.YtblfffbmklkhmaaGreatPn13
import Derived.Test.YtblfffbmklkhmaaGreatPn30
import Derived.Test.YtblfffbmklkhmaaGreatPn25
import Derived.Test.YtblfffbmklkhmaaGreatPn28
namespace Go.Proofs.YtblfffbmklkhmaaGreat
open Go.RowKit
def namesC (cs : List PCp) (kd lt : Int) : Bool := cs.any fun c => c.ps.any fun p => decide (p.kd = kd) && decide (p.lt = lt)
theorem namesB_eq (rs : List PRu) (kd lt : Int) : namesB rs kd lt = rs.any fun r => r.ss.any fun cs => namesC cs kd lt := rfl
section
set_option maxRecDepth 100000
set_option maxHeartbeats 4000000
theorem pnamesC_any (w : World) (ac : Option Addr) (cc : Nat) (xs : List Value) (cs : List PCp) (kd lt : Int) (ho : ClRow w ac cc xs cs) : Calls Tryz.prog 74 #[.agg #[.slice ac cs.length cc], .int .i64 kd, .int .u8 lt] w fun e w' => PBool w (namesC cs kd lt) e w' := by
  have HO : Hid (ClRow w ac cc xs cs) := ho
  have hfew := ho.few
  clear ho
  go_enter Tryz.func74, Tryz.ntmps74
  go_wp2_with fail
  go_loopg [14] cs.length (fun gk iv wr => ∃ i : Nat, iv = .int .i64 i ∧ i ≤ cs.length ∧ cs.length - i ≤ gk ∧ Hid (Below w.heap.size w wr ∧ ∀ j (_ : j < cs.length), j < i → (cs[j].ps.any fun p => decide (p.kd = kd) && decide (p.lt = lt)) = false))
  case atStart => exact ⟨0, rfl, Nat.zero_le _, by omega, (Below.refl _ _).alloc (Nat.le_refl _) _, fun j _ h => by omega⟩
  case round =>
    obtain ⟨i, rfl, hi, hgk, HN⟩ := hrel
    obtain ⟨wo, rfl⟩ : ∃ wo, wo = wr := ⟨_, rfl⟩
    have hbz := HN.out.1.size
    by_cases hlt : i < cs.length
    · have hd : decide ((i : Int) < (cs.length : Int)) = true := by simp; omega
      obtain ⟨g, hg, hgl, hgc⟩ := own_cells HO.out.row (by omega)
      subst hg
      obtain ⟨ap, cp, ps, e0, e1, e2, e3, e4⟩ := comps_at HO.out.comps hlt
      have c0 := (HN.out.1.cell (p := ⟨g, i * 3, none⟩) hgl).trans (hgc _ _ e0)
      have c1 := (HN.out.1.cell (p := ⟨g, i * 3 + 1, none⟩) hgl).trans (hgc _ _ e1)
      have c2 := (HN.out.1.cell (p := ⟨g, i * 3 + 2, none⟩) hgl).trans (hgc _ _ e2)
      have HPS : Hid (w.ownsRow 0 192 5 (.slice ap cs[i].ps.length cp) cs[i].ps.length ps ∧ Kinds ps cs[i].ps) := ⟨e3, e4⟩
      have hpl := HO.out.short _ (List.getElem_mem hlt)
      have HNX : Hid ((cs[i].ps.any fun p => decide (p.kd = kd) && decide (p.lt = lt)) = false → ∀ j (_ : j < cs.length), j < i + 1 → (cs[j].ps.any fun p => decide (p.kd = kd) && decide (p.lt = lt)) = false) := fun hm j hj h1 => by
        by_cases e : j = i
        · subst e; exact hm
        · exact HN.out.2 j hj (by omega)
      have HY : Hid ((cs[i].ps.any fun p => decide (p.kd = kd) && decide (p.lt = lt)) = true → namesC cs kd lt = true) := fun h => by
        unfold namesC
        rw [List.any_eq_true]
        exact ⟨cs[i], List.getElem_mem hlt, h⟩
      clear e0 e1 e2 e3 e4 hgc
      generalize cs[i].sg = sg at c0
      generalize (cs[i].ty : Int) = ty at c1
      generalize cs[i].ps = pl at c2 HPS hpl HNX HY
      have HB1 : Hid (Below w.heap.size w (wo.alloc (.cells #[.int .u8 sg, .int .u8 ty, .slice ap pl.length cp] 190))) := HN.out.1.alloc hbz _
      clear HN
      go_wp2_with fail
      go_loopg [21] pl.length (fun gk iv wr => ∃ k : Nat, iv = .int .i64 k ∧ k ≤ pl.length ∧ pl.length - k ≤ gk ∧ Hid (Below w.heap.size w wr ∧ ∀ j (_ : j < pl.length), j < k → ¬ (pl[j].kd = kd ∧ pl[j].lt = lt)))
      case atStart => exact ⟨0, rfl, Nat.zero_le _, by omega, HB1.out, fun j _ h => by omega⟩
      case round =>
        obtain ⟨k, rfl, hk, hgk2, HJ⟩ := hrel
        have hjz := HJ.out.1.size
        by_cases hlk : k < pl.length
        · have hd2 : decide ((k : Int) < (pl.length : Int)) = true := by simp; omega
          obtain ⟨g2, hg2, hgl2, hgc2⟩ := own_cells HPS.out.1 (by omega)
          subst hg2
          obtain ⟨e0, e1, e2, e3, e4⟩ := kinds_at HPS.out.2 hlk
          have k0 := (HJ.out.1.cell (p := ⟨g2, k * 5, none⟩) hgl2).trans (hgc2 _ _ e0)
          have k1 := (HJ.out.1.cell (p := ⟨g2, k * 5 + 1, none⟩) hgl2).trans (hgc2 _ _ e1)
          have k2 := (HJ.out.1.cell (p := ⟨g2, k * 5 + 2, none⟩) hgl2).trans (hgc2 _ _ e2)
          have k3 := (HJ.out.1.cell (p := ⟨g2, k * 5 + 3, none⟩) hgl2).trans (hgc2 _ _ e3)
          have k4 := (HJ.out.1.cell (p := ⟨g2, k * 5 + 4, none⟩) hgl2).trans (hgc2 _ _ e4)
          have HNK : Hid (¬ (pl[k].kd = kd ∧ pl[k].lt = lt) → ∀ j (_ : j < pl.length), j < k + 1 → ¬ (pl[j].kd = kd ∧ pl[j].lt = lt)) := fun hm j hj h1 => by
            by_cases e : j = k
            · subst e; exact hm
            · exact HJ.out.2 j hj (by omega)
          have HYK : Hid (pl[k].kd = kd ∧ pl[k].lt = lt → namesC cs kd lt = true) := fun h => HY.out (by
            rw [List.any_eq_true]
            exact ⟨pl[k], List.getElem_mem hlk, by simp [h.1, h.2]⟩)
          clear e0 e1 e2 e3 e4 hgc2
          generalize pl[k].nt = pnt at k0
          generalize pl[k].kd = pkd at k1 HNK HYK
          generalize pl[k].lt = plt at k2 HNK HYK
          generalize pl[k].st = pst at k3
          generalize pl[k].sr = psr at k4
          have HB3 : Hid (Below w.heap.size w (wr.alloc (.cells #[.bool pnt, .int .i64 pkd, .int .u8 plt, .int .i64 pst, .int .i64 psr] 192))) := HJ.out.1.alloc hjz _
          by_cases h1 : pkd = kd
          · have g1 : (pkd == kd) = true := by simp [h1]
            by_cases h2 : plt = lt
            · have g2 : (plt == lt) = true := by simp [h2]
              have HR : Hid (PBool w (namesC cs kd lt) (.returned (.bool true)) (wr.alloc (.cells #[.bool pnt, .int .i64 pkd, .int .u8 plt, .int .i64 pst, .int .i64 psr] 192))) := ⟨by rw [HYK.out ⟨h1, h2⟩], HB3.out⟩
              clear h1 h2
              go_wp2
              go_ret
              exact HR.out
            · have g2 : (plt == lt) = false := by simp [h2]
              have HJ2 : Hid (Below w.heap.size w (wr.alloc (.cells #[.bool pnt, .int .i64 pkd, .int .u8 plt, .int .i64 pst, .int .i64 psr] 192)) ∧ ∀ j (_ : j < pl.length), j < k + 1 → ¬ (pl[j].kd = kd ∧ pl[j].lt = lt)) := ⟨HB3.out, HNK.out (fun h => h2 h.2)⟩
              clear h1 h2
              go_wp2
              go_roundg (pl.length - (k + 1))
              case measure => omega
              case rel => exact ⟨k + 1, by go_num, by omega, Nat.le_refl _, HJ2⟩
          · have g1 : (pkd == kd) = false := by simp [h1]
            have HJ2 : Hid (Below w.heap.size w (wr.alloc (.cells #[.bool pnt, .int .i64 pkd, .int .u8 plt, .int .i64 pst, .int .i64 psr] 192)) ∧ ∀ j (_ : j < pl.length), j < k + 1 → ¬ (pl[j].kd = kd ∧ pl[j].lt = lt)) := ⟨HB3.out, HNK.out (fun h => h1 h.1)⟩
            clear h1
            go_wp2
            go_roundg (pl.length - (k + 1))
            case measure => omega
            case rel => exact ⟨k + 1, by go_num, by omega, Nat.le_refl _, HJ2⟩
        · have hd2 : decide ((k : Int) < (pl.length : Int)) = false := by simp; omega
          have HN2 : Hid (Below w.heap.size w wr ∧ ∀ j (_ : j < cs.length), j < i + 1 → (cs[j].ps.any fun p => decide (p.kd = kd) && decide (p.lt = lt)) = false) := by
            refine ⟨HJ.out.1, HNX.out ?_⟩
            rw [List.any_eq_false]
            intro p hp hx
            obtain ⟨j, hj, rfl⟩ := List.getElem_of_mem hp
            refine HJ.out.2 j hj (by omega) ?_
            simpa using hx
          clear HJ
          go_wp2
          go_roundg (cs.length - (i + 1))
          case measure => omega
          case rel => exact ⟨i + 1, by go_num, by omega, Nat.le_refl _, HN2⟩
    · have hd : decide ((i : Int) < (cs.length : Int)) = false := by simp; omega
      have HR : Hid (PBool w (namesC cs kd lt) (.returned (.bool false)) wo) := by
        refine ⟨?_, HN.out.1⟩
        have : namesC cs kd lt = false := by
          unfold namesC
          rw [List.any_eq_false]
          intro x hx
          obtain ⟨j, hj, rfl⟩ := List.getElem_of_mem hx
          rw [HN.out.2 j hj (by omega)]
          decide
        rw [this]
      go_wp2
      go_ret
      exact HR.out
theorem pnamesB_any (w : World) (ar : Option Addr) (cr : Nat) (xs : List Value) (rs : List PRu) (kd lt : Int) (ho : RsRow w ar cr xs rs) : Calls Tryz.prog 40 #[.agg #[.slice ar rs.length cr], .int .i64 kd, .int .u8 lt] w fun e w' => PBool w (namesB rs kd lt) e w' := by
  have HO : Hid (RsRow w ar cr xs rs) := ho
  have hfew := ho.few
  clear ho
  go_enter Tryz.func40, Tryz.ntmps40
  go_wp2_with fail
  go_loopg [14] rs.length (fun gk iv wr => ∃ i : Nat, iv = .int .i64 i ∧ i ≤ rs.length ∧ rs.length - i ≤ gk ∧ Hid (Below w.heap.size w wr ∧ ∀ j (_ : j < rs.length), j < i → (rs[j].ss.any fun cs => namesC cs kd lt) = false))
  case atStart => exact ⟨0, rfl, Nat.zero_le _, by omega, (Below.refl _ _).alloc (Nat.le_refl _) _, fun j _ h => by omega⟩
  case round =>
    obtain ⟨i, rfl, hi, hgk, HN⟩ := hrel
    obtain ⟨wo, rfl⟩ : ∃ wo, wo = wr := ⟨_, rfl⟩
    have hbz := HN.out.1.size
    by_cases hlt : i < rs.length
    · have hd : decide ((i : Int) < (rs.length : Int)) = true := by simp; omega
      obtain ⟨g, hg, hgl, hgc⟩ := own_cells HO.out.row (by omega)
      subst hg
      obtain ⟨sa, sc, ps, e1, e2, e3⟩ := ruls_at HO.out.ruls hlt
      obtain ⟨e0, da, dc, qs, f1, f2, f3⟩ := ruls_rest HO.out.ruls hlt
      have c0 := (HN.out.1.cell (p := ⟨g, i * 3, none⟩) hgl).trans (hgc _ _ e0)
      have c1 := (HN.out.1.cell (p := ⟨g, i * 3 + 1, none⟩) hgl).trans (hgc _ _ e1)
      have c2 := (HN.out.1.cell (p := ⟨g, i * 3 + 2, none⟩) hgl).trans (hgc _ _ f1)
      have HSL : Hid (SlRow w sa sc ps rs[i].ss) := ⟨e2, e3, (HO.out.short _ (List.getElem_mem hlt)).1, (HO.out.short _ (List.getElem_mem hlt)).2, HO.out.fine _ (List.getElem_mem hlt)⟩
      have HNX : Hid ((rs[i].ss.any fun cs => namesC cs kd lt) = false → ∀ j (_ : j < rs.length), j < i + 1 → (rs[j].ss.any fun cs => namesC cs kd lt) = false) := fun hm j hj h1 => by
        by_cases e : j = i
        · subst e; exact hm
        · exact HN.out.2 j hj (by omega)
      have HY : Hid ((rs[i].ss.any fun cs => namesC cs kd lt) = true → namesB rs kd lt = true) := fun h => by
        rw [namesB_eq, List.any_eq_true]
        exact ⟨rs[i], List.getElem_mem hlt, h⟩
      clear e0 e1 e2 e3 f1 f2 f3 hgc
      generalize rs[i].ly = ly at c0
      generalize rs[i].ds.length = nd at c2
      generalize rs[i].ss = ss at c1 HSL HNX HY
      have hsl := HSL.out.few
      have HB1 : Hid (Below w.heap.size w (wo.alloc (.cells #[.int .i64 ly, .slice sa ss.length sc, .slice da nd dc] 138))) := HN.out.1.alloc hbz _
      clear HN
      go_wp2_with fail
      go_loopg [21] ss.length (fun gk iv wr => ∃ k : Nat, iv = .int .i64 k ∧ k ≤ ss.length ∧ ss.length - k ≤ gk ∧ Hid (Below w.heap.size w wr ∧ ∀ j (_ : j < ss.length), j < k → namesC ss[j] kd lt = false))
      case atStart => exact ⟨0, rfl, Nat.zero_le _, by omega, HB1.out, fun j _ h => by omega⟩
      case round =>
        obtain ⟨k, rfl, hk, hgk2, HJ⟩ := hrel
        have hjz := HJ.out.1.size
        by_cases hlk : k < ss.length
        · have hd2 : decide ((k : Int) < (ss.length : Int)) = true := by simp; omega
          obtain ⟨g2, hg2, hgl2, hgc2⟩ := own_cells HSL.out.row (by omega)
          subst hg2
          obtain ⟨ca, cc, qs2, e0, e1, e2⟩ := sels_at HSL.out.sels hlk
          have k0 := (HJ.out.1.cell (p := ⟨g2, k, none⟩) hgl2).trans (hgc2 _ _ e0)
          have HCL : Hid (ClRow w ca cc qs2 ss[k]) := ⟨e1, e2, (HSL.out.short _ (List.getElem_mem hlk)).1, (HSL.out.short _ (List.getElem_mem hlk)).2, HSL.out.fine _ (List.getElem_mem hlk)⟩
          have HNK : Hid (namesC ss[k] kd lt = false → ∀ j (_ : j < ss.length), j < k + 1 → namesC ss[j] kd lt = false) := fun hm j hj h1 => by
            by_cases e : j = k
            · subst e; exact hm
            · exact HJ.out.2 j hj (by omega)
          have HYK : Hid (namesC ss[k] kd lt = true → namesB rs kd lt = true) := fun h => HY.out (by
            rw [List.any_eq_true]
            exact ⟨ss[k], List.getElem_mem hlk, h⟩)
          clear e0 e1 e2 hgc2
          generalize ss[k] = cs at k0 HCL HNK HYK
          have HB3 : Hid (Below w.heap.size w (wr.alloc (.cells #[.slice ca cs.length cc] 141))) := HJ.out.1.alloc hjz _
          clear HJ
          go_wp2_with fail
          refine (pnamesC_any _ ca cc qs2 cs kd lt (HCL.out.below HB3.out)).mono ?_
          rintro e w3 ⟨rfl, hB3⟩
          have HB4 : Hid (Below w.heap.size w w3) := HB3.out.trans (hB3.mono HB3.out.size)
          clear hB3 HB3 k0
          cases hr : namesC cs kd lt with
          | true =>
            have HR : Hid (PBool w (namesB rs kd lt) (.returned (.bool true)) w3) := ⟨by rw [HYK.out hr], HB4.out⟩
            clear hr
            go_wp2
            go_ret
            exact HR.out
          | false =>
            have HJ2 : Hid (Below w.heap.size w w3 ∧ ∀ j (_ : j < ss.length), j < k + 1 → namesC ss[j] kd lt = false) := ⟨HB4.out, HNK.out hr⟩
            clear hr
            go_wp2
            go_roundg (ss.length - (k + 1))
            case measure => omega
            case rel => exact ⟨k + 1, by go_num, by omega, Nat.le_refl _, HJ2⟩
        · have hd2 : decide ((k : Int) < (ss.length : Int)) = false := by simp; omega
          have HN2 : Hid (Below w.heap.size w wr ∧ ∀ j (_ : j < rs.length), j < i + 1 → (rs[j].ss.any fun cs => namesC cs kd lt) = false) := by
            refine ⟨HJ.out.1, HNX.out ?_⟩
            rw [List.any_eq_false]
            intro p hp
            obtain ⟨j, hj, rfl⟩ := List.getElem_of_mem hp
            rw [HJ.out.2 j hj (by omega)]
            decide
          clear HJ
          go_wp2
          go_roundg (rs.length - (i + 1))
          case measure => omega
          case rel => exact ⟨i + 1, by go_num, by omega, Nat.le_refl _, HN2⟩
    · have hd : decide ((i : Int) < (rs.length : Int)) = false := by simp; omega
      have HR : Hid (PBool w (namesB rs kd lt) (.returned (.bool false)) wo) := by
        refine ⟨?_, HN.out.1⟩
        have : namesB rs kd lt = false := by
          rw [namesB_eq, List.any_eq_false]
          intro x hx
          obtain ⟨j, hj, rfl⟩ := List.getElem_of_mem hx
          rw [HN.out.2 j hj (by omega)]
          decide
        rw [this]
      go_wp2
      go_ret
      exact HR.out
end
end Go.Proofs.YtblfffbmklkhmaaGreat

namespace Go.Proofs.YtblfffbmklkhmaaGreat
open Go.RowKit
section
set_option maxRecDepth 100000
set_option maxHeartbeats 2000000
variable (w : World) (px : Value) (T : Tree) (made : Nat) (M : Nat → Mk) (rs : List PRu) (kl : List (Int × List Int)) (F : Nat → Prop)
theorem find_nat {T : Tree} {n : Int} {l : List Nat} (h : tFind T n = some l) : (n.toNat, l) ∈ T ∧ n = (n.toNat : Int) := by
  obtain ⟨k, rfl, hk⟩ := tFind_some h
  exact ⟨by simpa using hk, by omega⟩
theorem cls_some {n : Int} {s : ByteArray} (h : clsErr T n s = 0) : ∃ l, tFind T n = some l := by
  unfold clsErr at h
  cases ht : tFind T n with
  | none => rw [ht] at h; cases h
  | some l => exact ⟨l, rfl⟩
theorem nam_some {n : Int} {s : ByteArray} (h : namErr T n s = 0) : ∃ l, tFind T n = some l := by
  unfold namErr at h
  cases ht : tFind T n with
  | none => rw [ht] at h; cases h
  | some l => exact ⟨l, rfl⟩
def DClsPost (n : Int) (s : ByteArray) (on : Bool) (e : Ending) (w' : World) : Prop :=
  ∃ y kl', e = .returned (.int .i64 y) ∧ y = clsErr T n s ∧ DSk w' px T made (if y = 0 then setM M n.toNat (clsMk (M n.toNat) s on) else M) rs kl' (More F w) ∧ Fr w w' F ∧ kl'.Sublist kl
theorem dcls_any (n : Int) (s : ByteArray) (on : Bool) (h : DSk w px T made M rs kl F) : Calls Tryz.prog 46 #[px, .int .i64 n, .string s, .bool on] w fun e w' => DClsPost w px T made M rs kl F n s on e w' := by
  obtain ⟨b, vS, v, els, G, rfl, h2, h3, h4, h5, h6, h7⟩ := h
  have HB : Hid (DM w b vS v els T made M rs kl G ∧ KOK T M rs kl ∧ F b ∧ (∀ j, v.ownBlock = some j → F j) ∧ (∀ j, vS.2.ownBlock = some j → F j) ∧ ∀ k, G k → F k) := ⟨h2, h3, h4, h5, h6, h7⟩
  clear h2 h3 h4 h5 h6 h7
  go_enter Tryz.func46, Tryz.ntmps46
  go_wp2_with fail
  refine (pcls_any w b vS v els T made n s on HB.out.1.pb HB.out.1.tw HB.out.1.mks.2).mono ?_
  rintro e w1 ⟨lt, y, els', rfl, hy, hp, hf, hne, hm⟩
  have HM1 : Hid (MkO els' (if y = 0 then setM M n.toNat (clsMk (M n.toNat) s on) else M) ∧ (y = 0 → lt = bt s 0 ∨ (97 ≤ bt s 0 ∧ (M n.toNat).cl (bt s 0 - 97) = on))) := by
    by_cases h0 : y = 0
    · have := hm M HB.out.1.mks h0
      rw [if_pos h0]
      exact ⟨this.1, fun _ => this.2⟩
    · rw [if_neg h0, hne h0]
      exact ⟨HB.out.1.mks, fun h => absurd h h0⟩
  have HD1 : Hid (DM w1 b vS v els' T made (if y = 0 then setM M n.toNat (clsMk (M n.toNat) s on) else M) rs kl G) := HB.out.1.inpl hp HM1.out.1 hf
  have HF1 : Hid (Fr w w1 F) := hf.mono (fun k hk => HB.out.2.2.2.1 k hk)
  have HY : Hid (y = clsErr T n s) := hy
  obtain ⟨ar, cr, xs, hv1, hrow⟩ := HD1.out.sh.row
  have q0 : w1.cell? ⟨b, 0, none⟩ = some (.slice ar rs.length cr) := by
    have : w1.cell? ⟨b, 0, none⟩ = some vS.1 := cell_of_blk HD1.out.pb.doc rfl
    rw [this, hv1]
  have HRW : Hid (RsRow w1 ar cr xs rs) := hrow
  clear hp hf hm hne hy hrow hv1
  go_wp2_with fail
  refine (pnamesB_any w1 ar cr xs rs 2 lt HRW.out).mono ?_
  rintro e w2 ⟨rfl, hB2⟩
  have HD2 : Hid (DM w2 b vS v els' T made (if y = 0 then setM M n.toNat (clsMk (M n.toNat) s on) else M) rs kl G) := HD1.out.below hB2
  have HF2 : Hid (Fr w w2 F) := HF1.out.below hB2
  clear hB2 HD1 HF1 HRW q0
  cases hnm : namesB rs 2 lt with
  | false =>
    have HE : Hid (DClsPost w (.pointer (some ⟨b, 0, none⟩)) T made M rs kl F n s on (.returned (.int .i64 y)) w2) := by
      refine ⟨y, kl, rfl, HY.out, ⟨b, vS, v, els', G, rfl, HD2.out, ?_, Or.inl HB.out.2.2.1, fun j hj => Or.inl (HB.out.2.2.2.1 j hj), fun j hj => Or.inl (HB.out.2.2.2.2.1 j hj), fun k hk => Or.inl (HB.out.2.2.2.2.2 k hk)⟩, HF2.out, List.Sublist.refl _⟩
      by_cases h0 : y = 0
      · rw [if_pos h0]
        refine HB.out.2.1.cls HB.out.1.tw s on ?_
        rcases HM1.out.2 h0 with h1 | h1
        · exact Or.inl (by rw [← h1]; exact hnm)
        · exact Or.inr h1
      · rw [if_neg h0]
        exact HB.out.2.1
    clear hnm
    go_wp2
    go_ret
    exact HE.out
  | true =>
    clear hnm
    go_wp2_with fail
    refine (dturned_any w2 b vS v els' T made _ rs kl G n HD2.out).mono ?_
    rintro e w3 ⟨rfl, v2, hd2, hf2, hv2⟩
    have HE : Hid (DClsPost w (.pointer (some ⟨b, 0, none⟩)) T made M rs kl F n s on (.returned (.int .i64 y)) w3) := by
      refine ⟨y, dropK (reachP els' n) kl, rfl, HY.out, ⟨b, (vS.1, v2), v, els', G, rfl, hd2, ?_, Or.inl HB.out.2.2.1, fun j hj => Or.inl (HB.out.2.2.2.1 j hj), fun j hj => Or.inr (Nat.le_trans HF2.out.size (hv2 j hj)), fun k hk => Or.inl (HB.out.2.2.2.2.2 k hk)⟩, HF2.out.trans (hf2.mono (fun k hk => hk ▸ HB.out.2.2.1)), drop_sub _ _⟩
      by_cases h0 : y = 0
      · rw [if_pos h0]
        obtain ⟨l, hl⟩ := cls_some T (HY.out.symm.trans h0)
        obtain ⟨hmem, hn⟩ := find_nat hl
        refine HB.out.2.1.mark HB.out.1.tw hmem _ (drop_sub _ _) (fun x hx j hj => ?_)
        obtain ⟨j', lj, hj', hjT⟩ := HB.out.2.1.els x ((drop_sub _ _).subset hx)
        have : j' = j := by omega
        subst this
        rw [hn] at hx
        exact drop_out hd2.pb.pt hd2.tw hmem hx hj hjT
      · rw [if_neg h0]
        exact HB.out.2.1.sub (drop_sub _ _)
    clear hd2 hf2 hv2
    go_wp2
    go_ret
    exact HE.out
def DNamPost (n : Int) (s : ByteArray) (e : Ending) (w' : World) : Prop :=
  ∃ y kl', e = .returned (.int .i64 y) ∧ y = namErr T n s ∧ DSk w' px T made (if y = 0 then setM M n.toNat (namMk (M n.toNat) s) else M) rs kl' (More F w) ∧ Fr w w' F ∧ kl'.Sublist kl
theorem dnam_any (n : Int) (s : ByteArray) (h : DSk w px T made M rs kl F) : Calls Tryz.prog 21 #[px, .int .i64 n, .string s] w fun e w' => DNamPost w px T made M rs kl F n s e w' := by
  obtain ⟨b, vS, v, els, G, rfl, h2, h3, h4, h5, h6, h7⟩ := h
  have HB : Hid (DM w b vS v els T made M rs kl G ∧ KOK T M rs kl ∧ F b ∧ (∀ j, v.ownBlock = some j → F j) ∧ (∀ j, vS.2.ownBlock = some j → F j) ∧ ∀ k, G k → F k) := ⟨h2, h3, h4, h5, h6, h7⟩
  clear h2 h3 h4 h5 h6 h7
  go_enter Tryz.func21, Tryz.ntmps21
  go_wp2_with fail
  refine (pnam_any w b vS v els T made n s HB.out.1.pb HB.out.1.tw HB.out.1.mks.2).mono ?_
  rintro e w1 ⟨old, now, y, els', rfl, hy, hp, hf, hne, hm⟩
  have HM1 : Hid (MkO els' (if y = 0 then setM M n.toNat (namMk (M n.toNat) s) else M) ∧ (y = 0 → old = (M n.toNat).nm ∧ now = (namMk (M n.toNat) s).nm) ∧ (¬ y = 0 → old = now)) := by
    by_cases h0 : y = 0
    · have := hm M HB.out.1.mks h0
      rw [if_pos h0]
      exact ⟨this.1, fun _ => this.2, fun h => absurd h0 h⟩
    · rw [if_neg h0, (hne h0).1]
      exact ⟨HB.out.1.mks, fun h => absurd h h0, fun _ => (hne h0).2⟩
  have HD1 : Hid (DM w1 b vS v els' T made (if y = 0 then setM M n.toNat (namMk (M n.toNat) s) else M) rs kl G) := HB.out.1.inpl hp HM1.out.1 hf
  have HF1 : Hid (Fr w w1 F) := hf.mono (fun k hk => HB.out.2.2.2.1 k hk)
  have HY : Hid (y = namErr T n s) := hy
  obtain ⟨ar, cr, xs, hv1, hrow⟩ := HD1.out.sh.row
  have q0 : w1.cell? ⟨b, 0, none⟩ = some (.slice ar rs.length cr) := by
    have : w1.cell? ⟨b, 0, none⟩ = some vS.1 := cell_of_blk HD1.out.pb.doc rfl
    rw [this, hv1]
  have HRW : Hid (RsRow w1 ar cr xs rs) := hrow
  have hbl := HD1.out.lt
  clear hp hf hm hne hy hrow hv1
  go_wp2_with fail
  refine (pnamesB_any w1 ar cr xs rs 3 old HRW.out).mono ?_
  rintro e w2 ⟨rfl, hB2⟩
  have q2 : w2.cell? ⟨b, 0, none⟩ = some (.slice ar rs.length cr) := (hB2.cell (p := ⟨b, 0, none⟩) hbl).trans q0
  have HRW2 : Hid (RsRow w2 ar cr xs rs) := HRW.out.below hB2
  have HB2 : Hid (Below w1.heap.size w1 w2) := hB2
  clear hB2 q0 HRW
  obtain ⟨ot, hot⟩ : ∃ ot, namesB rs 3 old = ot := ⟨_, rfl⟩
  have HOT : Hid (namesB rs 3 old = ot) := hot
  rw [hot]
  clear hot
  go_wp2_with fail
  refine (pnamesB_any w2 ar cr xs rs 3 now HRW2.out).mono ?_
  rintro e w3 ⟨rfl, hB3⟩
  have HB3 : Hid (Below w1.heap.size w1 w3) := HB2.out.trans (hB3.mono HB2.out.size)
  have HD2 : Hid (DM w3 b vS v els' T made (if y = 0 then setM M n.toNat (namMk (M n.toNat) s) else M) rs kl G) := HD1.out.below HB3.out
  have HF2 : Hid (Fr w w3 F) := HF1.out.below HB3.out
  clear hB3 HB2 HB3 HD1 HF1 HRW2 q2
  obtain ⟨nt, hnt⟩ : ∃ nt, namesB rs 3 now = nt := ⟨_, rfl⟩
  have HNT : Hid (namesB rs 3 now = nt) := hnt
  rw [hnt]
  clear hnt
  have HEN : Hid ((old = now ∨ (ot = false ∧ nt = false)) → DNamPost w (.pointer (some ⟨b, 0, none⟩)) T made M rs kl F n s (.returned (.int .i64 y)) w3) := fun hc => by
    refine ⟨y, kl, rfl, HY.out, ⟨b, vS, v, els', G, rfl, HD2.out, ?_, Or.inl HB.out.2.2.1, fun j hj => Or.inl (HB.out.2.2.2.1 j hj), fun j hj => Or.inl (HB.out.2.2.2.2.1 j hj), fun k hk => Or.inl (HB.out.2.2.2.2.2 k hk)⟩, HF2.out, List.Sublist.refl _⟩
    by_cases h0 : y = 0
    · rw [if_pos h0]
      obtain ⟨e1, e2⟩ := HM1.out.2.1 h0
      refine HB.out.2.1.nam HB.out.1.tw s ?_
      rw [← e1, ← e2]
      rcases hc with hc | ⟨h1, h2⟩
      · exact Or.inl hc
      · exact Or.inr ⟨by rw [HOT.out]; exact h1, by rw [HNT.out]; exact h2⟩
    · rw [if_neg h0]
      exact HB.out.2.1
  have HTU : Hid (∀ w4, TurnedPost w3 b vS v els' T made (if y = 0 then setM M n.toNat (namMk (M n.toNat) s) else M) rs kl G n (.returned (.tuple #[])) w4 → DNamPost w (.pointer (some ⟨b, 0, none⟩)) T made M rs kl F n s (.returned (.int .i64 y)) w4) := fun w4 ⟨_, v2, hd2, hf2, hv2⟩ => by
    refine ⟨y, dropK (reachP els' n) kl, rfl, HY.out, ⟨b, (vS.1, v2), v, els', G, rfl, hd2, ?_, Or.inl HB.out.2.2.1, fun j hj => Or.inl (HB.out.2.2.2.1 j hj), fun j hj => Or.inr (Nat.le_trans HF2.out.size (hv2 j hj)), fun k hk => Or.inl (HB.out.2.2.2.2.2 k hk)⟩, HF2.out.trans (hf2.mono (fun k hk => hk ▸ HB.out.2.2.1)), drop_sub _ _⟩
    by_cases h0 : y = 0
    · rw [if_pos h0]
      obtain ⟨l, hl⟩ := nam_some T (HY.out.symm.trans h0)
      obtain ⟨hmem, hn⟩ := find_nat hl
      refine HB.out.2.1.mark HB.out.1.tw hmem _ (drop_sub _ _) (fun x hx j hj => ?_)
      obtain ⟨j', lj, hj', hjT⟩ := HB.out.2.1.els x ((drop_sub _ _).subset hx)
      have : j' = j := by omega
      subst this
      rw [hn] at hx
      exact drop_out hd2.pb.pt hd2.tw hmem hx hj hjT
    · rw [if_neg h0]
      exact HB.out.2.1.sub (drop_sub _ _)
  by_cases hon : old = now
  · have gn : (old != now) = false := by simp [hon]
    have HE := HEN.out (Or.inl hon)
    clear hon
    go_wp2
    go_ret
    exact HE
  · have gn : (old != now) = true := by simp [hon]
    clear hon
    cases ot with
    | true =>
      go_wp2_with fail
      refine (dturned_any w3 b vS v els' T made _ rs kl G n HD2.out).mono ?_
      intro e w4 ht
      obtain ⟨rfl, _⟩ := id ht
      have HE : Hid (DNamPost w (.pointer (some ⟨b, 0, none⟩)) T made M rs kl F n s (.returned (.int .i64 y)) w4) := HTU.out w4 ht
      clear ht
      go_wp2
      go_ret
      exact HE.out
    | false =>
      cases nt with
      | true =>
        go_wp2_with fail
        refine (dturned_any w3 b vS v els' T made _ rs kl G n HD2.out).mono ?_
        intro e w4 ht
        obtain ⟨rfl, _⟩ := id ht
        have HE : Hid (DNamPost w (.pointer (some ⟨b, 0, none⟩)) T made M rs kl F n s (.returned (.int .i64 y)) w4) := HTU.out w4 ht
        clear ht
        go_wp2
        go_ret
        exact HE.out
      | false =>
        have HE := HEN.out (Or.inr ⟨rfl, rfl⟩)
        go_wp2
        go_ret
        exact HE
def DShtPost (s : ByteArray) (e : Ending) (w' : World) : Prop :=
  ∃ y kl', e = .returned (.int .i64 y) ∧ y = (chk s).1 ∧ DSk w' px T made M (if y = 0 then sheetOf s else rs) kl' (More F w) ∧ Fr w w' F ∧ kl' = if y = 0 then [] else kl
theorem dsht_any (s : ByteArray) (hs : s.size ≤ maxLen) (h : DSk w px T made M rs kl F) : Calls Tryz.prog 28 #[px, .string s] w fun e w' => DShtPost w px T made M rs kl F s e w' := by
  obtain ⟨b, vS, v, els, G, rfl, h2, h3, h4, h5, h6, h7⟩ := h
  have HB : Hid (DM w b vS v els T made M rs kl G ∧ KOK T M rs kl ∧ F b ∧ (∀ j, v.ownBlock = some j → F j) ∧ (∀ j, vS.2.ownBlock = some j → F j) ∧ ∀ k, G k → F k) := ⟨h2, h3, h4, h5, h6, h7⟩
  clear h2 h3 h4 h5 h6 h7
  go_enter Tryz.func28, Tryz.ntmps28
  go_wp2_with fail
  refine (read_any w s hs).mono ?_
  rintro e w1 ⟨a, n, c, rfl, hB1, hsheet⟩
  by_cases hc : (chk s).1 = 0
  · have HSH : Hid (SheetIn w1 (fun k => w.heap.size ≤ k ∧ k < w1.heap.size) (.slice a n c) (sheetOf s)) := by
      obtain ⟨rs, xs, h1, h2, h3, h4⟩ := hsheet hc
      exact sheet_in hc h1 h2 h3 h4
    have HCK : Hid ((chk s).1 = 0) := hc
    have HD1 : Hid (DM (w1.alloc (.cells #[.slice a n c] 82)) b vS v els T made M rs kl G) := HB.out.1.below (hB1.alloc hB1.size _)
    have HB1 : Hid (Below w.heap.size w w1) := hB1
    rw [hc]
    have HBK : Hid ((w1.alloc (.cells #[.slice a n c] 82)).heap[b]? = some (docBlk vS v made)) := HD1.out.pb.doc
    have q0 : (w1.alloc (.cells #[.slice a n c] 82)).cell? ⟨b, 0, none⟩ = some vS.1 := cell_of_blk HBK.out rfl
    have q3 : (w1.alloc (.cells #[.slice a n c] 82)).cell? ⟨b, 3, none⟩ = some vS.2 := cell_of_blk HBK.out rfl
    have qf : ∀ j, (w1.alloc (.cells #[.slice a n c] 82)).frozen? ⟨b, j, none⟩ = false := fun _ => frozen_of_blk HBK.out
    have qs : (w1.alloc (.cells #[.slice a n c] 82)).cell? ⟨w1.heap.size, 0, none⟩ = some (.slice a n c) := cell_of_blk (heap_alloc_new w1 _) rfl
    have hbl : b < w.heap.size := HB.out.1.lt
    have hbz := hB1.size
    have HE : Hid (DShtPost w (.pointer (some ⟨b, 0, none⟩)) T made M rs kl F s (.returned (.int .i64 0)) (((w1.alloc (.cells #[.slice a n c] 82)).setCell ⟨b, 0, none⟩ (.slice a n c)).setCell ⟨b, 3, none⟩ (.slice none 0 0))) := by
      have h1 : ((w1.alloc (.cells #[.slice a n c] 82)).setCell ⟨b, 0, none⟩ (.slice a n c)).heap[b]? = some (docBlk (.slice a n c, vS.2) v made) := by rw [heap_setCell_row HBK.out]; rfl
      have h2 : (((w1.alloc (.cells #[.slice a n c] 82)).setCell ⟨b, 0, none⟩ (.slice a n c)).setCell ⟨b, 3, none⟩ (.slice none 0 0)).heap[b]? = some (docBlk (.slice a n c, .slice none 0 0) v made) := by rw [heap_setCell_row h1]; rfl
      have hne := own_ne_type HD1.out.pb.pl.row HBK.out (by decide)
      have hfr : Fr w (((w1.alloc (.cells #[.slice a n c] 82)).setCell ⟨b, 0, none⟩ (.slice a n c)).setCell ⟨b, 3, none⟩ (.slice none 0 0)) (fun k => k = b) := ((((Fr.refl w (fun k => k = b)).below HB1.out).alloc _).set (p := ⟨b, 0, none⟩) (Or.inl rfl) _).set (p := ⟨b, 3, none⟩) (Or.inl rfl) _
      refine ⟨0, [], rfl, HCK.out.symm, ⟨b, (.slice a n c, .slice none 0 0), v, els, fun k => w.heap.size ≤ k ∧ k < w1.heap.size, rfl, ⟨⟨h2, ⟨own_set (own_set HD1.out.pb.pl.row hne _) hne _, HD1.out.pb.pl.ok⟩, HD1.out.pb.pt, HD1.out.pb.few⟩, HD1.out.tw, HD1.out.mks, ?_, ⟨World.ownsRow_nil _ _ _ _, fun x hx => by cases hx⟩, by simp, fun k hk => by have := hk.2; simp; omega, fun hk => by have := hk.1; omega, fun j hj hk => ?_, fun j hj => by simp [Value.ownBlock] at hj⟩, ?_, Or.inl HB.out.2.2.1, fun j hj => Or.inl (HB.out.2.2.2.1 j hj), fun j hj => by simp [Value.ownBlock] at hj, fun k hk => Or.inr hk.1⟩, hfr.mono (fun k hk => hk ▸ HB.out.2.2.1), by rw [if_pos rfl]⟩
      · rw [if_pos rfl]
        refine HSH.out.keep (fun k hk hl => ?_) (by simp)
        have hkb : k ≠ b := by have := hk.1; omega
        exact (Below.heap_setCell _ ⟨b, 3, none⟩ _ k hkb).trans ((Below.heap_setCell _ ⟨b, 0, none⟩ _ k hkb).trans (Below.heap_alloc w1 _ k hl))
      · have h5 := (HB.out.1.pb.pl.row.lt j hj).2
        have := hk.1
        omega
      · exact kok_nil
    clear hsheet hc HBK HD1 HSH hB1
    generalize (chk s).2 = place
    go_wp2
    go_ret
    exact HE.out
  · have hgt : ((chk s).1 != 0) = true := by simp [hc]
    have HE : Hid (DShtPost w (.pointer (some ⟨b, 0, none⟩)) T made M rs kl F s (.returned (.int .i64 (chk s).1)) (w1.alloc (.cells #[.slice a n c] 82))) := by
      refine ⟨(chk s).1, kl, rfl, rfl, ⟨b, vS, v, els, G, rfl, ?_, ?_, Or.inl HB.out.2.2.1, fun j hj => Or.inl (HB.out.2.2.2.1 j hj), fun j hj => Or.inl (HB.out.2.2.2.2.1 j hj), fun k hk => Or.inl (HB.out.2.2.2.2.2 k hk)⟩, (Fr.refl w F).below (hB1.alloc hB1.size _), by rw [if_neg hc]⟩
      · rw [if_neg hc]
        exact HB.out.1.below (hB1.alloc hB1.size _)
      · rw [if_neg hc]
        exact HB.out.2.1
    clear hsheet hc hB1
    generalize (chk s).2 = place
    generalize (chk s).1 = y at hgt HE ⊢
    go_wp2
    go_ret
    exact HE.out
end
end Go.Proofs.YtblfffbmklkhmaaGreat
