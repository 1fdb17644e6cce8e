/- Own work. -/
import Derived.Test.YtblfffbmklkhmaaGreatAw51
import Derived.RegionTactic
namespace Go.Proofs.YtblfffbmklkhmaaGreat
open Go.RowKit
/-- Kinds are letters, names are letters or none. -/
def SzOK (S : List PNd) : Prop := ∀ x ∈ S, isLetter x.kind = true ∧ (x.name.size = 0 ∨ isLetter x.name = true)
section
variable {DS : World → Value → Tree → Nat → (Nat → Mk) → List PRu → (Nat → Prop) → Prop} {w0 w w' : World} {g : Nat} {px vl : Value} {made b : Nat} {ns : List GN} {rs : List PRu} {Fg Fx : Nat → Prop} {g2 : Nat} {px2 vl2 : Value} {mb b2 : Nat} {T2 : Tree} {made2 : Nat} {M2 : Nat → Mk} {rs2 : List PRu} {Fg2 Fx2 : Nat → Prop} {vp : Value} {ps : List (Nat × Nat)}
theorem cop_class (hP : DocOK DS) (h : Cs DS w0 w g px vl made b ns rs Fg Fx g2 px2 vl2 mb b2 T2 made2 M2 rs2 Fg2 Fx2 vp ps) {x : PNd} {k un : Nat} {M0 : Nat → Mk} (hm : MTo x k M0 un M2) (hk : k < 4) (hc : cBit x k = true) {l : List Nat} (hun : (un, l) ∈ T2) {y : Int} (hy : y = clsErr T2 un (letB (k + 0)))
    (hds : DS w' px2 T2 made2 (if y = 0 then setM M2 ((un : Int)).toNat (clsMk (M2 ((un : Int)).toNat) (letB (k + 0)) true) else M2) rs2 (More Fx2 w)) (hf : Fr w w' Fx2) :
    y = 0 ∧ ∃ M F, MTo x (k + 1) M0 un M ∧ Cs DS w0 w' g px vl made b ns rs Fg Fx g2 px2 vl2 mb b2 T2 made2 M rs2 Fg2 F vp ps := by
  have hy0 : y = 0 := by
    rw [hy]
    unfold clsErr
    rw [tFind_mem (hP.tw h.two.ds).nums hun]
    show (if isLetter (letB (k + 0)) = false then (4 : Int) else 0) = 0
    rw [if_neg (by rw [isLetter_letB]; simp)]
  rw [hy0, if_pos rfl, Int.toNat_natCast] at hds
  exact ⟨hy0, _, _, hm.yes hk hc, h.doc hP hds hf⟩
theorem cop_name (hP : DocOK DS) (h : Cs DS w0 w g px vl made b ns rs Fg Fx g2 px2 vl2 mb b2 T2 made2 M2 rs2 Fg2 Fx2 vp ps) {x : PNd} {un : Nat} {M0 : Nat → Mk} (hm : MTo x 4 M0 un M2) (hx : x.name.size = 0 ∨ isLetter x.name = true) {l : List Nat} (hun : (un, l) ∈ T2) {y : Int} (hy : y = namErr T2 un x.name)
    (hds : DS w' px2 T2 made2 (if y = 0 then setM M2 ((un : Int)).toNat (namMk (M2 ((un : Int)).toNat) x.name) else M2) rs2 (More Fx2 w)) (hf : Fr w w' Fx2) :
    y = 0 ∧ ∃ M F, (AgreeM (M un) (mkS 0 x) ∧ ∀ j, j ≠ un → M j = M0 j) ∧ Cs DS w0 w' g px vl made b ns rs Fg Fx g2 px2 vl2 mb b2 T2 made2 M rs2 Fg2 F vp ps := by
  have hy0 : y = 0 := by
    rw [hy]
    unfold namErr
    rw [tFind_mem (hP.tw h.two.ds).nums hun]
    show (if x.name.size ≠ 0 ∧ isLetter x.name = false then (4 : Int) else 0) = 0
    rw [if_neg (fun h => hx.elim h.1 (fun h1 => by rw [h1] at h; exact absurd h.2 (by simp)))]
  rw [hy0, if_pos rfl, Int.toNat_natCast] at hds
  exact ⟨hy0, _, _, hm.name, h.doc hP hds hf⟩
theorem cop_ins (hP : DocOK DS) (h : Cs DS w0 w g px vl made b ns rs Fg Fx g2 px2 vl2 mb b2 T2 made2 M2 rs2 Fg2 Fx2 vp ps) {un i : Nat} {lb : List Nat} (hun : (un, lb) ∈ T2) (hlb : lb.length = i) {kind : ByteArray} (hl : isLetter kind = true) (hfew : T2.length < 24) {y : Int} {T3 : Tree} {made3 : Nat} {n : Int} (ht : TIns T2 made2 un i kind y T3 made3 n)
    (hds : DS w' px2 T3 made3 (if y = 0 then setM M2 made2 (newMk kind) else M2) rs2 (More Fx2 w)) (hf : Fr w w' Fx2) :
    y = 0 ∧ n = made2 ∧ ∃ F, Cs DS w0 w' g px vl made b ns rs Fg Fx g2 px2 vl2 mb b2 (tIns T2 un i made2) (made2 + 1) (setM M2 made2 (newMk kind)) rs2 Fg2 F vp ps := by
  have hy0 : y = 0 := by
    rw [ht.1]
    unfold tInsErr
    rw [tFind_mem (hP.tw h.two.ds).nums hun]
    show (if (i : Int) < 0 ∨ (lb.length : Int) < (i : Int) then (8 : Int) else if isLetter kind = false then 4 else if 24 ≤ T2.length then 9 else 0) = 0
    rw [if_neg (by omega), if_neg (by rw [hl]; simp), if_neg (by omega)]
  rcases ht.2 with ⟨h1, _⟩ | ⟨_, hn, hm, p, k, hp, hk, _, hT⟩
  · exact absurd hy0 h1
  · have e1 : p = un := by omega
    have e2 : k = i := by omega
    rw [hy0, if_pos rfl, hT, hm, e1, e2] at hds
    exact ⟨hy0, hn, _, h.doc hP hds hf⟩
end
section
set_option maxRecDepth 100000
set_option maxHeartbeats 4000000
variable (DS : World → Value → Tree → Nat → (Nat → Mk) → List PRu → (Nat → Prop) → Prop) (w0 : World) (g : Nat) (px vl : Value) (made : Nat) (ns : List GN) (rs : List PRu) (Fg Fx : Nat → Prop) (g2 : Nat) (pa2 : Addr) (vl2 : Value) (rs2 : List PRu) (Fg2 : Nat → Prop)
def CopPost (x : GN) (un : Nat) (T2 : Tree) (M2 : Nat → Mk) (made2 : Nat) (ps : List (Nat × Nat)) (e : Ending) (w' : World) : Prop :=
  ∃ vp' T3 M3 made3 new Fx3, e = .returned (.tuple #[vp', .bool true]) ∧ CInv (treeS (ns.map GN.pl)) (mOf 0 (ns.map GN.pl)) x.num un T2 M2 made2 ps x.kids.length x.kids T3 M3 made3 new ∧ Cs DS w0 w' g px vl made 0 ns rs Fg Fx g2 (.pointer (some pa2)) vl2 made3 0 T3 made3 M3 rs2 Fg2 Fx3 vp' (ps ++ new)
def CopOK (x : GN) : Prop := ∀ (w : World) (un : Nat) (T2 : Tree) (M2 : Nat → Mk) (made2 : Nat) (ps : List (Nat × Nat)) (vp : Value) (Fx2 : Nat → Prop), CPre (treeS (ns.map GN.pl)) x.num un T2 made2 ps x.kids → M2 un = newMk x.kind → Cs DS w0 w g px vl made 0 ns rs Fg Fx g2 (.pointer (some pa2)) vl2 made2 0 T2 made2 M2 rs2 Fg2 Fx2 vp ps →
  Calls Tryz.prog 29 #[.pointer (some ⟨g, 0, none⟩), .pointer (some ⟨g2, 0, none⟩), .int .i64 x.num, .int .i64 un, vp] w fun e w' => CopPost DS w0 g px vl made ns rs Fg Fx g2 pa2 vl2 rs2 Fg2 x un T2 M2 made2 ps e w'
theorem copied_step (hP : DocOK DS) (hsz : SzOK (ns.map GN.pl)) (x : GN) (hx : x ∈ ns) (ih : ∀ c ∈ ns, c.num ∈ x.kids → CopOK DS w0 g px vl made ns rs Fg Fx g2 pa2 vl2 rs2 Fg2 c) : CopOK DS w0 g px vl made ns rs Fg Fx g2 pa2 vl2 rs2 Fg2 x := by
  intro w un T2 M2 made2 ps vp Fx2 hpre hm hcs
  obtain ⟨av, cv, hv⟩ := own_shape hcs.row
  subst hv
  obtain ⟨i0, hi, iz0, iz1, iz2⟩ := info_parts Tryz.info3
  have hgt := hcs.one.gt
  obtain ⟨h0, hl⟩ := hcs.one.len
  have hpl : ps.length ≤ 24 := by
    have h1 := nodup_len hpre.fst (m := (treeS (ns.map GN.pl)).map Prod.fst) (fun k hk => by
      obtain ⟨z, hz, rfl⟩ := List.mem_map.1 hk
      obtain ⟨l, hl⟩ := hpre.inT z hz
      exact List.mem_map.2 ⟨_, hl, rfl⟩)
    rw [List.length_map, List.length_map, treeS_len, List.length_map] at h1
    omega
  have HPRE : Hid (CPre (treeS (ns.map GN.pl)) x.num un T2 made2 ps x.kids) := hpre
  have HCS : Hid (Cs DS w0 w g px vl made 0 ns rs Fg Fx g2 (.pointer (some pa2)) vl2 made2 0 T2 made2 M2 rs2 Fg2 Fx2 (.slice av (2 * ps.length) cv) ps) := hcs
  have HP : Hid (DocOK DS) := hP
  have HM : Hid (M2 un = newMk x.kind) := hm
  have HX : Hid (x ∈ ns ∧ SzOK (ns.map GN.pl) ∧ ∀ c ∈ ns, c.num ∈ x.kids → CopOK DS w0 g px vl made ns rs Fg Fx g2 pa2 vl2 rs2 Fg2 c) := ⟨hx, hsz, ih⟩
  have HTW : Hid (TW (treeS (ns.map GN.pl)) made ∧ GT ns (treeS (ns.map GN.pl)) made ∧ (treeS (ns.map GN.pl)).length ≤ 24) := ⟨hcs.one.pw.tw, hgt, by rw [hgt.len]; exact hl⟩
  have HMS : Hid (mOf 0 (ns.map GN.pl) x.num = mkS 0 x.pl) := mOf_at hcs.one.pw.nums (List.mem_map.2 ⟨x, hx, rfl⟩ : x.pl ∈ ns.map GN.pl)
  have HF : Hid ((findG ns x.num).getD ns[0] = x) := by unfold Hid; rw [findG_mem hgt.nums hx]; rfl
  have hz0 : w0.heap.size ≤ w.heap.size := hcs.bl.size
  clear hpre hm hcs hP hx hsz ih hgt
  go_enter Tryz.func29, Tryz.ntmps29
  go_wp2_with (at_builtin; refine wpList_append_kept _ rfl (.tmp 21) (.tmp 24) 40 rfl w0.heap.size 3 i0 (.int .i64 0) 1 8 Tryz.underlying40 hi iz0 iz1 iz2 rfl (by decide) _ _ _ rfl (HCS.out.row.alloc _) ⟨w.heap.size, 0, none⟩ 2 2 [.int .i64 x.num, .int .i64 un] rfl rfl ?c1 ?c2 ?c3 ?c4 ?c5 ?_)
  case c1 => exact new_cells w _ rfl _ _ _ rfl
  case c2 => intro u hu; simp only [List.mem_cons, List.not_mem_nil, or_false] at hu; rcases hu with rfl | rfl <;> rfl
  case c3 => unfold maxLen; omega
  case c4 => omega
  case c5 => simp; omega
  intro v5 w5 own5 hg5 HB5
  have HC5 : Hid (Cs DS w0 w5 g px vl made 0 ns rs Fg Fx g2 (.pointer (some pa2)) vl2 made2 0 T2 made2 M2 rs2 Fg2 Fx2 v5 (ps ++ [(x.num, un)])) := HCS.out.app HP.out own5 hg5 (fun j hj => (HB5.out j hj).imp id (fun h => by first | omega | (simp at h; omega)))
  clear own5 hg5 HB5 HCS hi iz0 iz1 iz2
  go_wp2_with fail
  refine (kfind_any w5 g px vl made (0 : Nat) ns x.num HC5.out.one.gr hl h0).mono ?_
  rw [HF.out]
  rintro e w6 ⟨rfl, rfl⟩
  obtain ⟨w5, rfl⟩ : ∃ w5, w5 = w6 := ⟨_, rfl⟩
  have HL1 : Hid (∃ M F, MTo x.pl 0 M2 un M ∧ Cs DS w0 w5 g px vl made 0 ns rs Fg Fx g2 (.pointer (some pa2)) vl2 made2 0 T2 made2 M rs2 Fg2 F v5 (ps ++ [(x.num, un)])) := ⟨M2, Fx2, mto_start HM.out, HC5.out⟩
  clear HC5 HF
  go_wp2_with fail
  go_loopg [13, 14] 4 (fun gk kv ev wr => ∃ k : Nat, kv = .int .i64 k ∧ k ≤ 4 ∧ 4 - k ≤ gk ∧ Hid (∃ M F, MTo x.pl k M2 un M ∧ Cs DS w0 wr g px vl made 0 ns rs Fg Fx g2 (.pointer (some pa2)) vl2 made2 0 T2 made2 M rs2 Fg2 F v5 (ps ++ [(x.num, un)])))
  case atStart => exact ⟨0, rfl, by omega, by omega, HL1⟩
  case round =>
    obtain ⟨k, rfl, hk, hgk, HI⟩ := hrel
    obtain ⟨M, F, hmt, hc⟩ := HI.out
    have HC : Hid (MTo x.pl k M2 un M ∧ Cs DS w0 wr g px vl made 0 ns rs Fg Fx g2 (.pointer (some pa2)) vl2 made2 0 T2 made2 M rs2 Fg2 F v5 (ps ++ [(x.num, un)])) := ⟨hmt, hc⟩
    have hxb := hc.one.gr.nd x HX.out.1
    have hxl : x.b < wr.heap.size := (Array.getElem?_eq_some_iff.1 hxb).1
    have HXB : Hid (wr.heap[x.b]? = some x.blk) := hxb
    clear HI hmt hc hxb
    by_cases hlt : k < 4
    · have hd : decide ((k : Int) < 4) = true := by simp; omega
      have hkl : (k : Int) < 4 := by omega
      have hk3 : k ≤ 3 := by omega
      have ck : wr.cell? ⟨x.b, 4 + k, none⟩ = some (.bool (cBit x.pl k)) := by
        have hh := HXB.out
        unfold GN.blk at hh
        have h4 : k = 0 ∨ k = 1 ∨ k = 2 ∨ k = 3 := by omega
        rcases h4 with rfl | rfl | rfl | rfl <;> exact cell_of_blk hh rfl
      cases hcb : cBit x.pl k with
      | true =>
        rw [hcb] at ck
        have HCB : Hid (cBit x.pl k = true) := hcb
        clear hcb
        have HLW : Hid (∀ w3, Below wr.drew.heap.size wr.drew w3 → Cs DS w0 w3 g px vl made 0 ns rs Fg Fx g2 (.pointer (some pa2)) vl2 made2 0 T2 made2 M rs2 Fg2 F v5 (ps ++ [(x.num, un)])) := fun w3 hb3 => HC.out.2.below HP.out ((Below.refl _ wr).drew.trans hb3)
        have HCC : Hid (∀ w3 wx, Below wr.drew.heap.size wr.drew w3 → Fr w3 wx F → wx.cell? ⟨g2, 0, none⟩ = some (.pointer (some pa2)) ∧ wx.cell? ⟨g2, 3, none⟩ = some (.int .i64 0)) := fun w3 wx hb3 hf => by
          have h3 := (HLW.out w3 hb3).two
          have e1 : wx.heap[g2]? = w3.heap[g2]? := hf.block g2 (h3.here g2 (Or.inl h3.inb)) (h3.gx g2 h3.inb)
          exact ⟨cell_of_blk (e1.trans h3.blk) rfl, cell_of_blk (e1.trans h3.blk) rfl⟩
        have H0 : Hid (Below wr.drew.heap.size wr.drew wr.drew) := Below.refl _ _
        have hzero : (0 : Nat) ≤ 25 := by decide
        go_upto_region 7 with fail
        go_cut [14] from 29 to 53 (fun v wx => ∃ y : Int, v = .int .i64 y ∧ Hid (y = 0 ∧ ∃ M F, MTo x.pl (k + 1) M2 un M ∧ Cs DS w0 wx g px vl made 0 ns rs Fg Fx g2 (.pointer (some pa2)) vl2 made2 0 T2 made2 M rs2 Fg2 F v5 (ps ++ [(x.num, un)])))
        case first =>
          go_region_held3 (fun w' => w'.cell? ⟨g2, 0, none⟩ = some (.pointer (some pa2)) ∧ w'.cell? ⟨g2, 3, none⟩ = some (.int .i64 0)) (first | exact HCC.out _ _ HL.out HXX.out.1 | exact HCC.out _ _ HL.out (Fr.refl _ _) | exact HCC.out _ _ H0.out (Fr.refl _ _))
            (first | (go_at_call 25; refine (kletter_any _ k 0 hk3 hzero).mono ?_; rintro e w3 ⟨rfl, hB3⟩; have HL : Hid (Below wr.drew.heap.size wr.drew w3) := hB3; clear hB3) | (go_at_call 46; refine (HP.out.cls _ (.pointer (some pa2)) T2 made2 M rs2 F un (letB (k + 0)) true (HLW.out _ HL.out).two.ds).mono ?_; rintro e w7 ⟨y, rfl, hy, hds, hf5⟩; have HXX : Hid (Fr w3 w7 F ∧ (y = 0 ∧ ∃ M F, MTo x.pl (k + 1) M2 un M ∧ Cs DS w0 w7 g px vl made 0 ns rs Fg Fx g2 (.pointer (some pa2)) vl2 made2 0 T2 made2 M rs2 Fg2 F v5 (ps ++ [(x.num, un)]))) := ⟨hf5, cop_class HP.out (HLW.out _ HL.out) HC.out.1 hlt HCB.out HPRE.out.unT hy hds hf5⟩; clear hy hds hf5))
          all_goals
            go_wp2_with fail
            go_meet
            exact ⟨y, rfl, HXX.out.2⟩
        case rest =>
          obtain ⟨y, rfl, HY⟩ := hcut
          have gy : (y != 0) = false := by simp [HY.out.1]
          have HY2 : Hid (∃ M F, MTo x.pl (k + 1) M2 un M ∧ Cs DS w0 wc g px vl made 0 ns rs Fg Fx g2 (.pointer (some pa2)) vl2 made2 0 T2 made2 M rs2 Fg2 F v5 (ps ++ [(x.num, un)])) := HY.out.2
          clear HY HC HCC HLW H0 HXB ck
          go_wp2
          go_roundg (4 - (k + 1))
          case measure => omega
          case rel => exact ⟨k + 1, by go_num, by omega, Nat.le_refl _, HY2⟩
      | false =>
        rw [hcb] at ck
        have HY2 : Hid (∃ M F, MTo x.pl (k + 1) M2 un M ∧ Cs DS w0 wr g px vl made 0 ns rs Fg Fx g2 (.pointer (some pa2)) vl2 made2 0 T2 made2 M rs2 Fg2 F v5 (ps ++ [(x.num, un)])) := ⟨M, F, HC.out.1.no hlt hcb, HC.out.2⟩
        clear HC HXB hcb
        go_wp2
        go_roundg (4 - (k + 1))
        case measure => omega
        case rel => exact ⟨k + 1, by go_num, by omega, Nat.le_refl _, HY2⟩
    · have hd : decide ((k : Int) < 4) = false := by simp; omega
      obtain rfl : k = 4 := by omega
      have HCC : Hid (∀ wx, Fr wr.drew wx F → wx.cell? ⟨g2, 0, none⟩ = some (.pointer (some pa2)) ∧ wx.cell? ⟨x.b, 3, none⟩ = some (.string x.name)) := fun wx hf => by
        have h3 := HC.out.2.two
        have e1 : wx.heap[g2]? = wr.heap[g2]? := hf.block g2 (h3.here g2 (Or.inl h3.inb)) (h3.gx g2 h3.inb)
        have e2 : wx.heap[x.b]? = wr.heap[x.b]? := hf.block x.b hxl (fun hx => HC.out.2.ap x.b (Or.inl (HC.out.2.one.inn x HX.out.1)) (Or.inr hx))
        have hh := HXB.out
        unfold GN.blk at hh
        exact ⟨cell_of_blk (e1.trans h3.blk) rfl, cell_of_blk (e2.trans hh) rfl⟩
      have H0 : Hid (Fr wr.drew wr.drew F) := Fr.refl _ _
      have HD0 : Hid (Cs DS w0 wr.drew g px vl made 0 ns rs Fg Fx g2 (.pointer (some pa2)) vl2 made2 0 T2 made2 M rs2 Fg2 F v5 (ps ++ [(x.num, un)])) := HC.out.2.below HP.out (Below.refl _ wr).drew
      go_upto_region 10 with fail
      go_cut [15] (fun v wx => ∃ y : Int, v = .int .i64 y ∧ Hid (y = 0 ∧ ∃ M F, (AgreeM (M un) (mkS 0 x.pl) ∧ ∀ j, j ≠ un → M j = M2 j) ∧ Cs DS w0 wx g px vl made 0 ns rs Fg Fx g2 (.pointer (some pa2)) vl2 made2 0 T2 made2 M rs2 Fg2 F v5 (ps ++ [(x.num, un)])))
      case first =>
        go_region_held3 (fun w' => w'.cell? ⟨g2, 0, none⟩ = some (.pointer (some pa2)) ∧ w'.cell? ⟨x.b, 3, none⟩ = some (.string x.name)) (first | exact HCC.out _ HXX.out.1 | exact HCC.out _ H0.out)
          (first | (go_at_call 21; refine (HP.out.nam _ (.pointer (some pa2)) T2 made2 M rs2 F un x.name HD0.out.two.ds).mono ?_; rintro e w7 ⟨y, rfl, hy, hds, hf5⟩; have HXX : Hid (Fr wr.drew w7 F ∧ (y = 0 ∧ ∃ M F, (AgreeM (M un) (mkS 0 x.pl) ∧ ∀ j, j ≠ un → M j = M2 j) ∧ Cs DS w0 w7 g px vl made 0 ns rs Fg Fx g2 (.pointer (some pa2)) vl2 made2 0 T2 made2 M rs2 Fg2 F v5 (ps ++ [(x.num, un)]))) := ⟨hf5, cop_name HP.out HD0.out HC.out.1 (HX.out.2.1 x.pl (List.mem_map.2 ⟨x, HX.out.1, rfl⟩)).2 HPRE.out.unT hy hds hf5⟩; clear hy hds hf5))
        all_goals
          go_wp2_with fail
          go_meet
          exact ⟨y, rfl, HXX.out.2⟩
      case rest =>
        obtain ⟨y, rfl, HY⟩ := hcut
        have gy : (y == 0) = true := by simp [HY.out.1]
        obtain ⟨av5, cv5, hv5⟩ : ∃ a c, v5 = .slice a (2 * (ps ++ [(x.num, un)]).length) c := by
          obtain ⟨_, M, F, _, hc⟩ := HY.out
          exact own_shape hc.row
        subst hv5
        have HL2 : Hid (∃ T3 M3 made3 new F, CInv (treeS (ns.map GN.pl)) (mOf 0 (ns.map GN.pl)) x.num un T2 M2 made2 ps 0 x.kids T3 M3 made3 new ∧ Cs DS w0 wc g px vl made 0 ns rs Fg Fx g2 (.pointer (some pa2)) vl2 made3 0 T3 made3 M3 rs2 Fg2 F (.slice av5 (2 * (ps ++ [(x.num, un)]).length) cv5) (ps ++ new)) := by
          obtain ⟨_, M, F, ⟨h1, h2⟩, hc⟩ := HY.out
          exact ⟨T2, M, made2, [(x.num, un)], F, cinv_start HPRE.out (by rw [HMS.out]; exact h1) h2, hc⟩
        clear HY HC HCC H0 HD0 HXB hxl
        go_wp2_with fail
        go_loopg [4, 16, 17, 18, 19, 20] x.kids.length (fun gk pv okv iv s1 s2 s3 wr => ∃ (i : Nat) (a : Option Addr) (n c : Nat), pv = .slice a n c ∧ iv = .int .i64 i ∧ okv = .bool true ∧ i ≤ x.kids.length ∧ x.kids.length - i ≤ gk ∧ Hid (∃ T3 M3 made3 new F, CInv (treeS (ns.map GN.pl)) (mOf 0 (ns.map GN.pl)) x.num un T2 M2 made2 ps i x.kids T3 M3 made3 new ∧ Cs DS w0 wr g px vl made 0 ns rs Fg Fx g2 (.pointer (some pa2)) vl2 made3 0 T3 made3 M3 rs2 Fg2 F (.slice a n c) (ps ++ new)))
        case atStart => exact ⟨0, _, _, _, rfl, rfl, rfl, Nat.zero_le _, by omega, HL2⟩
        case round =>
          obtain ⟨i, a, n, c, rfl, rfl, rfl, hi, hgk, HI⟩ := hrel
          obtain ⟨T3, M3, made3, new, F, hin, hc⟩ := HI.out
          have HC : Hid (CInv (treeS (ns.map GN.pl)) (mOf 0 (ns.map GN.pl)) x.num un T2 M2 made2 ps i x.kids T3 M3 made3 new ∧ Cs DS w0 wr g px vl made 0 ns rs Fg Fx g2 (.pointer (some pa2)) vl2 made3 0 T3 made3 M3 rs2 Fg2 F (.slice a n c) (ps ++ new)) := ⟨hin, hc⟩
          have hxb := hc.one.gr.nd x HX.out.1
          have hxl : x.b < wr.heap.size := (Array.getElem?_eq_some_iff.1 hxb).1
          have hkid := hc.one.gr.kid x HX.out.1
          obtain ⟨ak, ck, hks⟩ := own_shape hkid
          have hkl24 : x.kids.length ≤ 24 := by
            have h1 := HTW.out.1.len (mem_treeS (List.mem_map.2 ⟨x, HX.out.1, rfl⟩ : x.pl ∈ ns.map GN.pl))
            have h2 := HTW.out.2.2
            have h3 : x.kids.length < (treeS (ns.map GN.pl)).length := h1
            omega
          have q8 : wr.cell? ⟨x.b, 8, none⟩ = some (.slice ak x.kids.length ck) := by
            unfold GN.blk at hxb
            rw [← hks]
            exact cell_of_blk hxb rfl
          rw [hks] at hkid
          have HKI : Hid (wr.ownsRow 0 3 1 (.slice ak x.kids.length ck) x.kids.length (ints x.kids)) := hkid
          clear HI hin hc hxb hkid
          by_cases hlt : i < x.kids.length
          · have hd : decide ((i : Int) < (x.kids.length : Int)) = true := by simp; omega
            have hil : (i : Int) < (x.kids.length : Int) := by omega
            obtain ⟨gk2, hgk2, hgkl, hgkc⟩ := own_cells HKI.out (by omega)
            subst hgk2
            have k1 : wr.cell? ⟨gk2, i, none⟩ = some (.int .i64 (x.kids[i] : Nat)) := hgkc i _ (by simp [hlt])
            have HKX : Hid (x.kids[i]? = some x.kids[i]) := List.getElem?_eq_getElem hlt
            obtain ⟨ch, hch, hcn⟩ : ∃ ch ∈ ns, ch.num = x.kids[i] := by
              obtain ⟨l, hl2⟩ := HTW.out.1.kin _ (mem_treeS (List.mem_map.2 ⟨x, HX.out.1, rfl⟩ : x.pl ∈ ns.map GN.pl)) x.kids[i] (List.getElem_mem hlt)
              obtain ⟨z, hz, h1, _⟩ := of_treeS hl2
              obtain ⟨ch, hch, rfl⟩ := List.mem_map.1 hz
              exact ⟨ch, hch, h1⟩
            rw [← hcn] at k1 HKX
            have HCH : Hid (ch ∈ ns ∧ ch.num ∈ x.kids) := ⟨hch, by rw [hcn]; exact List.getElem_mem hlt⟩
            have HF2 : Hid ((findG ns ch.num).getD ns[0] = ch) := by unfold Hid; rw [findG_mem HTW.out.2.1.nums hch]; rfl
            have HLC : Hid ((ch.num, ch.kids) ∈ treeS (ns.map GN.pl)) := mem_treeS (List.mem_map.2 ⟨ch, hch, rfl⟩ : ch.pl ∈ ns.map GN.pl)
            have hroom := HC.out.1.room HTW.out.1 HPRE.out HKX.out
            have HRM : Hid (T3.length < 24 ∧ made3 ≤ 4611686018427387904) := by
              have h1 := HTW.out.2.2
              have h2 := HC.out.1.cnt
              exact ⟨by omega, by omega⟩
            obtain ⟨lb, hlb1, hlb2, _⟩ := HC.out.1.here
            have HLB : Hid ((un, lb) ∈ T3 ∧ lb.length = i) := ⟨hlb1, hlb2⟩
            clear hgkc hch hcn hroom hlb1 hlb2
            go_wp2_with fail
            refine (kfind_any wr g px vl made (0 : Nat) ns ch.num HC.out.2.one.gr hl h0).mono ?_
            rw [HF2.out]
            rintro e w6 ⟨rfl, rfl⟩
            obtain ⟨wr, rfl⟩ : ∃ wr, wr = w6 := ⟨_, rfl⟩
            have hcb := HC.out.2.one.gr.nd ch HCH.out.1
            have hcl : ch.b < wr.heap.size := (Array.getElem?_eq_some_iff.1 hcb).1
            have HCB : Hid (wr.heap[ch.b]? = some ch.blk) := hcb
            have HD0 : Hid (Cs DS w0 wr.drew g px vl made 0 ns rs Fg Fx g2 (.pointer (some pa2)) vl2 made3 0 T3 made3 M3 rs2 Fg2 F (.slice a n c) (ps ++ new)) := HC.out.2.below HP.out (Below.refl _ wr).drew
            have HCC : Hid (∀ wx, Fr wr.drew wx F → wx.cell? ⟨g2, 0, none⟩ = some (.pointer (some pa2)) ∧ wx.cell? ⟨ch.b, 2, none⟩ = some (.string ch.kind)) := fun wx hf => by
              have h3 := HC.out.2.two
              have e1 : wx.heap[g2]? = wr.heap[g2]? := hf.block g2 (h3.here g2 (Or.inl h3.inb)) (h3.gx g2 h3.inb)
              have e2 : wx.heap[ch.b]? = wr.heap[ch.b]? := hf.block ch.b hcl (fun hx => HC.out.2.ap ch.b (Or.inl (HC.out.2.one.inn ch HCH.out.1)) (Or.inr hx))
              have hh := HCB.out
              unfold GN.blk at hh
              exact ⟨cell_of_blk (e1.trans h3.blk) rfl, cell_of_blk (e2.trans hh) rfl⟩
            have H0 : Hid (Fr wr.drew wr.drew F) := Fr.refl _ _
            clear hcb HF2
            go_upto_region 16 with fail
            go_cut [19, 20] from 66 to 130 (fun v yv wx => ∃ (m y : Int), v = .int .i64 m ∧ yv = .int .i64 y ∧ Hid (y = 0 ∧ m = made3 ∧ ∃ F, Cs DS w0 wx g px vl made 0 ns rs Fg Fx g2 (.pointer (some pa2)) vl2 made3 0 (tIns T3 un i made3) (made3 + 1) (setM M3 made3 (newMk ch.kind)) rs2 Fg2 F (.slice a n c) (ps ++ new)))
            case first =>
              go_region_held3 (fun w' => w'.cell? ⟨g2, 0, none⟩ = some (.pointer (some pa2)) ∧ w'.cell? ⟨ch.b, 2, none⟩ = some (.string ch.kind)) (first | exact HCC.out _ HXX.out.1 | exact HCC.out _ H0.out)
                (first | (go_at_call 36; refine (HP.out.ins _ (.pointer (some pa2)) T3 made3 M3 rs2 F un i ch.kind HD0.out.two.ds HRM.out.2).mono ?_; rintro e w7 ⟨y, T4, made4, m, rfl, ht, hds, hf5⟩; have HXX : Hid (Fr wr.drew w7 F ∧ (y = 0 ∧ m = made3 ∧ ∃ F, Cs DS w0 w7 g px vl made 0 ns rs Fg Fx g2 (.pointer (some pa2)) vl2 made3 0 (tIns T3 un i made3) (made3 + 1) (setM M3 made3 (newMk ch.kind)) rs2 Fg2 F (.slice a n c) (ps ++ new))) := ⟨hf5, cop_ins HP.out HD0.out HLB.out.1 HLB.out.2 (HX.out.2.1 ch.pl (List.mem_map.2 ⟨ch, HCH.out.1, rfl⟩)).1 HRM.out.1 ht hds hf5⟩; clear ht hds hf5))
              all_goals
                go_wp2_with fail
                go_meet
                exact ⟨m, y, rfl, rfl, HXX.out.2⟩
            case rest =>
              obtain ⟨m, y, rfl, rfl, HY⟩ := hcut
              have gy : (y != 0) = false := by simp [HY.out.1]
              obtain ⟨_, hm3, F4, hc4⟩ := HY.out
              subst hm3
              have HC4 : Hid (Cs DS w0 wc g px vl made 0 ns rs Fg Fx g2 (.pointer (some pa2)) vl2 made3 0 (tIns T3 un i made3) (made3 + 1) (setM M3 made3 (newMk ch.kind)) rs2 Fg2 F4 (.slice a n c) (ps ++ new)) := hc4
              have t2 : wc.cell? ⟨g2, 2, none⟩ = some (.int .i64 (made3 : Nat)) := cell_of_blk hc4.two.blk rfl
              have t2f : wc.frozen? ⟨g2, 2, none⟩ = false := frozen_of_blk hc4.two.blk
              have hg2l : g2 < wc.heap.size := hc4.two.here g2 (Or.inl hc4.two.inb)
              have hmb : (made3 : Int) ≤ 4611686018427387904 := by have := HRM.out.2; omega
              have hcb := hc4.one.gr.nd ch HCH.out.1
              have hcl4 : ch.b < wc.heap.size := (Array.getElem?_eq_some_iff.1 hcb).1
              have HCT : Hid (Cs DS w0 (wc.setCell ⟨g2, 2, none⟩ (.int .i64 ((made3 : Int) + 1))) g px vl made 0 ns rs Fg Fx g2 (.pointer (some pa2)) vl2 (made3 + 1) 0 (tIns T3 un i made3) (made3 + 1) (setM M3 made3 (newMk ch.kind)) rs2 Fg2 F4 (.slice a n c) (ps ++ new)) := hc4.count HP.out (made3 + 1)
              have c0 : (wc.setCell ⟨g2, 2, none⟩ (.int .i64 ((made3 : Int) + 1))).cell? ⟨ch.b, 0, none⟩ = some (.int .i64 ch.num) := by
                have hh := HCT.out.one.gr.nd ch HCH.out.1
                unfold GN.blk at hh
                exact cell_of_blk hh rfl
              have HIH : Hid (∀ W, Cs DS w0 W g px vl made 0 ns rs Fg Fx g2 (.pointer (some pa2)) vl2 (made3 + 1) 0 (tIns T3 un i made3) (made3 + 1) (setM M3 made3 (newMk ch.kind)) rs2 Fg2 F4 (.slice a n c) (ps ++ new) → Calls Tryz.prog 29 #[.pointer (some ⟨g, 0, none⟩), .pointer (some ⟨g2, 0, none⟩), .int .i64 ch.num, .int .i64 (made3 : Nat), .slice a n c] W fun e w' => CopPost DS w0 g px vl made ns rs Fg Fx g2 pa2 vl2 rs2 Fg2 ch made3 (tIns T3 un i made3) (setM M3 made3 (newMk ch.kind)) (made3 + 1) (ps ++ new) e w') := fun W hW =>
                HX.out.2.2 ch HCH.out.1 HCH.out.2 W made3 _ _ _ _ _ F4 (HC.out.1.pre HTW.out.1 HPRE.out HKX.out HLC.out) (by unfold setM; rw [if_pos rfl]) hW
              clear hcb HY hc4 HC4 HCC H0 HD0 HCB hcl q8 k1 HKI hgkl hxl
              go_wp2_with fail
              generalize wc.setCell ⟨g2, 2, none⟩ (.int .i64 ((made3 : Int) + 1)) = W5 at HCT c0 ⊢
              go_wp2_with fail
              refine (HIH.out _ HCT.out).mono ?_
              rintro e w8 ⟨vp', T5, M5, made5, new5, F5, rfl, hin5, hc5⟩
              obtain ⟨a5, n5, c5, hv5⟩ : ∃ a n c, vp' = .slice a n c := by
                obtain ⟨a5, c5, hv5⟩ := own_shape hc5.row
                exact ⟨a5, _, c5, hv5⟩
              subst hv5
              have HE : Hid (∃ T3 M3 made3 new F, CInv (treeS (ns.map GN.pl)) (mOf 0 (ns.map GN.pl)) x.num un T2 M2 made2 ps (i + 1) x.kids T3 M3 made3 new ∧ Cs DS w0 w8 g px vl made 0 ns rs Fg Fx g2 (.pointer (some pa2)) vl2 made3 0 T3 made3 M3 rs2 Fg2 F (.slice a5 n5 c5) (ps ++ new)) :=
                ⟨T5, M5, made5, new ++ new5, F5, HC.out.1.step HTW.out.1 HPRE.out HKX.out HLC.out hin5, by rw [← List.append_assoc]; exact hc5⟩
              clear hin5 hc5 HIH HCT c0 t2 t2f HC
              go_wp2
              go_roundg (x.kids.length - (i + 1))
              case measure => omega
              case rel => exact ⟨i + 1, _, _, _, rfl, by go_num, rfl, by omega, Nat.le_refl _, HE⟩
          · have hd : decide ((i : Int) < (x.kids.length : Int)) = false := by simp; omega
            obtain rfl : i = x.kids.length := by omega
            have HE : Hid (CopPost DS w0 g px vl made ns rs Fg Fx g2 pa2 vl2 rs2 Fg2 x un T2 M2 made2 ps (.returned (.tuple #[.slice a n c, .bool true])) wr) := ⟨_, T3, M3, made3, new, F, rfl, HC.out.1, HC.out.2⟩
            clear HC HKI
            go_wp2
            go_ret2
            exact HE.out
end
end Go.Proofs.YtblfffbmklkhmaaGreat
