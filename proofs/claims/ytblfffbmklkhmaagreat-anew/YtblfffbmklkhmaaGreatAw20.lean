/- Own work. -/
import Derived.Test.YtblfffbmklkhmaaGreatAw19
import Derived.RegionTactic
import Derived.Deep.RegionLaw
namespace Go.Proofs.YtblfffbmklkhmaaGreat
open Go.RowKit
theorem Fr.drew1 {w w' : World} {S : Nat → Prop} (h : Fr w w' S) : Fr w w'.drew S := ⟨h.os, h.tape, h.output, h.size, h.block⟩
theorem setC_blk {w : World} {n : GN} {k : Nat} (hk : k < 4) (on : Bool) (h : w.heap[n.b]? = some n.blk) : (w.setCell ⟨n.b, 4 + k, none⟩ (.bool on)).heap[n.b]? = some (n.setC k on).blk := by
  unfold GN.blk at h
  have hk4 : k = 0 ∨ k = 1 ∨ k = 2 ∨ k = 3 := by omega
  rcases hk4 with rfl | rfl | rfl | rfl <;> (rw [heap_setCell_row h]; rfl)
theorem setC_ks (x : GN) (k : Nat) (on : Bool) : (x.setC k on).ks = x.ks ∧ (x.setC k on).kids = x.kids := by unfold GN.setC; (repeat' split) <;> exact ⟨rfl, rfl⟩
theorem GR.classed {w W2 : World} {g : Nat} {px vl : Value} {made b : Nat} {ns : List GN} (h : GR w g px vl made b ns) (hnn : (ns.map GN.num).Nodup) {n : GN} (hn : n ∈ ns) (k : Nat) (on : Bool) (hblk : W2.heap[n.b]? = some (n.setC k on).blk) (hoth : ∀ k, k < w.heap.size → k ≠ n.b → W2.heap[k]? = w.heap[k]?) : GR W2 g px vl made b (updG ns n.num fun x => x.setC k on) :=
  h.put hnn hn (f := fun x => x.setC k on) (fun x => setC_b x k on) hblk hoth (by
    rw [(setC_ks n k on).1, (setC_ks n k on).2]
    exact own_keep (h.kid n hn) (fun k hk hl => hoth k hl (fun e => by
      rw [e] at hk
      exact own_ne_type (h.kid n hn) (h.nd n hn) (by decide) hk)))
theorem class_ends {DS : World → Value → Tree → Nat → (Nat → Mk) → List PRu → (Nat → Prop) → Prop} (hP : DocOK DS) {w W2 w3 : World} {g : Nat} {px vl : Value} {made b : Nat} {ns : List GN} {rs : List PRu} {Fg Fx : Nat → Prop} (h : GD DS w g px vl made b ns rs Fg Fx) {n : GN} (hn : n ∈ ns) {k : Nat} (hk : k < 4) (on : Bool)
    (hgr : GR W2 g px vl made b (updG ns n.num fun x => x.setC k on)) (hfr : Fr w W2 Fg) {y : Int} (hy : y = clsErr (treeS (ns.map GN.pl)) n.num (letB (k + b))) (hds : DS w3 px (treeS (ns.map GN.pl)) made (if y = 0 then setM (mOf b (ns.map GN.pl)) ((n.num : Int)).toNat (clsMk (mOf b (ns.map GN.pl) ((n.num : Int)).toNat) (letB (k + b)) on) else mOf b (ns.map GN.pl)) rs (More Fx W2)) (hf3 : Fr W2 w3 Fx) :
    y = 0 ∧ GQ DS w (fun k => Fg k ∨ Fx k) w3 g px made b (updS (ns.map GN.pl) n.num fun x => x.setC k on) rs := by
  have hnm : n.pl ∈ ns.map GN.pl := List.mem_map.2 ⟨n, hn, rfl⟩
  have hy0 : y = 0 := by
    rw [hy]
    unfold clsErr
    have := treeS_find h.pw hnm
    rw [show (n.pl.num : Int) = (n.num : Int) from rfl] at this
    rw [this]
    show (if isLetter (letB (k + b)) = false then (4 : Int) else 0) = 0
    rw [if_neg (by rw [isLetter_letB]; simp)]
  refine ⟨hy0, ?_⟩
  rw [hy0, if_pos rfl] at hds
  have e1 : ((n.num : Int)).toNat = n.num := by omega
  rw [e1, show mOf b (ns.map GN.pl) n.num = mkS b n.pl from mOf_at h.pw.nums hnm] at hds
  exact gq_upd hP h hn (f := fun x => x.setC k on) (f' := fun x => x.setC k on) (fun x => setC_pl x k on) (fun x => ⟨setC_b x k on, (setC_ks x k on).1⟩) (fun x => setC_num x k on) hgr hfr (mkS_setC b n.pl hk on) hds hf3
section
set_option maxRecDepth 100000
set_option maxHeartbeats 1500000
variable {DS : World → Value → Tree → Nat → (Nat → Mk) → List PRu → (Nat → Prop) → Prop}
theorem kclass_any (hP : DocOK DS) (w : World) (g : Nat) (px vl : Value) (made b : Nat) (ns : List GN) (rs : List PRu) (Fg Fx : Nat → Prop) (h : GD DS w g px vl made b ns rs Fg Fx) (kd X Y Z : Int) (hkd : kd ≠ 6) (hX : Fit X) (hY : Fit Y) (hb : b ≤ 25) :
    Calls Tryz.prog 70 #[.pointer (some ⟨g, 0, none⟩), .agg #[.int .i64 kd, .int .i64 X, .int .i64 Y, .int .i64 Z]] w fun e w' => KStepPost DS w (fun k => Fg k ∨ Fx k) g px b (markS b (ns.map GN.pl) kd X Y) made rs e w' := by
  obtain ⟨pa, rfl⟩ := hP.ptr h.ds
  obtain ⟨a, c, hv⟩ := own_shape h.gr.row
  subst hv
  have HP : Hid (DocOK DS) := hP
  have hlen := h.len
  obtain ⟨h0, hl⟩ := hlen
  obtain ⟨n, hn, hpk, r, hr, hrl, hrc⟩ := pick_node h.gr h0 X
  subst hr
  have HMK : Hid (markS b (ns.map GN.pl) kd X Y = updS (ns.map GN.pl) n.num fun x => x.setC (pickZ Y 4) (kd == 4)) := by
    unfold Hid markS
    rw [if_neg hkd, hpk]
    rfl
  have g6 : (kd == 6) = false := by simp [hkd]
  have HD : Hid (GD DS w g (.pointer (some pa)) (.slice (some ⟨r, 0, none⟩) ns.length c) made b ns rs Fg Fx ∧ n ∈ ns) := ⟨h, hn⟩
  have HB0 : Hid (∀ k, Below w.heap.size w ((w.alloc (.cells #[.int .i64 kd, .int .i64 X, .int .i64 Y, .int .i64 Z] 78)).drewN k)) := fun k => below_draws ((Below.refl _ _).alloc (Nat.le_refl _) _) k
  have hgl := h.gr.lt
  have q1 := h.gr.c1
  have hpl : ((pickZ X ns.length : Nat) : Int) < (ns.length : Int) := by have := pickZ_lt X h0; omega
  have HPC : Hid (∀ k, Calls Tryz.prog 17 #[.int .i64 X, .int .i64 (ns.length : Int)] ((w.alloc (.cells #[.int .i64 kd, .int .i64 X, .int .i64 Y, .int .i64 Z] 78)).drewN k) fun e w' => e = .returned (.int .i64 ((pickZ X ns.length : Nat) : Int)) ∧ w' = (w.alloc (.cells #[.int .i64 kd, .int .i64 X, .int .i64 Y, .int .i64 Z] 78)).drewN k) := fun k => kpick_any _ X ns.length hX h0 (by omega)
  clear h hn hpk hP hkd
  generalize pickZ X ns.length = xi at hrc hpl HPC
  go_enter Tryz.func70, Tryz.ntmps70
  go_upto_region 1 with fail
  go_quiet ((go_at_call 17; exact Calls.quiet_of_same (HPC.out _)))
  go_wp2_with fail
  refine (kpick_any _ Y 4 hY (by decide) (by decide)).mono ?_
  rintro e w1 ⟨rfl, rfl⟩
  have HB1 := HB0.out nq
  have HSB : Hid (((w.alloc (.cells #[.int .i64 kd, .int .i64 X, .int .i64 Y, .int .i64 Z] 78)).drewN nq).heap[w.heap.size]? = some (.cells #[.int .i64 kd, .int .i64 X, .int .i64 Y, .int .i64 Z] 78)) := heap_alloc_new w _
  generalize (w.alloc (.cells #[.int .i64 kd, .int .i64 X, .int .i64 Y, .int .i64 Z] 78)).drewN nq = W1 at HB1 HSB ⊢
  have HGR1 := HD.out.1.gr.below HB1
  have hgl1 := HGR1.lt
  have HN1 : Hid (W1.heap[n.b]? = some n.blk) := HGR1.nd n HD.out.2
  have hnb1 : n.b < W1.heap.size := (Array.getElem?_eq_some_iff.1 HN1.out).1
  have hnbw : n.b < w.heap.size := (Array.getElem?_eq_some_iff.1 (HD.out.1.gr.nd n HD.out.2)).1
  have hgn : g ≠ n.b := HGR1.ne_node HD.out.2
  have HB1h : Hid (Below w.heap.size w W1) := HB1
  have s0 : W1.cell? ⟨w.heap.size, 0, none⟩ = some (.int .i64 kd) := cell_of_blk HSB.out rfl
  have hszl : w.heap.size < W1.heap.size := (Array.getElem?_eq_some_iff.1 HSB.out).1
  have hk4 : pickZ Y 4 < 4 := pickZ_lt Y (by decide)
  clear q1 hrc HGR1 HB1 HB0 HPC
  generalize pickZ Y 4 = k at hk4 HMK ⊢
  have hkl : (k : Int) < 4 := by omega
  have HCK : Hid (∃ u, W1.cell? ⟨n.b, 4 + k, none⟩ = some (.bool u)) := by
    have hh := HN1.out
    unfold GN.blk at hh
    have h4 : k = 0 ∨ k = 1 ∨ k = 2 ∨ k = 3 := by omega
    rcases h4 with rfl | rfl | rfl | rfl
    · exact ⟨n.c0, cell_of_blk hh rfl⟩
    · exact ⟨n.c1, cell_of_blk hh rfl⟩
    · exact ⟨n.c2, cell_of_blk hh rfl⟩
    · exact ⟨n.c3, cell_of_blk hh rfl⟩
  obtain ⟨old, ck⟩ := HCK.out
  have ckf : W1.frozen? ⟨n.b, 4 + k, none⟩ = false := frozen_of_blk HN1.out
  obtain ⟨on, hon⟩ : ∃ on, (kd == 4) = on := ⟨_, rfl⟩
  have HON : Hid ((kd == 4) = on) := hon
  rw [hon] at HMK
  have HW2 : Hid ((W1.setCell ⟨n.b, 4 + k, none⟩ (.bool on)).heap[n.b]? = some (n.setC k on).blk ∧ (∀ j, j < w.heap.size → j ≠ n.b → (W1.setCell ⟨n.b, 4 + k, none⟩ (.bool on)).heap[j]? = w.heap[j]?) ∧ Fr w (W1.setCell ⟨n.b, 4 + k, none⟩ (.bool on)) Fg ∧ (W1.setCell ⟨n.b, 4 + k, none⟩ (.bool on)).cell? ⟨w.heap.size, 0, none⟩ = some (.int .i64 kd)) := by
    refine ⟨setC_blk hk4 on HN1.out, fun j hj hne => (Below.heap_setCell W1 ⟨n.b, 4 + k, none⟩ _ j hne).trans (HB1h.out.block j hj), ((Fr.refl w Fg).below HB1h.out).set (p := ⟨n.b, 4 + k, none⟩) (Or.inl (HD.out.1.inn n HD.out.2)) _, ?_⟩
    have : (W1.setCell ⟨n.b, 4 + k, none⟩ (.bool on)).heap[w.heap.size]? = W1.heap[w.heap.size]? := Below.heap_setCell W1 ⟨n.b, 4 + k, none⟩ _ _ (by show w.heap.size ≠ n.b; omega)
    exact cell_of_blk (this.trans HSB.out) rfl
  clear HCK
  go_upto_region 10 with fail
  go_cut [8] (fun v wx => v = .int .i64 k ∧ Hid (wx.heap[n.b]? = some (n.setC k on).blk ∧ (∀ j, j < w.heap.size → j ≠ n.b → wx.heap[j]? = w.heap[j]?) ∧ Fr w wx Fg ∧ wx.cell? ⟨w.heap.size, 0, none⟩ = some (.int .i64 kd)))
  case first =>
    go_region
    all_goals go_wp2_with fail
    all_goals go_meet
    all_goals exact ⟨rfl, HW2.out.1, HW2.out.2.1, HW2.out.2.2.1.drew1, HW2.out.2.2.2⟩
  case rest =>
    obtain ⟨rfl, HW⟩ := hcut
    obtain ⟨W2, rfl⟩ : ∃ W2, W2 = wc := ⟨_, rfl⟩
    have HGR2 : Hid (GR W2 g (.pointer (some pa)) (.slice (some ⟨r, 0, none⟩) ns.length c) made b (updG ns n.num fun x => x.setC k on)) := HD.out.1.gr.classed HD.out.1.gt.nums HD.out.2 k on HW.out.1 HW.out.2.1
    have HLW : Hid (∀ w3, Below W2.drew.heap.size W2.drew w3 → GR w3 g (.pointer (some pa)) (.slice (some ⟨r, 0, none⟩) ns.length c) made b (updG ns n.num fun x => x.setC k on) ∧ DS w3 (.pointer (some pa)) (treeS (ns.map GN.pl)) made (mOf b (ns.map GN.pl)) rs Fx ∧ Fr w w3 Fg) := fun w3 hb3 =>
      ⟨(HGR2.out.below (Below.refl _ _).drew).below hb3, HP.out.keep HD.out.1.ds (fun j hj hl => (hb3.block j (Nat.lt_of_lt_of_le hl HW.out.2.2.1.size)).trans (HW.out.2.1 j hl (fun e => HD.out.1.gx j (by rw [e]; exact HD.out.1.inn n HD.out.2) hj))) (Nat.le_trans HW.out.2.2.1.size hb3.size), HW.out.2.2.1.drew1.below hb3⟩
    have HC : Hid (∀ w3 wx, Below W2.drew.heap.size W2.drew w3 → Fr w3 wx Fx → wx.cell? ⟨g, 0, none⟩ = some (.pointer (some pa)) ∧ wx.cell? ⟨g, 3, none⟩ = some (.int .i64 b) ∧ wx.cell? ⟨n.b, 0, none⟩ = some (.int .i64 n.num) ∧ wx.cell? ⟨w.heap.size, 0, none⟩ = some (.int .i64 kd)) := fun w3 wx hb3 hf => by
      have hgr := (HLW.out w3 hb3).1
      have e1 : wx.heap[g]? = w3.heap[g]? := hf.block g hgr.lt (HD.out.1.gx g HD.out.1.inb)
      have hnb3 : n.b < W2.heap.size := (Array.getElem?_eq_some_iff.1 HW.out.1).1
      have e2 : wx.heap[n.b]? = W2.heap[n.b]? := (hf.block n.b (Nat.lt_of_lt_of_le hnb3 hb3.size) (HD.out.1.gx n.b (HD.out.1.inn n HD.out.2))).trans (hb3.block n.b hnb3)
      have hs3 : w.heap.size < W2.heap.size := World.block_lt_of_cell? W2 _ HW.out.2.2.2
      have e3 : wx.heap[w.heap.size]? = W2.heap[w.heap.size]? := (hf.block w.heap.size (Nat.lt_of_lt_of_le hs3 hb3.size) (fun hx => by have := HD.out.1.here w.heap.size (Or.inr hx); omega)).trans (hb3.block w.heap.size hs3)
      refine ⟨cell_of_blk (e1.trans hgr.blk) rfl, cell_of_blk (e1.trans hgr.blk) rfl, ?_, ?_⟩
      · have hh := HW.out.1
        have hnum : (n.setC k on).num = n.num := by unfold GN.setC; (repeat' split) <;> rfl
        unfold GN.blk at hh
        rw [← hnum]
        exact cell_of_blk (e2.trans hh) rfl
      · have := HW.out.2.2.2
        unfold World.cell? at this ⊢
        rw [e3]
        exact this
    have H0 : Hid (Below W2.drew.heap.size W2.drew W2.drew) := Below.refl _ _
    have hk3 : k ≤ 3 := by omega
    clear s0 ck ckf HW2 HSB HN1
    go_upto_region 11 with fail
    go_cut [9] (fun v wx => ∃ y : Int, v = .int .i64 y ∧ Hid (y = 0 ∧ GQ DS w (fun k => Fg k ∨ Fx k) wx g (.pointer (some pa)) made b (updS (ns.map GN.pl) n.num fun x => x.setC k on) rs))
    case first =>
      go_region_held3 (fun w' => w'.cell? ⟨g, 0, none⟩ = some (.pointer (some pa)) ∧ w'.cell? ⟨g, 3, none⟩ = some (.int .i64 b) ∧ w'.cell? ⟨n.b, 0, none⟩ = some (.int .i64 n.num) ∧ w'.cell? ⟨w.heap.size, 0, none⟩ = some (.int .i64 kd)) (first | exact HC.out _ _ HL.out HX.out.1 | exact HC.out _ _ HL.out (Fr.refl _ _) | exact HC.out _ _ H0.out (Fr.refl _ _))
        (first | (go_at_call 25; refine (kletter_any _ k b hk3 hb).mono ?_; rintro e w3 ⟨rfl, hB3⟩; have HL : Hid (Below W2.drew.heap.size W2.drew w3) := hB3; clear hB3) | (go_at_call 46; refine (HP.out.cls _ (.pointer (some pa)) (treeS (ns.map GN.pl)) made (mOf b (ns.map GN.pl)) rs Fx n.num (letB (k + b)) on (HLW.out _ HL.out).2.1).mono ?_; rintro e w5 ⟨y, rfl, hy, hds, hf5⟩; have HX : Hid (Fr w3 w5 Fx ∧ (y = 0 ∧ GQ DS w (fun k => Fg k ∨ Fx k) w5 g (.pointer (some pa)) made b (updS (ns.map GN.pl) n.num fun x => x.setC k on) rs)) := ⟨hf5, class_ends HP.out HD.out.1 HD.out.2 hk4 on (HLW.out _ HL.out).1 (HLW.out _ HL.out).2.2 hy hds hf5⟩; clear hy hds hf5))
      all_goals
        go_wp2_with fail
        go_meet
        exact ⟨y, rfl, HX.out.2⟩
    case rest =>
      obtain ⟨y, rfl, HY⟩ := hcut
      have HR : Hid (KStepPost DS w (fun k => Fg k ∨ Fx k) g (.pointer (some pa)) b (markS b (ns.map GN.pl) kd X Y) made rs (.returned (.bool true)) wc) := ⟨rfl, by rw [HMK.out]; exact HY.out.2⟩
      have gy : (y == 0) = true := by simp [HY.out.1]
      clear HY
      go_wp2
      go_ret
      exact HR.out
end
end Go.Proofs.YtblfffbmklkhmaaGreat

namespace Go.Proofs.YtblfffbmklkhmaaGreat
open Go.RowKit
theorem step_append_kept {P : Program} {ops : Array Oper} {o : Oper} {a : Act} {w : World} {K : Act → World → Prop} {Q : Exit → Act → World → Prop} {E : Prop}
    (hg : o.guard = none) (s x : Operand) (t : TypeId) (hop : o.op = Op.call { callee := Callee.builtin Builtin.append, args := #[s, x], argTypes := #[t, t] })
    (base : Nat) (e : TypeId) (i : TypeInfo) (z : Value) (size bytes : Nat) (h1 : P.underlying t = some (.slice e)) (h2 : P.info? e = some i) (h3 : i.zero = some z) (h4 : i.size = size) (h5 : i.bytes = bytes) (h6 : z.cells.size = size) (h7 : 0 < size)
    (v : Value) (n : Nat) (xs : List Value) (hs : a.eval s = v) (hown : w.ownsRow base e size v n xs)
    (ad : Addr) (m c : Nat) (news : List Value) (hx : a.eval x = .slice (some ad) m c) (hn : news.length = m * size) (hc : ∀ j u, news[j]? = some u → w.cell? (ad.add j) = some u) (h1c : ∀ u ∈ news, u.oneCell' = true)
    (b1 : n + m ≤ maxLen) (b2 : (n + m) * bytes ≤ 140737488355328) (hb : base ≤ w.heap.size)
    (hK : ∀ v' w', w'.ownsRow base e size v' (n + m) (xs ++ news) → w.grownBy w' v.ownBlock → Hid (∀ j, v'.ownBlock = some j → v.ownBlock = some j ∨ w.heap.size ≤ j) → K (a.put o.dst v') w') :
    if Region.wanted o (yielded ops a.tmps) = true then Oper.wp P o a w K Q else E := by
  have hw : Region.wanted o (yielded ops a.tmps) = true := by simp [Region.wanted, hg]
  rw [if_pos hw]
  obtain ⟨v', w', hrun, r1, r2, r3⟩ := run_append_kept (P := P) w base t o.type e i z size bytes h1 h2 h3 h4 h5 h6 h7 v n xs hown ad m c news hn hc h1c b1 b2 hb
  unfold Oper.wp
  simp only [execOp, hop, resolve, invoke, builtin, Sem.run_bind, Sem.run_pure, Result.andThen_ok, List.map_toArray, List.map_cons, List.map_nil, hs, hx, hrun]
  exact hK v' w' r1 r2 r3
theorem Tryz.info43 : (Tryz.prog.info? 43).map (fun i => (i.zero, i.size, i.bytes)) = some (some (.pointer none), 1, 8) := by kernel_rfl
section
variable {w w' : World} {g : Nat} {px vl : Value} {made b : Nat} {ns : List GN}
theorem GR.count (h : GR w g px vl made b ns) : GR (w.setCell ⟨g, 2, none⟩ (.int .i64 ((made : Int) + 1))) g px vl (made + 1) b ns := by
  refine ⟨by rw [heap_setCell_row h.blk]; rfl, own_keep h.row (fun k hk _ => Below.heap_setCell w ⟨g, 2, none⟩ _ k (fun e => ?_)), fun n hn => (Below.heap_setCell w ⟨g, 2, none⟩ _ n.b (fun e => h.ne_node hn e.symm)).trans (h.nd n hn), fun n hn => own_keep (h.kid n hn) (fun k hk _ => Below.heap_setCell w ⟨g, 2, none⟩ _ k (fun e => ?_))⟩
  · replace e : k = g := e
    rw [e] at hk
    exact own_ne_type h.row h.blk (by decide) hk
  · replace e : k = g := e
    rw [e] at hk
    exact own_ne_type (h.kid n hn) h.blk (by decide) hk
/-- One node more. -/
theorem GR.more (h : GR w g px vl made b ns) {x : GN} {v' : Value} (hnew : w.heap.size ≤ x.b) (hblk : w'.heap[x.b]? = some x.blk) (hks : x.ks = .slice none 0 0) (hkd : x.kids = []) (hrow : w'.ownsRow 0 43 1 v' (ns.length + 1) (ns.map GN.ptr ++ [x.ptr])) (hoth : ∀ k, k < w.heap.size → vl.ownBlock ≠ some k → w'.heap[k]? = w.heap[k]?) : GR (w'.setCell ⟨g, 1, none⟩ v') g px v' made b (ns ++ [x]) := by
  have hvg : ∀ {e : TypeId} {k : Nat} {cs : Array Value} {z : Nat × Nat}, w.heap[k]? = some (.cells cs e z) → e ≠ 43 → vl.ownBlock ≠ some k := fun hk he => own_ne_type h.row hk he
  have hg' : w'.heap[g]? = some (.cells #[px, vl, .int .i64 made, .int .i64 b] 36 (0, 0)) := (hoth g h.lt (hvg h.blk (by decide))).trans h.blk
  have nd' : ∀ n ∈ ns, w'.heap[n.b]? = some n.blk := fun n hn => (hoth n.b (Array.getElem?_eq_some_iff.1 (h.nd n hn)).1 (hvg (h.nd n hn) (by decide))).trans (h.nd n hn)
  have kid' : ∀ n ∈ ns, w'.ownsRow 0 3 1 n.ks n.kids.length (ints n.kids) := fun n hn => own_keep (h.kid n hn) (fun k hk hl => hoth k hl (fun e => by
    rcases h.row.2 with ⟨hv, _⟩ | ⟨r, _, _, hv, _, hrb, _⟩
    · rw [hv] at e; simp [Value.ownBlock] at e
    · rw [hv] at e
      simp [Value.ownBlock] at e
      subst e
      exact own_ne_type (h.kid n hn) hrb (by decide) hk))
  have hgl := h.lt
  refine ⟨by rw [heap_setCell_row hg']; rfl, ?_, fun n hn => ?_, fun n hn => ?_⟩
  · rw [List.map_append, List.length_append]
    exact own_keep hrow (fun k hk _ => Below.heap_setCell w' ⟨g, 1, none⟩ _ k (fun e => by
      replace e : k = g := e
      rw [e] at hk
      exact own_ne_type hrow hg' (by decide) hk))
  · rw [List.mem_append, List.mem_singleton] at hn
    rcases hn with hn | rfl
    · exact (Below.heap_setCell w' ⟨g, 1, none⟩ _ n.b (fun e => h.ne_node hn e.symm)).trans (nd' n hn)
    · exact (Below.heap_setCell w' ⟨g, 1, none⟩ _ n.b (fun e => by replace e : n.b = g := e; omega)).trans hblk
  · rw [List.mem_append, List.mem_singleton] at hn
    rcases hn with hn | rfl
    · exact own_keep (kid' n hn) (fun k hk _ => Below.heap_setCell w' ⟨g, 1, none⟩ _ k (fun e => by
        replace e : k = g := e
        rw [e] at hk
        exact own_ne_type (kid' n hn) hg' (by decide) hk))
    · rw [hks, hkd]
      exact World.ownsRow_nil _ _ _ _
end
end Go.Proofs.YtblfffbmklkhmaaGreat
