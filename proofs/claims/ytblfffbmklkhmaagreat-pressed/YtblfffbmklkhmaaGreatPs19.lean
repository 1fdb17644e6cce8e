/- Own work. -/
import Derived.Test.YtblfffbmklkhmaaGreatPs18
import Derived.Deep.RegionHeld3
import Derived.Deep.QuietTactic
import Derived.RegionTactic
namespace Go.Proofs.YtblfffbmklkhmaaGreat
open Go.RowKit
def dftN : PNd := ⟨0, -1, ⟨#[]⟩, ⟨#[]⟩, false, false, false, false, []⟩
/-- The node that a raw number speaks of. -/
def pickS (S : List PNd) (X : Int) : PNd := S.getD (pickZ X S.length) dftN
def nameOf (b : Nat) (Y : Int) : ByteArray := if pickZ Y 5 < 4 then letB (pickZ Y 5 + b) else ⟨#[]⟩
def markS (b : Nat) (S : List PNd) (kd X Y : Int) : List PNd := if kd = 6 then updS S (pickS S X).num (fun x => { x with name := nameOf b Y }) else updS S (pickS S X).num (fun x => x.setC (pickZ Y 4) (kd == 4))
theorem pick_node {w : World} {g : Nat} {px : Value} {a : Option Addr} {c made b : Nat} {ns : List GN} (h : GR w g px (.slice a ns.length c) made b ns) (h0 : 0 < ns.length) (X : Int) : ∃ n ∈ ns, pickS (ns.map GN.pl) X = n.pl ∧ ∃ r, a = some ⟨r, 0, none⟩ ∧ r < w.heap.size ∧ w.cell? ⟨r, pickZ X ns.length, none⟩ = some n.ptr := by
  have hlt := pickZ_lt X h0
  obtain ⟨r, hr, hrl, hc, _, _⟩ := h.at' hlt
  refine ⟨ns[pickZ X ns.length], List.getElem_mem hlt, ?_, r, hr, hrl, hc⟩
  unfold pickS
  rw [List.length_map, List.getD_eq_getElem?_getD, List.getElem?_map, List.getElem?_eq_getElem hlt]
  rfl
def KStepPost (DS : World → Value → Tree → Nat → (Nat → Mk) → List PRu → (Nat → Prop) → Prop) (w : World) (G : Nat → Prop) (g : Nat) (px : Value) (b : Nat) (S' : List PNd) (made' : Nat) (rs : List PRu) (e : Ending) (w' : World) : Prop :=
  e = .returned (.bool true) ∧ GQ DS w G w' g px made' b S' rs
/-- A node's cells, and that none is frozen. -/
theorem node_cells {w : World} {n : GN} (h : w.heap[n.b]? = some n.blk) : w.cell? ⟨n.b, 0, none⟩ = some (.int .i64 n.num) ∧ w.cell? ⟨n.b, 1, none⟩ = some (.int .i64 n.par) ∧ w.cell? ⟨n.b, 3, none⟩ = some (.string n.name) ∧ w.cell? ⟨n.b, 8, none⟩ = some n.ks ∧ (∀ k, w.frozen? ⟨n.b, k, none⟩ = false) ∧ n.b < w.heap.size :=
  ⟨cell_of_blk h rfl, cell_of_blk h rfl, cell_of_blk h rfl, cell_of_blk h rfl, fun _ => frozen_of_blk h, (Array.getElem?_eq_some_iff.1 h).1⟩
theorem GR.ne_node {w : World} {g : Nat} {px vl : Value} {made b : Nat} {ns : List GN} (h : GR w g px vl made b ns) {n : GN} (hn : n ∈ ns) : g ≠ n.b := fun e => by
  have h1 := h.blk
  rw [e, h.nd n hn] at h1
  injection h1 with h1
  injection h1 with _ h2 _
  exact absurd h2 (by decide)
theorem GR.named {w W2 : World} {g : Nat} {px vl : Value} {made b : Nat} {ns : List GN} (h : GR w g px vl made b ns) (hnn : (ns.map GN.num).Nodup) {n : GN} (hn : n ∈ ns) (s : ByteArray) (hblk : W2.heap[n.b]? = some ({ n with name := s } : GN).blk) (hoth : ∀ k, k < w.heap.size → k ≠ n.b → W2.heap[k]? = w.heap[k]?) : GR W2 g px vl made b (updG ns n.num fun x => { x with name := s }) :=
  h.put hnn hn (f := fun x => { x with name := s }) (fun _ => rfl) hblk hoth (own_keep (h.kid n hn) (fun k hk hl => hoth k hl (fun e => by
    rw [e] at hk
    exact own_ne_type (h.kid n hn) (h.nd n hn) (by decide) hk)))
theorem name_ends {DS : World → Value → Tree → Nat → (Nat → Mk) → List PRu → (Nat → Prop) → Prop} (hP : DocOK DS) {w W2 w3 : World} {g : Nat} {px vl : Value} {made b : Nat} {ns : List GN} {rs : List PRu} {Fg Fx : Nat → Prop} (h : GD DS w g px vl made b ns rs Fg Fx) {n : GN} (hn : n ∈ ns) (s : ByteArray) (hs : s.size = 0 ∨ isLetter s = true)
    (hgr : GR W2 g px vl made b (updG ns n.num fun x => { x with name := s })) (hfr : Fr w W2 Fg) {y : Int} (hy : y = namErr (treeS (ns.map GN.pl)) n.num s) (hds : DS w3 px (treeS (ns.map GN.pl)) made (if y = 0 then setM (mOf b (ns.map GN.pl)) ((n.num : Int)).toNat (namMk (mOf b (ns.map GN.pl) ((n.num : Int)).toNat) s) else mOf b (ns.map GN.pl)) rs (More Fx W2)) (hf3 : Fr W2 w3 Fx) :
    y = 0 ∧ GQ DS w (fun k => Fg k ∨ Fx k) w3 g px made b (updS (ns.map GN.pl) n.num fun x => { x with name := s }) rs := by
  have hnm : n.pl ∈ ns.map GN.pl := List.mem_map.2 ⟨n, hn, rfl⟩
  have hy0 : y = 0 := by
    rw [hy]
    unfold namErr
    have := treeS_find h.pw hnm
    rw [show (n.pl.num : Int) = (n.num : Int) from rfl] at this
    rw [this]
    show (if s.size ≠ 0 ∧ isLetter s = false then (4 : Int) else 0) = 0
    rw [if_neg]
    rintro ⟨h1, h2⟩
    rcases hs with hs | hs
    · exact h1 hs
    · rw [hs] at h2; cases h2
  refine ⟨hy0, ?_⟩
  rw [hy0, if_pos rfl] at hds
  have e1 : ((n.num : Int)).toNat = n.num := by omega
  rw [e1, show mOf b (ns.map GN.pl) n.num = mkS b n.pl from mOf_at h.pw.nums hnm] at hds
  exact gq_upd hP h hn (f := fun x => { x with name := s }) (f' := fun x => { x with name := s }) (fun _ => rfl) (fun _ => ⟨rfl, rfl⟩) (fun _ => ⟨rfl, rfl, rfl⟩) hgr hfr rfl hds hf3
section
set_option maxRecDepth 100000
set_option maxHeartbeats 1500000
variable {DS : World → Value → Tree → Nat → (Nat → Mk) → List PRu → (Nat → Prop) → Prop}
theorem kname_any (hP : DocOK DS) (w : World) (g : Nat) (px vl : Value) (made b : Nat) (ns : List GN) (rs : List PRu) (Fg Fx : Nat → Prop) (h : GD DS w g px vl made b ns rs Fg Fx) (X Y Z : Int) (hX : Fit X) (hY : Fit Y) (hb : b ≤ 25) :
    Calls Tryz.prog 70 #[.pointer (some ⟨g, 0, none⟩), .agg #[.int .i64 6, .int .i64 X, .int .i64 Y, .int .i64 Z]] w fun e w' => KStepPost DS w (fun k => Fg k ∨ Fx k) g px b (markS b (ns.map GN.pl) 6 X Y) made rs e w' := by
  obtain ⟨pa, rfl⟩ := hP.ptr h.ds
  obtain ⟨a, c, hv⟩ := own_shape h.gr.row
  subst hv
  have HP : Hid (DocOK DS) := hP
  have hlen := h.len
  obtain ⟨h0, hl⟩ := hlen
  obtain ⟨n, hn, hpk, r, hr, hrl, hrc⟩ := pick_node h.gr h0 X
  subst hr
  have HPK : Hid (pickS (ns.map GN.pl) X = n.pl) := hpk
  have HD : Hid (GD DS w g (.pointer (some pa)) (.slice (some ⟨r, 0, none⟩) ns.length c) made b ns rs Fg Fx ∧ n ∈ ns) := ⟨h, hn⟩
  have HB0 : Hid (∀ k, Below w.heap.size w ((w.alloc (.cells #[.int .i64 6, .int .i64 X, .int .i64 Y, .int .i64 Z] 78)).drewN k)) := fun k => below_draws ((Below.refl _ _).alloc (Nat.le_refl _) _) k
  have hgl := h.gr.lt
  have q1 := h.gr.c1
  have q3 := h.gr.c3
  obtain ⟨n0, _, n3, _, nf, hnb⟩ := node_cells (h.gr.nd n hn)
  have nf3 := nf 3
  have hpl : ((pickZ X ns.length : Nat) : Int) < (ns.length : Int) := by have := pickZ_lt X h0; omega
  have HPC : Hid (∀ k, Calls Tryz.prog 17 #[.int .i64 X, .int .i64 (ns.length : Int)] ((w.alloc (.cells #[.int .i64 6, .int .i64 X, .int .i64 Y, .int .i64 Z] 78)).drewN k) fun e w' => e = .returned (.int .i64 ((pickZ X ns.length : Nat) : Int)) ∧ w' = (w.alloc (.cells #[.int .i64 6, .int .i64 X, .int .i64 Y, .int .i64 Z] 78)).drewN k) := fun k => kpick_any _ X ns.length hX h0 (by omega)
  clear h hn hpk hP nf
  generalize pickZ X ns.length = xi at hrc hpl HPC
  go_enter Tryz.func70, Tryz.ntmps70
  go_upto_region 1 with fail
  go_quiet ((go_at_call 17; exact Calls.quiet_of_same (HPC.out _)))
  go_wp2_with fail
  refine (kpick_any _ Y 5 hY (by decide) (by decide)).mono ?_
  rintro e w1 ⟨rfl, rfl⟩
  have HB1 := HB0.out nq
  generalize (w.alloc (.cells #[.int .i64 6, .int .i64 X, .int .i64 Y, .int .i64 Z] 78)).drewN nq = W1 at HB1 ⊢
  have HGR1 := HD.out.1.gr.below HB1
  have hgl1 := HGR1.lt
  have u3 := HGR1.c3
  obtain ⟨_, _, m3, _, mf, hnb1⟩ := node_cells (HGR1.nd n HD.out.2)
  have mf3 := mf 3
  have hgn : g ≠ n.b := HGR1.ne_node HD.out.2
  have hgn' : n.b ≠ g := fun e => hgn e.symm
  have HB1h : Hid (Below w.heap.size w W1) := HB1
  clear q1 q3 n0 n3 nf3 hrc HGR1 mf HB1 HB0 HPC
  have hk5 : pickZ Y 5 < 5 := pickZ_lt Y (by decide)
  have hfrz : ∀ u v, (W1.setCell ⟨n.b, 3, none⟩ u).cell? ⟨n.b, 3, none⟩ = some v → True := fun _ _ _ => trivial
  clear hfrz
  have HA : Hid (∀ u, (W1.setCell ⟨n.b, 3, none⟩ (.string u)).heap[n.b]? = some ({ n with name := u } : GN).blk) := fun u => by
    have hb0 := (HD.out.1.gr.below HB1h.out).nd n HD.out.2
    unfold GN.blk at hb0 ⊢
    rw [heap_setCell_row hb0]; rfl
  have HAO : Hid (∀ u k, k < w.heap.size → k ≠ n.b → (W1.setCell ⟨n.b, 3, none⟩ u).heap[k]? = w.heap[k]?) := fun u k hk hne => (Below.heap_setCell W1 ⟨n.b, 3, none⟩ u k hne).trans (HB1h.out.block k hk)
  by_cases hk4 : pickZ Y 5 < 4
  · have d4 : decide (((pickZ Y 5 : Nat) : Int) < 4) = true := by simp; omega
    have HNM : Hid (nameOf b Y = letB (pickZ Y 5 + b)) := by unfold Hid nameOf; rw [if_pos hk4]
    have hk3 : pickZ Y 5 ≤ 3 := by omega
    generalize pickZ Y 5 = k at d4 HNM hk3 ⊢
    clear hk4 hk5
    go_wp2_with fail
    refine (kletter_any _ k b hk3 hb).mono ?_
    rintro e w2 ⟨rfl, hB2⟩
    have hz2 : W1.heap.size ≤ w2.heap.size := by have := hB2.size; simpa using this
    have hbk2 : w2.heap[n.b]? = some ({ n with name := ⟨#[]⟩ } : GN).blk := (hB2.block n.b (by simpa using hnb1)).trans (HA.out _)
    have v3 : w2.cell? ⟨n.b, 3, none⟩ = some (.string ⟨#[]⟩) := cell_of_blk hbk2 rfl
    have vf : w2.frozen? ⟨n.b, 3, none⟩ = false := frozen_of_blk hbk2
    have hnb2 : n.b < w2.heap.size := by omega
    obtain ⟨s, hs⟩ : ∃ s, letB (k + b) = s := ⟨_, rfl⟩
    rw [hs] at HNM ⊢
    have HS : Hid (s.size = 0 ∨ isLetter s = true) := Or.inr (by rw [← hs]; exact isLetter_letB _)
    have HBK : Hid ((w2.setCell ⟨n.b, 3, none⟩ (.string s)).heap[n.b]? = some ({ n with name := s } : GN).blk) := by
      unfold Hid
      unfold GN.blk at hbk2 ⊢
      rw [heap_setCell_row hbk2]; rfl
    have HOT : Hid (∀ k, k < w.heap.size → k ≠ n.b → (w2.setCell ⟨n.b, 3, none⟩ (.string s)).heap[k]? = w.heap[k]?) := fun k hk hne => (Below.heap_setCell w2 ⟨n.b, 3, none⟩ _ k hne).trans ((hB2.block k (by have := HB1h.out.size; simp; omega)).trans (HAO.out _ k hk hne))
    have HF2 : Hid (Fr w (w2.setCell ⟨n.b, 3, none⟩ (.string s)) Fg) := ((((Fr.refl w Fg).below HB1h.out).set (p := ⟨n.b, 3, none⟩) (Or.inl (HD.out.1.inn n HD.out.2)) _).below hB2).set (p := ⟨n.b, 3, none⟩) (Or.inl (HD.out.1.inn n HD.out.2)) _
    clear hB2 hbk2 hs m3 mf3 u3 HA HAO d4
    go_upto_region 7 with fail
    generalize w2.setCell ⟨n.b, 3, none⟩ (.string s) = W2 at HBK HOT HF2 ⊢
    clear v3 vf
    have HGR2 : Hid (GR W2 g (.pointer (some pa)) (.slice (some ⟨r, 0, none⟩) ns.length c) made b (updG ns n.num fun x => { x with name := s })) := HD.out.1.gr.named HD.out.1.gt.nums HD.out.2 s HBK.out HOT.out
    have HDS2 : Hid (DS W2.drew (.pointer (some pa)) (treeS (ns.map GN.pl)) made (mOf b (ns.map GN.pl)) rs Fx) := HP.out.keep HD.out.1.ds (fun k hk hl => HOT.out k hl (fun e => HD.out.1.gx k (by rw [e]; exact HD.out.1.inn n HD.out.2) hk)) HF2.out.size
    have HGR2d : Hid (GR W2.drew g (.pointer (some pa)) (.slice (some ⟨r, 0, none⟩) ns.length c) made b (updG ns n.num fun x => { x with name := s })) := HGR2.out.below (Below.refl _ _).drew
    have HF2d : Hid (Fr w W2.drew Fg) := ⟨HF2.out.os, HF2.out.tape, HF2.out.output, HF2.out.size, HF2.out.block⟩
    have HC : Hid (∀ wx, Fr W2.drew wx Fx → wx.cell? ⟨g, 0, none⟩ = some (.pointer (some pa)) ∧ wx.cell? ⟨n.b, 0, none⟩ = some (.int .i64 n.num) ∧ wx.cell? ⟨n.b, 3, none⟩ = some (.string s)) := fun wx hf => by
      have e1 : wx.heap[g]? = W2.heap[g]? := hf.block g HGR2.out.lt (HD.out.1.gx g HD.out.1.inb)
      have e2 : wx.heap[n.b]? = W2.heap[n.b]? := hf.block n.b (Array.getElem?_eq_some_iff.1 HBK.out).1 (HD.out.1.gx n.b (HD.out.1.inn n HD.out.2))
      exact ⟨cell_of_blk (e1.trans HGR2.out.blk) rfl, cell_of_blk (e2.trans HBK.out) rfl, cell_of_blk (e2.trans HBK.out) rfl⟩
    have H0 : Hid (Fr W2.drew W2.drew Fx) := Fr.refl _ _
    go_cut [7] (fun v wx => ∃ y : Int, v = .int .i64 y ∧ Hid (y = 0 ∧ GQ DS w (fun k => Fg k ∨ Fx k) wx g (.pointer (some pa)) made b (updS (ns.map GN.pl) n.num fun x => { x with name := s }) rs))
    case first =>
      go_region_held3 (fun w' => w'.cell? ⟨g, 0, none⟩ = some (.pointer (some pa)) ∧ w'.cell? ⟨n.b, 0, none⟩ = some (.int .i64 n.num) ∧ w'.cell? ⟨n.b, 3, none⟩ = some (.string s)) (first | exact HC.out _ H0.out | exact HC.out _ HX.out.1)
        (first | (go_at_call 21; refine (HP.out.nam _ (.pointer (some pa)) (treeS (ns.map GN.pl)) made (mOf b (ns.map GN.pl)) rs Fx n.num s HDS2.out).mono ?_; rintro e w5 ⟨y, rfl, hy, hds, hf5⟩; have HX : Hid (Fr W2.drew w5 Fx ∧ (y = 0 ∧ GQ DS w (fun k => Fg k ∨ Fx k) w5 g (.pointer (some pa)) made b (updS (ns.map GN.pl) n.num fun x => { x with name := s }) rs)) := ⟨hf5, name_ends HP.out HD.out.1 HD.out.2 s HS.out HGR2d.out HF2d.out hy hds hf5⟩; clear hy hds hf5))
      all_goals
        go_wp2_with fail
        go_meet
        exact ⟨y, rfl, HX.out.2⟩
    case rest =>
      obtain ⟨y, rfl, HY⟩ := hcut
      have HR : Hid (KStepPost DS w (fun k => Fg k ∨ Fx k) g (.pointer (some pa)) b (markS b (ns.map GN.pl) 6 X Y) made rs (.returned (.bool true)) wc) := by
        refine ⟨rfl, ?_⟩
        unfold markS
        rw [if_pos rfl, HPK.out, HNM.out]
        exact HY.out.2
      have gy : (y == 0) = true := by simp [HY.out.1]
      clear HY
      go_wp2
      go_ret
      exact HR.out
  · have d4 : decide (((pickZ Y 5 : Nat) : Int) < 4) = false := by simp; omega
    have HNM0 : Hid (nameOf b Y = ⟨#[]⟩) := by unfold Hid nameOf; rw [if_neg hk4]
    generalize pickZ Y 5 = k at d4 ⊢
    clear hk4 hk5
    go_upto_region 7 with fail
    obtain ⟨s, hs⟩ : ∃ s : ByteArray, (⟨#[]⟩ : ByteArray) = s := ⟨_, rfl⟩
    have HNM : Hid (nameOf b Y = s) := by unfold Hid; rw [HNM0.out, hs]
    have HS : Hid (s.size = 0 ∨ isLetter s = true) := Or.inl (by rw [← hs]; rfl)
    have HBK : Hid ((W1.setCell ⟨n.b, 3, none⟩ (.string s)).heap[n.b]? = some ({ n with name := s } : GN).blk) := HA.out s
    have HOT : Hid (∀ k, k < w.heap.size → k ≠ n.b → (W1.setCell ⟨n.b, 3, none⟩ (.string s)).heap[k]? = w.heap[k]?) := HAO.out _
    have HF2 : Hid (Fr w (W1.setCell ⟨n.b, 3, none⟩ (.string s)) Fg) := ((Fr.refl w Fg).below HB1h.out).set (p := ⟨n.b, 3, none⟩) (Or.inl (HD.out.1.inn n HD.out.2)) _
    rw [hs]
    clear hs HNM0 m3 mf3 u3 HA HAO d4
    generalize W1.setCell ⟨n.b, 3, none⟩ (.string s) = W2 at HBK HOT HF2 ⊢
    have HGR2 : Hid (GR W2 g (.pointer (some pa)) (.slice (some ⟨r, 0, none⟩) ns.length c) made b (updG ns n.num fun x => { x with name := s })) := HD.out.1.gr.named HD.out.1.gt.nums HD.out.2 s HBK.out HOT.out
    have HDS2 : Hid (DS W2.drew (.pointer (some pa)) (treeS (ns.map GN.pl)) made (mOf b (ns.map GN.pl)) rs Fx) := HP.out.keep HD.out.1.ds (fun k hk hl => HOT.out k hl (fun e => HD.out.1.gx k (by rw [e]; exact HD.out.1.inn n HD.out.2) hk)) HF2.out.size
    have HGR2d : Hid (GR W2.drew g (.pointer (some pa)) (.slice (some ⟨r, 0, none⟩) ns.length c) made b (updG ns n.num fun x => { x with name := s })) := HGR2.out.below (Below.refl _ _).drew
    have HF2d : Hid (Fr w W2.drew Fg) := ⟨HF2.out.os, HF2.out.tape, HF2.out.output, HF2.out.size, HF2.out.block⟩
    have HC : Hid (∀ wx, Fr W2.drew wx Fx → wx.cell? ⟨g, 0, none⟩ = some (.pointer (some pa)) ∧ wx.cell? ⟨n.b, 0, none⟩ = some (.int .i64 n.num) ∧ wx.cell? ⟨n.b, 3, none⟩ = some (.string s)) := fun wx hf => by
      have e1 : wx.heap[g]? = W2.heap[g]? := hf.block g HGR2.out.lt (HD.out.1.gx g HD.out.1.inb)
      have e2 : wx.heap[n.b]? = W2.heap[n.b]? := hf.block n.b (Array.getElem?_eq_some_iff.1 HBK.out).1 (HD.out.1.gx n.b (HD.out.1.inn n HD.out.2))
      exact ⟨cell_of_blk (e1.trans HGR2.out.blk) rfl, cell_of_blk (e2.trans HBK.out) rfl, cell_of_blk (e2.trans HBK.out) rfl⟩
    have H0 : Hid (Fr W2.drew W2.drew Fx) := Fr.refl _ _
    go_cut [7] (fun v wx => ∃ y : Int, v = .int .i64 y ∧ Hid (y = 0 ∧ GQ DS w (fun k => Fg k ∨ Fx k) wx g (.pointer (some pa)) made b (updS (ns.map GN.pl) n.num fun x => { x with name := s }) rs))
    case first =>
      go_region_held3 (fun w' => w'.cell? ⟨g, 0, none⟩ = some (.pointer (some pa)) ∧ w'.cell? ⟨n.b, 0, none⟩ = some (.int .i64 n.num) ∧ w'.cell? ⟨n.b, 3, none⟩ = some (.string s)) (first | exact HC.out _ H0.out | exact HC.out _ HX.out.1)
        (first | (go_at_call 21; refine (HP.out.nam _ (.pointer (some pa)) (treeS (ns.map GN.pl)) made (mOf b (ns.map GN.pl)) rs Fx n.num s HDS2.out).mono ?_; rintro e w5 ⟨y, rfl, hy, hds, hf5⟩; have HX : Hid (Fr W2.drew w5 Fx ∧ (y = 0 ∧ GQ DS w (fun k => Fg k ∨ Fx k) w5 g (.pointer (some pa)) made b (updS (ns.map GN.pl) n.num fun x => { x with name := s }) rs)) := ⟨hf5, name_ends HP.out HD.out.1 HD.out.2 s HS.out HGR2d.out HF2d.out hy hds hf5⟩; clear hy hds hf5))
      all_goals
        go_wp2_with fail
        go_meet
        exact ⟨y, rfl, HX.out.2⟩
    case rest =>
      obtain ⟨y, rfl, HY⟩ := hcut
      have HR : Hid (KStepPost DS w (fun k => Fg k ∨ Fx k) g (.pointer (some pa)) b (markS b (ns.map GN.pl) 6 X Y) made rs (.returned (.bool true)) wc) := by
        refine ⟨rfl, ?_⟩
        unfold markS
        rw [if_pos rfl, HPK.out, HNM.out]
        exact HY.out.2
      have gy : (y == 0) = true := by simp [HY.out.1]
      clear HY
      go_wp2
      go_ret
      exact HR.out
end
end Go.Proofs.YtblfffbmklkhmaaGreat

namespace Go.Proofs.YtblfffbmklkhmaaGreat
open Go.RowKit
theorem Fr.drew1 {w w' : World} {S : Nat → Prop} (h : Fr w w' S) : Fr w w'.drew S := ⟨h.os, h.tape, h.output, h.size, h.block⟩
theorem setC_blk {w : World} {n : GN} {k : Nat} (hk : k < 4) (on : Bool) (h : w.heap[n.b]? = some n.blk) : (w.setCell ⟨n.b, 4 + k, none⟩ (.bool on)).heap[n.b]? = some (n.setC k on).blk := by
  unfold GN.blk at h
  have hk4 : k = 0 ∨ k = 1 ∨ k = 2 ∨ k = 3 := by omega
  rcases hk4 with rfl | rfl | rfl | rfl <;> (rw [heap_setCell_row h]; rfl)
theorem setC_ks (x : GN) (k : Nat) (on : Bool) : (x.setC k on).ks = x.ks ∧ (x.setC k on).kids = x.kids := by unfold GN.setC; (repeat' split) <;> exact ⟨rfl, rfl⟩
theorem GR.classed {w W2 : World} {g : Nat} {px vl : Value} {made b : Nat} {ns : List GN} (h : GR w g px vl made b ns) (hnn : (ns.map GN.num).Nodup) {n : GN} (hn : n ∈ ns) (k : Nat) (on : Bool) (hblk : W2.heap[n.b]? = some (n.setC k on).blk) (hoth : ∀ k, k < w.heap.size → k ≠ n.b → W2.heap[k]? = w.heap[k]?) : GR W2 g px vl made b (updG ns n.num fun x => x.setC k on) :=
  h.put hnn hn (f := fun x => x.setC k on) (fun x => setC_b x k on) hblk hoth (by
    rw [(setC_ks n k on).1, (setC_ks n k on).2]
    exact own_keep (h.kid n hn) (fun k hk hl => hoth k hl (fun e => by
      rw [e] at hk
      exact own_ne_type (h.kid n hn) (h.nd n hn) (by decide) hk)))
theorem class_ends {DS : World → Value → Tree → Nat → (Nat → Mk) → List PRu → (Nat → Prop) → Prop} (hP : DocOK DS) {w W2 w3 : World} {g : Nat} {px vl : Value} {made b : Nat} {ns : List GN} {rs : List PRu} {Fg Fx : Nat → Prop} (h : GD DS w g px vl made b ns rs Fg Fx) {n : GN} (hn : n ∈ ns) {k : Nat} (hk : k < 4) (on : Bool)
    (hgr : GR W2 g px vl made b (updG ns n.num fun x => x.setC k on)) (hfr : Fr w W2 Fg) {y : Int} (hy : y = clsErr (treeS (ns.map GN.pl)) n.num (letB (k + b))) (hds : DS w3 px (treeS (ns.map GN.pl)) made (if y = 0 then setM (mOf b (ns.map GN.pl)) ((n.num : Int)).toNat (clsMk (mOf b (ns.map GN.pl) ((n.num : Int)).toNat) (letB (k + b)) on) else mOf b (ns.map GN.pl)) rs (More Fx W2)) (hf3 : Fr W2 w3 Fx) :
    y = 0 ∧ GQ DS w (fun k => Fg k ∨ Fx k) w3 g px made b (updS (ns.map GN.pl) n.num fun x => x.setC k on) rs := by
  have hnm : n.pl ∈ ns.map GN.pl := List.mem_map.2 ⟨n, hn, rfl⟩
  have hy0 : y = 0 := by
    rw [hy]
    unfold clsErr
    have := treeS_find h.pw hnm
    rw [show (n.pl.num : Int) = (n.num : Int) from rfl] at this
    rw [this]
    show (if isLetter (letB (k + b)) = false then (4 : Int) else 0) = 0
    rw [if_neg (by rw [isLetter_letB]; simp)]
  refine ⟨hy0, ?_⟩
  rw [hy0, if_pos rfl] at hds
  have e1 : ((n.num : Int)).toNat = n.num := by omega
  rw [e1, show mOf b (ns.map GN.pl) n.num = mkS b n.pl from mOf_at h.pw.nums hnm] at hds
  exact gq_upd hP h hn (f := fun x => x.setC k on) (f' := fun x => x.setC k on) (fun x => setC_pl x k on) (fun x => ⟨setC_b x k on, (setC_ks x k on).1⟩) (fun x => setC_num x k on) hgr hfr (mkS_setC b n.pl hk on) hds hf3
section
set_option maxRecDepth 100000
set_option maxHeartbeats 1500000
variable {DS : World → Value → Tree → Nat → (Nat → Mk) → List PRu → (Nat → Prop) → Prop}
theorem kclass_any (hP : DocOK DS) (w : World) (g : Nat) (px vl : Value) (made b : Nat) (ns : List GN) (rs : List PRu) (Fg Fx : Nat → Prop) (h : GD DS w g px vl made b ns rs Fg Fx) (kd X Y Z : Int) (hkd : kd ≠ 6) (hX : Fit X) (hY : Fit Y) (hb : b ≤ 25) :
    Calls Tryz.prog 70 #[.pointer (some ⟨g, 0, none⟩), .agg #[.int .i64 kd, .int .i64 X, .int .i64 Y, .int .i64 Z]] w fun e w' => KStepPost DS w (fun k => Fg k ∨ Fx k) g px b (markS b (ns.map GN.pl) kd X Y) made rs e w' := by
  obtain ⟨pa, rfl⟩ := hP.ptr h.ds
  obtain ⟨a, c, hv⟩ := own_shape h.gr.row
  subst hv
  have HP : Hid (DocOK DS) := hP
  have hlen := h.len
  obtain ⟨h0, hl⟩ := hlen
  obtain ⟨n, hn, hpk, r, hr, hrl, hrc⟩ := pick_node h.gr h0 X
  subst hr
  have HMK : Hid (markS b (ns.map GN.pl) kd X Y = updS (ns.map GN.pl) n.num fun x => x.setC (pickZ Y 4) (kd == 4)) := by
    unfold Hid markS
    rw [if_neg hkd, hpk]
    rfl
  have g6 : (kd == 6) = false := by simp [hkd]
  have HD : Hid (GD DS w g (.pointer (some pa)) (.slice (some ⟨r, 0, none⟩) ns.length c) made b ns rs Fg Fx ∧ n ∈ ns) := ⟨h, hn⟩
  have HB0 : Hid (∀ k, Below w.heap.size w ((w.alloc (.cells #[.int .i64 kd, .int .i64 X, .int .i64 Y, .int .i64 Z] 78)).drewN k)) := fun k => below_draws ((Below.refl _ _).alloc (Nat.le_refl _) _) k
  have hgl := h.gr.lt
  have q1 := h.gr.c1
  have hpl : ((pickZ X ns.length : Nat) : Int) < (ns.length : Int) := by have := pickZ_lt X h0; omega
  have HPC : Hid (∀ k, Calls Tryz.prog 17 #[.int .i64 X, .int .i64 (ns.length : Int)] ((w.alloc (.cells #[.int .i64 kd, .int .i64 X, .int .i64 Y, .int .i64 Z] 78)).drewN k) fun e w' => e = .returned (.int .i64 ((pickZ X ns.length : Nat) : Int)) ∧ w' = (w.alloc (.cells #[.int .i64 kd, .int .i64 X, .int .i64 Y, .int .i64 Z] 78)).drewN k) := fun k => kpick_any _ X ns.length hX h0 (by omega)
  clear h hn hpk hP hkd
  generalize pickZ X ns.length = xi at hrc hpl HPC
  go_enter Tryz.func70, Tryz.ntmps70
  go_upto_region 1 with fail
  go_quiet ((go_at_call 17; exact Calls.quiet_of_same (HPC.out _)))
  go_wp2_with fail
  refine (kpick_any _ Y 4 hY (by decide) (by decide)).mono ?_
  rintro e w1 ⟨rfl, rfl⟩
  have HB1 := HB0.out nq
  have HSB : Hid (((w.alloc (.cells #[.int .i64 kd, .int .i64 X, .int .i64 Y, .int .i64 Z] 78)).drewN nq).heap[w.heap.size]? = some (.cells #[.int .i64 kd, .int .i64 X, .int .i64 Y, .int .i64 Z] 78)) := heap_alloc_new w _
  generalize (w.alloc (.cells #[.int .i64 kd, .int .i64 X, .int .i64 Y, .int .i64 Z] 78)).drewN nq = W1 at HB1 HSB ⊢
  have HGR1 := HD.out.1.gr.below HB1
  have hgl1 := HGR1.lt
  have HN1 : Hid (W1.heap[n.b]? = some n.blk) := HGR1.nd n HD.out.2
  have hnb1 : n.b < W1.heap.size := (Array.getElem?_eq_some_iff.1 HN1.out).1
  have hnbw : n.b < w.heap.size := (Array.getElem?_eq_some_iff.1 (HD.out.1.gr.nd n HD.out.2)).1
  have hgn : g ≠ n.b := HGR1.ne_node HD.out.2
  have HB1h : Hid (Below w.heap.size w W1) := HB1
  have s0 : W1.cell? ⟨w.heap.size, 0, none⟩ = some (.int .i64 kd) := cell_of_blk HSB.out rfl
  have hszl : w.heap.size < W1.heap.size := (Array.getElem?_eq_some_iff.1 HSB.out).1
  have hk4 : pickZ Y 4 < 4 := pickZ_lt Y (by decide)
  clear q1 hrc HGR1 HB1 HB0 HPC
  generalize pickZ Y 4 = k at hk4 HMK ⊢
  have hkl : (k : Int) < 4 := by omega
  have HCK : Hid (∃ u, W1.cell? ⟨n.b, 4 + k, none⟩ = some (.bool u)) := by
    have hh := HN1.out
    unfold GN.blk at hh
    have h4 : k = 0 ∨ k = 1 ∨ k = 2 ∨ k = 3 := by omega
    rcases h4 with rfl | rfl | rfl | rfl
    · exact ⟨n.c0, cell_of_blk hh rfl⟩
    · exact ⟨n.c1, cell_of_blk hh rfl⟩
    · exact ⟨n.c2, cell_of_blk hh rfl⟩
    · exact ⟨n.c3, cell_of_blk hh rfl⟩
  obtain ⟨old, ck⟩ := HCK.out
  have ckf : W1.frozen? ⟨n.b, 4 + k, none⟩ = false := frozen_of_blk HN1.out
  obtain ⟨on, hon⟩ : ∃ on, (kd == 4) = on := ⟨_, rfl⟩
  have HON : Hid ((kd == 4) = on) := hon
  rw [hon] at HMK
  have HW2 : Hid ((W1.setCell ⟨n.b, 4 + k, none⟩ (.bool on)).heap[n.b]? = some (n.setC k on).blk ∧ (∀ j, j < w.heap.size → j ≠ n.b → (W1.setCell ⟨n.b, 4 + k, none⟩ (.bool on)).heap[j]? = w.heap[j]?) ∧ Fr w (W1.setCell ⟨n.b, 4 + k, none⟩ (.bool on)) Fg ∧ (W1.setCell ⟨n.b, 4 + k, none⟩ (.bool on)).cell? ⟨w.heap.size, 0, none⟩ = some (.int .i64 kd)) := by
    refine ⟨setC_blk hk4 on HN1.out, fun j hj hne => (Below.heap_setCell W1 ⟨n.b, 4 + k, none⟩ _ j hne).trans (HB1h.out.block j hj), ((Fr.refl w Fg).below HB1h.out).set (p := ⟨n.b, 4 + k, none⟩) (Or.inl (HD.out.1.inn n HD.out.2)) _, ?_⟩
    have : (W1.setCell ⟨n.b, 4 + k, none⟩ (.bool on)).heap[w.heap.size]? = W1.heap[w.heap.size]? := Below.heap_setCell W1 ⟨n.b, 4 + k, none⟩ _ _ (by show w.heap.size ≠ n.b; omega)
    exact cell_of_blk (this.trans HSB.out) rfl
  clear HCK
  go_upto_region 10 with fail
  go_cut [8] (fun v wx => v = .int .i64 k ∧ Hid (wx.heap[n.b]? = some (n.setC k on).blk ∧ (∀ j, j < w.heap.size → j ≠ n.b → wx.heap[j]? = w.heap[j]?) ∧ Fr w wx Fg ∧ wx.cell? ⟨w.heap.size, 0, none⟩ = some (.int .i64 kd)))
  case first =>
    go_region
    all_goals go_wp2_with fail
    all_goals go_meet
    all_goals exact ⟨rfl, HW2.out.1, HW2.out.2.1, HW2.out.2.2.1.drew1, HW2.out.2.2.2⟩
  case rest =>
    obtain ⟨rfl, HW⟩ := hcut
    obtain ⟨W2, rfl⟩ : ∃ W2, W2 = wc := ⟨_, rfl⟩
    have HGR2 : Hid (GR W2 g (.pointer (some pa)) (.slice (some ⟨r, 0, none⟩) ns.length c) made b (updG ns n.num fun x => x.setC k on)) := HD.out.1.gr.classed HD.out.1.gt.nums HD.out.2 k on HW.out.1 HW.out.2.1
    have HLW : Hid (∀ w3, Below W2.drew.heap.size W2.drew w3 → GR w3 g (.pointer (some pa)) (.slice (some ⟨r, 0, none⟩) ns.length c) made b (updG ns n.num fun x => x.setC k on) ∧ DS w3 (.pointer (some pa)) (treeS (ns.map GN.pl)) made (mOf b (ns.map GN.pl)) rs Fx ∧ Fr w w3 Fg) := fun w3 hb3 =>
      ⟨(HGR2.out.below (Below.refl _ _).drew).below hb3, HP.out.keep HD.out.1.ds (fun j hj hl => (hb3.block j (Nat.lt_of_lt_of_le hl HW.out.2.2.1.size)).trans (HW.out.2.1 j hl (fun e => HD.out.1.gx j (by rw [e]; exact HD.out.1.inn n HD.out.2) hj))) (Nat.le_trans HW.out.2.2.1.size hb3.size), HW.out.2.2.1.drew1.below hb3⟩
    have HC : Hid (∀ w3 wx, Below W2.drew.heap.size W2.drew w3 → Fr w3 wx Fx → wx.cell? ⟨g, 0, none⟩ = some (.pointer (some pa)) ∧ wx.cell? ⟨g, 3, none⟩ = some (.int .i64 b) ∧ wx.cell? ⟨n.b, 0, none⟩ = some (.int .i64 n.num) ∧ wx.cell? ⟨w.heap.size, 0, none⟩ = some (.int .i64 kd)) := fun w3 wx hb3 hf => by
      have hgr := (HLW.out w3 hb3).1
      have e1 : wx.heap[g]? = w3.heap[g]? := hf.block g hgr.lt (HD.out.1.gx g HD.out.1.inb)
      have hnb3 : n.b < W2.heap.size := (Array.getElem?_eq_some_iff.1 HW.out.1).1
      have e2 : wx.heap[n.b]? = W2.heap[n.b]? := (hf.block n.b (Nat.lt_of_lt_of_le hnb3 hb3.size) (HD.out.1.gx n.b (HD.out.1.inn n HD.out.2))).trans (hb3.block n.b hnb3)
      have hs3 : w.heap.size < W2.heap.size := World.block_lt_of_cell? W2 _ HW.out.2.2.2
      have e3 : wx.heap[w.heap.size]? = W2.heap[w.heap.size]? := (hf.block w.heap.size (Nat.lt_of_lt_of_le hs3 hb3.size) (fun hx => by have := HD.out.1.here w.heap.size (Or.inr hx); omega)).trans (hb3.block w.heap.size hs3)
      refine ⟨cell_of_blk (e1.trans hgr.blk) rfl, cell_of_blk (e1.trans hgr.blk) rfl, ?_, ?_⟩
      · have hh := HW.out.1
        have hnum : (n.setC k on).num = n.num := by unfold GN.setC; (repeat' split) <;> rfl
        unfold GN.blk at hh
        rw [← hnum]
        exact cell_of_blk (e2.trans hh) rfl
      · have := HW.out.2.2.2
        unfold World.cell? at this ⊢
        rw [e3]
        exact this
    have H0 : Hid (Below W2.drew.heap.size W2.drew W2.drew) := Below.refl _ _
    have hk3 : k ≤ 3 := by omega
    clear s0 ck ckf HW2 HSB HN1
    go_upto_region 11 with fail
    go_cut [9] (fun v wx => ∃ y : Int, v = .int .i64 y ∧ Hid (y = 0 ∧ GQ DS w (fun k => Fg k ∨ Fx k) wx g (.pointer (some pa)) made b (updS (ns.map GN.pl) n.num fun x => x.setC k on) rs))
    case first =>
      go_region_held3 (fun w' => w'.cell? ⟨g, 0, none⟩ = some (.pointer (some pa)) ∧ w'.cell? ⟨g, 3, none⟩ = some (.int .i64 b) ∧ w'.cell? ⟨n.b, 0, none⟩ = some (.int .i64 n.num) ∧ w'.cell? ⟨w.heap.size, 0, none⟩ = some (.int .i64 kd)) (first | exact HC.out _ _ HL.out HX.out.1 | exact HC.out _ _ HL.out (Fr.refl _ _) | exact HC.out _ _ H0.out (Fr.refl _ _))
        (first | (go_at_call 25; refine (kletter_any _ k b hk3 hb).mono ?_; rintro e w3 ⟨rfl, hB3⟩; have HL : Hid (Below W2.drew.heap.size W2.drew w3) := hB3; clear hB3) | (go_at_call 46; refine (HP.out.cls _ (.pointer (some pa)) (treeS (ns.map GN.pl)) made (mOf b (ns.map GN.pl)) rs Fx n.num (letB (k + b)) on (HLW.out _ HL.out).2.1).mono ?_; rintro e w5 ⟨y, rfl, hy, hds, hf5⟩; have HX : Hid (Fr w3 w5 Fx ∧ (y = 0 ∧ GQ DS w (fun k => Fg k ∨ Fx k) w5 g (.pointer (some pa)) made b (updS (ns.map GN.pl) n.num fun x => x.setC k on) rs)) := ⟨hf5, class_ends HP.out HD.out.1 HD.out.2 hk4 on (HLW.out _ HL.out).1 (HLW.out _ HL.out).2.2 hy hds hf5⟩; clear hy hds hf5))
      all_goals
        go_wp2_with fail
        go_meet
        exact ⟨y, rfl, HX.out.2⟩
    case rest =>
      obtain ⟨y, rfl, HY⟩ := hcut
      have HR : Hid (KStepPost DS w (fun k => Fg k ∨ Fx k) g (.pointer (some pa)) b (markS b (ns.map GN.pl) kd X Y) made rs (.returned (.bool true)) wc) := ⟨rfl, by rw [HMK.out]; exact HY.out.2⟩
      have gy : (y == 0) = true := by simp [HY.out.1]
      clear HY
      go_wp2
      go_ret
      exact HR.out
end
end Go.Proofs.YtblfffbmklkhmaaGreat
