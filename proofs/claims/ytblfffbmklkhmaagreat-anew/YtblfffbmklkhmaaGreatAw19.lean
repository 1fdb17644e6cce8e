/- Own work. -/
import Derived.Test.YtblfffbmklkhmaaGreatAw18
import Derived.BigQuiet
import Derived.Deep.RegionHeld3
import Derived.Deep.QuietTactic
namespace Go.Proofs.YtblfffbmklkhmaaGreat
open Go.RowKit
theorem bt_letB (k : Nat) : bt (letB k) 0 = 97 + k % 26 := by
  have h : k % 26 < 26 := Nat.mod_lt _ (by decide)
  show (UInt8.ofNat (97 + k % 26)).toNat = _
  rw [UInt8.toNat_ofNat']
  omega
theorem size_letB (k : Nat) : (letB k).size = 1 := rfl
theorem isLetter_letB (k : Nat) : isLetter (letB k) = true := by
  have h : k % 26 < 26 := Nat.mod_lt _ (by decide)
  unfold isLetter isL
  rw [bt_letB, size_letB]
  simp
  omega
def PNd.setC (x : PNd) (k : Nat) (on : Bool) : PNd := if k = 0 then { x with c0 := on } else if k = 1 then { x with c1 := on } else if k = 2 then { x with c2 := on } else { x with c3 := on }
def GN.setC (x : GN) (k : Nat) (on : Bool) : GN := if k = 0 then { x with c0 := on } else if k = 1 then { x with c1 := on } else if k = 2 then { x with c2 := on } else { x with c3 := on }
theorem setC_pl (x : GN) (k : Nat) (on : Bool) : (x.setC k on).pl = x.pl.setC k on := by unfold GN.setC PNd.setC; (repeat' split) <;> rfl
theorem setC_b (x : GN) (k : Nat) (on : Bool) : (x.setC k on).b = x.b := by unfold GN.setC; (repeat' split) <;> rfl
theorem setC_num (x : PNd) (k : Nat) (on : Bool) : (x.setC k on).num = x.num ∧ (x.setC k on).kids = x.kids ∧ (x.setC k on).par = x.par := by unfold PNd.setC; (repeat' split) <;> exact ⟨rfl, rfl, rfl⟩
theorem mkS_setC (b : Nat) (x : PNd) {k : Nat} (hk : k < 4) (on : Bool) : mkS b (x.setC k on) = clsMk (mkS b x) (letB (k + b)) on := by
  have e : bt (letB (k + b)) 0 = 97 + (k + b) % 26 := bt_letB _
  have hcl : clS b (x.setC k on) = fun i => if i + 97 = bt (letB (k + b)) 0 then on else clS b x i := by
    funext i
    rw [e]
    have h0 : i + 97 = 97 + (k + b) % 26 ↔ i = (k + b) % 26 := by omega
    simp only [h0]
    unfold clS PNd.setC
    have hk4 : k = 0 ∨ k = 1 ∨ k = 2 ∨ k = 3 := by omega
    rcases hk4 with rfl | rfl | rfl | rfl
    · by_cases hi : i = (0 + b) % 26
      · have d1 : ¬ i = (1 + b) % 26 := by omega
        have d2 : ¬ i = (2 + b) % 26 := by omega
        have d3 : ¬ i = (3 + b) % 26 := by omega
        have d0 : i = b % 26 := by omega
        rw [if_pos hi]
        simp only [d1, d2, d3, decide_false, Bool.false_and, Bool.or_false, Bool.true_and, if_pos, decide_eq_true d0]
      · have d0 : ¬ i = b % 26 := by omega
        rw [if_neg hi]
        simp only [d0, decide_false, Bool.false_and, Bool.false_or, if_pos]
    · by_cases hi : i = (1 + b) % 26
      · have d0 : ¬ i = b % 26 := by omega
        have d2 : ¬ i = (2 + b) % 26 := by omega
        have d3 : ¬ i = (3 + b) % 26 := by omega
        rw [if_pos hi]
        simp [d0, d2, d3, ← hi]
      · rw [if_neg hi]
        simp [hi]
    · by_cases hi : i = (2 + b) % 26
      · have d0 : ¬ i = b % 26 := by omega
        have d1 : ¬ i = (1 + b) % 26 := by omega
        have d3 : ¬ i = (3 + b) % 26 := by omega
        rw [if_pos hi]
        simp [d0, d1, d3, ← hi]
      · rw [if_neg hi]
        simp [hi]
    · by_cases hi : i = (3 + b) % 26
      · have d0 : ¬ i = b % 26 := by omega
        have d1 : ¬ i = (1 + b) % 26 := by omega
        have d2 : ¬ i = (2 + b) % 26 := by omega
        rw [if_pos hi]
        simp [d0, d1, d2, ← hi]
      · rw [if_neg hi]
        simp [hi]
  unfold clsMk mkS
  rw [hcl]
  have hkd : (x.setC k on).kind = x.kind := by unfold PNd.setC; (repeat' split) <;> rfl
  have hnm : (x.setC k on).name = x.name := by unfold PNd.setC; (repeat' split) <;> rfl
  rw [hkd, hnm]
section
variable {S : List PNd} {made b : Nat}
theorem upd_same_tree {k : Nat} {f : PNd → PNd} (hf : ∀ x, (f x).num = x.num ∧ (f x).kids = x.kids) : treeS (updS S k f) = treeS S := by
  unfold treeS updS
  rw [List.map_map]
  apply List.map_congr_left
  intro x _
  show ((if x.num = k then f x else x).num, (if x.num = k then f x else x).kids) = (x.num, x.kids)
  split
  · rw [(hf x).1, (hf x).2]
  · rfl
theorem PW.upd (h : PW S made) {k : Nat} {f : PNd → PNd} (hf : ∀ x, (f x).num = x.num ∧ (f x).kids = x.kids ∧ (f x).par = x.par) : PW (updS S k f) made := by
  have e := upd_same_tree (S := S) (k := k) (f := f) (fun x => ⟨(hf x).1, (hf x).2.1⟩)
  refine ⟨by rw [e]; exact h.tw, fun y hy => ?_, by rw [updS_len]; exact h.few⟩
  obtain ⟨x, hx, rfl⟩ := mem_updS.1 hy
  rw [e]
  split
  · rw [(hf x).1, (hf x).2.2]; exact h.par x hx
  · exact h.par x hx
theorem upd_marks (h : PW S made) {n : PNd} (hn : n ∈ S) {f : PNd → PNd} (hf : ∀ x, (f x).num = x.num ∧ (f x).kids = x.kids ∧ (f x).par = x.par) {m : Mk} (hm : mkS b (f n) = m) : ∀ k l, (k, l) ∈ treeS S → setM (mOf b S) n.num m k = mOf b (updS S n.num f) k := by
  intro k l hkl
  have hP : PW (updS S n.num f) made := h.upd hf
  obtain ⟨x, hx, rfl, _⟩ := of_treeS hkl
  have hy : (if x.num = n.num then f x else x) ∈ updS S n.num f := mem_updS.2 ⟨x, hx, rfl⟩
  have e : (if x.num = n.num then f x else x).num = x.num := by
    split
    · exact (hf x).1
    · rfl
  have h1 := mOf_at (b := b) hP.nums hy
  rw [e] at h1
  rw [h1]
  unfold setM
  by_cases he : x.num = n.num
  · rw [if_pos he, if_pos he]
    have hxn : x = n := by
      have a1 := pnd_find h.nums hx
      have a2 := pnd_find h.nums hn
      rw [he] at a1
      rw [a1] at a2
      injection a2
    rw [hxn, hm]
  · rw [if_neg he, if_neg he, mOf_at h.nums hx]
end
/-- The blocks that a grove holds. -/
def fpG (g : Nat) (vl : Value) (ns : List GN) (k : Nat) : Prop := k = g ∨ (∃ n ∈ ns, k = n.b) ∨ vl.ownBlock = some k ∨ ∃ n ∈ ns, n.ks.ownBlock = some k
theorem GR.fp {w : World} {g : Nat} {px vl : Value} {made b : Nat} {ns : List GN} (h : GR w g px vl made b ns) {k : Nat} (hk : fpG g vl ns k) : k < w.heap.size := by
  rcases hk with rfl | ⟨n, hn, rfl⟩ | hk | ⟨n, hn, hk⟩
  · exact h.lt
  · exact (Array.getElem?_eq_some_iff.1 (h.nd n hn)).1
  · exact (h.row.lt k hk).2
  · exact ((h.kid n hn).lt k hk).2
theorem gq_close {DS : World → Value → Tree → Nat → (Nat → Mk) → List PRu → (Nat → Prop) → Prop} (hP : DocOK DS) {w w3 : World} {g : Nat} {px : Value} {made2 b : Nat} {ns2 : List GN} {vl2 : Value} {rs : List PRu} {Fg Fx Fx2 : Nat → Prop} {S' : List PNd} (hS : S' = ns2.map GN.pl)
    (hgr : GR w3 g px vl2 made2 b ns2) (hpw : PW S' made2) (hds : DS w3 px (treeS S') made2 (mOf b S') rs Fx2) (hfr : Fr w w3 (fun k => Fg k ∨ Fx k)) (h1 : ∀ k, fpG g vl2 ns2 k → Fg k ∨ w.heap.size ≤ k) (h2 : ∀ k, Fx2 k → Fx k ∨ w.heap.size ≤ k) (hd : ∀ k, fpG g vl2 ns2 k → ¬ Fx2 k) :
    GQ DS w (fun k => Fg k ∨ Fx k) w3 g px made2 b S' rs := by
  subst hS
  refine ⟨vl2, ns2, fpG g vl2 ns2, fun k => Fx2 k ∧ k < w3.heap.size, rfl, ⟨hgr, hpw, hP.here hds, Or.inl rfl, fun n hn => Or.inr (Or.inl ⟨n, hn, rfl⟩), fun j hj => Or.inr (Or.inr (Or.inl hj)), fun n hn j hj => Or.inr (Or.inr (Or.inr ⟨n, hn, hj⟩)), fun k hk hx => hd k hk hx.1, fun k hk => ?_⟩, fun k hk => ?_, hfr⟩
  · exact hk.elim hgr.fp (fun h => h.2)
  · rcases hk with hk | hk
    · exact (h1 k hk).imp Or.inl id
    · exact (h2 k hk.1).imp Or.inr id
/-- One node is written, then the document turns: the grove with its document. -/
theorem gq_upd {DS : World → Value → Tree → Nat → (Nat → Mk) → List PRu → (Nat → Prop) → Prop} (hP : DocOK DS) {w W2 w3 : World} {g : Nat} {px vl : Value} {made b : Nat} {ns : List GN} {rs : List PRu} {Fg Fx : Nat → Prop} (h : GD DS w g px vl made b ns rs Fg Fx) {n : GN} (hn : n ∈ ns) {f : GN → GN} {f' : PNd → PNd} (hf : ∀ x, (f x).pl = f' x.pl) (hfb : ∀ x, (f x).b = x.b ∧ (f x).ks = x.ks)
    (hf' : ∀ x, (f' x).num = x.num ∧ (f' x).kids = x.kids ∧ (f' x).par = x.par) (hgr : GR W2 g px vl made b (updG ns n.num f)) (hfr : Fr w W2 Fg) {m : Mk} (hm : mkS b (f' n.pl) = m) (hds : DS w3 px (treeS (ns.map GN.pl)) made (setM (mOf b (ns.map GN.pl)) n.num m) rs (More Fx W2)) (hf3 : Fr W2 w3 Fx) :
    GQ DS w (fun k => Fg k ∨ Fx k) w3 g px made b (updS (ns.map GN.pl) n.num f') rs := by
  have hpl := updG_pl (ns := ns) n.num hf
  have hnm : n.pl ∈ ns.map GN.pl := List.mem_map.2 ⟨n, hn, rfl⟩
  have hmem : ∀ k, fpG g vl (updG ns n.num f) k → Fg k := fun k hk => by
    rcases hk with rfl | ⟨y, hy, rfl⟩ | hk | ⟨y, hy, hk⟩
    · exact h.inb
    · obtain ⟨x, hx, rfl⟩ := List.mem_map.1 hy
      split
      · rw [(hfb x).1]; exact h.inn x hx
      · exact h.inn x hx
    · exact h.inl k hk
    · obtain ⟨x, hx, rfl⟩ := List.mem_map.1 hy
      by_cases he : x.num = n.num
      · rw [if_pos he, (hfb x).2] at hk; exact h.ink x hx k hk
      · rw [if_neg he] at hk; exact h.ink x hx k hk
  have htr : treeS (updS (ns.map GN.pl) n.num f') = treeS (ns.map GN.pl) := upd_same_tree (fun x => ⟨(hf' x).1, (hf' x).2.1⟩)
  refine gq_close hP hpl.symm (hgr.keep (fun k hl hk => hf3.block k hl (h.gx k (hmem k hk)))) (h.pw.upd hf') (Fx2 := More Fx W2) ?_ ((hfr.mono (fun k hk => Or.inl hk)).trans (hf3.mono (fun k hk => Or.inr hk))) (fun k hk => Or.inl (hmem k hk)) (fun k hk => hk.imp id (fun hk => Nat.le_trans hfr.size hk)) (fun k hk hx => ?_)
  · rw [htr]
    exact hP.mark hds (upd_marks h.pw hnm hf' hm)
  · rcases hx with hx | hx
    · exact h.gx k (hmem k hk) hx
    · have := h.here k (Or.inl (hmem k hk))
      have := hfr.size
      omega
end Go.Proofs.YtblfffbmklkhmaaGreat

namespace Go.Proofs.YtblfffbmklkhmaaGreat
open Go.RowKit
def dftN : PNd := ⟨0, -1, ⟨#[]⟩, ⟨#[]⟩, false, false, false, false, []⟩
/-- The node that a raw number speaks of. -/
def pickS (S : List PNd) (X : Int) : PNd := S.getD (pickZ X S.length) dftN
def nameOf (b : Nat) (Y : Int) : ByteArray := if pickZ Y 5 < 4 then letB (pickZ Y 5 + b) else ⟨#[]⟩
def markS (b : Nat) (S : List PNd) (kd X Y : Int) : List PNd := if kd = 6 then updS S (pickS S X).num (fun x => { x with name := nameOf b Y }) else updS S (pickS S X).num (fun x => x.setC (pickZ Y 4) (kd == 4))
theorem pick_node {w : World} {g : Nat} {px : Value} {a : Option Addr} {c made b : Nat} {ns : List GN} (h : GR w g px (.slice a ns.length c) made b ns) (h0 : 0 < ns.length) (X : Int) : ∃ n ∈ ns, pickS (ns.map GN.pl) X = n.pl ∧ ∃ r, a = some ⟨r, 0, none⟩ ∧ r < w.heap.size ∧ w.cell? ⟨r, pickZ X ns.length, none⟩ = some n.ptr := by
  have hlt := pickZ_lt X h0
  obtain ⟨r, hr, hrl, hc, _, _⟩ := h.at' hlt
  refine ⟨ns[pickZ X ns.length], List.getElem_mem hlt, ?_, r, hr, hrl, hc⟩
  unfold pickS
  rw [List.length_map, List.getD_eq_getElem?_getD, List.getElem?_map, List.getElem?_eq_getElem hlt]
  rfl
def KStepPost (DS : World → Value → Tree → Nat → (Nat → Mk) → List PRu → (Nat → Prop) → Prop) (w : World) (G : Nat → Prop) (g : Nat) (px : Value) (b : Nat) (S' : List PNd) (made' : Nat) (rs : List PRu) (e : Ending) (w' : World) : Prop :=
  e = .returned (.bool true) ∧ GQ DS w G w' g px made' b S' rs
/-- A node's cells, and that none is frozen. -/
theorem node_cells {w : World} {n : GN} (h : w.heap[n.b]? = some n.blk) : w.cell? ⟨n.b, 0, none⟩ = some (.int .i64 n.num) ∧ w.cell? ⟨n.b, 1, none⟩ = some (.int .i64 n.par) ∧ w.cell? ⟨n.b, 3, none⟩ = some (.string n.name) ∧ w.cell? ⟨n.b, 8, none⟩ = some n.ks ∧ (∀ k, w.frozen? ⟨n.b, k, none⟩ = false) ∧ n.b < w.heap.size :=
  ⟨cell_of_blk h rfl, cell_of_blk h rfl, cell_of_blk h rfl, cell_of_blk h rfl, fun _ => frozen_of_blk h, (Array.getElem?_eq_some_iff.1 h).1⟩
theorem GR.ne_node {w : World} {g : Nat} {px vl : Value} {made b : Nat} {ns : List GN} (h : GR w g px vl made b ns) {n : GN} (hn : n ∈ ns) : g ≠ n.b := fun e => by
  have h1 := h.blk
  rw [e, h.nd n hn] at h1
  injection h1 with h1
  injection h1 with _ h2 _
  exact absurd h2 (by decide)
theorem GR.named {w W2 : World} {g : Nat} {px vl : Value} {made b : Nat} {ns : List GN} (h : GR w g px vl made b ns) (hnn : (ns.map GN.num).Nodup) {n : GN} (hn : n ∈ ns) (s : ByteArray) (hblk : W2.heap[n.b]? = some ({ n with name := s } : GN).blk) (hoth : ∀ k, k < w.heap.size → k ≠ n.b → W2.heap[k]? = w.heap[k]?) : GR W2 g px vl made b (updG ns n.num fun x => { x with name := s }) :=
  h.put hnn hn (f := fun x => { x with name := s }) (fun _ => rfl) hblk hoth (own_keep (h.kid n hn) (fun k hk hl => hoth k hl (fun e => by
    rw [e] at hk
    exact own_ne_type (h.kid n hn) (h.nd n hn) (by decide) hk)))
theorem name_ends {DS : World → Value → Tree → Nat → (Nat → Mk) → List PRu → (Nat → Prop) → Prop} (hP : DocOK DS) {w W2 w3 : World} {g : Nat} {px vl : Value} {made b : Nat} {ns : List GN} {rs : List PRu} {Fg Fx : Nat → Prop} (h : GD DS w g px vl made b ns rs Fg Fx) {n : GN} (hn : n ∈ ns) (s : ByteArray) (hs : s.size = 0 ∨ isLetter s = true)
    (hgr : GR W2 g px vl made b (updG ns n.num fun x => { x with name := s })) (hfr : Fr w W2 Fg) {y : Int} (hy : y = namErr (treeS (ns.map GN.pl)) n.num s) (hds : DS w3 px (treeS (ns.map GN.pl)) made (if y = 0 then setM (mOf b (ns.map GN.pl)) ((n.num : Int)).toNat (namMk (mOf b (ns.map GN.pl) ((n.num : Int)).toNat) s) else mOf b (ns.map GN.pl)) rs (More Fx W2)) (hf3 : Fr W2 w3 Fx) :
    y = 0 ∧ GQ DS w (fun k => Fg k ∨ Fx k) w3 g px made b (updS (ns.map GN.pl) n.num fun x => { x with name := s }) rs := by
  have hnm : n.pl ∈ ns.map GN.pl := List.mem_map.2 ⟨n, hn, rfl⟩
  have hy0 : y = 0 := by
    rw [hy]
    unfold namErr
    have := treeS_find h.pw hnm
    rw [show (n.pl.num : Int) = (n.num : Int) from rfl] at this
    rw [this]
    show (if s.size ≠ 0 ∧ isLetter s = false then (4 : Int) else 0) = 0
    rw [if_neg]
    rintro ⟨h1, h2⟩
    rcases hs with hs | hs
    · exact h1 hs
    · rw [hs] at h2; cases h2
  refine ⟨hy0, ?_⟩
  rw [hy0, if_pos rfl] at hds
  have e1 : ((n.num : Int)).toNat = n.num := by omega
  rw [e1, show mOf b (ns.map GN.pl) n.num = mkS b n.pl from mOf_at h.pw.nums hnm] at hds
  exact gq_upd hP h hn (f := fun x => { x with name := s }) (f' := fun x => { x with name := s }) (fun _ => rfl) (fun _ => ⟨rfl, rfl⟩) (fun _ => ⟨rfl, rfl, rfl⟩) hgr hfr rfl hds hf3
section
set_option maxRecDepth 100000
set_option maxHeartbeats 1500000
variable {DS : World → Value → Tree → Nat → (Nat → Mk) → List PRu → (Nat → Prop) → Prop}
theorem kname_any (hP : DocOK DS) (w : World) (g : Nat) (px vl : Value) (made b : Nat) (ns : List GN) (rs : List PRu) (Fg Fx : Nat → Prop) (h : GD DS w g px vl made b ns rs Fg Fx) (X Y Z : Int) (hX : Fit X) (hY : Fit Y) (hb : b ≤ 25) :
    Calls Tryz.prog 70 #[.pointer (some ⟨g, 0, none⟩), .agg #[.int .i64 6, .int .i64 X, .int .i64 Y, .int .i64 Z]] w fun e w' => KStepPost DS w (fun k => Fg k ∨ Fx k) g px b (markS b (ns.map GN.pl) 6 X Y) made rs e w' := by
  obtain ⟨pa, rfl⟩ := hP.ptr h.ds
  obtain ⟨a, c, hv⟩ := own_shape h.gr.row
  subst hv
  have HP : Hid (DocOK DS) := hP
  have hlen := h.len
  obtain ⟨h0, hl⟩ := hlen
  obtain ⟨n, hn, hpk, r, hr, hrl, hrc⟩ := pick_node h.gr h0 X
  subst hr
  have HPK : Hid (pickS (ns.map GN.pl) X = n.pl) := hpk
  have HD : Hid (GD DS w g (.pointer (some pa)) (.slice (some ⟨r, 0, none⟩) ns.length c) made b ns rs Fg Fx ∧ n ∈ ns) := ⟨h, hn⟩
  have HB0 : Hid (∀ k, Below w.heap.size w ((w.alloc (.cells #[.int .i64 6, .int .i64 X, .int .i64 Y, .int .i64 Z] 78)).drewN k)) := fun k => below_draws ((Below.refl _ _).alloc (Nat.le_refl _) _) k
  have hgl := h.gr.lt
  have q1 := h.gr.c1
  have q3 := h.gr.c3
  obtain ⟨n0, _, n3, _, nf, hnb⟩ := node_cells (h.gr.nd n hn)
  have nf3 := nf 3
  have hpl : ((pickZ X ns.length : Nat) : Int) < (ns.length : Int) := by have := pickZ_lt X h0; omega
  have HPC : Hid (∀ k, Calls Tryz.prog 17 #[.int .i64 X, .int .i64 (ns.length : Int)] ((w.alloc (.cells #[.int .i64 6, .int .i64 X, .int .i64 Y, .int .i64 Z] 78)).drewN k) fun e w' => e = .returned (.int .i64 ((pickZ X ns.length : Nat) : Int)) ∧ w' = (w.alloc (.cells #[.int .i64 6, .int .i64 X, .int .i64 Y, .int .i64 Z] 78)).drewN k) := fun k => kpick_any _ X ns.length hX h0 (by omega)
  clear h hn hpk hP nf
  generalize pickZ X ns.length = xi at hrc hpl HPC
  go_enter Tryz.func70, Tryz.ntmps70
  go_upto_region 1 with fail
  go_quiet ((go_at_call 17; exact Calls.quiet_of_same (HPC.out _)))
  go_wp2_with fail
  refine (kpick_any _ Y 5 hY (by decide) (by decide)).mono ?_
  rintro e w1 ⟨rfl, rfl⟩
  have HB1 := HB0.out nq
  generalize (w.alloc (.cells #[.int .i64 6, .int .i64 X, .int .i64 Y, .int .i64 Z] 78)).drewN nq = W1 at HB1 ⊢
  have HGR1 := HD.out.1.gr.below HB1
  have hgl1 := HGR1.lt
  have u3 := HGR1.c3
  obtain ⟨_, _, m3, _, mf, hnb1⟩ := node_cells (HGR1.nd n HD.out.2)
  have mf3 := mf 3
  have hgn : g ≠ n.b := HGR1.ne_node HD.out.2
  have hgn' : n.b ≠ g := fun e => hgn e.symm
  have HB1h : Hid (Below w.heap.size w W1) := HB1
  clear q1 q3 n0 n3 nf3 hrc HGR1 mf HB1 HB0 HPC
  have hk5 : pickZ Y 5 < 5 := pickZ_lt Y (by decide)
  have hfrz : ∀ u v, (W1.setCell ⟨n.b, 3, none⟩ u).cell? ⟨n.b, 3, none⟩ = some v → True := fun _ _ _ => trivial
  clear hfrz
  have HA : Hid (∀ u, (W1.setCell ⟨n.b, 3, none⟩ (.string u)).heap[n.b]? = some ({ n with name := u } : GN).blk) := fun u => by
    have hb0 := (HD.out.1.gr.below HB1h.out).nd n HD.out.2
    unfold GN.blk at hb0 ⊢
    rw [heap_setCell_row hb0]; rfl
  have HAO : Hid (∀ u k, k < w.heap.size → k ≠ n.b → (W1.setCell ⟨n.b, 3, none⟩ u).heap[k]? = w.heap[k]?) := fun u k hk hne => (Below.heap_setCell W1 ⟨n.b, 3, none⟩ u k hne).trans (HB1h.out.block k hk)
  by_cases hk4 : pickZ Y 5 < 4
  · have d4 : decide (((pickZ Y 5 : Nat) : Int) < 4) = true := by simp; omega
    have HNM : Hid (nameOf b Y = letB (pickZ Y 5 + b)) := by unfold Hid nameOf; rw [if_pos hk4]
    have hk3 : pickZ Y 5 ≤ 3 := by omega
    generalize pickZ Y 5 = k at d4 HNM hk3 ⊢
    clear hk4 hk5
    go_wp2_with fail
    refine (kletter_any _ k b hk3 hb).mono ?_
    rintro e w2 ⟨rfl, hB2⟩
    have hz2 : W1.heap.size ≤ w2.heap.size := by have := hB2.size; simpa using this
    have hbk2 : w2.heap[n.b]? = some ({ n with name := ⟨#[]⟩ } : GN).blk := (hB2.block n.b (by simpa using hnb1)).trans (HA.out _)
    have v3 : w2.cell? ⟨n.b, 3, none⟩ = some (.string ⟨#[]⟩) := cell_of_blk hbk2 rfl
    have vf : w2.frozen? ⟨n.b, 3, none⟩ = false := frozen_of_blk hbk2
    have hnb2 : n.b < w2.heap.size := by omega
    obtain ⟨s, hs⟩ : ∃ s, letB (k + b) = s := ⟨_, rfl⟩
    rw [hs] at HNM ⊢
    have HS : Hid (s.size = 0 ∨ isLetter s = true) := Or.inr (by rw [← hs]; exact isLetter_letB _)
    have HBK : Hid ((w2.setCell ⟨n.b, 3, none⟩ (.string s)).heap[n.b]? = some ({ n with name := s } : GN).blk) := by
      unfold Hid
      unfold GN.blk at hbk2 ⊢
      rw [heap_setCell_row hbk2]; rfl
    have HOT : Hid (∀ k, k < w.heap.size → k ≠ n.b → (w2.setCell ⟨n.b, 3, none⟩ (.string s)).heap[k]? = w.heap[k]?) := fun k hk hne => (Below.heap_setCell w2 ⟨n.b, 3, none⟩ _ k hne).trans ((hB2.block k (by have := HB1h.out.size; simp; omega)).trans (HAO.out _ k hk hne))
    have HF2 : Hid (Fr w (w2.setCell ⟨n.b, 3, none⟩ (.string s)) Fg) := ((((Fr.refl w Fg).below HB1h.out).set (p := ⟨n.b, 3, none⟩) (Or.inl (HD.out.1.inn n HD.out.2)) _).below hB2).set (p := ⟨n.b, 3, none⟩) (Or.inl (HD.out.1.inn n HD.out.2)) _
    clear hB2 hbk2 hs m3 mf3 u3 HA HAO d4
    go_upto_region 7 with fail
    generalize w2.setCell ⟨n.b, 3, none⟩ (.string s) = W2 at HBK HOT HF2 ⊢
    clear v3 vf
    have HGR2 : Hid (GR W2 g (.pointer (some pa)) (.slice (some ⟨r, 0, none⟩) ns.length c) made b (updG ns n.num fun x => { x with name := s })) := HD.out.1.gr.named HD.out.1.gt.nums HD.out.2 s HBK.out HOT.out
    have HDS2 : Hid (DS W2.drew (.pointer (some pa)) (treeS (ns.map GN.pl)) made (mOf b (ns.map GN.pl)) rs Fx) := HP.out.keep HD.out.1.ds (fun k hk hl => HOT.out k hl (fun e => HD.out.1.gx k (by rw [e]; exact HD.out.1.inn n HD.out.2) hk)) HF2.out.size
    have HGR2d : Hid (GR W2.drew g (.pointer (some pa)) (.slice (some ⟨r, 0, none⟩) ns.length c) made b (updG ns n.num fun x => { x with name := s })) := HGR2.out.below (Below.refl _ _).drew
    have HF2d : Hid (Fr w W2.drew Fg) := ⟨HF2.out.os, HF2.out.tape, HF2.out.output, HF2.out.size, HF2.out.block⟩
    have HC : Hid (∀ wx, Fr W2.drew wx Fx → wx.cell? ⟨g, 0, none⟩ = some (.pointer (some pa)) ∧ wx.cell? ⟨n.b, 0, none⟩ = some (.int .i64 n.num) ∧ wx.cell? ⟨n.b, 3, none⟩ = some (.string s)) := fun wx hf => by
      have e1 : wx.heap[g]? = W2.heap[g]? := hf.block g HGR2.out.lt (HD.out.1.gx g HD.out.1.inb)
      have e2 : wx.heap[n.b]? = W2.heap[n.b]? := hf.block n.b (Array.getElem?_eq_some_iff.1 HBK.out).1 (HD.out.1.gx n.b (HD.out.1.inn n HD.out.2))
      exact ⟨cell_of_blk (e1.trans HGR2.out.blk) rfl, cell_of_blk (e2.trans HBK.out) rfl, cell_of_blk (e2.trans HBK.out) rfl⟩
    have H0 : Hid (Fr W2.drew W2.drew Fx) := Fr.refl _ _
    go_cut [7] (fun v wx => ∃ y : Int, v = .int .i64 y ∧ Hid (y = 0 ∧ GQ DS w (fun k => Fg k ∨ Fx k) wx g (.pointer (some pa)) made b (updS (ns.map GN.pl) n.num fun x => { x with name := s }) rs))
    case first =>
      go_region_held3 (fun w' => w'.cell? ⟨g, 0, none⟩ = some (.pointer (some pa)) ∧ w'.cell? ⟨n.b, 0, none⟩ = some (.int .i64 n.num) ∧ w'.cell? ⟨n.b, 3, none⟩ = some (.string s)) (first | exact HC.out _ H0.out | exact HC.out _ HX.out.1)
        (first | (go_at_call 21; refine (HP.out.nam _ (.pointer (some pa)) (treeS (ns.map GN.pl)) made (mOf b (ns.map GN.pl)) rs Fx n.num s HDS2.out).mono ?_; rintro e w5 ⟨y, rfl, hy, hds, hf5⟩; have HX : Hid (Fr W2.drew w5 Fx ∧ (y = 0 ∧ GQ DS w (fun k => Fg k ∨ Fx k) w5 g (.pointer (some pa)) made b (updS (ns.map GN.pl) n.num fun x => { x with name := s }) rs)) := ⟨hf5, name_ends HP.out HD.out.1 HD.out.2 s HS.out HGR2d.out HF2d.out hy hds hf5⟩; clear hy hds hf5))
      all_goals
        go_wp2_with fail
        go_meet
        exact ⟨y, rfl, HX.out.2⟩
    case rest =>
      obtain ⟨y, rfl, HY⟩ := hcut
      have HR : Hid (KStepPost DS w (fun k => Fg k ∨ Fx k) g (.pointer (some pa)) b (markS b (ns.map GN.pl) 6 X Y) made rs (.returned (.bool true)) wc) := by
        refine ⟨rfl, ?_⟩
        unfold markS
        rw [if_pos rfl, HPK.out, HNM.out]
        exact HY.out.2
      have gy : (y == 0) = true := by simp [HY.out.1]
      clear HY
      go_wp2
      go_ret
      exact HR.out
  · have d4 : decide (((pickZ Y 5 : Nat) : Int) < 4) = false := by simp; omega
    have HNM0 : Hid (nameOf b Y = ⟨#[]⟩) := by unfold Hid nameOf; rw [if_neg hk4]
    generalize pickZ Y 5 = k at d4 ⊢
    clear hk4 hk5
    go_upto_region 7 with fail
    obtain ⟨s, hs⟩ : ∃ s : ByteArray, (⟨#[]⟩ : ByteArray) = s := ⟨_, rfl⟩
    have HNM : Hid (nameOf b Y = s) := by unfold Hid; rw [HNM0.out, hs]
    have HS : Hid (s.size = 0 ∨ isLetter s = true) := Or.inl (by rw [← hs]; rfl)
    have HBK : Hid ((W1.setCell ⟨n.b, 3, none⟩ (.string s)).heap[n.b]? = some ({ n with name := s } : GN).blk) := HA.out s
    have HOT : Hid (∀ k, k < w.heap.size → k ≠ n.b → (W1.setCell ⟨n.b, 3, none⟩ (.string s)).heap[k]? = w.heap[k]?) := HAO.out _
    have HF2 : Hid (Fr w (W1.setCell ⟨n.b, 3, none⟩ (.string s)) Fg) := ((Fr.refl w Fg).below HB1h.out).set (p := ⟨n.b, 3, none⟩) (Or.inl (HD.out.1.inn n HD.out.2)) _
    rw [hs]
    clear hs HNM0 m3 mf3 u3 HA HAO d4
    generalize W1.setCell ⟨n.b, 3, none⟩ (.string s) = W2 at HBK HOT HF2 ⊢
    have HGR2 : Hid (GR W2 g (.pointer (some pa)) (.slice (some ⟨r, 0, none⟩) ns.length c) made b (updG ns n.num fun x => { x with name := s })) := HD.out.1.gr.named HD.out.1.gt.nums HD.out.2 s HBK.out HOT.out
    have HDS2 : Hid (DS W2.drew (.pointer (some pa)) (treeS (ns.map GN.pl)) made (mOf b (ns.map GN.pl)) rs Fx) := HP.out.keep HD.out.1.ds (fun k hk hl => HOT.out k hl (fun e => HD.out.1.gx k (by rw [e]; exact HD.out.1.inn n HD.out.2) hk)) HF2.out.size
    have HGR2d : Hid (GR W2.drew g (.pointer (some pa)) (.slice (some ⟨r, 0, none⟩) ns.length c) made b (updG ns n.num fun x => { x with name := s })) := HGR2.out.below (Below.refl _ _).drew
    have HF2d : Hid (Fr w W2.drew Fg) := ⟨HF2.out.os, HF2.out.tape, HF2.out.output, HF2.out.size, HF2.out.block⟩
    have HC : Hid (∀ wx, Fr W2.drew wx Fx → wx.cell? ⟨g, 0, none⟩ = some (.pointer (some pa)) ∧ wx.cell? ⟨n.b, 0, none⟩ = some (.int .i64 n.num) ∧ wx.cell? ⟨n.b, 3, none⟩ = some (.string s)) := fun wx hf => by
      have e1 : wx.heap[g]? = W2.heap[g]? := hf.block g HGR2.out.lt (HD.out.1.gx g HD.out.1.inb)
      have e2 : wx.heap[n.b]? = W2.heap[n.b]? := hf.block n.b (Array.getElem?_eq_some_iff.1 HBK.out).1 (HD.out.1.gx n.b (HD.out.1.inn n HD.out.2))
      exact ⟨cell_of_blk (e1.trans HGR2.out.blk) rfl, cell_of_blk (e2.trans HBK.out) rfl, cell_of_blk (e2.trans HBK.out) rfl⟩
    have H0 : Hid (Fr W2.drew W2.drew Fx) := Fr.refl _ _
    go_cut [7] (fun v wx => ∃ y : Int, v = .int .i64 y ∧ Hid (y = 0 ∧ GQ DS w (fun k => Fg k ∨ Fx k) wx g (.pointer (some pa)) made b (updS (ns.map GN.pl) n.num fun x => { x with name := s }) rs))
    case first =>
      go_region_held3 (fun w' => w'.cell? ⟨g, 0, none⟩ = some (.pointer (some pa)) ∧ w'.cell? ⟨n.b, 0, none⟩ = some (.int .i64 n.num) ∧ w'.cell? ⟨n.b, 3, none⟩ = some (.string s)) (first | exact HC.out _ H0.out | exact HC.out _ HX.out.1)
        (first | (go_at_call 21; refine (HP.out.nam _ (.pointer (some pa)) (treeS (ns.map GN.pl)) made (mOf b (ns.map GN.pl)) rs Fx n.num s HDS2.out).mono ?_; rintro e w5 ⟨y, rfl, hy, hds, hf5⟩; have HX : Hid (Fr W2.drew w5 Fx ∧ (y = 0 ∧ GQ DS w (fun k => Fg k ∨ Fx k) w5 g (.pointer (some pa)) made b (updS (ns.map GN.pl) n.num fun x => { x with name := s }) rs)) := ⟨hf5, name_ends HP.out HD.out.1 HD.out.2 s HS.out HGR2d.out HF2d.out hy hds hf5⟩; clear hy hds hf5))
      all_goals
        go_wp2_with fail
        go_meet
        exact ⟨y, rfl, HX.out.2⟩
    case rest =>
      obtain ⟨y, rfl, HY⟩ := hcut
      have HR : Hid (KStepPost DS w (fun k => Fg k ∨ Fx k) g (.pointer (some pa)) b (markS b (ns.map GN.pl) 6 X Y) made rs (.returned (.bool true)) wc) := by
        refine ⟨rfl, ?_⟩
        unfold markS
        rw [if_pos rfl, HPK.out, HNM.out]
        exact HY.out.2
      have gy : (y == 0) = true := by simp [HY.out.1]
      clear HY
      go_wp2
      go_ret
      exact HR.out
end
end Go.Proofs.YtblfffbmklkhmaaGreat
