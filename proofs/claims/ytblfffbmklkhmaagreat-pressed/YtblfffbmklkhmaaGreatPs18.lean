/- Own work. -/
import Derived.Test.YtblfffbmklkhmaaGreatPs17
import Derived.BigQuiet
namespace Go.Proofs.YtblfffbmklkhmaaGreat
open Go.RowKit
/-- A grove with its document: both lie in sets of their own. -/
structure GD (DS : World → Value → Tree → Nat → (Nat → Mk) → List PRu → (Nat → Prop) → Prop) (w : World) (g : Nat) (px vl : Value) (made b : Nat) (ns : List GN) (rs : List PRu) (Fg Fx : Nat → Prop) : Prop where
  gr : GR w g px vl made b ns
  pw : PW (ns.map GN.pl) made
  ds : DS w px (treeS (ns.map GN.pl)) made (mOf b (ns.map GN.pl)) rs Fx
  inb : Fg g
  inn : ∀ n ∈ ns, Fg n.b
  inl : ∀ j, vl.ownBlock = some j → Fg j
  ink : ∀ n ∈ ns, ∀ j, n.ks.ownBlock = some j → Fg j
  gx : ∀ k, Fg k → ¬ Fx k
  here : ∀ k, Fg k ∨ Fx k → k < w.heap.size
/-- The same, since a world w0, within G. -/
def GQ (DS : World → Value → Tree → Nat → (Nat → Mk) → List PRu → (Nat → Prop) → Prop) (w0 : World) (G : Nat → Prop) (w : World) (g : Nat) (px : Value) (made b : Nat) (S : List PNd) (rs : List PRu) : Prop :=
  ∃ vl ns Fg Fx, S = ns.map GN.pl ∧ GD DS w g px vl made b ns rs Fg Fx ∧ (∀ k, Fg k ∨ Fx k → G k ∨ w0.heap.size ≤ k) ∧ Fr w0 w G
section
variable {DS : World → Value → Tree → Nat → (Nat → Mk) → List PRu → (Nat → Prop) → Prop} {w w' : World} {g : Nat} {px vl : Value} {made b : Nat} {ns : List GN} {rs : List PRu} {Fg Fx : Nat → Prop}
theorem GD.gt (h : GD DS w g px vl made b ns rs Fg Fx) : GT ns (treeS (ns.map GN.pl)) made := by
  have e : treeS (ns.map GN.pl) = ns.map fun n => (n.num, n.kids) := by unfold treeS; rw [List.map_map]; rfl
  refine ⟨e, h.pw.tw, fun n hn => ?_, by have := h.pw.few; simpa using this⟩
  exact h.pw.par n.pl (List.mem_map.2 ⟨n, hn, rfl⟩)
/-- All that belongs to it is as it was. -/
theorem GR.keep (h : GR w g px vl made b ns) (hk : ∀ k, k < w.heap.size → (k = g ∨ (∃ n ∈ ns, k = n.b) ∨ vl.ownBlock = some k ∨ ∃ n ∈ ns, n.ks.ownBlock = some k) → w'.heap[k]? = w.heap[k]?) : GR w' g px vl made b ns :=
  ⟨(hk g h.lt (Or.inl rfl)).trans h.blk, own_keep h.row (fun k hv hl => hk k hl (Or.inr (Or.inr (Or.inl hv)))), fun n hn => (hk n.b (Array.getElem?_eq_some_iff.1 (h.nd n hn)).1 (Or.inr (Or.inl ⟨n, hn, rfl⟩))).trans (h.nd n hn), fun n hn => own_keep (h.kid n hn) (fun k hv hl => hk k hl (Or.inr (Or.inr (Or.inr ⟨n, hn, hv⟩))))⟩
theorem GD.mine (h : GD DS w g px vl made b ns rs Fg Fx) {k : Nat} (hk : k = g ∨ (∃ n ∈ ns, k = n.b) ∨ vl.ownBlock = some k ∨ ∃ n ∈ ns, n.ks.ownBlock = some k) : Fg k := by
  rcases hk with rfl | ⟨n, hn, rfl⟩ | hk | ⟨n, hn, hk⟩
  · exact h.inb
  · exact h.inn n hn
  · exact h.inl k hk
  · exact h.ink n hn k hk
theorem GD.below (hP : DocOK DS) (h : GD DS w g px vl made b ns rs Fg Fx) (hB : Below w.heap.size w w') : GD DS w' g px vl made b ns rs Fg Fx :=
  ⟨h.gr.below hB, h.pw, hP.keep h.ds (fun k _ hl => hB.block k hl) hB.size, h.inb, h.inn, h.inl, h.ink, h.gx, fun k hk => Nat.lt_of_lt_of_le (h.here k hk) hB.size⟩
theorem GD.gq (h : GD DS w g px vl made b ns rs Fg Fx) : GQ DS w (fun k => Fg k ∨ Fx k) w g px made b (ns.map GN.pl) rs := ⟨vl, ns, Fg, Fx, rfl, h, fun _ hk => Or.inl hk, Fr.refl w _⟩
theorem GD.len (h : GD DS w g px vl made b ns rs Fg Fx) : 0 < ns.length ∧ ns.length ≤ 24 := by
  obtain ⟨l, hl⟩ := h.pw.tw.root
  obtain ⟨x, hx, _, _⟩ := of_treeS hl
  have h1 := List.length_pos_of_mem hx
  have h2 := h.pw.few
  simp at h1 h2
  exact ⟨h1, h2⟩
/-- Nothing else than the grove's and the document's memory has been turned: another grove is as it was. -/
theorem GD.apart (hP : DocOK DS) (h : GD DS w g px vl made b ns rs Fg Fx) {G : Nat → Prop} (hf : Fr w w' G) (hd : ∀ k, Fg k ∨ Fx k → ¬ G k) : GD DS w' g px vl made b ns rs Fg Fx :=
  ⟨h.gr.keep (fun k hl hk => hf.block k hl (hd k (Or.inl (h.mine hk)))), h.pw, hP.keep h.ds (fun k hk hl => hf.block k hl (hd k (Or.inr hk))) hf.size, h.inb, h.inn, h.inl, h.ink, h.gx, fun k hk => Nat.lt_of_lt_of_le (h.here k hk) hf.size⟩
def updG (ns : List GN) (k : Nat) (f : GN → GN) : List GN := ns.map fun n => if n.num = k then f n else n
theorem updG_ptr (k : Nat) {f : GN → GN} (hb : ∀ x, (f x).b = x.b) : (updG ns k f).map GN.ptr = ns.map GN.ptr := by
  unfold updG
  rw [List.map_map]
  apply List.map_congr_left
  intro x _
  show GN.ptr (if x.num = k then f x else x) = x.ptr
  split
  · show Value.pointer (some ⟨(f x).b, 0, none⟩) = _; rw [hb]
  · rfl
theorem updG_pl (k : Nat) {f : GN → GN} {f' : PNd → PNd} (hf : ∀ x, (f x).pl = f' x.pl) : (updG ns k f).map GN.pl = updS (ns.map GN.pl) k f' := by
  unfold updG updS
  rw [List.map_map, List.map_map]
  apply List.map_congr_left
  intro x _
  show GN.pl (if x.num = k then f x else x) = if x.num = k then f' x.pl else x.pl
  split
  · exact hf x
  · rfl
theorem updG_len (k : Nat) (f : GN → GN) : (updG ns k f).length = ns.length := by unfold updG; simp
theorem GR.put (h : GR w g px vl made b ns) (hnn : (ns.map GN.num).Nodup) {n : GN} (hn : n ∈ ns) {f : GN → GN} (hb : ∀ x, (f x).b = x.b) (hblk : w'.heap[n.b]? = some (f n).blk) (hoth : ∀ k, k < w.heap.size → k ≠ n.b → w'.heap[k]? = w.heap[k]?)
    (hks : w'.ownsRow 0 3 1 (f n).ks (f n).kids.length (ints (f n).kids)) : GR w' g px vl made b (updG ns n.num f) := by
  have hnb := h.nd n hn
  have hg : g ≠ n.b := fun e => by
    have h1 := h.blk
    rw [e, hnb] at h1
    injection h1 with h1
    injection h1 with _ h2 _
    exact absurd h2 (by decide)
  have keepk : ∀ {e : TypeId} {v : Value} {m : Nat} {xs : List Value}, w.ownsRow 0 e 1 v m xs → e ≠ 42 → w'.ownsRow 0 e 1 v m xs := fun ho he => own_keep ho (fun k hv hl => hoth k hl (fun ek => by
    rw [ek] at hv
    exact own_ne_type ho hnb (Ne.symm he) hv))
  refine ⟨(hoth g h.lt hg).trans h.blk, ?_, fun x hx => ?_, fun x hx => ?_⟩
  · rw [updG_ptr _ hb, updG_len]
    exact keepk h.row (by decide)
  · obtain ⟨y, hy, rfl⟩ := List.mem_map.1 hx
    by_cases he : y.num = n.num
    · have := gn_inj hnn hy hn he
      subst this
      rw [if_pos rfl, hb]
      exact hblk
    · rw [if_neg he]
      have hyb := h.nd y hy
      refine (hoth y.b (Array.getElem?_eq_some_iff.1 hyb).1 (fun e => ?_)).trans hyb
      rw [e, hnb] at hyb
      unfold GN.blk at hyb
      simp at hyb
      exact he (by have := hyb.1; omega)
  · obtain ⟨y, hy, rfl⟩ := List.mem_map.1 hx
    by_cases he : y.num = n.num
    · have := gn_inj hnn hy hn he
      subst this
      rw [if_pos rfl]
      exact hks
    · rw [if_neg he]
      exact keepk (h.kid y hy) (by decide)
end
end Go.Proofs.YtblfffbmklkhmaaGreat

namespace Go.Proofs.YtblfffbmklkhmaaGreat
open Go.RowKit
theorem bt_letB (k : Nat) : bt (letB k) 0 = 97 + k % 26 := by
  have h : k % 26 < 26 := Nat.mod_lt _ (by decide)
  show (UInt8.ofNat (97 + k % 26)).toNat = _
  rw [UInt8.toNat_ofNat']
  omega
theorem size_letB (k : Nat) : (letB k).size = 1 := rfl
theorem isLetter_letB (k : Nat) : isLetter (letB k) = true := by
  have h : k % 26 < 26 := Nat.mod_lt _ (by decide)
  unfold isLetter isL
  rw [bt_letB, size_letB]
  simp
  omega
def PNd.setC (x : PNd) (k : Nat) (on : Bool) : PNd := if k = 0 then { x with c0 := on } else if k = 1 then { x with c1 := on } else if k = 2 then { x with c2 := on } else { x with c3 := on }
def GN.setC (x : GN) (k : Nat) (on : Bool) : GN := if k = 0 then { x with c0 := on } else if k = 1 then { x with c1 := on } else if k = 2 then { x with c2 := on } else { x with c3 := on }
theorem setC_pl (x : GN) (k : Nat) (on : Bool) : (x.setC k on).pl = x.pl.setC k on := by unfold GN.setC PNd.setC; (repeat' split) <;> rfl
theorem setC_b (x : GN) (k : Nat) (on : Bool) : (x.setC k on).b = x.b := by unfold GN.setC; (repeat' split) <;> rfl
theorem setC_num (x : PNd) (k : Nat) (on : Bool) : (x.setC k on).num = x.num ∧ (x.setC k on).kids = x.kids ∧ (x.setC k on).par = x.par := by unfold PNd.setC; (repeat' split) <;> exact ⟨rfl, rfl, rfl⟩
theorem mkS_setC (b : Nat) (x : PNd) {k : Nat} (hk : k < 4) (on : Bool) : mkS b (x.setC k on) = clsMk (mkS b x) (letB (k + b)) on := by
  have e : bt (letB (k + b)) 0 = 97 + (k + b) % 26 := bt_letB _
  have hcl : clS b (x.setC k on) = fun i => if i + 97 = bt (letB (k + b)) 0 then on else clS b x i := by
    funext i
    rw [e]
    have h0 : i + 97 = 97 + (k + b) % 26 ↔ i = (k + b) % 26 := by omega
    simp only [h0]
    unfold clS PNd.setC
    have hk4 : k = 0 ∨ k = 1 ∨ k = 2 ∨ k = 3 := by omega
    rcases hk4 with rfl | rfl | rfl | rfl
    · by_cases hi : i = (0 + b) % 26
      · have d1 : ¬ i = (1 + b) % 26 := by omega
        have d2 : ¬ i = (2 + b) % 26 := by omega
        have d3 : ¬ i = (3 + b) % 26 := by omega
        have d0 : i = b % 26 := by omega
        rw [if_pos hi]
        simp only [d1, d2, d3, decide_false, Bool.false_and, Bool.or_false, Bool.true_and, if_pos, decide_eq_true d0]
      · have d0 : ¬ i = b % 26 := by omega
        rw [if_neg hi]
        simp only [d0, decide_false, Bool.false_and, Bool.false_or, if_pos]
    · by_cases hi : i = (1 + b) % 26
      · have d0 : ¬ i = b % 26 := by omega
        have d2 : ¬ i = (2 + b) % 26 := by omega
        have d3 : ¬ i = (3 + b) % 26 := by omega
        rw [if_pos hi]
        simp [d0, d2, d3, ← hi]
      · rw [if_neg hi]
        simp [hi]
    · by_cases hi : i = (2 + b) % 26
      · have d0 : ¬ i = b % 26 := by omega
        have d1 : ¬ i = (1 + b) % 26 := by omega
        have d3 : ¬ i = (3 + b) % 26 := by omega
        rw [if_pos hi]
        simp [d0, d1, d3, ← hi]
      · rw [if_neg hi]
        simp [hi]
    · by_cases hi : i = (3 + b) % 26
      · have d0 : ¬ i = b % 26 := by omega
        have d1 : ¬ i = (1 + b) % 26 := by omega
        have d2 : ¬ i = (2 + b) % 26 := by omega
        rw [if_pos hi]
        simp [d0, d1, d2, ← hi]
      · rw [if_neg hi]
        simp [hi]
  unfold clsMk mkS
  rw [hcl]
  have hkd : (x.setC k on).kind = x.kind := by unfold PNd.setC; (repeat' split) <;> rfl
  have hnm : (x.setC k on).name = x.name := by unfold PNd.setC; (repeat' split) <;> rfl
  rw [hkd, hnm]
section
variable {S : List PNd} {made b : Nat}
theorem upd_same_tree {k : Nat} {f : PNd → PNd} (hf : ∀ x, (f x).num = x.num ∧ (f x).kids = x.kids) : treeS (updS S k f) = treeS S := by
  unfold treeS updS
  rw [List.map_map]
  apply List.map_congr_left
  intro x _
  show ((if x.num = k then f x else x).num, (if x.num = k then f x else x).kids) = (x.num, x.kids)
  split
  · rw [(hf x).1, (hf x).2]
  · rfl
theorem PW.upd (h : PW S made) {k : Nat} {f : PNd → PNd} (hf : ∀ x, (f x).num = x.num ∧ (f x).kids = x.kids ∧ (f x).par = x.par) : PW (updS S k f) made := by
  have e := upd_same_tree (S := S) (k := k) (f := f) (fun x => ⟨(hf x).1, (hf x).2.1⟩)
  refine ⟨by rw [e]; exact h.tw, fun y hy => ?_, by rw [updS_len]; exact h.few⟩
  obtain ⟨x, hx, rfl⟩ := mem_updS.1 hy
  rw [e]
  split
  · rw [(hf x).1, (hf x).2.2]; exact h.par x hx
  · exact h.par x hx
theorem upd_marks (h : PW S made) {n : PNd} (hn : n ∈ S) {f : PNd → PNd} (hf : ∀ x, (f x).num = x.num ∧ (f x).kids = x.kids ∧ (f x).par = x.par) {m : Mk} (hm : mkS b (f n) = m) : ∀ k l, (k, l) ∈ treeS S → setM (mOf b S) n.num m k = mOf b (updS S n.num f) k := by
  intro k l hkl
  have hP : PW (updS S n.num f) made := h.upd hf
  obtain ⟨x, hx, rfl, _⟩ := of_treeS hkl
  have hy : (if x.num = n.num then f x else x) ∈ updS S n.num f := mem_updS.2 ⟨x, hx, rfl⟩
  have e : (if x.num = n.num then f x else x).num = x.num := by
    split
    · exact (hf x).1
    · rfl
  have h1 := mOf_at (b := b) hP.nums hy
  rw [e] at h1
  rw [h1]
  unfold setM
  by_cases he : x.num = n.num
  · rw [if_pos he, if_pos he]
    have hxn : x = n := by
      have a1 := pnd_find h.nums hx
      have a2 := pnd_find h.nums hn
      rw [he] at a1
      rw [a1] at a2
      injection a2
    rw [hxn, hm]
  · rw [if_neg he, if_neg he, mOf_at h.nums hx]
end
/-- The blocks that a grove holds. -/
def fpG (g : Nat) (vl : Value) (ns : List GN) (k : Nat) : Prop := k = g ∨ (∃ n ∈ ns, k = n.b) ∨ vl.ownBlock = some k ∨ ∃ n ∈ ns, n.ks.ownBlock = some k
theorem GR.fp {w : World} {g : Nat} {px vl : Value} {made b : Nat} {ns : List GN} (h : GR w g px vl made b ns) {k : Nat} (hk : fpG g vl ns k) : k < w.heap.size := by
  rcases hk with rfl | ⟨n, hn, rfl⟩ | hk | ⟨n, hn, hk⟩
  · exact h.lt
  · exact (Array.getElem?_eq_some_iff.1 (h.nd n hn)).1
  · exact (h.row.lt k hk).2
  · exact ((h.kid n hn).lt k hk).2
theorem gq_close {DS : World → Value → Tree → Nat → (Nat → Mk) → List PRu → (Nat → Prop) → Prop} (hP : DocOK DS) {w w3 : World} {g : Nat} {px : Value} {made2 b : Nat} {ns2 : List GN} {vl2 : Value} {rs : List PRu} {Fg Fx Fx2 : Nat → Prop} {S' : List PNd} (hS : S' = ns2.map GN.pl)
    (hgr : GR w3 g px vl2 made2 b ns2) (hpw : PW S' made2) (hds : DS w3 px (treeS S') made2 (mOf b S') rs Fx2) (hfr : Fr w w3 (fun k => Fg k ∨ Fx k)) (h1 : ∀ k, fpG g vl2 ns2 k → Fg k ∨ w.heap.size ≤ k) (h2 : ∀ k, Fx2 k → Fx k ∨ w.heap.size ≤ k) (hd : ∀ k, fpG g vl2 ns2 k → ¬ Fx2 k) :
    GQ DS w (fun k => Fg k ∨ Fx k) w3 g px made2 b S' rs := by
  subst hS
  refine ⟨vl2, ns2, fpG g vl2 ns2, fun k => Fx2 k ∧ k < w3.heap.size, rfl, ⟨hgr, hpw, hP.here hds, Or.inl rfl, fun n hn => Or.inr (Or.inl ⟨n, hn, rfl⟩), fun j hj => Or.inr (Or.inr (Or.inl hj)), fun n hn j hj => Or.inr (Or.inr (Or.inr ⟨n, hn, hj⟩)), fun k hk hx => hd k hk hx.1, fun k hk => ?_⟩, fun k hk => ?_, hfr⟩
  · exact hk.elim hgr.fp (fun h => h.2)
  · rcases hk with hk | hk
    · exact (h1 k hk).imp Or.inl id
    · exact (h2 k hk.1).imp Or.inr id
/-- One node is written, then the document turns: the grove with its document. -/
theorem gq_upd {DS : World → Value → Tree → Nat → (Nat → Mk) → List PRu → (Nat → Prop) → Prop} (hP : DocOK DS) {w W2 w3 : World} {g : Nat} {px vl : Value} {made b : Nat} {ns : List GN} {rs : List PRu} {Fg Fx : Nat → Prop} (h : GD DS w g px vl made b ns rs Fg Fx) {n : GN} (hn : n ∈ ns) {f : GN → GN} {f' : PNd → PNd} (hf : ∀ x, (f x).pl = f' x.pl) (hfb : ∀ x, (f x).b = x.b ∧ (f x).ks = x.ks)
    (hf' : ∀ x, (f' x).num = x.num ∧ (f' x).kids = x.kids ∧ (f' x).par = x.par) (hgr : GR W2 g px vl made b (updG ns n.num f)) (hfr : Fr w W2 Fg) {m : Mk} (hm : mkS b (f' n.pl) = m) (hds : DS w3 px (treeS (ns.map GN.pl)) made (setM (mOf b (ns.map GN.pl)) n.num m) rs (More Fx W2)) (hf3 : Fr W2 w3 Fx) :
    GQ DS w (fun k => Fg k ∨ Fx k) w3 g px made b (updS (ns.map GN.pl) n.num f') rs := by
  have hpl := updG_pl (ns := ns) n.num hf
  have hnm : n.pl ∈ ns.map GN.pl := List.mem_map.2 ⟨n, hn, rfl⟩
  have hmem : ∀ k, fpG g vl (updG ns n.num f) k → Fg k := fun k hk => by
    rcases hk with rfl | ⟨y, hy, rfl⟩ | hk | ⟨y, hy, hk⟩
    · exact h.inb
    · obtain ⟨x, hx, rfl⟩ := List.mem_map.1 hy
      split
      · rw [(hfb x).1]; exact h.inn x hx
      · exact h.inn x hx
    · exact h.inl k hk
    · obtain ⟨x, hx, rfl⟩ := List.mem_map.1 hy
      by_cases he : x.num = n.num
      · rw [if_pos he, (hfb x).2] at hk; exact h.ink x hx k hk
      · rw [if_neg he] at hk; exact h.ink x hx k hk
  have htr : treeS (updS (ns.map GN.pl) n.num f') = treeS (ns.map GN.pl) := upd_same_tree (fun x => ⟨(hf' x).1, (hf' x).2.1⟩)
  refine gq_close hP hpl.symm (hgr.keep (fun k hl hk => hf3.block k hl (h.gx k (hmem k hk)))) (h.pw.upd hf') (Fx2 := More Fx W2) ?_ ((hfr.mono (fun k hk => Or.inl hk)).trans (hf3.mono (fun k hk => Or.inr hk))) (fun k hk => Or.inl (hmem k hk)) (fun k hk => hk.imp id (fun hk => Nat.le_trans hfr.size hk)) (fun k hk hx => ?_)
  · rw [htr]
    exact hP.mark hds (upd_marks h.pw hnm hf' hm)
  · rcases hx with hx | hx
    · exact h.gx k (hmem k hk) hx
    · have := h.here k (Or.inl (hmem k hk))
      have := hfr.size
      omega
end Go.Proofs.YtblfffbmklkhmaaGreat
