/- Own work. -/
import Derived.Test.YtblfffbmklkhmaaGreatAw27
import Derived.Test.YtblfffbmklkhmaaGreatAw29
import Derived.Test.YtblfffbmklkhmaaGreatAw30
import Derived.Test.YtblfffbmklkhmaaGreatAw31
namespace Go.Proofs.YtblfffbmklkhmaaGreat
open Go.RowKit
/-- What a document of the program holds, in memory. -/
structure DM (w : World) (b : Nat) (vS : Value × Value) (v : Value) (els : List PEl) (T : Tree) (made : Nat) (M : Nat → Mk) (rs : List PRu) (kl : List (Int × List Int)) (G : Nat → Prop) : Prop where
  pb : PB3 w b vS v els T made
  tw : TW T made
  mks : MkO els M
  sh : SheetIn w G vS.1 rs
  kp : KL w vS.2 kl
  few : kl.length ≤ 24
  gl : ∀ k, G k → k < w.heap.size
  gb : ¬ G b
  gv : ∀ j, v.ownBlock = some j → ¬ G j
  gk : ∀ j, vS.2.ownBlock = some j → ¬ G j
theorem own_keepW {w w' : World} {e : TypeId} {sz : Nat} {v : Value} {n : Nat} {xs : List Value} (h : w.ownsRow 0 e sz v n xs) (hk : ∀ k, v.ownBlock = some k → k < w.heap.size → w'.heap[k]? = w.heap[k]?) : w'.ownsRow 0 e sz v n xs := by
  refine ⟨h.1, ?_⟩
  rcases h.2 with hn | ⟨g, cap, cur, hv, hb, hg, rest⟩
  · exact Or.inl hn
  · exact Or.inr ⟨g, cap, cur, hv, hb, (hk g (by rw [hv]; rfl) (Array.getElem?_eq_some_iff.1 hg).1).trans hg, rest⟩
/-- What is kept is another list: the document's fourth cell is written. -/
theorem PB3.drop {w : World} {b : Nat} {vS : Value × Value} {v : Value} {els : List PEl} {T : Tree} {made : Nat} (h : PB3 w b vS v els T made) (u : Value) : PB3 (w.setCell ⟨b, 3, none⟩ u) b (vS.1, u) v els T made := by
  refine ⟨?_, ⟨own_set h.pl.row (own_ne_type h.pl.row h.doc (by decide)) _, h.pl.ok⟩, h.pt, h.few⟩
  rw [heap_setCell_row h.doc]; rfl
section
variable {w w' : World} {b : Nat} {vS : Value × Value} {v : Value} {els : List PEl} {T : Tree} {made : Nat} {M : Nat → Mk} {rs : List PRu} {kl : List (Int × List Int)} {G : Nat → Prop}
theorem DM.lt (h : DM w b vS v els T made M rs kl G) : b < w.heap.size := (Array.getElem?_eq_some_iff.1 h.pb.doc).1
theorem DM.below (h : DM w b vS v els T made M rs kl G) (hB : Below w.heap.size w w') : DM w' b vS v els T made M rs kl G :=
  ⟨h.pb.below hB, h.tw, h.mks, h.sh.keep (fun k _ hl => hB.block k hl) hB.size, h.kp.below hB, h.few, fun k hk => Nat.lt_of_lt_of_le (h.gl k hk) hB.size, h.gb, h.gv, h.gk⟩
theorem DM.trd {a : Option Addr} {c : Nat} (h : DM w b vS (.slice a els.length c) els T made M rs kl G) : TRd w b a c els := ⟨h.pb.c1, h.pb.pl, h.pb.few, h.pb.pt.nums, h.mks.2⟩
theorem DM.kept_ne (h : DM w b vS v els T made M rs kl G) : vS.2.ownBlock ≠ some b := own_ne_type h.kp.row h.pb.doc (by decide)
/-- The tree is another one: the document's block is written, and new memory. -/
theorem DM.tree (h : DM w b vS v els T made M rs kl G) {v' : Value} {els' : List PEl} {T' : Tree} {made' : Nat} {M' : Nat → Mk} (hp : PB3 w' b vS v' els' T' made') (hw : TW T' made') (hm : MkO els' M') (hf : Fr w w' (fun k => k = b)) (hv : ∀ j, v'.ownBlock = some j → v.ownBlock = some j ∨ w.heap.size ≤ j) : DM w' b vS v' els' T' made' M' rs kl G := by
  refine ⟨hp, hw, hm, h.sh.keep (fun k hg hl => hf.block k hl (fun e => h.gb (e ▸ hg))) hf.size, ⟨own_keepW h.kp.row (fun k hk hl => hf.block k hl (fun e => h.kept_ne (e ▸ hk))), h.kp.nine⟩, h.few, fun k hk => Nat.lt_of_lt_of_le (h.gl k hk) hf.size, h.gb, fun j hj hg => ?_, h.gk⟩
  rcases hv j hj with h1 | h1
  · exact h.gv j h1 hg
  · have := h.gl j hg; omega
/-- Cells of the elements are written, where they lie. -/
theorem DM.inpl (h : DM w b vS v els T made M rs kl G) {els' : List PEl} {M' : Nat → Mk} (hp : PB3 w' b vS v els' T made) (hm : MkO els' M') (hf : Fr w w' (fun k => v.ownBlock = some k)) : DM w' b vS v els' T made M' rs kl G := by
  refine ⟨hp, h.tw, hm, h.sh.keep (fun k hg hl => hf.block k hl (fun e => h.gv k e hg)) hf.size, ⟨own_keepW h.kp.row (fun k hk hl => hf.block k hl (fun e => ?_)), h.kp.nine⟩, h.few, fun k hk => Nat.lt_of_lt_of_le (h.gl k hk) hf.size, h.gb, h.gv, h.gk⟩
  obtain ⟨a, c, rfl⟩ := h.pb.pl.shape
  cases a with
  | none => cases e
  | some p =>
    obtain ⟨g, o, z⟩ := p
    have hz : ∃ g' cap cur, (Value.slice (some ⟨g, o, z⟩) els.length c) = .slice (some ⟨g', 0, none⟩) els.length cap ∧ w.heap[g']? = some (.cells cur 134 (0, 0)) := by
      rcases h.pb.pl.row.2 with ⟨h1, _⟩ | ⟨g', cap, cur, hv, _, hg, _⟩
      · cases h1
      · exact ⟨g', cap, cur, hv, hg⟩
    obtain ⟨g', cap, cur, hv, hg⟩ := hz
    injection hv with h1 _ _
    injection h1 with h1
    injection h1 with h1 _ _
    have e2 : some g = some k := e
    injection e2 with e2
    exact own_ne_type h.kp.row hg (by decide) (by rw [hk, ← e2, h1])
/-- Less is kept. -/
theorem DM.dropped (h : DM w b vS v els T made M rs kl G) {L : List Int} {e : Ending} (hd : PDropPost w b (dropK L kl) e w') : e = .returned (.tuple #[]) ∧ ∃ v2, DM w' b (vS.1, v2) v els T made M rs (dropK L kl) G ∧ Fr w w' (fun k => k = b) ∧ ∀ j, v2.ownBlock = some j → w.heap.size ≤ j := by
  obtain ⟨rfl, w1, a, c, hB, ho, rfl⟩ := hd
  have h1 := h.below hB
  have hlt := h.lt
  have hge : ∀ j, (Value.slice a (dropK L kl).length c).ownBlock = some j → w.heap.size ≤ j := fun j hj => (ho.lt j hj).1
  refine ⟨rfl, _, ⟨h1.pb.drop _, h.tw, h.mks, h1.sh.keep (fun k hg _ => Below.heap_setCell w1 ⟨b, 3, none⟩ _ k (fun e => h.gb (by rw [← (show k = b from e)]; exact hg))) (by simp), ⟨own_set (own_mono ho (Nat.zero_le _)) (fun e => ?_) _, fun x hx => h.kp.nine x (List.mem_filter.1 hx).1⟩, Nat.le_trans (dropK_len _ _) h.few, fun k hk => by simpa using h1.gl k hk, h.gb, h.gv, fun j hj hg => ?_⟩, ((Fr.refl w (fun k => k = b)).below hB).set (p := ⟨b, 3, none⟩) (Or.inl rfl) _, hge⟩
  · have := hge b e
    omega
  · have h2 := hge j hj
    have h3 := h.gl j hg
    omega
/-- What is left is not told on. -/
theorem drop_out (h : PT els T) (hw : TW T made) {p : Nat} {l : List Nat} (hp : (p, l) ∈ T) {x : Int × List Int} (hx : x ∈ dropK (reachP els p) kl) {j : Nat} {lj : List Nat} (hj : x.1 = (j : Int)) (hjT : (j, lj) ∈ T) : ¬ RchT T p j := fun hr => by
  have h1 := reachP_mem h.nums (reach_in h hw hp hjT hr)
  have h2 := (List.mem_filter.1 hx).2
  rw [hj] at h2
  have h3 : (reachP els p).contains (j : Int) = true := List.contains_iff_mem.2 h1
  rw [h3] at h2
  exact absurd h2 (by decide)
theorem drop_sub (L : List Int) (kl : List (Int × List Int)) : (dropK L kl).Sublist kl := List.filter_sublist
end
section
set_option maxRecDepth 100000
set_option maxHeartbeats 2000000
variable (w : World) (b : Nat) (vS : Value × Value) (v : Value) (els : List PEl) (T : Tree) (made : Nat) (M : Nat → Mk) (rs : List PRu) (kl : List (Int × List Int)) (G : Nat → Prop)
def TurnedPost (n : Int) (e : Ending) (w' : World) : Prop :=
  e = .returned (.tuple #[]) ∧ ∃ v2, DM w' b (vS.1, v2) v els T made M rs (dropK (reachP els n) kl) G ∧ Fr w w' (fun k => k = b) ∧ ∀ j, v2.ownBlock = some j → w.heap.size ≤ j
theorem dturned_any (n : Int) (h : DM w b vS v els T made M rs kl G) : Calls Tryz.prog 41 #[.pointer (some ⟨b, 0, none⟩), .int .i64 n] w fun e w' => TurnedPost w b vS v els T made M rs kl G n e w' := by
  obtain ⟨a, c, hv⟩ := h.pb.pl.shape
  subst hv
  have HD : Hid (DM w b vS (.slice a els.length c) els T made M rs kl G) := h
  have hrl := reachP_len h.pb.few n
  clear h
  go_enter Tryz.func41, Tryz.ntmps41
  go_wp2_with fail
  refine (preach_any w b a c els n HD.out.trd).mono ?_
  rintro e w1 ⟨al, cl, rfl, hrow, hB⟩
  have HD1 : Hid (DM w1 b vS (.slice a els.length c) els T made M rs kl G) := HD.out.below hB
  have HRI : Hid (RowI w1 al (reachP els n)) := RowI.own hrow
  have HB1 : Hid (Below w.heap.size w w1) := hB
  clear hrow hB
  go_wp2_with fail
  refine (pdrop_any w1 b _ vS.2 kl al cl (reachP els n) HD1.out.pb.doc rfl HD1.out.kp HD1.out.few HRI.out hrl).mono ?_
  intro e w2 hd
  obtain ⟨rfl, v2, h1, h2, h3⟩ := HD1.out.dropped hd
  have HE : Hid (TurnedPost w b vS (.slice a els.length c) els T made M rs kl G n (.returned (.tuple #[])) w2) := ⟨rfl, v2, h1, ((Fr.refl w (fun k => k = b)).below HB1.out).trans h2, fun j hj => Nat.le_trans HB1.out.size (h3 j hj)⟩
  clear hd h1 h2 h3
  go_wp2
  go_end0
  exact HE.out
end
/-- The program's document in the set F, with what is kept. -/
def DSk (w : World) (px : Value) (T : Tree) (made : Nat) (M : Nat → Mk) (rs : List PRu) (kl : List (Int × List Int)) (F : Nat → Prop) : Prop :=
  ∃ b vS v els G, px = .pointer (some ⟨b, 0, none⟩) ∧ DM w b vS v els T made M rs kl G ∧ KOK T M rs kl ∧ F b ∧ (∀ j, v.ownBlock = some j → F j) ∧ (∀ j, vS.2.ownBlock = some j → F j) ∧ (∀ k, G k → F k)
section
variable {w w' : World} {px : Value} {T : Tree} {made : Nat} {M M' : Nat → Mk} {rs : List PRu} {kl : List (Int × List Int)} {F : Nat → Prop}
theorem DSk.keep (h : DSk w px T made M rs kl F) (hk : ∀ k, F k → k < w.heap.size → w'.heap[k]? = w.heap[k]?) (hz : w.heap.size ≤ w'.heap.size) : DSk w' px T made M rs kl F := by
  obtain ⟨b, vS, v, els, G, h1, h2, h3, h4, h5, h6, h7⟩ := h
  exact ⟨b, vS, v, els, G, h1, ⟨⟨(hk b h4 h2.lt).trans h2.pb.doc, ⟨own_keepW h2.pb.pl.row (fun k hk2 hl => hk k (h5 k hk2) hl), h2.pb.pl.ok⟩, h2.pb.pt, h2.pb.few⟩, h2.tw, h2.mks, h2.sh.keep (fun k hg hl => hk k (h7 k hg) hl) hz, ⟨own_keepW h2.kp.row (fun k hk2 hl => hk k (h6 k hk2) hl), h2.kp.nine⟩, h2.few, fun k hg => Nat.lt_of_lt_of_le (h2.gl k hg) hz, h2.gb, h2.gv, h2.gk⟩, h3, h4, h5, h6, h7⟩
theorem DSk.here (h : DSk w px T made M rs kl F) : DSk w px T made M rs kl (fun k => F k ∧ k < w.heap.size) := by
  obtain ⟨b, vS, v, els, G, h1, h2, h3, h4, h5, h6, h7⟩ := h
  exact ⟨b, vS, v, els, G, h1, h2, h3, ⟨h4, h2.lt⟩, fun j hj => ⟨h5 j hj, (h2.pb.pl.row.lt j hj).2⟩, fun j hj => ⟨h6 j hj, (h2.kp.row.lt j hj).2⟩, fun k hk => ⟨h7 k hk, h2.gl k hk⟩⟩
theorem DSk.mark (h : DSk w px T made M rs kl F) (hm : ∀ k l, (k, l) ∈ T → M k = M' k) : DSk w px T made M' rs kl F := by
  obtain ⟨b, vS, v, els, G, h1, h2, h3, h4⟩ := h
  exact ⟨b, vS, v, els, G, h1, ⟨h2.pb, h2.tw, h2.mks.ext (fun x hx => by
    obtain ⟨l, hl⟩ := h2.pb.pt.to' x hx
    exact hm x.num l hl), h2.sh, h2.kp, h2.few, h2.gl, h2.gb, h2.gv, h2.gk⟩, h3.marks h2.tw hm, h4⟩
theorem DSk.tw (h : DSk w px T made M rs kl F) : TW T made := by
  obtain ⟨b, vS, v, els, G, h1, h2, h3⟩ := h
  exact h2.tw
end
section
set_option maxRecDepth 100000
set_option maxHeartbeats 2000000
variable (w : World) (px : Value) (T : Tree) (made : Nat) (M : Nat → Mk) (rs : List PRu) (kl : List (Int × List Int)) (F : Nat → Prop)
def DInsPost (par at' : Int) (kind : ByteArray) (e : Ending) (w' : World) : Prop :=
  ∃ y T' made' n kl', e = .returned (.tuple #[.int .i64 n, .int .i64 y]) ∧ TIns T made par at' kind y T' made' n ∧ DSk w' px T' made' (if y = 0 then setM M made (newMk kind) else M) rs kl' (More F w) ∧ Fr w w' F ∧ kl'.Sublist kl
theorem dins_any (par at' : Int) (kind : ByteArray) (h : DSk w px T made M rs kl F) (hmade : made ≤ 4611686018427387904) : Calls Tryz.prog 36 #[px, .int .i64 par, .int .i64 at', .string kind] w fun e w' => DInsPost w px T made M rs kl F par at' kind e w' := by
  obtain ⟨b, vS, v, els, G, rfl, h2, h3, h4, h5, h6, h7⟩ := h
  have HB : Hid (DM w b vS v els T made M rs kl G ∧ KOK T M rs kl ∧ F b ∧ (∀ j, v.ownBlock = some j → F j) ∧ (∀ j, vS.2.ownBlock = some j → F j) ∧ ∀ k, G k → F k) := ⟨h2, h3, h4, h5, h6, h7⟩
  clear h2 h3 h4 h5 h6 h7
  go_enter Tryz.func36, Tryz.ntmps36
  go_wp2_with fail
  refine (pins_any w b vS v els T made par at' kind HB.out.1.pb HB.out.1.tw hmade).mono ?_
  rintro e w1 ⟨y, T', made', n, v', els', rfl, ht, hp, hf, hv, hm⟩
  by_cases hy : y = 0
  · have gy : (y == 0) = true := by simp [hy]
    have hcase : made' = made + 1 ∧ ∃ (p k : Nat) (l : List Nat), par = (p : Int) ∧ (p, l) ∈ T ∧ T' = tIns T p k made := by
      rcases ht.2 with ⟨h1, _⟩ | ⟨_, _, h1, p, k, h2, _, ⟨l, h3, _⟩, h4⟩
      · exact absurd hy h1
      · exact ⟨h1, p, k, l, h2, h3, h4⟩
    have HC : Hid (made' = made + 1 ∧ ∃ (p k : Nat) (l : List Nat), par = (p : Int) ∧ (p, l) ∈ T ∧ T' = tIns T p k made) := hcase
    have hw' : TW T' made' := by
      obtain ⟨h1, p, k, l, _, h3, h4⟩ := hcase
      rw [h1, h4]
      exact HB.out.1.tw.ins ⟨l, h3⟩
    have hm' := hm M HB.out.1.mks
    rw [if_pos hy] at hm'
    have HD1 : Hid (DM w1 b vS v' els' T' made' (setM M made (newMk kind)) rs kl G) := HB.out.1.tree hp hw' hm' hf hv
    have HT : Hid (TIns T made par at' kind y T' made' n ∧ Fr w w1 (fun k => k = b) ∧ (∀ j, v'.ownBlock = some j → v.ownBlock = some j ∨ w.heap.size ≤ j)) := ⟨ht, hf, hv⟩
    have HY : Hid (y = 0) := hy
    clear ht hp hf hv hm hm' hw' hcase hy
    go_wp2_with fail
    refine (dturned_any w1 b vS v' els' T' made' _ rs kl G par HD1.out).mono ?_
    rintro e w2 ⟨rfl, v2, hd2, hf2, hv2⟩
    have HE : Hid (DInsPost w (.pointer (some ⟨b, 0, none⟩)) T made M rs kl F par at' kind (.returned (.tuple #[.int .i64 n, .int .i64 y])) w2) := by
      obtain ⟨h1, p, k, l, h2, h3, h4⟩ := HC.out
      have hT' := hd2.pb.pt
      have hw2 := hd2.tw
      refine ⟨y, T', made', n, dropK (reachP els' par) kl, rfl, HT.out.1, ⟨b, (vS.1, v2), v', els', G, rfl, ?_, ?_, Or.inl HB.out.2.2.1, fun j hj => (HT.out.2.2 j hj).imp (HB.out.2.2.2.1 j) id, fun j hj => Or.inr (Nat.le_trans HT.out.2.1.size (hv2 j hj)), fun k hk => Or.inl (HB.out.2.2.2.2.2 k hk)⟩, (HT.out.2.1.trans hf2).mono (fun k hk => hk ▸ HB.out.2.2.1), drop_sub _ _⟩
      · rw [if_pos HY.out]
        exact hd2
      · rw [if_pos HY.out]
        subst h4 h2
        refine HB.out.2.1.ins HB.out.1.tw h3 _ (drop_sub _ _) (fun x hx j hj => ?_)
        obtain ⟨j', lj, hj', hjT⟩ := HB.out.2.1.els x ((drop_sub _ _).subset hx)
        have : j' = j := by omega
        subst this
        exact drop_out hT' hw2 (mem_tIns.2 (Or.inl ⟨(p, l), h3, rfl, rfl⟩) : (p, if p = p then insL l k made else l) ∈ _) hx hj (mem_tIns.2 (Or.inl ⟨(j', lj), hjT, rfl, rfl⟩) : (j', if j' = p then insL lj k made else lj) ∈ _)
    clear hd2 hf2 hv2 HT HD1
    go_wp2
    go_ret2
    exact HE.out
  · have gy : (y == 0) = false := by simp [hy]
    have hcase : T' = T ∧ made' = made := by
      rcases ht.2 with ⟨_, _, h1, h2⟩ | ⟨h1, _⟩
      · exact ⟨h1, h2⟩
      · exact absurd h1 hy
    have HE : Hid (DInsPost w (.pointer (some ⟨b, 0, none⟩)) T made M rs kl F par at' kind (.returned (.tuple #[.int .i64 n, .int .i64 y])) w1) := by
      obtain ⟨h1, h2⟩ := hcase
      subst h1 h2
      have hm' := hm M HB.out.1.mks
      refine ⟨y, T', made', n, kl, rfl, ht, ⟨b, vS, v', els', G, rfl, ?_, ?_, Or.inl HB.out.2.2.1, fun j hj => (hv j hj).imp (HB.out.2.2.2.1 j) id, fun j hj => Or.inl (HB.out.2.2.2.2.1 j hj), fun k hk => Or.inl (HB.out.2.2.2.2.2 k hk)⟩, hf.mono (fun k hk => hk ▸ HB.out.2.2.1), List.Sublist.refl _⟩
      · rw [if_neg hy] at hm' ⊢
        exact HB.out.1.tree hp HB.out.1.tw hm' hf hv
      · rw [if_neg hy]
        exact HB.out.2.1
    clear ht hp hf hv hm hcase hy
    go_wp2
    go_ret2
    exact HE.out
def DRemPost (n : Int) (e : Ending) (w' : World) : Prop :=
  ∃ y T' kl', e = .returned (.int .i64 y) ∧ TRem T n y T' ∧ DSk w' px T' made M rs kl' (More F w) ∧ Fr w w' F ∧ kl'.Sublist kl
theorem drem_any (n : Int) (h : DSk w px T made M rs kl F) : Calls Tryz.prog 116 #[px, .int .i64 n] w fun e w' => DRemPost w px T made M rs kl F n e w' := by
  obtain ⟨b, vS, v, els, G, rfl, h2, h3, h4, h5, h6, h7⟩ := h
  obtain ⟨a, c, hvv⟩ := h2.pb.pl.shape
  subst hvv
  have HB : Hid (DM w b vS (.slice a els.length c) els T made M rs kl G ∧ KOK T M rs kl ∧ F b ∧ (∀ j, (Value.slice a els.length c).ownBlock = some j → F j) ∧ (∀ j, vS.2.ownBlock = some j → F j) ∧ ∀ k, G k → F k) := ⟨h2, h3, h4, h5, h6, h7⟩
  have hfew := h2.pb.few
  clear h2 h3 h4 h5 h6 h7
  go_enter Tryz.func116, Tryz.ntmps116
  go_wp2_with fail
  refine (pparentOf_any w b _ els n HB.out.1.pb.c1 HB.out.1.pb.pl hfew).mono ?_
  rintro e w1 ⟨rfl, hB1⟩
  have HD1 : Hid (DM w1 b vS (.slice a els.length c) els T made M rs kl G) := HB.out.1.below hB1
  have HP : Hid (parP els n = tPar T n) := HB.out.1.pb.pt.parP HB.out.1.tw n
  have HB1 : Hid (Below w.heap.size w w1) := hB1
  clear hB1
  generalize parP els n = par at HP ⊢
  have hrl := reachP_len hfew par
  go_wp2_with fail
  refine (preach_any w1 b a c els par HD1.out.trd).mono ?_
  rintro e w2 ⟨al, cl, rfl, hrow, hB2⟩
  have HD2 : Hid (DM w2 b vS (.slice a els.length c) els T made M rs kl G) := HD1.out.below hB2
  have HB2 : Hid (Below w.heap.size w w2) := HB1.out.trans (hB2.mono HB1.out.size)
  have HRW : Hid (w2.ownsRow w1.heap.size 3 1 (.slice al (reachP els par).length cl) (reachP els par).length (intsZ (reachP els par))) := hrow
  clear hrow hB2
  go_wp2_with fail
  refine (prem_any w2 b vS _ els T made n HD2.out.pb HD2.out.tw).mono ?_
  rintro e w3 ⟨y, T', v', els', rfl, ht, hp, hf, hv, hm⟩
  have HF3 : Hid (Fr w w3 (fun k => k = b)) := ((Fr.refl w (fun k => k = b)).below HB2.out).trans hf
  have HV : Hid (∀ j, v'.ownBlock = some j → (Value.slice a els.length c).ownBlock = some j ∨ w.heap.size ≤ j) := fun j hj => (hv j hj).imp id (fun h => Nat.le_trans HB2.out.size h)
  have hw' : TW T' made := by
    rcases ht.2 with ⟨_, h1⟩ | ⟨_, x, _, h0, ⟨l, hl⟩, h1⟩
    · rw [h1]; exact HB.out.1.tw
    · rw [h1]; exact HB.out.1.tw.rem hl h0
  have HD3 : Hid (DM w3 b vS v' els' T' made M rs kl G) := HD2.out.tree hp hw' (hm M HB.out.1.mks) hf hv
  have HRI : Hid (RowI w3 al (reachP els par)) := by
    refine RowI.own (own_keepW (own_mono HRW.out (Nat.zero_le _)) (fun k hk hl => hf.block k hl (fun e => ?_)))
    have h1 := (HRW.out.lt k hk).1
    have h2 := HD1.out.lt
    omega
  have HT : Hid (TRem T n y T') := ht
  clear ht hp hf hv hm hw'
  by_cases hy : y = 0
  · have gy : (y == 0) = true := by simp [hy]
    have HY : Hid (y = 0) := hy
    clear hy
    go_wp2_with fail
    refine (pdrop_any w3 b _ vS.2 kl al cl (reachP els par) HD3.out.pb.doc rfl HD3.out.kp HD3.out.few HRI.out hrl).mono ?_
    intro e w4 hd
    obtain ⟨rfl, v2, hd2, hf2, hv2⟩ := HD3.out.dropped hd
    have HE : Hid (DRemPost w (.pointer (some ⟨b, 0, none⟩)) T made M rs kl F n (.returned (.int .i64 y)) w4) := by
      refine ⟨y, T', dropK (reachP els par) kl, rfl, HT.out, ⟨b, (vS.1, v2), v', els', G, rfl, hd2, ?_, Or.inl HB.out.2.2.1, fun j hj => (HV.out j hj).imp (HB.out.2.2.2.1 j) id, fun j hj => Or.inr (Nat.le_trans HF3.out.size (hv2 j hj)), fun k hk => Or.inl (HB.out.2.2.2.2.2 k hk)⟩, (HF3.out.trans hf2).mono (fun k hk => hk ▸ HB.out.2.2.1), drop_sub _ _⟩
      rcases HT.out.2 with ⟨h1, _⟩ | ⟨_, x, hn, h0, ⟨l, hl⟩, h1⟩
      · exact absurd HY.out h1
      · obtain ⟨q, hq, hmq, hpq⟩ := HB.out.1.tw.up hl h0
        have hpar : par = (q.1 : Int) := by rw [HP.out, hn, hpq]
        rw [h1]
        refine HB.out.2.1.rem HB.out.1.tw hl h0 hq hmq (drop_sub _ _) (fun z hz j hj => ?_)
        obtain ⟨j', lj, hj', hjT⟩ := HB.out.2.1.els z ((drop_sub _ _).subset hz)
        have : j' = j := by omega
        subst this
        rw [hpar] at hz
        exact drop_out HB.out.1.pb.pt HB.out.1.tw (p := q.1) (l := q.2) hq hz hj hjT
    clear hd hd2 hf2 hv2 HD3 HRI HRW HD2
    go_wp2
    go_ret
    exact HE.out
  · have gy : (y == 0) = false := by simp [hy]
    have HE : Hid (DRemPost w (.pointer (some ⟨b, 0, none⟩)) T made M rs kl F n (.returned (.int .i64 y)) w3) := by
      refine ⟨y, T', kl, rfl, HT.out, ⟨b, vS, v', els', G, rfl, HD3.out, ?_, Or.inl HB.out.2.2.1, fun j hj => (HV.out j hj).imp (HB.out.2.2.2.1 j) id, fun j hj => Or.inl (HB.out.2.2.2.2.1 j hj), fun k hk => Or.inl (HB.out.2.2.2.2.2 k hk)⟩, HF3.out.mono (fun k hk => hk ▸ HB.out.2.2.1), List.Sublist.refl _⟩
      rcases HT.out.2 with ⟨_, h1⟩ | ⟨h1, _⟩
      · rw [h1]; exact HB.out.2.1
      · exact absurd h1 hy
    clear hy
    go_wp2
    go_ret
    exact HE.out
def DMovPost (n m at' : Int) (e : Ending) (w' : World) : Prop :=
  ∃ y T' kl', e = .returned (.int .i64 y) ∧ TMov T n m at' y T' ∧ DSk w' px T' made M rs kl' (More F w) ∧ Fr w w' F ∧ kl'.Sublist kl
theorem dmov_any (n m at' : Int) (h : DSk w px T made M rs kl F) : Calls Tryz.prog 119 #[px, .int .i64 n, .int .i64 m, .int .i64 at'] w fun e w' => DMovPost w px T made M rs kl F n m at' e w' := by
  obtain ⟨b, vS, v, els, G, rfl, h2, h3, h4, h5, h6, h7⟩ := h
  obtain ⟨a, c, hvv⟩ := h2.pb.pl.shape
  subst hvv
  have HB : Hid (DM w b vS (.slice a els.length c) els T made M rs kl G ∧ KOK T M rs kl ∧ F b ∧ (∀ j, (Value.slice a els.length c).ownBlock = some j → F j) ∧ (∀ j, vS.2.ownBlock = some j → F j) ∧ ∀ k, G k → F k) := ⟨h2, h3, h4, h5, h6, h7⟩
  have hfew := h2.pb.few
  clear h2 h3 h4 h5 h6 h7
  go_enter Tryz.func119, Tryz.ntmps119
  go_wp2_with fail
  refine (pparentOf_any w b _ els n HB.out.1.pb.c1 HB.out.1.pb.pl hfew).mono ?_
  rintro e w1 ⟨rfl, hB1⟩
  have HD1 : Hid (DM w1 b vS (.slice a els.length c) els T made M rs kl G) := HB.out.1.below hB1
  have HP : Hid (parP els n = tPar T n) := HB.out.1.pb.pt.parP HB.out.1.tw n
  have HB1 : Hid (Below w.heap.size w w1) := hB1
  clear hB1
  generalize parP els n = par at HP ⊢
  go_wp2_with fail
  refine (pmov_any w1 b vS _ els T made n m at' HD1.out.pb HD1.out.tw).mono ?_
  rintro e w3 ⟨y, T', v', els', rfl, ht, hp, hf, hv, hm⟩
  have HF3 : Hid (Fr w w3 (fun k => k = b)) := ((Fr.refl w (fun k => k = b)).below HB1.out).trans hf
  have HV : Hid (∀ j, v'.ownBlock = some j → (Value.slice a els.length c).ownBlock = some j ∨ w.heap.size ≤ j) := fun j hj => (hv j hj).imp id (fun h => Nat.le_trans HB1.out.size h)
  have hw' : TW T' made := by
    rcases ht.2 with ⟨_, h1⟩ | ⟨_, x, p, k, _, _, _, h0, ⟨l, hl⟩, ⟨lp, hlp, _⟩, hnu, h1⟩
    · rw [h1]; exact HB.out.1.tw
    · rw [h1]; exact HB.out.1.tw.mov hl h0 hlp hnu
  have HD3 : Hid (DM w3 b vS v' els' T' made M rs kl G) := HD1.out.tree hp hw' (hm M HB.out.1.mks) hf hv
  have HT : Hid (TMov T n m at' y T') := ht
  clear ht hp hf hv hm hw'
  by_cases hy : y = 0
  · have gy : (y == 0) = true := by simp [hy]
    have HY : Hid (y = 0) := hy
    clear hy
    go_wp2_with fail
    refine (dturned_any w3 b vS v' els' T' made M rs kl G par HD3.out).mono ?_
    rintro e w4 ⟨rfl, v4, hd4, hf4, hv4⟩
    have HD4 : Hid (DM w4 b (vS.1, v4) v' els' T' made M rs (dropK (reachP els' par) kl) G ∧ Fr w3 w4 (fun k => k = b)) := ⟨hd4, hf4⟩
    clear hd4 hf4 hv4
    go_wp2_with fail
    refine (dturned_any w4 b (vS.1, v4) v' els' T' made M rs _ G m HD4.out.1).mono ?_
    rintro e w5 ⟨rfl, v5, hd5, hf5, hv5⟩
    have HE : Hid (DMovPost w (.pointer (some ⟨b, 0, none⟩)) T made M rs kl F n m at' (.returned (.int .i64 y)) w5) := by
      have hsub : (dropK (reachP els' m) (dropK (reachP els' par) kl)).Sublist kl := (drop_sub _ _).trans (drop_sub _ _)
      refine ⟨y, T', dropK (reachP els' m) (dropK (reachP els' par) kl), rfl, HT.out, ⟨b, (vS.1, v5), v', els', G, rfl, hd5, ?_, Or.inl HB.out.2.2.1, fun j hj => (HV.out j hj).imp (HB.out.2.2.2.1 j) id, fun j hj => Or.inr (Nat.le_trans HF3.out.size (Nat.le_trans HD4.out.2.size (hv5 j hj))), fun k hk => Or.inl (HB.out.2.2.2.2.2 k hk)⟩, ((HF3.out.trans HD4.out.2).trans hf5).mono (fun k hk => hk ▸ HB.out.2.2.1), hsub⟩
      rcases HT.out.2 with ⟨h1, _⟩ | ⟨_, x, p, k, hn, hmp, _, h0, ⟨l, hl⟩, ⟨lp, hlp, _⟩, hnu, h1⟩
      · exact absurd HY.out h1
      · obtain ⟨q, hq, hmq, hpq⟩ := HB.out.1.tw.up hl h0
        have hpar : par = (q.1 : Int) := by rw [HP.out, hn, hpq]
        have hT' := hd5.pb.pt
        have hw5 := hd5.tw
        subst h1
        refine HB.out.2.1.mov HB.out.1.tw hl h0 hlp hnu hq hmq hsub (fun z hz j hj => ?_)
        obtain ⟨j', lj, hj', hjT⟩ := HB.out.2.1.els z (hsub.subset hz)
        have : j' = j := by omega
        subst this
        have mem : ∀ i li, (i, li) ∈ T → ∃ l, (i, l) ∈ tMov T x p k := fun i li hi => ⟨if i = p then insL (noneOf x (if i = q.1 then noneOf x li else li)) k x else if i = q.1 then noneOf x li else li, (mem_tMov hpq).2 ⟨(i, li), hi, rfl, rfl⟩⟩
        obtain ⟨lq', hq'⟩ := mem q.1 q.2 hq
        obtain ⟨lp', hp'⟩ := mem p lp hlp
        obtain ⟨lj', hjT'⟩ := mem j' lj hjT
        rw [hpar, hmp] at hz
        exact ⟨drop_out hT' hw5 hq' ((drop_sub _ _).subset hz) hj hjT', drop_out hT' hw5 hp' hz hj hjT'⟩
    clear hd5 hf5 hv5 HD4 HD3
    go_wp2
    go_ret
    exact HE.out
  · have gy : (y == 0) = false := by simp [hy]
    have HE : Hid (DMovPost w (.pointer (some ⟨b, 0, none⟩)) T made M rs kl F n m at' (.returned (.int .i64 y)) w3) := by
      refine ⟨y, T', kl, rfl, HT.out, ⟨b, vS, v', els', G, rfl, HD3.out, ?_, Or.inl HB.out.2.2.1, fun j hj => (HV.out j hj).imp (HB.out.2.2.2.1 j) id, fun j hj => Or.inl (HB.out.2.2.2.2.1 j hj), fun k hk => Or.inl (HB.out.2.2.2.2.2 k hk)⟩, HF3.out.mono (fun k hk => hk ▸ HB.out.2.2.1), List.Sublist.refl _⟩
      rcases HT.out.2 with ⟨_, h1⟩ | ⟨h1, _⟩
      · rw [h1]; exact HB.out.2.1
      · exact absurd h1 hy
    clear hy
    go_wp2
    go_ret
    exact HE.out
end
end Go.Proofs.YtblfffbmklkhmaaGreat

namespace Go.Proofs.YtblfffbmklkhmaaGreat
open Go.RowKit
section
set_option maxRecDepth 100000
set_option maxHeartbeats 2000000
theorem pt_root {x : PEl} (h1 : x.num = 0) (h2 : x.par = -1) : PT [x] [(0, [])] := by
  refine ⟨by simp, fun e he => ?_, fun n l hl => ?_, fun n l hl => ?_, fun e he _ => ?_⟩
  · rw [List.mem_singleton] at he
    rw [he, h1]
    exact ⟨[], by simp⟩
  · rw [List.mem_singleton] at hl
    injection hl with hl _
    exact ⟨x, by simp, by rw [h1, hl]⟩
  · rw [List.mem_singleton] at hl
    injection hl with hl hl2
    subst hl hl2
    rw [kidsP_one, if_neg (by rw [h2]; decide)]
  · rw [List.mem_singleton] at he
    rw [he]
    exact h2
def DNewPost (w : World) (s root : ByteArray) (e : Ending) (w' : World) : Prop :=
  Below w.heap.size w w' ∧ ((newErr s root ≠ 0 ∧ e = .returned (.tuple #[.pointer none, .int .i64 (newErr s root)])) ∨ (newErr s root = 0 ∧ ∃ px, e = .returned (.tuple #[px, .int .i64 0]) ∧ DSk w' px [(0, [])] 1 (fun _ => newMk root) (sheetOf s) [] (fun k => w.heap.size ≤ k)))
theorem dnew_any (w : World) (s root : ByteArray) (hs : s.size ≤ maxLen) : Calls Tryz.prog 24 #[.string s, .string root] w fun e w' => DNewPost w s root e w' := by
  go_enter Tryz.func24, Tryz.ntmps24
  go_wp2_with fail
  refine (read_any w s hs).mono ?_
  rintro e w1 ⟨a, n, c, rfl, hB1, hsheet⟩
  by_cases hc : (chk s).1 = 0
  · have HN : Hid (newErr s root = if isLetter root = false then 4 else 0) := by unfold Hid newErr; rw [if_neg (fun h => h hc)]
    have HSH : Hid (SheetIn w1 (fun k => w.heap.size ≤ k ∧ k < w1.heap.size) (.slice a n c) (sheetOf s)) := by
      obtain ⟨rs, xs, h1, h2, h3, h4⟩ := hsheet hc
      exact sheet_in hc h1 h2 h3 h4
    clear hsheet
    rw [hc]
    clear hc
    generalize (chk s).2 = place
    go_wp2_with fail
    refine (pnew_any _ root).mono ?_
    rintro e w3 ⟨hB3, hcase⟩
    have hB : Below w.heap.size w w3 := (hB1.alloc hB1.size _).trans (hB3.mono (by have := hB1.size; simp; omega))
    have q6 : w3.cell? ⟨w1.heap.size, 0, none⟩ = some (.slice a n c) := (hB3.cell (p := ⟨w1.heap.size, 0, none⟩) (by simp)).trans (cell_of_blk (heap_alloc_new w1 _) rfl)
    have hz3 : w1.heap.size < w3.heap.size := by have := hB3.size; simp at this; omega
    have HB3 : Hid (Below w1.heap.size w1 w3) := ((Below.refl _ _).alloc (Nat.le_refl _) _).trans (hB3.mono (by simp))
    clear hB3
    rcases hcase with ⟨hl, rfl⟩ | ⟨hl, g, x, rfl, hx1, hx2, hxm, hpl, hg⟩
    · have HE : Hid (newErr s root = 4) := by unfold Hid; rw [HN.out, if_pos hl]
      clear hl HN
      go_wp2
      go_ret2
      refine ⟨hB.alloc hB.size _, Or.inl ⟨by rw [HE.out]; decide, by rw [HE.out]; rfl⟩⟩
    · have HE : Hid (newErr s root = 0) := by unfold Hid; rw [HN.out, if_neg (by rw [hl]; decide)]
      have HX : Hid (PL w3 (.slice (some ⟨g, 0, none⟩) 1 1) [x] ∧ PT [x] [(0, [])] ∧ w1.heap.size ≤ g ∧ MkO [x] (fun _ => newMk root)) := ⟨hpl, pt_root hx1 hx2, by simp at hg; omega, (hxm (fun _ => newMk root)).ext (fun y _ => by unfold setM; split <;> rfl)⟩
      have HSK : Hid (∀ w', Below w1.heap.size w1 w' → SheetIn w' (fun k => w.heap.size ≤ k ∧ k < w1.heap.size) (.slice a n c) (sheetOf s)) := fun w' hb => HSH.out.keep (fun k hk _ => hb.block k hk.2) hb.size
      have HB13 : Hid (Below w1.heap.size w1 w3) := HB3.out
      clear hl HN hx1 hx2 hpl hg hxm
      go_wp2
      go_ret2
      have hz := hB.size
      have hB13 := HB13.out.size
      have e1 : (w3.alloc (.cells #[.slice (some ⟨g, 0, none⟩) 1 1, .int .i64 1] 85)).heap.size = w3.heap.size + 1 := by simp
      have hg1 := HX.out.2.2.1
      have hw1 := hB1.size
      have hgl : g < w3.heap.size := (HX.out.1.row.lt g rfl).2
      refine ⟨(hB.alloc hz _).alloc (by simp; omega) _, Or.inr ⟨HE.out, _, rfl, w3.heap.size + 1, (.slice a n c, .slice none 0 0), .slice (some ⟨g, 0, none⟩) 1 1, [x], fun k => w.heap.size ≤ k ∧ k < w1.heap.size, rfl, ⟨⟨?_, ⟨(HX.out.1.row.alloc _).alloc _, HX.out.1.ok⟩, HX.out.2.1, by simp⟩, tw_root, HX.out.2.2.2, HSK.out _ ((HB13.out.alloc hB13 _).alloc (by simp; omega) _), ⟨World.ownsRow_nil _ _ _ _, fun x hx => by cases hx⟩, by simp, fun k hk => by have := hk.2; simp; omega, fun hk => by have := hk.2; omega, fun j hj hk => ?_, fun j hj => by simp [Value.ownBlock] at hj⟩, kok_nil, by show w.heap.size ≤ _; omega, fun j hj => ?_, fun j hj => by simp [Value.ownBlock] at hj, fun k hk => hk.1⟩⟩
      · rw [← e1]
        exact heap_alloc_new _ _
      · simp [Value.ownBlock] at hj
        have := hk.2
        omega
      · simp [Value.ownBlock] at hj
        show w.heap.size ≤ j
        omega
  · have HN : Hid (newErr s root = (chk s).1) := by unfold Hid newErr; rw [if_pos hc]
    have HC : Hid (¬ (chk s).1 = 0) := hc
    generalize (chk s).2 = place
    generalize (chk s).1 = y at HN HC hc ⊢
    have gy : (y != 0) = true := by simp [hc]
    clear hc
    go_wp2
    go_ret2
    exact ⟨hB1.alloc hB1.size _, Or.inl ⟨by rw [HN.out]; exact HC.out, by rw [HN.out]; rfl⟩⟩
end
end Go.Proofs.YtblfffbmklkhmaaGreat
