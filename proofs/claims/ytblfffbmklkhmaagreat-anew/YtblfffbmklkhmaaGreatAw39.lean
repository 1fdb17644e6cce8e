/- Own work. -/
import Derived.Test.YtblfffbmklkhmaaGreatAw38
import Derived.Test.YtblfffbmklkhmaaGreatAw18
import Derived.Test.YtblfffbmklkhmaaGreatAw26
import Derived.SizedLaws
namespace Go.Proofs.YtblfffbmklkhmaaGreat
open Go.RowKit
section
set_option maxRecDepth 100000
set_option maxHeartbeats 4000000
variable (w : World) (b : Nat) (vS : Value × Value) (v : Value) (els : List PEl) (T : Tree) (made : Nat) (M : Nat → Mk) (rs : List PRu) (kl : List (Int × List Int)) (G : Nat → Prop)
theorem pstyleOf_any (k : Nat) (l : List Nat) (h : DM w b vS v els T made M rs kl G) (hko : KOK T M rs kl) (hk : (k, l) ∈ T) :
    Calls Tryz.prog 48 #[.pointer (some ⟨b, 0, none⟩), .int .i64 k] w fun e w' => StylePost w b vS v els T made M rs kl G k e w' := by
  obtain ⟨a, c, hv⟩ := h.pb.pl.shape
  subst hv
  have HD : Hid (DM w b vS (.slice a els.length c) els T made M rs kl G) := h
  have HKO : Hid (KOK T M rs kl ∧ (k, l) ∈ T) := ⟨hko, hk⟩
  have hbl : b < w.heap.size := h.lt
  have HAB : Hid (aboveP els els.length k = aboveT T T.length k) := by unfold Hid; rw [above_eq h.pb.pt h.tw, h.pb.pt.len h.tw]
  have HAL : Hid ((aboveT T T.length k).length ≤ 24) := by
    have h1 := above_len (T := T) T.length k
    have h2 := h.pb.pt.len h.tw
    have h3 := h.pb.few
    unfold Hid
    omega
  have H0W : Hid (∀ j, j = b ∨ vS.2.ownBlock = some j → j < w.heap.size) := fun j hj => h.own_lt hj
  have HB0 : Hid (∀ Z : Array Value, Below w.heap.size w (w.alloc (.cells Z 103))) := fun Z => (Below.refl _ _).alloc (Nat.le_refl _) _
  have HDR : Hid (∀ (i : Nat) (x : Int), (aboveT T T.length k)[i]? = some x → ∃ j lj, x = ((j : Nat) : Int) ∧ (j, lj) ∈ T ∧ aboveT T T.length x = (aboveT T T.length k).drop (i + 1)) := fun i x hx => above_drop h.tw i hk hx
  have HKC : Hid (∀ m, KOK T M rs (chainK T M rs kl ((aboveT T T.length k).drop m))) := fun m => chain_kok hko _ (fun x hx => above_mem h.tw hk x (List.mem_of_mem_drop hx))
  have HST : Hid (styleK T M rs kl k = freshK T M rs (chainK T M rs kl ((aboveT T T.length k).drop 0)) k) := rfl
  have HCO : Hid (comesV T M rs ((aboveT T T.length k).drop 0) = comesV T M rs (aboveT T T.length k)) := rfl
  clear h hko hk
  go_enter Tryz.func48, Tryz.ntmps48
  go_wp2_with fail
  refine (pinitial_any _).mono ?_
  rintro e w1 ⟨rfl, hB1⟩
  have hz1 : w.heap.size + 1 ≤ w1.heap.size := by have := hB1.size; simpa using this
  have HB1 : Hid (Below w.heap.size w w1) := (HB0.out _).trans (hB1.mono (by simp))
  have HT4 : Hid (w1.there w.heap.size 0 9) := by
    refine there_below hB1 (by simp) ?_
    exact there_new w (#[.int .i64 0, .int .i64 0, .int .i64 0, .int .i64 0, .int .i64 0, .int .i64 0, .int .i64 0, .int .i64 0, .int .i64 0] : Array Value) 103 9 (by decide)
  clear hB1
  have HI9 : Hid ((Tryz.prog.info? 103).map (·.size) = some (intsZ initP).toArray.size) := Tryz.sizeS
  have HIO : Hid ((intsZ initP).toArray.all (·.oneCell') = true) := one_ints initP
  have HI2 : Hid (9 = (intsZ initP).toArray.size) := rfl
  have HB2 : Hid (Below w1.heap.size w1 (w1.alloc (.cells (intsZ initP).toArray 103))) := (Below.refl _ _).alloc (Nat.le_refl _) _
  have HR5 : Hid ((w1.alloc (.cells (intsZ initP).toArray 103)).rangeAt w1.heap.size 0 (intsZ initP)) := range_new w1 _ _
  have HT5 : Hid ((w1.alloc (.cells (intsZ initP).toArray 103)).there w1.heap.size 0 9) := there_new w1 _ _ 9 (by decide)
  have HZ2 : Hid ((w1.alloc (.cells (intsZ initP).toArray 103)).heap.size = w1.heap.size + 1) := by simp [Hid]
  have HD2 : Hid (DM (w1.alloc (.cells (intsZ initP).toArray 103)) b vS (.slice a els.length c) els T made M rs kl G) := (HD.out.below HB1.out).below HB2.out
  have HIA : Hid ((intsZ initP).toArray = #[.int .i64 1, .int .i64 2, .int .i64 3, .int .i64 4, .int .i64 5, .int .i64 6, .int .i64 0, .int .i64 0, .int .i64 0]) := rfl
  rw [HIA.out] at HI9 HIO HI2 HB2 HR5 HT5 HZ2 HD2 ⊢
  go_wp2_with (first | (refine wpList_store_new rfl 103 _ _ rfl _ #[.int .i64 1, .int .i64 2, .int .i64 3, .int .i64 4, .int .i64 5, .int .i64 6, .int .i64 0, .int .i64 0, .int .i64 0] 103 rfl rfl HI9.out HI2.out HIO.out ?_))
  refine (pabove_own _ b a c els k HD2.out.trd).mono ?_
  rw [HAB.out]
  rintro e w2 ⟨al, cl, rfl, hrow, hB2⟩
  have hz2 : w1.heap.size + 1 ≤ w2.heap.size := by have := hB2.size; rwa [HZ2.out] at this
  have HSI0 : Hid (SOI w b vS (.slice a els.length c) els T made M rs kl G w2 w1.heap.size al (aboveT T T.length k) (aboveT T T.length k).length vS.2 w2) := by
    have hbb : Below w1.heap.size w1 w2 := HB2.out.trans (hB2.mono HB2.out.size)
    refine ⟨?_, ((Fr.refl w _).below HB1.out).below hbb, fun j hj => Or.inl hj, ?_, there_below hB2 (by rw [HZ2.out]; omega) HT5.out, there_below hbb (by omega) HT4.out, RowI.own hrow, Nat.le_refl _⟩
    · rw [List.drop_length]
      exact HD2.out.below hB2
    · rw [List.drop_length]
      exact range_below hB2 (by rw [HZ2.out]; omega) HR5.out
  have HGF : Hid (∀ g, al = some ⟨g, 0, none⟩ → w1.heap.size < g ∧ g < w2.heap.size) := fun g hg => by
    have := hrow.lt g (by rw [hg]; rfl)
    rw [HZ2.out] at this
    omega
  have HCAP : Hid ((aboveT T T.length k).length ≤ cl) := own_cap hrow
  clear hrow hB2 HB1 HT4 HI9 HIO HI2 HB2 HR5 HT5 HZ2 HD2 HIA HAB
  obtain ⟨xs, hxs⟩ : ∃ xs, aboveT T T.length k = xs := ⟨_, rfl⟩
  have HXS : Hid (aboveT T T.length k = xs) := hxs
  rw [hxs] at HAL HDR HKC HST HCO HSI0 HCAP ⊢
  clear hxs
  have hxl := HAL.out
  have hcap := HCAP.out
  go_wp2_with fail
  go_loopg [7] xs.length (fun gk iv wr => ∃ m : Nat, iv = .int .i64 ((m : Int) - 1) ∧ m ≤ xs.length ∧ m ≤ gk ∧ Hid (∃ v2, SOI w b vS (.slice a els.length c) els T made M rs kl G w2 w1.heap.size al xs m v2 wr))
  case atStart => exact ⟨xs.length, by go_num, Nat.le_refl _, Nat.le_refl _, vS.2, HSI0.out⟩
  case round =>
    obtain ⟨m, rfl, hm, hgk, HI⟩ := hrel
    obtain ⟨v2, hI⟩ := HI.out
    have HS : Hid (SOI w b vS (.slice a els.length c) els T made M rs kl G w2 w1.heap.size al xs m v2 wr) := hI
    clear HI hI
    have hfar := HS.out.far
    cases m with
    | zero =>
      have hcl := comes_len T M rs xs
      have HCE : Hid (comesV T M rs xs = comesV T M rs (aboveT T T.length k)) := by unfold Hid; rw [HXS.out]
      have HSZ : Hid ((Tryz.prog.info? 103).map (·.size) = some (intsZ (comesV T M rs xs)).length) := sizeS hcl
      have HR5 : Hid (wr.rangeAt w1.heap.size 0 (intsZ (comesV T M rs xs))) := HS.out.rng
      have hb0 : b < wr.heap.size := HS.out.dm.lt
      rw [show (((0 : Nat) : Int) - 1) = -1 from rfl]
      go_wp2_with (refine wpList_load_mid rfl 103 _ rfl w1.heap.size 0 rfl (intsZ (comesV T M rs xs)) _ HR5.out Tryz.underlying103 rfl HSZ.out ?_)
      refine (pfreshen_any wr b (vS.1, v2) _ els T made M rs _ G k l (comesV T M rs xs) HS.out.dm (HKC.out 0) HKO.out.2 HCE.out hcl).mono ?_
      rintro e w3 ⟨rfl, v3, hd3, hf3, hj3⟩
      have hL9 := styleV_len (viewT T M) rs k
      have hT4 : ¬ (w.heap.size = b ∨ v2.ownBlock = some w.heap.size) := HS.out.alone H0W.out (Nat.le_refl _) (by omega)
      have HX : Hid (DM w3 b (vS.1, v3) (.slice a els.length c) els T made M rs (styleK T M rs kl k) G ∧ Fr wr w3 (fun j => j = b ∨ v2.ownBlock = some j) ∧ (∀ j, v3.ownBlock = some j → v2.ownBlock = some j ∨ wr.heap.size ≤ j) ∧ w3.there w.heap.size 0 9) := ⟨by rw [HST.out]; exact hd3, hf3, hj3, there_keep HS.out.res (hf3.block w.heap.size (by omega) hT4)⟩
      clear hd3 hf3 hj3 hT4 HR5 HSZ
      have HLE : Hid (∀ (L : List Int), L = styleV (viewT T M) rs k → StylePost w b vS (.slice a els.length c) els T made M rs kl G k (.returned (.agg (intsZ L).toArray)) (w3.setCells w.heap.size 0 (intsZ L))) := fun L hL => by
        refine ⟨by rw [hL], v3, HX.out.1.aside (fun j hj => heap_setCells _ _ _ _ _ (fun e => ?_)) (by rw [size_setCells]; exact Nat.le_refl _), ?_, fun j hj => ?_⟩
        · subst e
          rcases hj with h1 | h1 | h1 | h1
          · omega
          · have := (HD.out.pb.pl.row.lt _ h1).2; omega
          · rcases HX.out.2.2.1 _ h1 with h2 | h2
            · rcases HS.out.own _ h2 with h3 | h3
              · have := H0W.out _ (Or.inr h3); omega
              · omega
            · omega
          · have := HD.out.gl _ h1; omega
        · refine Fr.sets (Or.inr (Nat.le_refl _)) _ _ (HS.out.fr.comp HX.out.2.1 (fun j hj => ?_))
          rcases hj with h1 | h1
          · exact Or.inl (Or.inl h1)
          · rcases HS.out.own _ h1 with h3 | h3
            · exact Or.inl (Or.inr h3)
            · exact Or.inr (by omega)
        · rcases HX.out.2.2.1 _ hj with h2 | h2
          · rcases HS.out.own _ h2 with h3 | h3
            · exact Or.inl h3
            · exact Or.inr (by omega)
          · exact Or.inr (by omega)
      obtain ⟨L, hL⟩ : ∃ L, styleV (viewT T M) rs k = L := ⟨_, rfl⟩
      have HE := HLE.out L hL.symm
      rw [hL] at hL9 ⊢
      clear hL HLE
      have hlen : (intsZ L).toArray.size = 9 := List.size_toArray.trans (by rw [List.length_map]; exact hL9)
      have HTH : Hid (w3.there w.heap.size 0 (intsZ L).toArray.size) := by unfold Hid; rw [hlen]; exact HX.out.2.2.2
      have HS2 : Hid ((Tryz.prog.info? 103).map (·.size) = some (intsZ L).toArray.size) := by unfold Hid; rw [hlen]; exact Tryz.sizeS
      have HSL : Hid ((Tryz.prog.info? 103).map (·.size) = some (intsZ L).length) := sizeS hL9
      have HO9 : Hid ((intsZ L).toArray.all (·.oneCell') = true) := one_ints L
      have HRE : Hid ((w3.setCells w.heap.size 0 (intsZ L)).rangeAt w.heap.size 0 (intsZ L)) := World.rangeAt_setCells_same _ _ 0 _ (by have := HTH.out; rwa [show (intsZ L).toArray.size = (intsZ L).length from List.size_toArray] at this)
      have HEE : Hid (StylePost w b vS (.slice a els.length c) els T made M rs kl G k (.returned (.agg (intsZ L).toArray)) (w3.setCells w.heap.size 0 (intsZ L))) := HE
      clear HE hlen HX HS
      go_wp2_with (refine wpList_store_mid rfl 103 _ _ rfl w.heap.size 0 (intsZ L).toArray rfl rfl HTH.out HS2.out HO9.out ?_)
      exact bodyPost_ret (results_cell Tryz.results48 _ rfl HRE.out Tryz.underlying103 rfl HSL.out) rfl HEE.out
    | succ m =>
      have hmx : m < xs.length := by omega
      rw [show (((m + 1 : Nat) : Int) - 1) = (m : Int) from by omega]
      have hd : decide ((0 : Int) ≤ (m : Int)) = true := by simp
      have hil : (m : Int) < (xs.length : Int) := by omega
      obtain ⟨x, hx⟩ : ∃ x, xs[m]? = some x := ⟨_, List.getElem?_eq_getElem hmx⟩
      obtain ⟨j, lj, hxj, hjT, hja⟩ := HDR.out m x hx
      obtain ⟨g, hg, hgl, hgc⟩ := HS.out.row m hmx
      rw [hx, hxj] at hgc
      replace hgc : wr.cell? ⟨g, m, none⟩ = some (.int .i64 j) := hgc
      obtain ⟨hg1, hg2⟩ := HGF.out g hg
      have HDP : Hid (xs.drop m = x :: xs.drop (m + 1)) := by
        unfold Hid
        rw [List.drop_eq_getElem_cons hmx]
        rw [List.getElem?_eq_getElem hmx] at hx
        injection hx with hx
        rw [hx]
      subst hxj
      subst hg
      have HJ : Hid ((j, lj) ∈ T ∧ comesV T M rs (xs.drop (m + 1)) = comesV T M rs (aboveT T T.length j)) := ⟨hjT, by rw [hja]⟩
      have hcl := comes_len T M rs (xs.drop (m + 1))
      have HDd : Hid (DM wr.drew b (vS.1, v2) (.slice a els.length c) els T made M rs (chainK T M rs kl (xs.drop (m + 1))) G) := HS.out.dm.below (Below.refl wr.heap.size wr).drew
      obtain ⟨cm, hcm⟩ : ∃ cm, comesV T M rs (xs.drop (m + 1)) = cm := ⟨_, rfl⟩
      have HCM : Hid (cm = comesV T M rs (aboveT T T.length j)) := by unfold Hid; rw [← hcm]; exact HJ.out.2
      have HRG : Hid (wr.rangeAt w1.heap.size 0 (intsZ cm)) := by unfold Hid; rw [← hcm]; exact HS.out.rng
      rw [hcm] at hcl
      obtain ⟨L, hL⟩ : ∃ L, styleV (viewT T M) rs j = L := ⟨_, rfl⟩
      have HL : Hid (styleV (viewT T M) rs j = L) := hL
      have hL9 : L.length = 9 := by rw [← hL]; exact styleV_len _ _ _
      have hLl : (intsZ L).length = 9 := by rw [List.length_map]; exact hL9
      have hLs : (Tryz.prog.info? 103).map (·.size) = some (intsZ L).length := sizeS hL9
      have hLo : ∀ v ∈ intsZ L, v.oneCell' = true := one_l L
      have hCs : (Tryz.prog.info? 103).map (·.size) = some (intsZ cm).length := sizeS hcl
      have hUA := Tryz.underlying103
      have HGC : Hid (wr.cell? ⟨g, m, none⟩ = some (.int .i64 j)) := hgc
      have HC : Hid (∀ wx, Fr wr.drew wx (fun i => i = b ∨ v2.ownBlock = some i) → wx.cell? ⟨g, m, none⟩ = some (.int .i64 j) ∧ wx.rangeAt w1.heap.size 0 (intsZ cm) ∧ wx.there w1.heap.size 0 9) := fun wx hf => by
        have hbg : wx.heap[g]? = wr.heap[g]? := hf.block g (by show g < wr.heap.size; omega) (HS.out.alone H0W.out (by omega) hg2)
        have hb5 : wx.heap[w1.heap.size]? = wr.heap[w1.heap.size]? := hf.block w1.heap.size (by show w1.heap.size < wr.heap.size; omega) (HS.out.alone H0W.out (by omega) (by omega))
        refine ⟨?_, range_keep HRG.out hb5, there_keep HS.out.thr hb5⟩
        have := HGC.out
        unfold World.cell? at this ⊢
        rw [hbg]
        exact this
      have H0 : Hid (Fr wr.drew wr.drew (fun i => i = b ∨ v2.ownBlock = some i)) := Fr.refl _ _
      have HCS : Hid (∀ wx : World, (wx.cell? ⟨g, m, none⟩ = some (.int .i64 j) ∧ wx.rangeAt w1.heap.size 0 (intsZ cm) ∧ wx.there w1.heap.size 0 9) → (wx.setCells w1.heap.size 0 (intsZ L)).cell? ⟨g, m, none⟩ = some (.int .i64 j) ∧ (wx.setCells w1.heap.size 0 (intsZ L)).there w1.heap.size 0 9) := fun wx ⟨h1, _, h3⟩ => ⟨(World.cell?_setCells_out w1.heap.size (intsZ L) 0 wx ⟨g, m, none⟩ (fun e => by replace e : g = w1.heap.size := e; omega)).trans h1, World.there_setCells h3 _ _ _⟩
      have HNX : Hid (∀ w5 v5, DM w5 b (vS.1, v5) (.slice a els.length c) els T made M rs (freshK T M rs (chainK T M rs kl (xs.drop (m + 1))) j) G → Fr wr.drew w5 (fun i => i = b ∨ v2.ownBlock = some i) → (∀ i, v5.ownBlock = some i → v2.ownBlock = some i ∨ wr.heap.size ≤ i) → SOI w b vS (.slice a els.length c) els T made M rs kl G w2 w1.heap.size (some ⟨g, 0, none⟩) xs m v5 (w5.setCells w1.heap.size 0 (intsZ L))) := fun w5 v5 hd5 hf5 hj5 => by
        have hz5 : wr.heap.size ≤ w5.heap.size := hf5.size
        have hown : ∀ i, v5.ownBlock = some i → vS.2.ownBlock = some i ∨ w2.heap.size ≤ i := fun i hi => by
          rcases hj5 i hi with h1 | h1
          · exact HS.out.own i h1
          · exact Or.inr (by omega)
        have hfr : Fr w w5 (fun i => i = b ∨ vS.2.ownBlock = some i) := (HS.out.fr.drew1).comp hf5 (fun i hi => by
          rcases hi with h1 | h1
          · exact Or.inl (Or.inl h1)
          · rcases HS.out.own _ h1 with h3 | h3
            · exact Or.inl (Or.inr h3)
            · exact Or.inr (by omega))
        have hkeep : ∀ i, w.heap.size ≤ i → i < w2.heap.size → w5.heap[i]? = wr.heap[i]? := fun i h1 h2 => hf5.block i (by show i < wr.heap.size; omega) (HS.out.alone H0W.out h1 h2)
        refine ⟨?_, Fr.sets (Or.inr (by omega)) _ _ hfr, hown, ?_, World.there_setCells (there_keep HS.out.thr (hkeep w1.heap.size (by omega) (by omega))) _ _ _, World.there_setCells (there_keep HS.out.res (hkeep w.heap.size (by omega) (by omega))) _ _ _, fun i hi => ?_, by rw [size_setCells]; omega⟩
        · rw [HDP.out]
          refine DM.aside (w := w5) hd5 (fun i hi => heap_setCells _ _ _ _ _ (fun e => ?_)) (by rw [size_setCells]; exact Nat.le_refl _)
          subst e
          rcases hi with h1 | h1 | h1 | h1
          · omega
          · have := (HD.out.pb.pl.row.lt _ h1).2; omega
          · rcases hown _ h1 with h2 | h2
            · have := H0W.out _ (Or.inr h2); omega
            · omega
          · have := HD.out.gl _ h1; omega
        · rw [HDP.out]
          show (w5.setCells w1.heap.size 0 (intsZ L)).rangeAt w1.heap.size 0 (intsZ (styleV (viewT T M) rs j))
          rw [HL.out]
          exact World.rangeAt_setCells_same _ _ 0 _ (by rw [hLl]; exact there_keep HS.out.thr (hkeep w1.heap.size (by omega) (by omega)))
        · obtain ⟨g', h1, h2, h3⟩ := HS.out.row i hi
          have hgg : g = g' := by injection h1 with h1; injection h1 with h1 _ _
          subst hgg
          refine ⟨g, rfl, by rw [size_setCells]; omega, ?_⟩
          rw [World.cell?_setCells_out w1.heap.size (intsZ L) 0 w5 ⟨g, i, none⟩ (fun e => by replace e : g = w1.heap.size := e; omega)]
          have := h3
          unfold World.cell? at this ⊢
          rw [hkeep g (by omega) hg2]
          exact this
      obtain ⟨c0, c1, c2, c3, c4, c5, c6, c7, c8, hce⟩ := nine_of hcl
      obtain ⟨l0, l1, l2, l3, l4, l5, l6, l7, l8, hle⟩ := nine_of hL9
      subst hce hle
      have HFA : Hid (∀ wx : World, wx.rangeAt w1.heap.size 0 (intsZ [c0, c1, c2, c3, c4, c5, c6, c7, c8]) → wx.there w1.heap.size 0 9 → wx.cell? ⟨w1.heap.size, 0, none⟩ = some (.int .i64 c0) ∧ wx.cell? ⟨w1.heap.size, 1, none⟩ = some (.int .i64 c1) ∧ wx.cell? ⟨w1.heap.size, 2, none⟩ = some (.int .i64 c2) ∧ wx.cell? ⟨w1.heap.size, 3, none⟩ = some (.int .i64 c3) ∧ wx.cell? ⟨w1.heap.size, 4, none⟩ = some (.int .i64 c4) ∧ wx.cell? ⟨w1.heap.size, 5, none⟩ = some (.int .i64 c5) ∧ wx.cell? ⟨w1.heap.size, 6, none⟩ = some (.int .i64 c6) ∧ wx.cell? ⟨w1.heap.size, 7, none⟩ = some (.int .i64 c7) ∧ wx.cell? ⟨w1.heap.size, 8, none⟩ = some (.int .i64 c8) ∧ wx.frozen? ⟨w1.heap.size, 0, none⟩ = false ∧ wx.frozen? ⟨w1.heap.size, 1, none⟩ = false ∧ wx.frozen? ⟨w1.heap.size, 2, none⟩ = false ∧ wx.frozen? ⟨w1.heap.size, 3, none⟩ = false ∧ wx.frozen? ⟨w1.heap.size, 4, none⟩ = false ∧ wx.frozen? ⟨w1.heap.size, 5, none⟩ = false ∧ wx.frozen? ⟨w1.heap.size, 6, none⟩ = false ∧ wx.frozen? ⟨w1.heap.size, 7, none⟩ = false ∧ wx.frozen? ⟨w1.heap.size, 8, none⟩ = false) := fun wx h1 h2 => ⟨by have := h1 0 _ rfl; simpa using this, by have := h1 1 _ rfl; simpa using this, by have := h1 2 _ rfl; simpa using this, by have := h1 3 _ rfl; simpa using this, by have := h1 4 _ rfl; simpa using this, by have := h1 5 _ rfl; simpa using this, by have := h1 6 _ rfl; simpa using this, by have := h1 7 _ rfl; simpa using this, by have := h1 8 _ rfl; simpa using this, by have := (h2 0 (by decide)).2; simpa using this, by have := (h2 1 (by decide)).2; simpa using this, by have := (h2 2 (by decide)).2; simpa using this, by have := (h2 3 (by decide)).2; simpa using this, by have := (h2 4 (by decide)).2; simpa using this, by have := (h2 5 (by decide)).2; simpa using this, by have := (h2 6 (by decide)).2; simpa using this, by have := (h2 7 (by decide)).2; simpa using this, by have := (h2 8 (by decide)).2; simpa using this⟩
      obtain ⟨k0, k1, k2, k3, k4, k5, k6, k7, k8, f0, f1, f2, f3, f4, f5, f6, f7, f8⟩ := HFA.out wr HRG.out HS.out.thr
      have hm0 : (0 : Int) ≤ (m : Int) := by omega
      have ht5 : w1.heap.size < wr.heap.size := by omega
      clear hx hjT hja hL hcm hLl hLs hLo hCs hUA
      go_upto_region 6 with fail
      go_region_with ((go_at_call 85; refine (pfreshen_any _ b (vS.1, v2) (.slice a els.length c) els T made M rs (chainK T M rs kl (xs.drop (m + 1))) G j lj [c0, c1, c2, c3, c4, c5, c6, c7, c8] HDd.out (HKC.out (m + 1)) HJ.out.1 HCM.out hcl).mono ?_; intro e w5 hp; obtain ⟨rfl, v5, hd5, hf5, hj5⟩ := hp; rw [HL.out]; obtain ⟨y0, y1, y2, y3, y4, y5, y6, y7, y8, z0, z1, z2, z3, z4, z5, z6, z7, z8⟩ := HFA.out w5 (HC.out w5 hf5).2.1 (HC.out w5 hf5).2.2; have y5l : w1.heap.size < w5.heap.size := Nat.lt_of_lt_of_le ht5 hf5.size; have HX : Hid (SOI w b vS (.slice a els.length c) els T made M rs kl G w2 w1.heap.size (some ⟨g, 0, none⟩) xs m v5 (w5.setCells w1.heap.size 0 (intsZ [l0, l1, l2, l3, l4, l5, l6, l7, l8]))) := HNX.out w5 v5 hd5 hf5 hj5; clear hd5 hf5 hj5))
      all_goals
        have HI : Hid (∃ v5, SOI w b vS (.slice a els.length c) els T made M rs kl G w2 w1.heap.size (some ⟨g, 0, none⟩) xs m v5 (((((((((w5.setCell ⟨w1.heap.size, 0, none⟩ (.int .i64 l0)).setCell ⟨w1.heap.size, 1, none⟩ (.int .i64 l1)).setCell ⟨w1.heap.size, 2, none⟩ (.int .i64 l2)).setCell ⟨w1.heap.size, 3, none⟩ (.int .i64 l3)).setCell ⟨w1.heap.size, 4, none⟩ (.int .i64 l4)).setCell ⟨w1.heap.size, 5, none⟩ (.int .i64 l5)).setCell ⟨w1.heap.size, 6, none⟩ (.int .i64 l6)).setCell ⟨w1.heap.size, 7, none⟩ (.int .i64 l7)).setCell ⟨w1.heap.size, 8, none⟩ (.int .i64 l8))) := ⟨v5, HX.out⟩
        clear HNX HCS HC H0 HRG HDd HS HX HFA
        go_wp2
        go_roundg m
        case measure => omega
        case rel => exact ⟨m, by go_num, by omega, Nat.le_refl _, HI⟩
end
end Go.Proofs.YtblfffbmklkhmaaGreat

namespace Go.Proofs.YtblfffbmklkhmaaGreat
open Go.RowKit
/-- The place of a property, or the error. -/
def PPlaceOf (w : World) (T : Tree) (n : Int) (s : ByteArray) (e : Ending) (w' : World) : Prop := e = .returned (.tuple #[.int .i64 ((if qryErr T n s = 0 then (propP s).getD 0 else 0 : Nat) : Int), .int .i64 (qryErr T n s)]) ∧ Below w.heap.size w w'
theorem qry_some {T : Tree} {n : Int} {s : ByteArray} (h : qryErr T n s = 0) : ∃ l p, tFind T n = some l ∧ propP s = some p := by
  unfold qryErr at h
  cases ht : tFind T n with
  | none => rw [ht] at h; cases h
  | some l =>
    rw [ht] at h
    cases hp : propP s with
    | none => simp only [hp] at h; cases h
    | some p => exact ⟨l, p, rfl, rfl⟩
theorem propP_lt {s : ByteArray} {p : Nat} (h : propP s = some p) : p < 9 := by
  unfold propP at h
  split at h
  · exact placeOfP_lt h
  · cases h
section
set_option maxRecDepth 100000
set_option maxHeartbeats 4000000
variable (w : World) (b : Nat) (vS : Value × Value) (v : Value) (els : List PEl) (T : Tree) (made : Nat) (M : Nat → Mk) (rs : List PRu) (kl : List (Int × List Int)) (G : Nat → Prop)
theorem dplaceOf_any (n : Int) (s : ByteArray) (h : DM w b vS v els T made M rs kl G) : Calls Tryz.prog 66 #[.pointer (some ⟨b, 0, none⟩), .int .i64 n, .string s] w fun e w' => PPlaceOf w T n s e w' := by
  obtain ⟨a, c, hv⟩ := h.pb.pl.shape
  subst hv
  have HD : Hid (DM w b vS (.slice a els.length c) els T made M rs kl G) := h
  have HF : Hid ((findP els n).isSome = (tFind T n).isSome) := findP_isSome h.pb.pt h.tw n
  clear h
  go_enter Tryz.func66, Tryz.ntmps66
  go_wp2_with fail
  refine (phas_any w b a c els n HD.out.trd).mono ?_
  rintro e w1 ⟨rfl, hB1⟩
  rw [HF.out]
  cases ht : tFind T n with
  | none =>
    have HE : Hid (PPlaceOf w T n s (.returned (.tuple #[.int .i64 0, .int .i64 5])) w1) := by
      have : qryErr T n s = 5 := by unfold qryErr; rw [ht]
      unfold PPlaceOf
      rw [this]
      exact ⟨rfl, hB1⟩
    clear ht hB1
    simp only [Option.isSome_none]
    go_wp2
    go_ret2
    exact HE.out
  | some l =>
    simp only [Option.isSome_some]
    have HB1 : Hid (Below w.heap.size w w1) := hB1
    have HQ : Hid ((propP s = none → qryErr T n s = 4) ∧ ∀ p, propP s = some p → qryErr T n s = 0) := ⟨fun hp => by unfold qryErr; rw [ht]; simp only [hp], fun p hp => by unfold qryErr; rw [ht]; simp only [hp]⟩
    clear ht hB1
    go_wp2_with fail
    refine (pproperty_any w1 s).mono ?_
    rintro e w2 ⟨rfl, hB2⟩
    have HB2 : Hid (Below w.heap.size w w2) := HB1.out.trans (hB2.mono HB1.out.size)
    clear hB2
    cases hp : propP s with
    | none =>
      have HE : Hid (PPlaceOf w T n s (.returned (.tuple #[.int .i64 0, .int .i64 4])) w2) := by
        have : qryErr T n s = 4 := HQ.out.1 hp
        unfold PPlaceOf
        rw [this]
        exact ⟨rfl, HB2.out⟩
      clear hp
      simp only [Option.isSome_none, Option.getD_none]
      go_wp2
      go_ret2
      exact HE.out
    | some p =>
      have HE : Hid (PPlaceOf w T n s (.returned (.tuple #[.int .i64 (p : Nat), .int .i64 0])) w2) := by
        have : qryErr T n s = 0 := HQ.out.2 p hp
        unfold PPlaceOf
        rw [this, if_pos rfl, hp]
        exact ⟨rfl, HB2.out⟩
      clear hp
      simp only [Option.isSome_some, Option.getD_some]
      go_wp2
      go_ret2
      exact HE.out
end
section
set_option maxRecDepth 100000
set_option maxHeartbeats 4000000
variable (w : World) (px : Value) (T : Tree) (made : Nat) (M : Nat → Mk) (rs : List PRu) (kl : List (Int × List Int)) (F : Nat → Prop)
def DQryPost (n : Int) (s : ByteArray) (e : Ending) (w' : World) : Prop :=
  e = .returned (.tuple #[.int .i64 (qryVal T M rs n s), .int .i64 (qryErr T n s)]) ∧ DSk w' px T made M rs (if qryErr T n s = 0 then styleK T M rs kl n else kl) (More F w) ∧ Fr w w' F
theorem dqry_any (n : Int) (s : ByteArray) (h : DSk w px T made M rs kl F) : Calls Tryz.prog 37 #[px, .int .i64 n, .string s] w fun e w' => DQryPost w px T made M rs kl F n s e w' := by
  obtain ⟨b, vS, v, els, G, rfl, h2, h3, h4, h5, h6, h7⟩ := h
  have HB : Hid (DM w b vS v els T made M rs kl G ∧ KOK T M rs kl ∧ F b ∧ (∀ j, v.ownBlock = some j → F j) ∧ (∀ j, vS.2.ownBlock = some j → F j) ∧ ∀ k, G k → F k) := ⟨h2, h3, h4, h5, h6, h7⟩
  clear h2 h3 h4 h5 h6 h7
  go_enter Tryz.func37, Tryz.ntmps37
  go_wp2_with fail
  refine (dplaceOf_any w b vS v els T made M rs kl G n s HB.out.1).mono ?_
  rintro e w1 ⟨rfl, hB1⟩
  have HD1 : Hid (DM w1 b vS v els T made M rs kl G) := HB.out.1.below hB1
  have HB1 : Hid (Below w.heap.size w w1) := hB1
  clear hB1
  by_cases hq : qryErr T n s = 0
  · obtain ⟨l, p, ht, hp⟩ := qry_some hq
    obtain ⟨hmem, hn⟩ := find_nat ht
    have hp9 := propP_lt hp
    have HV : Hid (qryVal T M rs n s = (styleV (viewT T M) rs n).getD p 0) := by unfold Hid qryVal; rw [if_pos hq, hp]; rfl
    have HQ : Hid (qryErr T n s = 0) := hq
    rw [if_pos hq, hq, hp]
    simp only [Option.getD_some]
    obtain ⟨k, hk⟩ : ∃ k : Nat, n.toNat = k := ⟨_, rfl⟩
    rw [hk] at hmem hn
    subst hn
    have HM : Hid ((k, l) ∈ T) := hmem
    clear hq ht hp hmem hk
    go_wp2_with fail
    refine (pstyleOf_any w1 b vS v els T made M rs kl G k l HD1.out HB.out.2.1 HM.out).mono ?_
    rintro e w2 ⟨rfl, v2, hd2, hf2, hj2⟩
    have hL9 := styleV_len (viewT T M) rs k
    have HE : Hid (∀ Z, DQryPost w (.pointer (some ⟨b, 0, none⟩)) T made M rs kl F k s (.returned (.tuple #[.int .i64 ((styleV (viewT T M) rs k).getD p 0), .int .i64 0])) (w2.alloc (.cells Z 103))) := fun Z => by
      have hf : Fr w w2 F := ((Fr.refl w F).below HB1.out).trans (hf2.mono (fun j hj => by
        rcases hj with e | e
        · exact e ▸ HB.out.2.2.1
        · exact HB.out.2.2.2.2.1 j e))
      refine ⟨by rw [HQ.out, HV.out], ?_, hf.alloc _⟩
      rw [if_pos HQ.out]
      refine ⟨b, (vS.1, v2), v, els, G, rfl, hd2.below ((Below.refl _ _).alloc (Nat.le_refl _) _), style_kok HB.out.2.1 HB.out.1.tw HM.out, Or.inl HB.out.2.2.1, fun j hj => Or.inl (HB.out.2.2.2.1 j hj), fun j hj => ?_, fun j hj => Or.inl (HB.out.2.2.2.2.2 j hj)⟩
      rcases hj2 j hj with h1 | h1
      · exact Or.inl (HB.out.2.2.2.2.1 j h1)
      · exact Or.inr (Nat.le_trans HB1.out.size h1)
    clear hd2 hf2 hj2
    generalize styleV (viewT T M) rs k = L at hL9 HE ⊢
    have hlen : (intsZ L).toArray.size = 9 := List.size_toArray.trans (by rw [List.length_map]; exact hL9)
    have HS2 : Hid ((Tryz.prog.info? 103).map (·.size) = some (intsZ L).toArray.size) := by unfold Hid; rw [hlen]; exact Tryz.sizeS
    have HS9 : Hid (9 = (intsZ L).toArray.size) := hlen.symm
    have HO9 : Hid ((intsZ L).toArray.all (·.oneCell') = true) := one_ints L
    have q0 : (w2.alloc (.cells (intsZ L).toArray 103)).cell? ⟨w2.heap.size, p, none⟩ = some (.int .i64 (L.getD p 0)) := by
      have := range_new w2 (intsZ L) 103 p (.int .i64 (L.getD p 0)) (sty_at (by omega))
      rwa [Nat.zero_add] at this
    have hpi : (p : Int) < 9 := by omega
    clear hlen
    generalize L.getD p 0 = val at q0 HE
    go_wp2_with (refine wpList_store_new rfl 103 _ _ rfl _ (intsZ L).toArray 103 rfl rfl HS2.out HS9.out HO9.out ?_)
    go_ret2
    exact HE.out _
  · have HE : Hid (DQryPost w (.pointer (some ⟨b, 0, none⟩)) T made M rs kl F n s (.returned (.tuple #[.int .i64 0, .int .i64 (qryErr T n s)])) w1) := by
      refine ⟨by unfold qryVal; rw [if_neg hq], ?_, (Fr.refl w F).below HB1.out⟩
      rw [if_neg hq]
      exact ⟨b, vS, v, els, G, rfl, HD1.out, HB.out.2.1, Or.inl HB.out.2.2.1, fun j hj => Or.inl (HB.out.2.2.2.1 j hj), fun j hj => Or.inl (HB.out.2.2.2.2.1 j hj), fun j hj => Or.inl (HB.out.2.2.2.2.2 j hj)⟩
    have gq : (qryErr T n s != 0) = true := by simp [hq]
    rw [if_neg hq]
    clear hq
    generalize qryErr T n s = y at HE gq ⊢
    go_wp2
    go_ret2
    exact HE.out
end
/-- The program's document, whatever is kept. -/
def DSd (w : World) (px : Value) (T : Tree) (made : Nat) (M : Nat → Mk) (rs : List PRu) (F : Nat → Prop) : Prop := ∃ kl, DSk w px T made M rs kl F
/-- All that is asked of the program's document by the statements without the document's answer. -/
theorem doc_ok : DocOK DSd where
  ptr := fun ⟨_, h⟩ => by
    obtain ⟨b, _, _, _, _, rfl, _⟩ := h
    exact ⟨_, rfl⟩
  tw := fun ⟨_, h⟩ => h.tw
  mark := fun ⟨kl, h⟩ hm => ⟨kl, h.mark hm⟩
  keep := fun ⟨kl, h⟩ hk hz => ⟨kl, h.keep hk hz⟩
  here := fun ⟨kl, h⟩ => ⟨kl, h.here⟩
  new := fun w s root hs => (dnew_any w s root hs).mono fun e w' h => ⟨h.1, h.2.imp id (fun ⟨h1, px, h2, h3⟩ => ⟨h1, px, h2, [], h3⟩)⟩
  ins := fun w px T made M rs F par at' kind ⟨kl, h⟩ hm => (dins_any w px T made M rs kl F par at' kind h hm).mono fun e w' ⟨y, T', made', n, kl', h1, h2, h3, h4, _⟩ => ⟨y, T', made', n, h1, h2, ⟨kl', h3⟩, h4⟩
  rem := fun w px T made M rs F n ⟨kl, h⟩ => (drem_any w px T made M rs kl F n h).mono fun e w' ⟨y, T', kl', h1, h2, h3, h4, _⟩ => ⟨y, T', h1, h2, ⟨kl', h3⟩, h4⟩
  mov := fun w px T made M rs F n m at' ⟨kl, h⟩ => (dmov_any w px T made M rs kl F n m at' h).mono fun e w' ⟨y, T', kl', h1, h2, h3, h4, _⟩ => ⟨y, T', h1, h2, ⟨kl', h3⟩, h4⟩
  cls := fun w px T made M rs F n s on ⟨kl, h⟩ => (dcls_any w px T made M rs kl F n s on h).mono fun e w' ⟨y, kl', h1, h2, h3, h4, _⟩ => ⟨y, h1, h2, ⟨kl', h3⟩, h4⟩
  nam := fun w px T made M rs F n s ⟨kl, h⟩ => (dnam_any w px T made M rs kl F n s h).mono fun e w' ⟨y, kl', h1, h2, h3, h4, _⟩ => ⟨y, h1, h2, ⟨kl', h3⟩, h4⟩
  sht := fun w px T made M rs F s hs ⟨kl, h⟩ => (dsht_any w px T made M rs kl F s hs h).mono fun e w' ⟨y, kl', h1, h2, h3, h4, _⟩ => ⟨y, h1, h2, ⟨kl', h3⟩, h4⟩
  qry := fun w px T made M rs F n s ⟨kl, h⟩ => (dqry_any w px T made M rs kl F n s h).mono fun e w' ⟨h1, h2, h3⟩ => ⟨h1, ⟨_, h2⟩, h3⟩
end Go.Proofs.YtblfffbmklkhmaaGreat

namespace Go.Proofs.YtblfffbmklkhmaaGreat
open Go.ChangeShapes Go.WideShapes Go.ChangeAt Go.RowKit
theorem Tryz.bytes78 : Tryz.prog.bytesOf 78 = 32 := by kernel_rfl
end Go.Proofs.YtblfffbmklkhmaaGreat
