/- Own work. -/
import Derived.Test.YtblfffbmklkhmaaGreatPn9
import Derived.Test.YtblfffbmklkhmaaGreatPn10
namespace Go.Proofs.YtblfffbmklkhmaaGreat
open Go.RowKit
def PMovPost (w : World) (b : Nat) (vS : Value × Value) (v : Value) (els : List PEl) (T : Tree) (made : Nat) (n m at' : Int) (e : Ending) (w' : World) : Prop :=
  ∃ y T' v' els', e = .returned (.int .i64 y) ∧ TMov T n m at' y T' ∧ PB3 w' b vS v' els' T' made ∧ Fr w w' (fun k => k = b) ∧ (∀ j, v'.ownBlock = some j → v.ownBlock = some j ∨ w.heap.size ≤ j) ∧ ∀ M, MkO els M → MkO els' M
theorem mov_none {T : Tree} {n m at' : Int} (h : tFind T n = none ∨ tFind T m = none) : tMovErr T n m at' = 5 := by
  unfold tMovErr
  rcases h with h | h
  · rw [h]
  · rw [h]
    cases tFind T n <;> rfl
theorem mov_some {T : Tree} {n m at' : Int} {l l' : List Nat} (h : tFind T n = some l') (h2 : tFind T m = some l) : tMovErr T n m at' = if tPar T n < 0 then 6 else if tUnderB T n m = true then 7 else if at' < 0 ∨ ((noneOf n l).length : Int) < at' then 8 else 0 := by
  unfold tMovErr
  rw [h, h2]
theorem erase_len {els : List PEl} {i : Nat} : (els.eraseIdx i).length ≤ els.length := List.length_eraseIdx_le _ _
set_option maxRecDepth 100000 in
set_option maxHeartbeats 4000000 in
theorem pmov_any (w : World) (b : Nat) (vS : Value × Value) (v : Value) (els : List PEl) (T : Tree) (made : Nat) (n m at' : Int) (h : PB3 w b vS v els T made) (hw : TW T made) :
    Calls Tryz.prog 156 #[.pointer (some ⟨b, 1, none⟩), .int .i64 n, .int .i64 m, .int .i64 at'] w fun e w' => PMovPost w b vS v els T made n m at' e w' := by
  have HB : Hid (PB3 w b vS v els T made) := h
  have HW : Hid (TW T made) := hw
  have hfew := h.few
  clear h hw
  have HERR : Hid (∀ (y : Int) (w' : World), Below w.heap.size w w' → y ≠ 0 → tMovErr T n m at' = y → PMovPost w b vS v els T made n m at' (.returned (.int .i64 y)) w') := fun y w' hb hy he =>
    ⟨y, T, v, els, rfl, ⟨he.symm, Or.inl ⟨hy, rfl⟩⟩, HB.out.below hb, (Fr.refl w _).below hb, fun j hj => Or.inl hj, fun M hM => hM⟩
  go_enter Tryz.func156, Tryz.ntmps156
  go_wp2_with fail
  refine (pfind_any w b v els n HB.out.c1 HB.out.pl hfew).mono ?_
  rintro e w1 ⟨hB1, ⟨hf, rfl⟩ | ⟨ip, xp, hxp, hf, rfl⟩⟩
  · have HE := HERR.out 5 w1 hB1 (by decide) (mov_none (Or.inl (HB.out.pt.find_none hf)))
    clear hf
    go_wp2
    go_ret
    exact HE
  · obtain ⟨hTf, hTm, hpar⟩ := HB.out.pt.find_some HW.out hf
    have HT : Hid (tFind T n = some (kidsP els n) ∧ (xp.num, kidsP els n) ∈ T ∧ n = xp.num) := ⟨hTf, hTm, hpar⟩
    have HIX : Hid (els[ip]? = some xp) := hxp
    have hip : ip < els.length := (List.getElem?_eq_some_iff.1 hxp).1
    clear hf hTf hTm hpar hxp
    have hc1 := (HB.out.below hB1).c1
    go_wp2_with fail
    refine (pfind_any w1 b v els m hc1 (HB.out.below hB1).pl hfew).mono ?_
    rintro e w2 ⟨hB2', ⟨hf, rfl⟩ | ⟨iq, xq, _, hf, rfl⟩⟩
    · have hB2 : Below w.heap.size w w2 := hB1.trans (hB2'.mono hB1.size)
      have HE := HERR.out 5 w2 hB2 (by decide) (mov_none (Or.inr (HB.out.pt.find_none hf)))
      clear hf hB2' hB1 hc1
      go_wp2
      go_ret
      exact HE
    · have hB2 : Below w.heap.size w w2 := hB1.trans (hB2'.mono hB1.size)
      clear hB1 hB2' hc1
      obtain ⟨hTf, hTm, hpar⟩ := HB.out.pt.find_some HW.out hf
      have hxq := (findP_some hf).1
      have HQ : Hid (tFind T m = some (kidsP els m) ∧ (xq.num, kidsP els m) ∈ T ∧ m = xq.num ∧ xq ∈ els) := ⟨hTf, hTm, hpar, hxq⟩
      clear hf hTf hTm hpar hxq
      have HSO : Hid (tMovErr T n m at' = if tPar T n < 0 then 6 else if tUnderB T n m = true then 7 else if at' < 0 ∨ ((noneOf n (kidsP els m)).length : Int) < at' then 8 else 0) := mov_some HT.out.1 HQ.out.1
      by_cases h0 : n = 0
      · have g0 : (n == 0) = true := by simp [h0]
        have HE := HERR.out 6 w2 hB2 (by decide) (by
          have h1 := HT.out.2.2
          rw [HSO.out, if_pos (by rw [h1]; exact (HW.out.par_neg HT.out.2.1).2 (by omega))])
        clear h0
        go_wp2
        go_ret
        exact HE
      · have g0 : (n == 0) = false := by simp [h0]
        have H0 : Hid (xp.num ≠ 0) := by have h1 := HT.out.2.2; unfold Hid; omega
        have HPN : Hid (0 ≤ tPar T n) := by
          have h1 := HT.out.2.2
          unfold Hid
          rw [h1]
          exact Int.not_lt.1 fun hx => H0.out ((HW.out.par_neg HT.out.2.1).1 hx)
        clear h0
        have hc1 := (HB.out.below hB2).c1
        have HUN : Hid ((∃ k, k < els.length ∧ upP els k m = n) ↔ tUnderB T n m = true) := by
          unfold Hid
          have h1 := HQ.out.2.2.1
          rw [tUnderB_iff, h1]
          exact pt_within HB.out.pt HW.out HQ.out.2.2.2 (a := n) (by have := HT.out.2.2; omega)
        go_wp2_with fail
        refine (pwithin_any w2 b v els m n hc1 (HB.out.below hB2).pl hfew).mono ?_
        rintro e w3 ⟨hB3', r, rfl, hr⟩
        have hB3 : Below w.heap.size w w3 := hB2.trans (hB3'.mono hB2.size)
        have HR : Hid (r = true ↔ tUnderB T n m = true) := hr.trans HUN.out
        clear hB2 hB3' hr hc1
        cases r with
        | true =>
          have HE := HERR.out 7 w3 hB3 (by decide) (by rw [HSO.out, if_neg (Int.not_lt.2 HPN.out), if_pos (HR.out.1 rfl)])
          go_wp2
          go_ret
          exact HE
        | false =>
          have HNU : Hid (¬ tUnderB T n m = true) := fun hx => by have := HR.out.2 hx; cases this
          clear HR
          have hc1 := (HB.out.below hB3).c1
          have HB3 : Hid (PB3 w3 b vS v els T made) := HB.out.below hB3
          go_wp2_with fail
          refine (pwithout_any w3 v els ip HB3.out.pl hfew).mono ?_
          rintro e w4 ⟨a4, c4, rfl, own4, hB4'⟩
          have hB4 : Below w.heap.size w w4 := hB3.trans (hB4'.mono hB3.size)
          have HER : Hid (els.eraseIdx ip = els.filter fun x => decide (x.num ≠ xp.num)) := HB.out.pt.without HIX.out
          have HKR : Hid (kidsP (els.eraseIdx ip) m = noneOf n (kidsP els m)) := by
            unfold Hid
            rw [HER.out, kids_without, HT.out.2.2]
          have HPR : Hid (PL w4 (.slice a4 (els.eraseIdx ip).length c4) (els.eraseIdx ip)) := ⟨own_mono own4 (Nat.zero_le _), fun e he => HB.out.pl.ok e (List.mem_of_mem_eraseIdx he)⟩
          have hfr : (els.eraseIdx ip).length ≤ 24 := Nat.le_trans erase_len hfew
          clear hB3 hB4' own4 hc1 HB3
          generalize els.eraseIdx ip = R at HER HKR HPR hfr ⊢
          go_wp2_with fail
          refine (pplace_any w4 _ R m at' HPR.out hfr).mono ?_
          rintro e w5 ⟨hB5', ⟨place, rfl, hpl, hkl⟩ | ⟨n', rfl, hbad⟩⟩
          · have hB5 : Below w.heap.size w w5 := hB4.trans (hB5'.mono hB4.size)
            have HPR5 : Hid (PL w5 (.slice a4 R.length c4) R) := ⟨own_below HPR.out.row hB5', HPR.out.ok⟩
            have HK : Hid (((kidsP (R.take place) m).length : Int) = at') := hkl
            have HB5 : Hid (PB3 w5 b vS v els T made) := HB.out.below hB5
            obtain ⟨av, cv, hvv⟩ := HB.out.pl.shape
            subst hvv
            obtain ⟨g, hg, hgl, he⟩ := HB5.out.pl.el hip
            have hxe : els[ip] = xp := (List.getElem?_eq_some_iff.1 HIX.out).2
            rw [hxe] at he
            subst hg
            have HE5 : Hid (ElAt w5 g (ip * 31) xp.cells xp.num xp.par) := he
            have HFR : Hid (Fr w w5 (fun k => k = b)) := (Fr.refl w _).below hB5
            have hc1 := HB5.out.c1
            clear hB4 hB5' hkl he hxe HPR hB5
            have hil : (ip : Int) < (els.length : Int) := by omega
            go_upto_region 16 with (first | (refine wpList_load_mid rfl 134 _ rfl g (ip * 31) rfl xp.cells _ HE5.out.rng Tryz.underlying134 rfl HE5.out.size ?_) | (refine wpList_store_new rfl 134 _ _ rfl _ xp.cells.toArray 134 rfl rfl HE5.out.size' HE5.out.same HE5.out.all ?_))
            go_upto_region 17 with fail
            have HYO : Hid (PEl.ok ⟨xp.num, m, xp.rest⟩) := HB.out.pl.ok xp (List.mem_of_getElem? HIX.out)
            have hset : xp.cells.set 1 (.int .i64 m) = (PEl.mk xp.num m xp.rest).cells := rfl
            rw [hset]
            clear hset
            have HYM : Hid (∀ k, (kidsP (R.take place) m).length = k → PT (withP R place ⟨xp.num, m, xp.rest⟩) (tMov T xp.num xq.num k)) := fun k hk => by
              have h1 := HQ.out.2.2.1
              have := HB.out.pt.mov HW.out (p := xq.num) (k := k) (place := place) HT.out.2.1 H0.out xp.rest (by rw [← HER.out, ← h1]; exact hk)
              rw [← HER.out, ← h1] at this
              exact this
            have hwl := with_len R place ⟨xp.num, m, xp.rest⟩
            have HRL : Hid (R.length + 1 ≤ els.length) := by
              unfold Hid
              have h1 := HT.out.2.1
              have h2 : R.length < els.length := by
                rw [HER.out]
                have h3 : (els.filter fun x => decide (x.num ≠ xp.num)).length + 1 ≤ els.length := by
                  have h4 := List.length_eraseIdx_of_lt hip
                  rw [HB.out.pt.without HIX.out] at h4
                  omega
                omega
              omega
            have HMK : Hid (∀ M, MkO els M → MkO (withP R place ⟨xp.num, m, xp.rest⟩) M) := fun M hM => by
              have hxm : xp ∈ els := List.mem_of_getElem? HIX.out
              have hR : ∀ e ∈ R, e ∈ els ∧ e.num ≠ xp.num := fun e he => by
                rw [HER.out, List.mem_filter, decide_eq_true_eq] at he
                exact he
              have h1 := (hM.sub (fun e he => (hR e he).1) : MkO R M).more (x := ⟨xp.num, m, xp.rest⟩) (m := M xp.num) place ⟨(hM.2 xp hxm).kind, (hM.2 xp hxm).cls, (hM.2 xp hxm).name, (hM.2 xp hxm).shown⟩ (hM.1 xp hxm) (fun e he => (hR e he).2)
              refine h1.ext (fun e _ => ?_)
              unfold setM
              split
              · rename_i h2
                rw [h2]
              · rfl
            generalize PEl.mk xp.num m xp.rest = yp at HYO HYM HMK hwl ⊢
            have HE6 : Hid (ElAt (w5.alloc (.cells yp.cells.toArray 134)) w5.heap.size 0 yp.cells yp.num yp.par) := el_new HYO.out w5
            have HB6 : Hid (PB3 (w5.alloc (.cells yp.cells.toArray 134)) b vS (.slice (some ⟨g, 0, none⟩) els.length cv) els T made) := HB5.out.below ((Below.refl _ _).alloc (Nat.le_refl _) _)
            have HR6 : Hid (PL (w5.alloc (.cells yp.cells.toArray 134)) (.slice a4 R.length c4) R) := ⟨HPR5.out.row.alloc _, HPR5.out.ok⟩
            have HF6 : Hid (Fr w (w5.alloc (.cells yp.cells.toArray 134)) (fun k => k = b)) := HFR.out.alloc _
            obtain ⟨W6, hW6⟩ : ∃ W6, W6 = w5.alloc (.cells yp.cells.toArray 134) := ⟨_, rfl⟩
            rw [← hW6] at HE6 HB6 HR6 HF6 ⊢
            clear hW6 hc1 HE5 HB5 HPR5 HFR
            have hc1 := HB6.out.c1
            go_wp2_with (first | (refine wpList_load_mid rfl 134 _ rfl w5.heap.size 0 rfl yp.cells _ HE6.out.rng Tryz.underlying134 rfl HE6.out.size ?_))
            refine (pwith_any W6 _ R place yp HR6.out HYO.out hpl hfr).mono ?_
            rintro e w7 ⟨a7, c7, rfl, own7, hB7⟩
            have HB8 : Hid (PB3 (w7.setCell ⟨b, 1, none⟩ (.slice a7 (withP R place yp).length c7)) b vS (.slice a7 (withP R place yp).length c7) (withP R place yp) (tMov T xp.num xq.num (kidsP (R.take place) m).length) made) :=
              HB6.out.set hB7 own7 (ok_with HR6.out.ok HYO.out place) (HYM.out _ rfl) (by rw [hwl]; have := HRL.out; omega)
            have e1 : w7.cell? ⟨b, 1, none⟩ = some (.slice (some ⟨g, 0, none⟩) els.length cv) := (HB6.out.below hB7).c1
            have ez : ∀ k, w7.frozen? ⟨b, k, none⟩ = false := fun _ => frozen_of_blk (HB6.out.below hB7).doc
            have HAT : Hid (¬ (at' < 0 ∨ ((noneOf n (kidsP els m)).length : Int) < at')) := by
              have h1 := HK.out
              have h2 : (kidsP (R.take place) m).length ≤ (kidsP R m).length := by
                have h3 : kidsP R m = kidsP (R.take place) m ++ kidsP (R.drop place) m := by rw [← kidsP_append, List.take_append_drop]
                rw [h3, List.length_append]
                omega
              rw [HKR.out] at h2
              intro h3
              omega
            have HE : Hid (PMovPost w b vS (.slice (some ⟨g, 0, none⟩) els.length cv) els T made n m at' (.returned (.int .i64 0)) (w7.setCell ⟨b, 1, none⟩ (.slice a7 (withP R place yp).length c7))) := by
              refine ⟨0, _, _, _, rfl, ⟨?_, Or.inr ⟨rfl, xp.num, xq.num, (kidsP (R.take place) m).length, HT.out.2.2, HQ.out.2.2.1, HK.out.symm, H0.out, ⟨_, HT.out.2.1⟩, ⟨_, HQ.out.2.1, ?_⟩, ?_, rfl⟩⟩, HB8.out, (HF6.out.below hB7).set (p := ⟨b, 1, none⟩) (Or.inl rfl) _, fun j hj => Or.inr ?_, HMK.out⟩
              · rw [HSO.out, if_neg (Int.not_lt.2 HPN.out), if_neg HNU.out, if_neg HAT.out]
              · have h1 := HAT.out
                have h2 := HK.out
                rw [← HT.out.2.2]
                omega
              · have h1 := HNU.out
                rw [tUnderB_iff, HT.out.2.2, HQ.out.2.2.1] at h1
                exact h1
              · have := (own7.lt j hj).1
                have := HF6.out.size
                omega
            clear own7 hB7 hc1
            generalize (withP R place yp).length = n7 at HE HB8 hwl ⊢
            clear hwl
            go_wp2
            go_ret
            exact HE.out
          · have HE := HERR.out 8 w5 (hB4.trans (hB5'.mono hB4.size)) (by decide) (by rw [HSO.out, if_neg (Int.not_lt.2 HPN.out), if_neg HNU.out, if_pos (by rw [← HKR.out]; exact hbad)])
            clear hbad hB4 hB5'
            go_wp2
            go_ret
            exact HE
end Go.Proofs.YtblfffbmklkhmaaGreat

namespace Go.Proofs.YtblfffbmklkhmaaGreat
open Go.RowKit
def PTreePost (w : World) (s : ByteArray) (e : Ending) (w' : World) : Prop :=
  Below w.heap.size w w' ∧ ((isLetter s = false ∧ e = .returned (.tuple #[.agg #[.slice none 0 0, .int .i64 0], .int .i64 4])) ∨ (isLetter s = true ∧ ∃ (g : Nat) (x : PEl), e = .returned (.tuple #[.agg #[.slice (some ⟨g, 0, none⟩) 1 1, .int .i64 1], .int .i64 0]) ∧ x.num = 0 ∧ x.par = -1 ∧ (∀ M, MkO [x] (setM M 0 (newMk s))) ∧ PL w' (.slice (some ⟨g, 0, none⟩) 1 1) [x] ∧ w.heap.size ≤ g))
set_option maxRecDepth 100000 in
set_option maxHeartbeats 4000000 in
theorem pnew_any (w : World) (s : ByteArray) :
    Calls Tryz.prog 43 #[.string s] w fun e w' => PTreePost w s e w' := by
  obtain ⟨i0, z0, hi, iz, is, ib, izs⟩ := Tryz.infoE
  go_enter Tryz.func43, Tryz.ntmps43
  go_wp2_with fail
  refine (pone_any _ s).mono ?_
  rintro e w1 ⟨c, rfl, hdr, hcb, _⟩
  have HCB : Hid (isLetter s = true → c = bt s 0) := hcb
  clear hcb
  have hB1 : Below w.heap.size w w1 := ((Below.refl _ _).alloc (Nat.le_refl _) _).trans (hdr.below.mono (by simp))
  have hz1 : w.heap.size < w1.heap.size := by have := hdr.below.size; simp at this; omega
  have hblk : w1.heap[w.heap.size]? = some (.cells #[.slice none 0 0, .int .i64 0] 85) := (hdr.below.block w.heap.size (by simp)).trans (heap_alloc_new w _)
  have q0 : w1.cell? ⟨w.heap.size, 0, none⟩ = some (.slice none 0 0) := cell_of_blk hblk rfl
  have q1 : w1.cell? ⟨w.heap.size, 1, none⟩ = some (.int .i64 0) := cell_of_blk hblk rfl
  have qz : ∀ k, w1.frozen? ⟨w.heap.size, k, none⟩ = false := fun _ => frozen_of_blk hblk
  have HBK : Hid (w1.heap[w.heap.size]? = some (.cells #[.slice none 0 0, .int .i64 0] 85)) := hblk
  clear hdr hblk
  cases hl : isLetter s with
  | false =>
    have HL : Hid (isLetter s = false) := hl
    clear hl
    go_wp2_with fail
    exact bodyPost_ret (v := .tuple #[.agg #[.slice none 0 0, .int .i64 0], .int .i64 4]) (by simp [results, Tryz.results43, go_sem, q0, q1]) rfl ⟨(hB1.setCell (Nat.le_refl _) _).setCell (Nat.le_refl _) _, Or.inl ⟨HL.out, rfl⟩⟩
  | true =>
    have HL : Hid (isLetter s = true) := hl
    clear hl
    have HXO := new_ok 0 (-1) c
    have HMK : Hid (∀ M, MkO [PEl.mk 0 (-1) (newRest c)] (setM M 0 (newMk s))) := fun M => (show MkO [] M from ⟨fun _ h => (by cases h), fun _ h => (by cases h)⟩).more (x := PEl.mk 0 (-1) (newRest c)) 0 (new_shp _ _ _) (new_mk _ _ (HCB.out HL.out)) (fun _ h => by cases h)
    have HE : Hid (ElAt (w1.alloc (.cells (PEl.mk 0 (-1) (newRest c)).cells.toArray 134)) w1.heap.size 0 (PEl.mk 0 (-1) (newRest c)).cells 0 (-1)) := el_new HXO w1
    go_upto_region 5 with (refine wpList_store_new rfl 134 _ _ rfl _ (PEl.mk 0 (-1) (newRest c)).cells.toArray 134 rfl rfl HE.out.size' HE.out.same HE.out.all ?_)
    have HX2 : Hid (∃ x : PEl, x.num = 0 ∧ x.par = -1 ∧ (∀ M, MkO [x] (setM M 0 (newMk s))) ∧ x.ok ∧ x.cells = (PEl.mk 0 (-1) (newRest c)).cells) := ⟨_, rfl, rfl, HMK.out, HXO, rfl⟩
    clear HXO HMK
    generalize (PEl.mk 0 (-1) (newRest c)).cells = cs at HE HX2 ⊢
    go_wp2_with (first | (refine wpList_load_mid rfl 134 _ rfl w1.heap.size 0 rfl cs _ HE.out.rng Tryz.underlying134 rfl HE.out.size ?_) | (refine wpList_buildOneAt (w1.heap.size + 1) (by simp) rfl 83 134 _ rfl cs.toArray rfl i0 z0 Tryz.underlying83 hi iz (HE.out.info is) HE.out.pos HE.out.small ?_))
    obtain ⟨W2, hW2⟩ : ∃ W2, W2 = (w1.setCell ⟨w.heap.size, 0, none⟩ (.slice (some ⟨w1.heap.size + 1, 0, none⟩) 1 1)).setCell ⟨w.heap.size, 1, none⟩ (.int .i64 1) := ⟨_, rfl⟩
    rw [← hW2]
    have hb3 : (w1.setCell ⟨w.heap.size, 0, none⟩ (.slice (some ⟨w1.heap.size + 1, 0, none⟩) 1 1)).heap[w.heap.size]? = some (.cells #[.slice (some ⟨w1.heap.size + 1, 0, none⟩) 1 1, .int .i64 0] 85 (0, 0)) := by rw [heap_setCell_row HBK.out]; rfl
    have hb4 : W2.heap[w.heap.size]? = some (.cells #[.slice (some ⟨w1.heap.size + 1, 0, none⟩) 1 1, .int .i64 1] 85 (0, 0)) := by rw [hW2, heap_setCell_row hb3]; rfl
    have hzz : W2.heap.size = w1.heap.size := by rw [hW2]; simp
    have hBW : Below w.heap.size w W2 := by rw [hW2]; exact (hB1.setCell (Nat.le_refl _) _).setCell (Nat.le_refl _) _
    clear hW2 hb3
    have hb5 : ((W2.alloc (.cells cs.toArray 134)).alloc (.cells cs.toArray 134)).heap[w.heap.size]? = some (.cells #[.slice (some ⟨w1.heap.size + 1, 0, none⟩) 1 1, .int .i64 1] 85 (0, 0)) := (Below.heap_alloc _ _ _ (by simp; omega)).trans ((Below.heap_alloc _ _ _ (by omega)).trans hb4)
    have f0 : ((W2.alloc (.cells cs.toArray 134)).alloc (.cells cs.toArray 134)).cell? ⟨w.heap.size, 0, none⟩ = some (.slice (some ⟨w1.heap.size + 1, 0, none⟩) 1 1) := cell_of_blk hb5 rfl
    have f1 : ((W2.alloc (.cells cs.toArray 134)).alloc (.cells cs.toArray 134)).cell? ⟨w.heap.size, 1, none⟩ = some (.int .i64 1) := cell_of_blk hb5 rfl
    have HFIN : Hid (PTreePost w s (.returned (.tuple #[.agg #[.slice (some ⟨w1.heap.size + 1, 0, none⟩) 1 1, .int .i64 1], .int .i64 0])) ((W2.alloc (.cells cs.toArray 134)).alloc (.cells cs.toArray 134))) := by
      have hz := hBW.size
      refine ⟨(hBW.alloc hz _).alloc (by simp; omega) _, Or.inr ⟨HL.out, w1.heap.size + 1, ?_⟩⟩
      obtain ⟨x, h1, h2, hmk, h3, h4⟩ := HX2.out
      refine ⟨x, rfl, h1, h2, hmk, ⟨?_, ?_⟩, by omega⟩
      · have e1 : (W2.alloc (.cells cs.toArray 134)).heap.size = w1.heap.size + 1 := by simp [hzz]
        have hlen := HE.out.len
        have hfl : flatP [x] = cs := by simp [flatP, h4]
        rw [hfl]
        refine ⟨by rw [hlen]; rfl, Or.inr ⟨w1.heap.size + 1, 1, cs.toArray, rfl, Nat.zero_le _, ?_, Nat.le_refl _, by unfold maxLen; omega, by simp [hlen], ?_⟩⟩
        · rw [← e1]
          exact heap_alloc_new _ _
        · have : cs.take 31 = cs := List.take_of_length_le (by omega)
          simpa using this
      · intro e he
        rw [List.mem_singleton] at he
        rw [he]
        exact h3
    generalize (W2.alloc (.cells cs.toArray 134)).alloc (.cells cs.toArray 134) = W5 at f0 f1 HFIN ⊢
    exact bodyPost_ret (v := .tuple #[.agg #[.slice (some ⟨w1.heap.size + 1, 0, none⟩) 1 1, .int .i64 1], .int .i64 0]) (by simp [results, Tryz.results43, go_sem, f0, f1]) rfl HFIN.out
end Go.Proofs.YtblfffbmklkhmaaGreat

namespace Go.Proofs.YtblfffbmklkhmaaGreat
open Go.RowKit
structure SameV (v v' : Vw) (ok : PPt → Prop) (S : Int → Prop) : Prop where
  ty : ∀ e, S e → ∀ l, v.ty e l = v'.ty e l
  sm : ∀ e, S e → ∀ p, ok p → simpV v p e = simpV v' p e
  ab : ∀ e, S e → v.ab e = v'.ab e
  ah : ∀ e, S e → v.ah e = v'.ah e
  sab : ∀ e, S e → ∀ x ∈ v.ab e, S x
  sah : ∀ e, S e → ∀ x ∈ v.ah e, S x
section
variable {v v' : Vw} {ok : PPt → Prop} {S : Int → Prop}
theorem all_congr' {α : Type} {f g : α → Bool} : ∀ {l : List α}, (∀ x ∈ l, f x = g x) → l.all f = l.all g
  | [], _ => rfl
  | x :: l, h => by
    rw [List.all_cons, List.all_cons, h x List.mem_cons_self, all_congr' (fun y hy => h y (List.mem_cons_of_mem _ hy))]
theorem any_congr' {α : Type} {f g : α → Bool} : ∀ {l : List α}, (∀ x ∈ l, f x = g x) → l.any f = l.any g
  | [], _ => rfl
  | x :: l, h => by
    rw [List.any_cons, List.any_cons, h x List.mem_cons_self, any_congr' (fun y hy => h y (List.mem_cons_of_mem _ hy))]
theorem foldl_congr' {α β : Type} {f g : β → α → β} : ∀ {l : List α} {b : β}, (∀ x ∈ l, ∀ b, f b x = g b x) → l.foldl f b = l.foldl g b
  | [], _, _ => rfl
  | x :: l, b, h => by
    rw [List.foldl_cons, List.foldl_cons, h x List.mem_cons_self b, foldl_congr' (fun y hy => h y (List.mem_cons_of_mem _ hy))]
theorem foldr_congr' {α β : Type} {f g : α → β → β} : ∀ {l : List α} {b : β}, (∀ x ∈ l, ∀ b, f x b = g x b) → l.foldr f b = l.foldr g b
  | [], _, _ => rfl
  | x :: l, b, h => by
    rw [List.foldr_cons, List.foldr_cons, foldr_congr' (fun y hy => h y (List.mem_cons_of_mem _ hy)), h x List.mem_cons_self]
theorem comp_loc (h : SameV v v' ok S) {e : Int} (he : S e) {c : PCp} (hc : ∀ p ∈ c.ps, ok p) : compV v c e = compV v' c e := by
  unfold compV
  rw [h.ty e he, all_congr' (fun p hp => by rw [h.sm e he p (hc p hp)])]
theorem signed_loc (h : SameV v v' ok S) {e : Int} (he : S e) (sg : Int) : signedV v sg e = signedV v' sg e ∧ ∀ x ∈ signedV v sg e, S x := by
  refine ⟨?_, fun x hx => ?_⟩
  · unfold signedV
    rw [h.ab e he, h.ah e he]
  · unfold signedV at hx
    split at hx
    · exact h.sab e he x hx
    · split at hx
      · exact h.sab e he x (List.mem_of_mem_take hx)
      · split at hx
        · exact h.sah e he x hx
        · split at hx
          · exact h.sah e he x (List.mem_of_mem_take hx)
          · cases hx
theorem chain_loc (h : SameV v v' ok S) : ∀ (cs : List PCp), (∀ c ∈ cs, ∀ p ∈ c.ps, ok p) → ∀ e, S e → chainV v cs e = chainV v' cs e
  | [], _, _, _ => rfl
  | [c], hc, _, he => comp_loc h he (hc c List.mem_cons_self)
  | c :: d :: r, hc, e, he => by
    show (compV v c e && (signedV v c.sg e).any (chainV v (d :: r))) = (compV v' c e && (signedV v' c.sg e).any (chainV v' (d :: r)))
    rw [comp_loc h he (hc c List.mem_cons_self), ← (signed_loc h he c.sg).1, any_congr' (fun x hx => chain_loc h (d :: r) (fun c' hc' => hc c' (List.mem_cons_of_mem _ hc')) x ((signed_loc h he c.sg).2 x hx))]
theorem match_loc (h : SameV v v' ok S) {cs : List PCp} (hc : ∀ c ∈ cs, ∀ p ∈ c.ps, ok p) {e : Int} (he : S e) : matchV v cs e = matchV v' cs e := chain_loc h _ (fun c hx => hc c (List.mem_reverse.1 hx)) e he
theorem weigh_loc (h : SameV v v' ok S) {ss : List (List PCp)} (hc : ∀ cs ∈ ss, ∀ c ∈ cs, ∀ p ∈ c.ps, ok p) {e : Int} (he : S e) : weighV v e ss = weighV v' e ss := by
  unfold weighV
  refine foldl_congr' fun cs hcs a => ?_
  unfold weighStepV
  rw [match_loc h (hc cs hcs) he]
theorem winners_loc (h : SameV v v' ok S) {rs : List PRu} (hc : ∀ r ∈ rs, ∀ cs ∈ r.ss, ∀ c ∈ cs, ∀ p ∈ c.ps, ok p) {e : Int} (he : S e) : winnersV v rs e = winnersV v' rs e := by
  unfold winnersV
  refine foldl_congr' fun r hr W => ?_
  unfold ruleStepV
  rw [weigh_loc h (hc r hr) he]
theorem of_loc (h : SameV v v' ok S) {rs : List PRu} (hc : ∀ r ∈ rs, ∀ cs ∈ r.ss, ∀ c ∈ cs, ∀ p ∈ c.ps, ok p) {e : Int} (he : S e) (comes : List Int) : ofV v rs e comes = ofV v' rs e comes := by
  unfold ofV
  rw [winners_loc h hc he]
theorem style_loc (h : SameV v v' ok S) {rs : List PRu} (hc : ∀ r ∈ rs, ∀ cs ∈ r.ss, ∀ c ∈ cs, ∀ p ∈ c.ps, ok p) {e : Int} (he : S e) : styleV v rs e = styleV v' rs e := by
  unfold styleV
  rw [h.ab e he, of_loc h hc he, foldr_congr' (fun x hx b => of_loc h hc (h.sab e he x (by rw [h.ab e he]; exact hx)) b)]
end
theorem above_fuel (T : Tree) : ∀ (j i : Nat) (e : Int), tUp T (j + 1) e < 0 → aboveT T j e = aboveT T (j + i) e
  | 0, 0, _, _ => rfl
  | 0, i + 1, e, h => by
    have h1 : tPar T e < 0 := h
    have h2 : tPar T e = -1 := by
      rcases tPar_cases T e with ⟨h3, _⟩ | ⟨q, _, _, h3⟩
      · exact h3
      · omega
    rw [Nat.zero_add]
    show [] = if tPar T e = -1 then [] else _
    rw [if_pos h2]
  | j + 1, i, e, h => by
    have e1 : j + 1 + i = (j + i) + 1 := by omega
    rw [e1]
    show (if tPar T e = -1 then [] else tPar T e :: aboveT T j (tPar T e)) = (if tPar T e = -1 then [] else tPar T e :: aboveT T (j + i) (tPar T e))
    rw [above_fuel T j i (tPar T e) h]
theorem TW.up_end {T : Tree} {made : Nat} (h : TW T made) {k : Nat} {l : List Nat} (hk : (k, l) ∈ T) {j : Nat} (hj : T.length ≤ j) : tUp T j k < 0 := by
  obtain ⟨rk, hr⟩ := h.rank
  rcases Int.lt_or_le (tUp T j k) 0 with h1 | h1
  · exact h1
  · obtain ⟨L, hL, hd, hin, _⟩ := h.chain hr h1 j k ⟨l, hk⟩ rfl
    have := nodup_len hd (m := T.map Prod.fst) (fun x hx => by
      obtain ⟨c, hc⟩ := hin x hx
      exact List.mem_map.2 ⟨_, hc, rfl⟩)
    simp at this
    omega
theorem TW.above_any {T : Tree} {made : Nat} (h : TW T made) {k : Nat} {l : List Nat} (hk : (k, l) ∈ T) {j : Nat} (hj : T.length ≤ j) : aboveT T T.length k = aboveT T j k := by
  have := above_fuel T T.length (j - T.length) k (h.up_end hk (by omega))
  rw [this]
  congr 1
  omega
def topsT (T : Tree) (p : Nat) : List Nat := if tPar T p < 0 then [p] else (kidsOf T (tPar T p)).dropWhile fun (k : Nat) => decide (¬ k = p)
def RchT (T : Tree) (p : Nat) (x : Nat) : Prop := ∃ t ∈ topsT T p, tUnder T t x
theorem drop_from {l : List Nat} {p : Nat} (hp : p ∈ l) : ∃ A B, l = A ++ p :: B ∧ p ∉ A ∧ (l.dropWhile fun (k : Nat) => decide (¬ k = p)) = p :: B := by
  induction l with
  | nil => cases hp
  | cons x l ih =>
    by_cases h : x = p
    · subst h
      exact ⟨[], l, rfl, by simp, by simp⟩
    · rcases List.mem_cons.1 hp with h1 | h1
      · exact absurd h1.symm h
      · obtain ⟨A, B, h2, h3, h4⟩ := ih h1
        refine ⟨x :: A, B, by rw [h2]; rfl, by rw [List.mem_cons]; exact fun h5 => h5.elim (fun h6 => h h6.symm) h3, ?_⟩
        rw [List.dropWhile_cons_of_pos (by simpa using h)]
        exact h4
theorem ahead_in {l : List Nat} (hn : l.Nodup) {p j k : Nat} (hp : p ∈ l) (hk : k ∈ l) (hj : j ∈ l.takeWhile fun (x : Nat) => decide (¬ (x : Int) = (k : Int))) (hjd : j ∈ l.dropWhile fun (x : Nat) => decide (¬ x = p)) : k ∈ l.dropWhile fun (x : Nat) => decide (¬ x = p) := by
  obtain ⟨A, B, h1, _, h2⟩ := drop_from hp
  rw [h2] at hjd ⊢
  rw [h1, List.mem_append] at hk
  rcases hk with hk | hk
  · exfalso
    obtain ⟨C, D, h3, _, _⟩ := drop_from hk
    have h4 : ∀ x ∈ (l.takeWhile fun (x : Nat) => decide (¬ (x : Int) = (k : Int))), x ∈ C := by
      intro x hx
      rw [h1, h3, List.append_assoc] at hx
      have : ∀ (C : List Nat) (E : List Nat), x ∈ ((C ++ (k :: E)).takeWhile fun (x : Nat) => decide (¬ (x : Int) = (k : Int))) → x ∈ C := by
        intro C E
        induction C with
        | nil => intro h; simp at h
        | cons c C ih =>
          intro h
          rw [List.cons_append, List.takeWhile_cons] at h
          split at h
          · rcases List.mem_cons.1 h with rfl | h
            · exact List.mem_cons_self
            · exact List.mem_cons_of_mem _ (ih h)
          · cases h
      exact this C _ hx
    have h5 : j ∈ A := by rw [h3]; exact List.mem_append_left _ (h4 j hj)
    rw [h1, List.nodup_append] at hn
    exact hn.2.2 j h5 j hjd rfl
  · exact hk
section
variable {T T' : Tree} {made made' : Nat}
theorem kidsOf_mem (h : TW T made) {q : Nat} {l : List Nat} (hq : (q, l) ∈ T) : kidsOf T q = l := by
  unfold kidsOf
  rw [tFind_mem h.nums hq]
  rfl
theorem tops_self (h : TW T made) {p : Nat} {l : List Nat} (_hp : (p, l) ∈ T) : p ∈ topsT T p := by
  unfold topsT
  split
  · simp
  · rename_i h0
    rcases tPar_cases T p with ⟨h1, _⟩ | ⟨q, hq, h1, h2⟩
    · omega
    · rw [h2, kidsOf_mem h (q := q.1) (l := q.2) hq]
      obtain ⟨A, B, _, _, h3⟩ := drop_from (tHas_nat.1 h1)
      rw [h3]
      exact List.mem_cons_self
theorem rch_self (h : TW T made) {p : Nat} {l : List Nat} (hp : (p, l) ∈ T) : RchT T p p := ⟨p, tops_self h hp, under_self T p⟩
theorem rch_kid (h : TW T made) {p : Nat} {q : Nat × List Nat} (hq : q ∈ T) {k : Nat} (hk : k ∈ q.2) (hr : RchT T p q.1) : RchT T p k := by
  obtain ⟨t, ht, hu⟩ := hr
  exact ⟨t, ht, (h.under_kid hq hk t).2 (Or.inr hu)⟩
/-- Who is not told on: nor are those ahead. -/
theorem rch_ahead (h : TW T made) {p : Nat} {l : List Nat} (hp : (p, l) ∈ T) {q : Nat × List Nat} (hq : q ∈ T) {j k : Nat} (hk : k ∈ q.2) (hj : j ∈ q.2.takeWhile fun (x : Nat) => decide (¬ (x : Int) = (k : Int))) (hr : RchT T p j) : RchT T p k := by
  have hjm : j ∈ q.2 := (List.takeWhile_sublist _).subset hj
  obtain ⟨t, ht, hu⟩ := hr
  rcases (h.under_kid hq hjm t).1 hu with h1 | h1
  · subst h1
    unfold topsT at ht
    split at ht
    · rename_i h0
      rw [List.mem_singleton] at ht
      subst ht
      have := h.parent hq hjm
      omega
    · rename_i h0
      rcases tPar_cases T p with ⟨h1, _⟩ | ⟨f, hf, h1, h2⟩
      · omega
      · have hpf := tHas_nat.1 h1
        have hfq : f = q := by
          rw [h2, kidsOf_mem h (q := f.1) (l := f.2) hf] at ht
          exact h.one f hf q hq j ((List.dropWhile_sublist _).subset ht) hjm
        subst hfq
        rw [h2, kidsOf_mem h (q := f.1) (l := f.2) hf] at ht
        refine ⟨k, ?_, under_self T k⟩
        unfold topsT
        rw [if_neg h0, h2, kidsOf_mem h (q := f.1) (l := f.2) hf]
        exact ahead_in (h.kdup f hf) hpf hk hj ht
  · exact ⟨t, ht, (h.under_kid hq hk t).2 (Or.inr h1)⟩
/-- A set of elements that holds with one all below it, and with one that is ahead all behind it. -/
structure Shut (T : Tree) (R : Nat → Prop) : Prop where
  kid : ∀ q ∈ T, ∀ k ∈ q.2, R q.1 → R k
  next : ∀ q ∈ T, ∀ k ∈ q.2, ∀ j ∈ q.2.takeWhile (fun (x : Nat) => decide (¬ (x : Int) = (k : Int))), R j → R k
theorem shut_rch (h : TW T made) {p : Nat} {l : List Nat} (hp : (p, l) ∈ T) : Shut T (RchT T p) := ⟨fun _ hq _ hk hr => rch_kid h hq hk hr, fun _ hq _ hk _ hj hr => rch_ahead h hp hq hk hj hr⟩
theorem shut_or {R R' : Nat → Prop} (h : Shut T R) (h' : Shut T R') : Shut T (fun k => R k ∨ R' k) := ⟨fun q hq k hk hr => hr.imp (h.kid q hq k hk) (h'.kid q hq k hk), fun q hq k hk j hj hr => hr.imp (h.next q hq k hk j hj) (h'.next q hq k hk j hj)⟩
theorem shut_no : Shut T (fun _ => False) := ⟨fun _ _ _ _ h => h, fun _ _ _ _ _ _ h => h⟩
variable {M M' : Nat → Mk} {R : Nat → Prop} {ok : PPt → Prop}
/-- The set of those that are not told on. -/
def Out (T : Tree) (R : Nat → Prop) (e : Int) : Prop := ∃ k l, e = (k : Nat) ∧ (k, l) ∈ T ∧ ¬ R k
theorem par_same (h : TW T made) (h' : TW T' made') (hs : Shut T R) (hin : ∀ k l, (k, l) ∈ T → ¬ R k → (k, l) ∈ T') {k : Nat} {l : List Nat} (hk : (k, l) ∈ T) (hr : ¬ R k) : tPar T' k = tPar T k ∧ (tPar T k = -1 ∨ ∃ q ∈ T, k ∈ q.2 ∧ tPar T k = q.1 ∧ ¬ R q.1 ∧ q ∈ T') := by
  by_cases h0 : k = 0
  · subst h0
    exact ⟨h'.root_par.trans h.root_par.symm, Or.inl h.root_par⟩
  · obtain ⟨q, hq, hm, hp⟩ := h.up hk h0
    have hqr : ¬ R q.1 := fun hx => hr (hs.kid q hq k hm hx)
    have hq' : q ∈ T' := hin q.1 q.2 hq hqr
    exact ⟨by rw [hp]; exact h'.parent hq' hm, Or.inr ⟨q, hq, hm, hp, hqr, hq'⟩⟩
theorem above_same (h : TW T made) (h' : TW T' made') (hs : Shut T R) (hin : ∀ k l, (k, l) ∈ T → ¬ R k → (k, l) ∈ T') : ∀ (n k : Nat) (l : List Nat), (k, l) ∈ T → ¬ R k → aboveT T n k = aboveT T' n k ∧ ∀ x ∈ aboveT T n k, Out T R x
  | 0, _, _, _, _ => ⟨rfl, fun x hx => by cases hx⟩
  | n + 1, k, l, hk, hr => by
    obtain ⟨h1, h2⟩ := par_same h h' hs hin hk hr
    show (if tPar T k = -1 then [] else tPar T k :: aboveT T n (tPar T k)) = (if tPar T' k = -1 then [] else tPar T' k :: aboveT T' n (tPar T' k)) ∧ ∀ x ∈ (if tPar T k = -1 then [] else tPar T k :: aboveT T n (tPar T k)), Out T R x
    rw [h1]
    rcases h2 with h2 | ⟨q, hq, hm, hp, hqr, hq'⟩
    · rw [if_pos h2, if_pos h2]
      exact ⟨rfl, fun x hx => by cases hx⟩
    · have hne : ¬ tPar T k = -1 := by omega
      rw [if_neg hne, if_neg hne, hp]
      obtain ⟨h3, h4⟩ := above_same h h' hs hin n q.1 q.2 hq hqr
      refine ⟨by rw [h3], fun x hx => ?_⟩
      rcases List.mem_cons.1 hx with rfl | hx
      · exact ⟨q.1, q.2, rfl, hq, hqr⟩
      · exact h4 x hx
theorem sib_same (h : TW T made) (h' : TW T' made') (hs : Shut T R) (hin : ∀ k l, (k, l) ∈ T → ¬ R k → (k, l) ∈ T') {k : Nat} {l : List Nat} (hk : (k, l) ∈ T) (hr : ¬ R k) : kidsOf T (tPar T k) = kidsOf T' (tPar T' k) := by
  obtain ⟨h1, h2⟩ := par_same h h' hs hin hk hr
  rw [h1]
  rcases h2 with h2 | ⟨q, hq, hm, hp, hqr, hq'⟩
  · rw [h2]
    have : ∀ T : Tree, kidsOf T (-1) = [] := fun T => by
      unfold kidsOf
      cases ht : tFind T (-1) with
      | none => rfl
      | some l =>
        obtain ⟨k, hk, _⟩ := tFind_some ht
        omega
    rw [this, this]
  · rw [hp, kidsOf_mem h (q := q.1) (l := q.2) hq, kidsOf_mem h' (q := q.1) (l := q.2) hq']
theorem same_view (h : TW T made) (h' : TW T' made') (hs : Shut T R) (hin : ∀ k l, (k, l) ∈ T → ¬ R k → (k, l) ∈ T')
    (hkd : ∀ k l, (k, l) ∈ T → ¬ R k → (M k).kd = (M' k).kd) (hcl : ∀ k l, (k, l) ∈ T → ¬ R k → ∀ p, ok p → p.kd = 2 → 97 ≤ p.lt → p.lt ≤ 122 → (M k).cl (p.lt - 97).toNat = (M' k).cl (p.lt - 97).toNat) (hnm : ∀ k l, (k, l) ∈ T → ¬ R k → ∀ p, ok p → p.kd = 3 → ((M k).nm == p.lt) = ((M' k).nm == p.lt)) :
    SameV (viewT T M) (viewT T' M') ok (Out T R) := by
  have hty : ∀ e, Out T R e → ∀ l, hasTypeT T M e l = hasTypeT T' M' e l := by
    rintro _ ⟨k, l, rfl, hk, hr⟩ x
    unfold hasTypeT
    rw [tFind_mem h.nums hk, tFind_mem h'.nums (hin k l hk hr), Int.toNat_natCast, hkd k l hk hr]
  have hah : ∀ e, Out T R e → aheadT T e = aheadT T' e := by
    rintro _ ⟨k, l, rfl, hk, hr⟩
    unfold aheadT
    rw [tFind_mem h.nums hk, tFind_mem h'.nums (hin k l hk hr), sib_same h h' hs hin hk hr]
  refine ⟨hty, ?_, ?_, hah, ?_, ?_⟩
  · rintro _ ⟨k, l, rfl, hk, hr⟩ p hp
    have ht := tFind_mem h.nums hk
    have ht' := tFind_mem h'.nums (hin k l hk hr)
    have e1 := hty k ⟨k, l, rfl, hk, hr⟩ p.lt
    have e4 := hah k ⟨k, l, rfl, hk, hr⟩
    have e2 : p.kd = 2 → hasClassT T M k p.lt = hasClassT T' M' k p.lt := fun h2 => by
      unfold hasClassT
      rw [ht, ht', Int.toNat_natCast]
      by_cases hl : 97 ≤ p.lt ∧ p.lt ≤ 122
      · rw [hcl k l hk hr p hp h2 hl.1 hl.2]
      · rw [decide_eq_false hl]
        rfl
    have e3 : p.kd = 3 → hasNameT T M k p.lt = hasNameT T' M' k p.lt := fun h3 => by
      unfold hasNameT
      rw [ht, ht', Int.toNat_natCast, hnm k l hk hr p hp h3]
    have e5 : lastT T k = lastT T' k := by
      unfold lastT
      rw [ht, ht', sib_same h h' hs hin hk hr]
    have e6 : emptyT T k = emptyT T' k := by
      unfold emptyT
      rw [ht, ht', kidsOf_mem h hk, kidsOf_mem h' (hin k l hk hr)]
    unfold simpV
    show (if p.kd = 1 then hasTypeT T M k p.lt else if p.kd = 2 then hasClassT T M k p.lt else if p.kd = 3 then hasNameT T M k p.lt else if p.kd = 4 then decide (((aheadT T k).length : Int) + 1 = 1) else if p.kd = 5 then lastT T k else if p.kd = 6 then emptyT T k else if p.kd = 7 then nthP (((aheadT T k).length : Int) + 1) p.st p.sr else false) = (if p.kd = 1 then hasTypeT T' M' k p.lt else if p.kd = 2 then hasClassT T' M' k p.lt else if p.kd = 3 then hasNameT T' M' k p.lt else if p.kd = 4 then decide (((aheadT T' k).length : Int) + 1 = 1) else if p.kd = 5 then lastT T' k else if p.kd = 6 then emptyT T' k else if p.kd = 7 then nthP (((aheadT T' k).length : Int) + 1) p.st p.sr else false)
    rw [e1, e4, e5, e6]
    by_cases h2 : p.kd = 2
    · rw [e2 h2]
      by_cases h3 : p.kd = 3
      · omega
      · rw [if_neg h3, if_neg h3]
    · rw [if_neg h2, if_neg h2]
      by_cases h3 : p.kd = 3
      · rw [e3 h3]
      · rw [if_neg h3, if_neg h3]
  · rintro _ ⟨k, l, rfl, hk, hr⟩
    show aboveT T T.length k = aboveT T' T'.length k
    rw [h.above_any hk (j := T.length + T'.length) (by omega), h'.above_any (hin k l hk hr) (j := T.length + T'.length) (by omega)]
    exact (above_same h h' hs hin _ k l hk hr).1
  · rintro _ ⟨k, l, rfl, hk, hr⟩
    exact (above_same h h' hs hin T.length k l hk hr).2
  · rintro _ ⟨k, l, rfl, hk, hr⟩ x hx
    have hx' : x ∈ aheadT T k := hx
    unfold aheadT at hx'
    rw [tFind_mem h.nums hk, Option.isSome_some, if_pos rfl, List.mem_reverse, List.mem_map] at hx'
    obtain ⟨j, hj, rfl⟩ := hx'
    obtain ⟨_, h2⟩ := par_same h h' hs hin hk hr
    rcases h2 with h2 | ⟨q, hq, hm, hp, hqr, hq'⟩
    · rw [h2] at hj
      have : kidsOf T (-1) = [] := by
        unfold kidsOf
        cases ht : tFind T (-1) with
        | none => rfl
        | some l =>
          obtain ⟨k, hk, _⟩ := tFind_some ht
          omega
      rw [this] at hj
      cases hj
    · rw [hp, kidsOf_mem h (q := q.1) (l := q.2) hq] at hj
      obtain ⟨lj, hlj⟩ := h.kin q hq j ((List.takeWhile_sublist _).subset hj)
      exact ⟨j, lj, rfl, hlj, fun hx => hr (hs.next q hq k hm j hj hx)⟩
end
def ReachIn (els : List PEl) (n : Int) (k : Nat) : Prop := ∃ i x, els[i]? = some x ∧ (x.num : Int) = n ∧ ∃ t ∈ els.drop i, t.par = x.par ∧ ∃ y ∈ els, y.num = k ∧ ∃ j, j < els.length ∧ upP els j y.num = t.num
theorem drop_nat (l : List Nat) (p : Nat) : (l.dropWhile fun (k : Nat) => decide (¬ k = p)) = l.dropWhile fun (k : Nat) => decide (¬ (k : Int) = (p : Int)) := by
  congr 1
  funext k
  congr 1
  rw [eq_iff_iff]
  omega
theorem reach_in {els : List PEl} {T : Tree} {made : Nat} (h : PT els T) (hw : TW T made) {p k : Nat} {l lk : List Nat} (hp : (p, l) ∈ T) (hk : (k, lk) ∈ T) (hr : RchT T p k) : ReachIn els p k := by
  obtain ⟨t, ht, hu⟩ := hr
  obtain ⟨x, hx, hxn⟩ := h.of' p l hp
  obtain ⟨i, hi, hxi⟩ := List.getElem_of_mem hx
  have hix : els[i]? = some x := by rw [List.getElem?_eq_getElem hi, hxi]
  obtain ⟨y, hy, hyn⟩ := h.of' k lk hk
  have hxd : x ∈ els.drop i := by
    rw [List.drop_eq_getElem_cons hi, hxi]
    exact List.mem_cons_self
  refine ⟨i, x, hix, by rw [hxn], ?_⟩
  have key : ∃ z ∈ els.drop i, z.par = x.par ∧ z.num = t := by
    unfold topsT at ht
    split at ht
    · rw [List.mem_singleton] at ht
      exact ⟨x, hxd, rfl, by rw [hxn, ht]⟩
    · rename_i h0
      have hpar := h.par hw hx
      have hne : x.par ≠ -1 := by rw [hpar, hxn]; omega
      have e1 := kidsOf_par h hw hx hne
      rw [hxn] at e1
      rw [e1, drop_nat, ← hxn, (takeWhile_kids h.nums hix).2] at ht
      rcases List.mem_cons.1 ht with h1 | h1
      · exact ⟨x, hxd, rfl, h1.symm⟩
      · rw [mem_kidsP] at h1
        obtain ⟨z, hz, h2, h3⟩ := h1
        exact ⟨z, List.mem_of_mem_drop (i := 1) (by rw [List.drop_drop]; exact hz), h2, h3⟩
  obtain ⟨z, hz, h1, h2⟩ := key
  refine ⟨z, hz, h1, y, hy, hyn, ?_⟩
  rw [← hyn] at hu
  rw [h2]
  exact (pt_within h hw hy (a := t) (by omega)).2 hu
end Go.Proofs.YtblfffbmklkhmaaGreat
