/- Own work. -/
import Derived.Test.YtblfffbmklkhmaaGreatAw11
namespace Go.Proofs.YtblfffbmklkhmaaGreat
open Go.RowKit
def PMovPost (w : World) (b : Nat) (vS : Value × Value) (v : Value) (els : List PEl) (T : Tree) (made : Nat) (n m at' : Int) (e : Ending) (w' : World) : Prop :=
  ∃ y T' v' els', e = .returned (.int .i64 y) ∧ TMov T n m at' y T' ∧ PB3 w' b vS v' els' T' made ∧ Fr w w' (fun k => k = b) ∧ (∀ j, v'.ownBlock = some j → v.ownBlock = some j ∨ w.heap.size ≤ j) ∧ ∀ M, MkO els M → MkO els' M
theorem mov_none {T : Tree} {n m at' : Int} (h : tFind T n = none ∨ tFind T m = none) : tMovErr T n m at' = 5 := by
  unfold tMovErr
  rcases h with h | h
  · rw [h]
  · rw [h]
    cases tFind T n <;> rfl
theorem mov_some {T : Tree} {n m at' : Int} {l l' : List Nat} (h : tFind T n = some l') (h2 : tFind T m = some l) : tMovErr T n m at' = if tPar T n < 0 then 6 else if tUnderB T n m = true then 7 else if at' < 0 ∨ ((noneOf n l).length : Int) < at' then 8 else 0 := by
  unfold tMovErr
  rw [h, h2]
theorem erase_len {els : List PEl} {i : Nat} : (els.eraseIdx i).length ≤ els.length := List.length_eraseIdx_le _ _
set_option maxRecDepth 100000 in
set_option maxHeartbeats 4000000 in
theorem pmov_any (w : World) (b : Nat) (vS : Value × Value) (v : Value) (els : List PEl) (T : Tree) (made : Nat) (n m at' : Int) (h : PB3 w b vS v els T made) (hw : TW T made) :
    Calls Tryz.prog 156 #[.pointer (some ⟨b, 1, none⟩), .int .i64 n, .int .i64 m, .int .i64 at'] w fun e w' => PMovPost w b vS v els T made n m at' e w' := by
  have HB : Hid (PB3 w b vS v els T made) := h
  have HW : Hid (TW T made) := hw
  have hfew := h.few
  clear h hw
  have HERR : Hid (∀ (y : Int) (w' : World), Below w.heap.size w w' → y ≠ 0 → tMovErr T n m at' = y → PMovPost w b vS v els T made n m at' (.returned (.int .i64 y)) w') := fun y w' hb hy he =>
    ⟨y, T, v, els, rfl, ⟨he.symm, Or.inl ⟨hy, rfl⟩⟩, HB.out.below hb, (Fr.refl w _).below hb, fun j hj => Or.inl hj, fun M hM => hM⟩
  go_enter Tryz.func156, Tryz.ntmps156
  go_wp2_with fail
  refine (pfind_any w b v els n HB.out.c1 HB.out.pl hfew).mono ?_
  rintro e w1 ⟨hB1, ⟨hf, rfl⟩ | ⟨ip, xp, hxp, hf, rfl⟩⟩
  · have HE := HERR.out 5 w1 hB1 (by decide) (mov_none (Or.inl (HB.out.pt.find_none hf)))
    clear hf
    go_wp2
    go_ret
    exact HE
  · obtain ⟨hTf, hTm, hpar⟩ := HB.out.pt.find_some HW.out hf
    have HT : Hid (tFind T n = some (kidsP els n) ∧ (xp.num, kidsP els n) ∈ T ∧ n = xp.num) := ⟨hTf, hTm, hpar⟩
    have HIX : Hid (els[ip]? = some xp) := hxp
    have hip : ip < els.length := (List.getElem?_eq_some_iff.1 hxp).1
    clear hf hTf hTm hpar hxp
    have hc1 := (HB.out.below hB1).c1
    go_wp2_with fail
    refine (pfind_any w1 b v els m hc1 (HB.out.below hB1).pl hfew).mono ?_
    rintro e w2 ⟨hB2', ⟨hf, rfl⟩ | ⟨iq, xq, _, hf, rfl⟩⟩
    · have hB2 : Below w.heap.size w w2 := hB1.trans (hB2'.mono hB1.size)
      have HE := HERR.out 5 w2 hB2 (by decide) (mov_none (Or.inr (HB.out.pt.find_none hf)))
      clear hf hB2' hB1 hc1
      go_wp2
      go_ret
      exact HE
    · have hB2 : Below w.heap.size w w2 := hB1.trans (hB2'.mono hB1.size)
      clear hB1 hB2' hc1
      obtain ⟨hTf, hTm, hpar⟩ := HB.out.pt.find_some HW.out hf
      have hxq := (findP_some hf).1
      have HQ : Hid (tFind T m = some (kidsP els m) ∧ (xq.num, kidsP els m) ∈ T ∧ m = xq.num ∧ xq ∈ els) := ⟨hTf, hTm, hpar, hxq⟩
      clear hf hTf hTm hpar hxq
      have HSO : Hid (tMovErr T n m at' = if tPar T n < 0 then 6 else if tUnderB T n m = true then 7 else if at' < 0 ∨ ((noneOf n (kidsP els m)).length : Int) < at' then 8 else 0) := mov_some HT.out.1 HQ.out.1
      by_cases h0 : n = 0
      · have g0 : (n == 0) = true := by simp [h0]
        have HE := HERR.out 6 w2 hB2 (by decide) (by
          have h1 := HT.out.2.2
          rw [HSO.out, if_pos (by rw [h1]; exact (HW.out.par_neg HT.out.2.1).2 (by omega))])
        clear h0
        go_wp2
        go_ret
        exact HE
      · have g0 : (n == 0) = false := by simp [h0]
        have H0 : Hid (xp.num ≠ 0) := by have h1 := HT.out.2.2; unfold Hid; omega
        have HPN : Hid (0 ≤ tPar T n) := by
          have h1 := HT.out.2.2
          unfold Hid
          rw [h1]
          exact Int.not_lt.1 fun hx => H0.out ((HW.out.par_neg HT.out.2.1).1 hx)
        clear h0
        have hc1 := (HB.out.below hB2).c1
        have HUN : Hid ((∃ k, k < els.length ∧ upP els k m = n) ↔ tUnderB T n m = true) := by
          unfold Hid
          have h1 := HQ.out.2.2.1
          rw [tUnderB_iff, h1]
          exact pt_within HB.out.pt HW.out HQ.out.2.2.2 (a := n) (by have := HT.out.2.2; omega)
        go_wp2_with fail
        refine (pwithin_any w2 b v els m n hc1 (HB.out.below hB2).pl hfew).mono ?_
        rintro e w3 ⟨hB3', r, rfl, hr⟩
        have hB3 : Below w.heap.size w w3 := hB2.trans (hB3'.mono hB2.size)
        have HR : Hid (r = true ↔ tUnderB T n m = true) := hr.trans HUN.out
        clear hB2 hB3' hr hc1
        cases r with
        | true =>
          have HE := HERR.out 7 w3 hB3 (by decide) (by rw [HSO.out, if_neg (Int.not_lt.2 HPN.out), if_pos (HR.out.1 rfl)])
          go_wp2
          go_ret
          exact HE
        | false =>
          have HNU : Hid (¬ tUnderB T n m = true) := fun hx => by have := HR.out.2 hx; cases this
          clear HR
          have hc1 := (HB.out.below hB3).c1
          have HB3 : Hid (PB3 w3 b vS v els T made) := HB.out.below hB3
          go_wp2_with fail
          refine (pwithout_any w3 v els ip HB3.out.pl hfew).mono ?_
          rintro e w4 ⟨a4, c4, rfl, own4, hB4'⟩
          have hB4 : Below w.heap.size w w4 := hB3.trans (hB4'.mono hB3.size)
          have HER : Hid (els.eraseIdx ip = els.filter fun x => decide (x.num ≠ xp.num)) := HB.out.pt.without HIX.out
          have HKR : Hid (kidsP (els.eraseIdx ip) m = noneOf n (kidsP els m)) := by
            unfold Hid
            rw [HER.out, kids_without, HT.out.2.2]
          have HPR : Hid (PL w4 (.slice a4 (els.eraseIdx ip).length c4) (els.eraseIdx ip)) := ⟨own_mono own4 (Nat.zero_le _), fun e he => HB.out.pl.ok e (List.mem_of_mem_eraseIdx he)⟩
          have hfr : (els.eraseIdx ip).length ≤ 24 := Nat.le_trans erase_len hfew
          clear hB3 hB4' own4 hc1 HB3
          generalize els.eraseIdx ip = R at HER HKR HPR hfr ⊢
          go_wp2_with fail
          refine (pplace_any w4 _ R m at' HPR.out hfr).mono ?_
          rintro e w5 ⟨hB5', ⟨place, rfl, hpl, hkl⟩ | ⟨n', rfl, hbad⟩⟩
          · have hB5 : Below w.heap.size w w5 := hB4.trans (hB5'.mono hB4.size)
            have HPR5 : Hid (PL w5 (.slice a4 R.length c4) R) := ⟨own_below HPR.out.row hB5', HPR.out.ok⟩
            have HK : Hid (((kidsP (R.take place) m).length : Int) = at') := hkl
            have HB5 : Hid (PB3 w5 b vS v els T made) := HB.out.below hB5
            obtain ⟨av, cv, hvv⟩ := HB.out.pl.shape
            subst hvv
            obtain ⟨g, hg, hgl, he⟩ := HB5.out.pl.el hip
            have hxe : els[ip] = xp := (List.getElem?_eq_some_iff.1 HIX.out).2
            rw [hxe] at he
            subst hg
            have HE5 : Hid (ElAt w5 g (ip * 31) xp.cells xp.num xp.par) := he
            have HFR : Hid (Fr w w5 (fun k => k = b)) := (Fr.refl w _).below hB5
            have hc1 := HB5.out.c1
            clear hB4 hB5' hkl he hxe HPR hB5
            have hil : (ip : Int) < (els.length : Int) := by omega
            go_upto_region 16 with (first | (refine wpList_load_mid rfl 134 _ rfl g (ip * 31) rfl xp.cells _ HE5.out.rng Tryz.underlying134 rfl HE5.out.size ?_) | (refine wpList_store_new rfl 134 _ _ rfl _ xp.cells.toArray 134 rfl rfl HE5.out.size' HE5.out.same HE5.out.all ?_))
            go_upto_region 17 with fail
            have HYO : Hid (PEl.ok ⟨xp.num, m, xp.rest⟩) := HB.out.pl.ok xp (List.mem_of_getElem? HIX.out)
            have hset : xp.cells.set 1 (.int .i64 m) = (PEl.mk xp.num m xp.rest).cells := rfl
            rw [hset]
            clear hset
            have HYM : Hid (∀ k, (kidsP (R.take place) m).length = k → PT (withP R place ⟨xp.num, m, xp.rest⟩) (tMov T xp.num xq.num k)) := fun k hk => by
              have h1 := HQ.out.2.2.1
              have := HB.out.pt.mov HW.out (p := xq.num) (k := k) (place := place) HT.out.2.1 H0.out xp.rest (by rw [← HER.out, ← h1]; exact hk)
              rw [← HER.out, ← h1] at this
              exact this
            have hwl := with_len R place ⟨xp.num, m, xp.rest⟩
            have HRL : Hid (R.length + 1 ≤ els.length) := by
              unfold Hid
              have h1 := HT.out.2.1
              have h2 : R.length < els.length := by
                rw [HER.out]
                have h3 : (els.filter fun x => decide (x.num ≠ xp.num)).length + 1 ≤ els.length := by
                  have h4 := List.length_eraseIdx_of_lt hip
                  rw [HB.out.pt.without HIX.out] at h4
                  omega
                omega
              omega
            have HMK : Hid (∀ M, MkO els M → MkO (withP R place ⟨xp.num, m, xp.rest⟩) M) := fun M hM => by
              have hxm : xp ∈ els := List.mem_of_getElem? HIX.out
              have hR : ∀ e ∈ R, e ∈ els ∧ e.num ≠ xp.num := fun e he => by
                rw [HER.out, List.mem_filter, decide_eq_true_eq] at he
                exact he
              have h1 := (hM.sub (fun e he => (hR e he).1) : MkO R M).more (x := ⟨xp.num, m, xp.rest⟩) (m := M xp.num) place ⟨(hM.2 xp hxm).kind, (hM.2 xp hxm).cls, (hM.2 xp hxm).name, (hM.2 xp hxm).shown⟩ (hM.1 xp hxm) (fun e he => (hR e he).2)
              refine h1.ext (fun e _ => ?_)
              unfold setM
              split
              · rename_i h2
                rw [h2]
              · rfl
            generalize PEl.mk xp.num m xp.rest = yp at HYO HYM HMK hwl ⊢
            have HE6 : Hid (ElAt (w5.alloc (.cells yp.cells.toArray 134)) w5.heap.size 0 yp.cells yp.num yp.par) := el_new HYO.out w5
            have HB6 : Hid (PB3 (w5.alloc (.cells yp.cells.toArray 134)) b vS (.slice (some ⟨g, 0, none⟩) els.length cv) els T made) := HB5.out.below ((Below.refl _ _).alloc (Nat.le_refl _) _)
            have HR6 : Hid (PL (w5.alloc (.cells yp.cells.toArray 134)) (.slice a4 R.length c4) R) := ⟨HPR5.out.row.alloc _, HPR5.out.ok⟩
            have HF6 : Hid (Fr w (w5.alloc (.cells yp.cells.toArray 134)) (fun k => k = b)) := HFR.out.alloc _
            obtain ⟨W6, hW6⟩ : ∃ W6, W6 = w5.alloc (.cells yp.cells.toArray 134) := ⟨_, rfl⟩
            rw [← hW6] at HE6 HB6 HR6 HF6 ⊢
            clear hW6 hc1 HE5 HB5 HPR5 HFR
            have hc1 := HB6.out.c1
            go_wp2_with (first | (refine wpList_load_mid rfl 134 _ rfl w5.heap.size 0 rfl yp.cells _ HE6.out.rng Tryz.underlying134 rfl HE6.out.size ?_))
            refine (pwith_any W6 _ R place yp HR6.out HYO.out hpl hfr).mono ?_
            rintro e w7 ⟨a7, c7, rfl, own7, hB7⟩
            have HB8 : Hid (PB3 (w7.setCell ⟨b, 1, none⟩ (.slice a7 (withP R place yp).length c7)) b vS (.slice a7 (withP R place yp).length c7) (withP R place yp) (tMov T xp.num xq.num (kidsP (R.take place) m).length) made) :=
              HB6.out.set hB7 own7 (ok_with HR6.out.ok HYO.out place) (HYM.out _ rfl) (by rw [hwl]; have := HRL.out; omega)
            have e1 : w7.cell? ⟨b, 1, none⟩ = some (.slice (some ⟨g, 0, none⟩) els.length cv) := (HB6.out.below hB7).c1
            have ez : ∀ k, w7.frozen? ⟨b, k, none⟩ = false := fun _ => frozen_of_blk (HB6.out.below hB7).doc
            have HAT : Hid (¬ (at' < 0 ∨ ((noneOf n (kidsP els m)).length : Int) < at')) := by
              have h1 := HK.out
              have h2 : (kidsP (R.take place) m).length ≤ (kidsP R m).length := by
                have h3 : kidsP R m = kidsP (R.take place) m ++ kidsP (R.drop place) m := by rw [← kidsP_append, List.take_append_drop]
                rw [h3, List.length_append]
                omega
              rw [HKR.out] at h2
              intro h3
              omega
            have HE : Hid (PMovPost w b vS (.slice (some ⟨g, 0, none⟩) els.length cv) els T made n m at' (.returned (.int .i64 0)) (w7.setCell ⟨b, 1, none⟩ (.slice a7 (withP R place yp).length c7))) := by
              refine ⟨0, _, _, _, rfl, ⟨?_, Or.inr ⟨rfl, xp.num, xq.num, (kidsP (R.take place) m).length, HT.out.2.2, HQ.out.2.2.1, HK.out.symm, H0.out, ⟨_, HT.out.2.1⟩, ⟨_, HQ.out.2.1, ?_⟩, ?_, rfl⟩⟩, HB8.out, (HF6.out.below hB7).set (p := ⟨b, 1, none⟩) (Or.inl rfl) _, fun j hj => Or.inr ?_, HMK.out⟩
              · rw [HSO.out, if_neg (Int.not_lt.2 HPN.out), if_neg HNU.out, if_neg HAT.out]
              · have h1 := HAT.out
                have h2 := HK.out
                rw [← HT.out.2.2]
                omega
              · have h1 := HNU.out
                rw [tUnderB_iff, HT.out.2.2, HQ.out.2.2.1] at h1
                exact h1
              · have := (own7.lt j hj).1
                have := HF6.out.size
                omega
            clear own7 hB7 hc1
            generalize (withP R place yp).length = n7 at HE HB8 hwl ⊢
            clear hwl
            go_wp2
            go_ret
            exact HE.out
          · have HE := HERR.out 8 w5 (hB4.trans (hB5'.mono hB4.size)) (by decide) (by rw [HSO.out, if_neg (Int.not_lt.2 HPN.out), if_neg HNU.out, if_pos (by rw [← HKR.out]; exact hbad)])
            clear hbad hB4 hB5'
            go_wp2
            go_ret
            exact HE
end Go.Proofs.YtblfffbmklkhmaaGreat

namespace Go.Proofs.YtblfffbmklkhmaaGreat
open Go.RowKit
def PTreePost (w : World) (s : ByteArray) (e : Ending) (w' : World) : Prop :=
  Below w.heap.size w w' ∧ ((isLetter s = false ∧ e = .returned (.tuple #[.agg #[.slice none 0 0, .int .i64 0], .int .i64 4])) ∨ (isLetter s = true ∧ ∃ (g : Nat) (x : PEl), e = .returned (.tuple #[.agg #[.slice (some ⟨g, 0, none⟩) 1 1, .int .i64 1], .int .i64 0]) ∧ x.num = 0 ∧ x.par = -1 ∧ (∀ M, MkO [x] (setM M 0 (newMk s))) ∧ PL w' (.slice (some ⟨g, 0, none⟩) 1 1) [x] ∧ w.heap.size ≤ g))
set_option maxRecDepth 100000 in
set_option maxHeartbeats 4000000 in
theorem pnew_any (w : World) (s : ByteArray) :
    Calls Tryz.prog 43 #[.string s] w fun e w' => PTreePost w s e w' := by
  obtain ⟨i0, z0, hi, iz, is, ib, izs⟩ := Tryz.infoE
  go_enter Tryz.func43, Tryz.ntmps43
  go_wp2_with fail
  refine (pone_any _ s).mono ?_
  rintro e w1 ⟨c, rfl, hdr, hcb, _⟩
  have HCB : Hid (isLetter s = true → c = bt s 0) := hcb
  clear hcb
  have hB1 : Below w.heap.size w w1 := ((Below.refl _ _).alloc (Nat.le_refl _) _).trans (hdr.below.mono (by simp))
  have hz1 : w.heap.size < w1.heap.size := by have := hdr.below.size; simp at this; omega
  have hblk : w1.heap[w.heap.size]? = some (.cells #[.slice none 0 0, .int .i64 0] 85) := (hdr.below.block w.heap.size (by simp)).trans (heap_alloc_new w _)
  have q0 : w1.cell? ⟨w.heap.size, 0, none⟩ = some (.slice none 0 0) := cell_of_blk hblk rfl
  have q1 : w1.cell? ⟨w.heap.size, 1, none⟩ = some (.int .i64 0) := cell_of_blk hblk rfl
  have qz : ∀ k, w1.frozen? ⟨w.heap.size, k, none⟩ = false := fun _ => frozen_of_blk hblk
  have HBK : Hid (w1.heap[w.heap.size]? = some (.cells #[.slice none 0 0, .int .i64 0] 85)) := hblk
  clear hdr hblk
  cases hl : isLetter s with
  | false =>
    have HL : Hid (isLetter s = false) := hl
    clear hl
    go_wp2_with fail
    exact bodyPost_ret (v := .tuple #[.agg #[.slice none 0 0, .int .i64 0], .int .i64 4]) (by simp [results, Tryz.results43, go_sem, q0, q1]) rfl ⟨(hB1.setCell (Nat.le_refl _) _).setCell (Nat.le_refl _) _, Or.inl ⟨HL.out, rfl⟩⟩
  | true =>
    have HL : Hid (isLetter s = true) := hl
    clear hl
    have HXO := new_ok 0 (-1) c
    have HMK : Hid (∀ M, MkO [PEl.mk 0 (-1) (newRest c)] (setM M 0 (newMk s))) := fun M => (show MkO [] M from ⟨fun _ h => (by cases h), fun _ h => (by cases h)⟩).more (x := PEl.mk 0 (-1) (newRest c)) 0 (new_shp _ _ _) (new_mk _ _ (HCB.out HL.out)) (fun _ h => by cases h)
    have HE : Hid (ElAt (w1.alloc (.cells (PEl.mk 0 (-1) (newRest c)).cells.toArray 134)) w1.heap.size 0 (PEl.mk 0 (-1) (newRest c)).cells 0 (-1)) := el_new HXO w1
    go_upto_region 5 with (refine wpList_store_new rfl 134 _ _ rfl _ (PEl.mk 0 (-1) (newRest c)).cells.toArray 134 rfl rfl HE.out.size' HE.out.same HE.out.all ?_)
    have HX2 : Hid (∃ x : PEl, x.num = 0 ∧ x.par = -1 ∧ (∀ M, MkO [x] (setM M 0 (newMk s))) ∧ x.ok ∧ x.cells = (PEl.mk 0 (-1) (newRest c)).cells) := ⟨_, rfl, rfl, HMK.out, HXO, rfl⟩
    clear HXO HMK
    generalize (PEl.mk 0 (-1) (newRest c)).cells = cs at HE HX2 ⊢
    go_wp2_with (first | (refine wpList_load_mid rfl 134 _ rfl w1.heap.size 0 rfl cs _ HE.out.rng Tryz.underlying134 rfl HE.out.size ?_) | (refine wpList_buildOneAt (w1.heap.size + 1) (by simp) rfl 83 134 _ rfl cs.toArray rfl i0 z0 Tryz.underlying83 hi iz (HE.out.info is) HE.out.pos HE.out.small ?_))
    obtain ⟨W2, hW2⟩ : ∃ W2, W2 = (w1.setCell ⟨w.heap.size, 0, none⟩ (.slice (some ⟨w1.heap.size + 1, 0, none⟩) 1 1)).setCell ⟨w.heap.size, 1, none⟩ (.int .i64 1) := ⟨_, rfl⟩
    rw [← hW2]
    have hb3 : (w1.setCell ⟨w.heap.size, 0, none⟩ (.slice (some ⟨w1.heap.size + 1, 0, none⟩) 1 1)).heap[w.heap.size]? = some (.cells #[.slice (some ⟨w1.heap.size + 1, 0, none⟩) 1 1, .int .i64 0] 85 (0, 0)) := by rw [heap_setCell_row HBK.out]; rfl
    have hb4 : W2.heap[w.heap.size]? = some (.cells #[.slice (some ⟨w1.heap.size + 1, 0, none⟩) 1 1, .int .i64 1] 85 (0, 0)) := by rw [hW2, heap_setCell_row hb3]; rfl
    have hzz : W2.heap.size = w1.heap.size := by rw [hW2]; simp
    have hBW : Below w.heap.size w W2 := by rw [hW2]; exact (hB1.setCell (Nat.le_refl _) _).setCell (Nat.le_refl _) _
    clear hW2 hb3
    have hb5 : ((W2.alloc (.cells cs.toArray 134)).alloc (.cells cs.toArray 134)).heap[w.heap.size]? = some (.cells #[.slice (some ⟨w1.heap.size + 1, 0, none⟩) 1 1, .int .i64 1] 85 (0, 0)) := (Below.heap_alloc _ _ _ (by simp; omega)).trans ((Below.heap_alloc _ _ _ (by omega)).trans hb4)
    have f0 : ((W2.alloc (.cells cs.toArray 134)).alloc (.cells cs.toArray 134)).cell? ⟨w.heap.size, 0, none⟩ = some (.slice (some ⟨w1.heap.size + 1, 0, none⟩) 1 1) := cell_of_blk hb5 rfl
    have f1 : ((W2.alloc (.cells cs.toArray 134)).alloc (.cells cs.toArray 134)).cell? ⟨w.heap.size, 1, none⟩ = some (.int .i64 1) := cell_of_blk hb5 rfl
    have HFIN : Hid (PTreePost w s (.returned (.tuple #[.agg #[.slice (some ⟨w1.heap.size + 1, 0, none⟩) 1 1, .int .i64 1], .int .i64 0])) ((W2.alloc (.cells cs.toArray 134)).alloc (.cells cs.toArray 134))) := by
      have hz := hBW.size
      refine ⟨(hBW.alloc hz _).alloc (by simp; omega) _, Or.inr ⟨HL.out, w1.heap.size + 1, ?_⟩⟩
      obtain ⟨x, h1, h2, hmk, h3, h4⟩ := HX2.out
      refine ⟨x, rfl, h1, h2, hmk, ⟨?_, ?_⟩, by omega⟩
      · have e1 : (W2.alloc (.cells cs.toArray 134)).heap.size = w1.heap.size + 1 := by simp [hzz]
        have hlen := HE.out.len
        have hfl : flatP [x] = cs := by simp [flatP, h4]
        rw [hfl]
        refine ⟨by rw [hlen]; rfl, Or.inr ⟨w1.heap.size + 1, 1, cs.toArray, rfl, Nat.zero_le _, ?_, Nat.le_refl _, by unfold maxLen; omega, by simp [hlen], ?_⟩⟩
        · rw [← e1]
          exact heap_alloc_new _ _
        · have : cs.take 31 = cs := List.take_of_length_le (by omega)
          simpa using this
      · intro e he
        rw [List.mem_singleton] at he
        rw [he]
        exact h3
    generalize (W2.alloc (.cells cs.toArray 134)).alloc (.cells cs.toArray 134) = W5 at f0 f1 HFIN ⊢
    exact bodyPost_ret (v := .tuple #[.agg #[.slice (some ⟨w1.heap.size + 1, 0, none⟩) 1 1, .int .i64 1], .int .i64 0]) (by simp [results, Tryz.results43, go_sem, f0, f1]) rfl HFIN.out
end Go.Proofs.YtblfffbmklkhmaaGreat
