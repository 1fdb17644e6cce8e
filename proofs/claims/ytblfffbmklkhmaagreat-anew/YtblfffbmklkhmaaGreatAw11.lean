/- Own work. -/
import Derived.Test.YtblfffbmklkhmaaGreatAw10
import Derived.Test.YtblfffbmklkhmaaGreatAw9
namespace Go.Proofs.YtblfffbmklkhmaaGreat
open Go.RowKit
def POne (w : World) (s : ByteArray) (e : Ending) (w' : World) : Prop := ∃ c : Int, e = .returned (.tuple #[.int .u8 c, .bool (isLetter s)]) ∧ Drew w w' ∧ (isLetter s = true → c = bt s 0) ∧ (s.size = 0 → c = 0)
set_option maxHeartbeats 2000000 in
theorem pone_any (w : World) (s : ByteArray) : Calls Tryz.prog 73 #[.string s] w fun e w' => POne w s e w' := by
  by_cases h1 : s.size = 1
  · have g1 : ((s.size : Int) != 1) = false := by simp [h1]
    have h0 : 0 < s.size := by omega
    have hb : (bt s 0 : Int) = (s[0].toNat : Int) := by rw [bt_at s 0 h0]
    have HBT : Hid ((s[0].toNat : Int) = bt s 0) := hb.symm
    by_cases h2 : (97 : Int) ≤ bt s 0
    · by_cases h3 : (bt s 0 : Int) ≤ 122
      · have HR : Hid (isLetter s = true) := by unfold Hid isLetter isL; simp only [h1, decide_true, Bool.true_and, decide_eq_true_eq]; omega
        rw [hb] at h2 h3
        have hd2 : decide ((97 : Int) ≤ (s[0].toNat : Int)) = true := by simpa using h2
        have hd3 : decide ((s[0].toNat : Int) ≤ 122) = true := by simpa using h3
        clear hb h1
        go_enter Tryz.func73, Tryz.ntmps73
        go_upto_region 3 with fail
        go_quiet (fail)
        go_wp2
        go_ret2
        unfold POne
        rw [HR.out]
        exact ⟨_, rfl, ⟨_, rfl⟩, fun _ => HBT.out, fun h => by omega⟩
      · have HR : Hid (isLetter s = false) := by unfold Hid isLetter isL; simp only [h1, decide_true, Bool.true_and, decide_eq_false_iff_not]; omega
        rw [hb] at h2 h3
        have hd2 : decide ((97 : Int) ≤ (s[0].toNat : Int)) = true := by simpa using h2
        have hd3 : decide ((s[0].toNat : Int) ≤ 122) = false := by simpa using h3
        clear hb h1
        go_enter Tryz.func73, Tryz.ntmps73
        go_upto_region 3 with fail
        go_quiet (fail)
        go_wp2
        go_ret2
        unfold POne
        rw [HR.out]
        exact ⟨_, rfl, ⟨_, rfl⟩, fun _ => HBT.out, fun h => by omega⟩
    · have HR : Hid (isLetter s = false) := by unfold Hid isLetter isL; simp only [h1, decide_true, Bool.true_and, decide_eq_false_iff_not]; omega
      rw [hb] at h2
      have hd2 : decide ((97 : Int) ≤ (s[0].toNat : Int)) = false := by simpa using h2
      clear hb h1
      go_enter Tryz.func73, Tryz.ntmps73
      go_upto_region 3 with fail
      go_quiet (fail)
      go_wp2
      go_ret2
      unfold POne
      rw [HR.out]
      exact ⟨_, rfl, ⟨_, rfl⟩, fun _ => HBT.out, fun h => by omega⟩
  · have g1 : ((s.size : Int) != 1) = true := by rw [bne_iff_ne]; omega
    have HR : Hid (isLetter s = false) := by unfold Hid isLetter; simp only [h1, decide_false, Bool.false_and]
    clear h1
    go_enter Tryz.func73, Tryz.ntmps73
    go_wp2
    go_ret2
    unfold POne
    rw [HR.out]
    exact ⟨0, rfl, ⟨0, rfl⟩, fun h => (by cases h), fun _ => rfl⟩
/-- The cells of a new element behind its numbers. -/
abbrev newRest (c : Int) : List Value := [.int .u8 c, .bool false, .bool false, .bool false, .bool false, .bool false, .bool false, .bool false, .bool false, .bool false, .bool false, .bool false, .bool false, .bool false, .bool false, .bool false, .bool false, .bool false, .bool false, .bool false, .bool false, .bool false, .bool false, .bool false, .bool false, .bool false, .bool false, .int .u8 0, .bool false]
theorem newRest_eq (c : Int) : newRest c = .int .u8 c :: (List.replicate 26 (Value.bool false) ++ [.int .u8 0, .bool false]) := rfl
theorem newRest_cls (c : Int) {i : Nat} (hi : i < 26) : (newRest c)[1 + i]? = some (.bool false) := by
  rw [newRest_eq, Nat.add_comm, List.getElem?_cons_succ, List.getElem?_append_left (by simpa using hi), List.getElem?_replicate, if_pos hi]
theorem new_ok (n : Nat) (p c : Int) : PEl.ok ⟨n, p, newRest c⟩ := by
  refine ⟨rfl, fun u hu => ?_⟩
  simp only [List.mem_cons, List.not_mem_nil, or_false] at hu
  rcases hu with rfl | hu
  · rfl
  · have : u = .bool false ∨ u = .int .u8 0 ∨ u = .bool false := by simpa using hu
    rcases this with rfl | rfl | rfl <;> rfl
theorem new_shp (n : Nat) (p c : Int) : Shp ⟨n, p, newRest c⟩ := ⟨⟨c, rfl⟩, fun _ hi => ⟨false, newRest_cls c hi⟩, ⟨0, rfl⟩, ⟨false, rfl⟩⟩
theorem new_mk (n : Nat) (p : Int) {c : Int} {kind : ByteArray} (hc : c = bt kind 0) : kindP ⟨n, p, newRest c⟩ = (newMk kind).kd ∧ (∀ i, i < 26 → classP ⟨n, p, newRest c⟩ i = (newMk kind).cl i) ∧ nameP ⟨n, p, newRest c⟩ = (newMk kind).nm := by
  refine ⟨hc, fun i hi => ?_, rfl⟩
  unfold classP
  show (match (newRest c)[1 + i]? with | some (.bool b) => b | _ => false) = _
  rw [newRest_cls c hi]
  rfl
/-- The document's block. -/
abbrev docBlk (vS : Value × Value) (v : Value) (made : Nat) : Obj := .cells #[vS.1, v, .int .i64 made, vS.2] 90 (0, 0)
/-- The program's document holds a tree. -/
structure PB3 (w : World) (b : Nat) (vS : Value × Value) (v : Value) (els : List PEl) (T : Tree) (made : Nat) : Prop where
  doc : w.heap[b]? = some (docBlk vS v made)
  pl : PL w v els
  pt : PT els T
  few : els.length ≤ 24
theorem PB3.c1 {w : World} {b : Nat} {vS : Value × Value} {v : Value} {els : List PEl} {T : Tree} {made : Nat} (h : PB3 w b vS v els T made) : w.cell? ⟨b, 1, none⟩ = some v := cell_of_blk h.doc rfl
theorem PB3.c2 {w : World} {b : Nat} {vS : Value × Value} {v : Value} {els : List PEl} {T : Tree} {made : Nat} (h : PB3 w b vS v els T made) : w.cell? ⟨b, 2, none⟩ = some (.int .i64 made) := cell_of_blk h.doc rfl
theorem PB3.below {w w' : World} {b : Nat} {vS : Value × Value} {v : Value} {els : List PEl} {T : Tree} {made : Nat} (h : PB3 w b vS v els T made) (hB : Below w.heap.size w w') : PB3 w' b vS v els T made :=
  ⟨(hB.block b (Array.getElem?_eq_some_iff.1 h.doc).1).trans h.doc, ⟨own_below h.pl.row hB, h.pl.ok⟩, h.pt, h.few⟩
/-- Other elements: the document's two cells are written. -/
theorem PB3.set {w w' : World} {b : Nat} {vS : Value × Value} {v : Value} {els : List PEl} {T : Tree} {made : Nat} (h : PB3 w b vS v els T made) (hB : Below w.heap.size w w') {v' : Value} {els' : List PEl} {T' : Tree} {base : Nat} (ho : w'.ownsRow base 134 31 v' els'.length (flatP els')) (hok : ∀ e ∈ els', e.ok) (ht : PT els' T') (hf : els'.length ≤ 24) : PB3 (w'.setCell ⟨b, 1, none⟩ v') b vS v' els' T' made := by
  have hb' : w'.heap[b]? = some (docBlk vS v made) := (hB.block b (Array.getElem?_eq_some_iff.1 h.doc).1).trans h.doc
  refine ⟨?_, ⟨own_set (own_mono ho (Nat.zero_le _)) (own_ne_type ho hb' (by decide)) _, hok⟩, ht, hf⟩
  rw [heap_setCell_row hb']; rfl
/-- One more has been made: the count is written first. -/
theorem PB3.count {w : World} {b : Nat} {vS : Value × Value} {v : Value} {els : List PEl} {T : Tree} {made : Nat} (h : PB3 w b vS v els T made) : PB3 (w.setCell ⟨b, 2, none⟩ (.int .i64 ((made : Int) + 1))) b vS v els T (made + 1) := by
  refine ⟨?_, ⟨own_set h.pl.row (own_ne_type h.pl.row h.doc (by decide)) _, h.pl.ok⟩, h.pt, h.few⟩
  rw [heap_setCell_row h.doc]; rfl
def PInsPost (w : World) (b : Nat) (vS : Value × Value) (v : Value) (els : List PEl) (T : Tree) (made : Nat) (par at' : Int) (kind : ByteArray) (e : Ending) (w' : World) : Prop :=
  ∃ y T' made' n v' els', e = .returned (.tuple #[.int .i64 n, .int .i64 y]) ∧ TIns T made par at' kind y T' made' n ∧ PB3 w' b vS v' els' T' made' ∧ Fr w w' (fun k => k = b) ∧ (∀ j, v'.ownBlock = some j → v.ownBlock = some j ∨ w.heap.size ≤ j) ∧ ∀ M, MkO els M → MkO els' (if y = 0 then setM M made (newMk kind) else M)
theorem ins_none {T : Tree} {par at' : Int} {kind : ByteArray} (h : tFind T par = none) : tInsErr T par at' kind = 5 := by unfold tInsErr; rw [h]
theorem ok_with {els : List PEl} (h : ∀ e ∈ els, e.ok) {x : PEl} (hx : x.ok) (place : Nat) : ∀ e ∈ withP els place x, e.ok := fun e he => (mem_withP.1 he).elim (fun h1 => h1 ▸ hx) (h e)
theorem with_len (els : List PEl) (place : Nat) (x : PEl) : (withP els place x).length = els.length + 1 := by
  unfold withP
  simp
  omega
set_option maxRecDepth 100000 in
set_option maxHeartbeats 4000000 in
theorem pins_any (w : World) (b : Nat) (vS : Value × Value) (v : Value) (els : List PEl) (T : Tree) (made : Nat) (par at' : Int) (kind : ByteArray) (h : PB3 w b vS v els T made) (hw : TW T made) (hmade : made ≤ 4611686018427387904) :
    Calls Tryz.prog 65 #[.pointer (some ⟨b, 1, none⟩), .int .i64 par, .int .i64 at', .string kind] w fun e w' => PInsPost w b vS v els T made par at' kind e w' := by
  have HB : Hid (PB3 w b vS v els T made) := h
  have HW : Hid (TW T made) := hw
  have hfew := h.few
  have hTl : els.length = T.length := h.pt.len hw
  have HTL : Hid (els.length = T.length) := hTl
  clear h hw hTl
  have HERR : Hid (∀ (y : Int) (w' : World), Below w.heap.size w w' → y ≠ 0 → tInsErr T par at' kind = y → PInsPost w b vS v els T made par at' kind (.returned (.tuple #[.int .i64 0, .int .i64 y])) w') := fun y w' hb hy he =>
    ⟨y, T, made, 0, v, els, rfl, ⟨he.symm, Or.inl ⟨hy, rfl, rfl, rfl⟩⟩, HB.out.below hb, (Fr.refl w _).below hb, fun j hj => Or.inl hj, fun M hM => by rw [if_neg hy]; exact hM⟩
  go_enter Tryz.func65, Tryz.ntmps65
  go_wp2_with fail
  refine (pfind_any w b v els par HB.out.c1 HB.out.pl hfew).mono ?_
  rintro e w1 ⟨hB1, ⟨hf, rfl⟩ | ⟨ip, xp, _, hf, rfl⟩⟩
  · have HE := HERR.out 5 w1 hB1 (by decide) (ins_none (HB.out.pt.find_none hf))
    clear hf
    go_wp2
    go_ret2
    exact HE
  · obtain ⟨hTf, hTm, hpar⟩ := HB.out.pt.find_some HW.out hf
    have HT : Hid (tFind T par = some (kidsP els par) ∧ (xp.num, kidsP els par) ∈ T ∧ par = xp.num) := ⟨hTf, hTm, hpar⟩
    clear hf hTf hTm hpar
    have hc1 := (HB.out.below hB1).c1
    go_wp2_with fail
    refine (pplace_any w1 v els par at' (HB.out.below hB1).pl hfew).mono ?_
    rintro e w2 ⟨hB2, ⟨place, rfl, hpl, hkl⟩ | ⟨n, rfl, hbad⟩⟩
    · have hB12 : Below w.heap.size w w2 := hB1.trans (hB2.mono hB1.size)
      have HK : Hid (((kidsP (els.take place) par).length : Int) = at') := hkl
      clear hB1 hB2 hc1 hkl
      go_wp2_with fail
      refine (pone_any w2 kind).mono ?_
      rintro e w3 ⟨c, rfl, hdr, hcb, _⟩
      have HCB : Hid (isLetter kind = true → c = bt kind 0) := hcb
      clear hcb
      have hB3 : Below w.heap.size w w3 := hB12.trans (hdr.below.mono hB12.size)
      clear hB12 hdr
      have HAT : Hid (¬ (at' < 0 ∨ ((kidsP els par).length : Int) < at')) := by
        have h1 := HK.out
        have h2 : (kidsP (els.take place) par).length ≤ (kidsP els par).length := by
          have h3 : kidsP els par = kidsP (els.take place) par ++ kidsP (els.drop place) par := by rw [← kidsP_append, List.take_append_drop]
          rw [h3, List.length_append]
          omega
        intro h3
        omega
      cases hl : isLetter kind with
      | false =>
        have HE := HERR.out 4 w3 hB3 (by decide) (by unfold tInsErr; rw [HT.out.1]; show (if _ then _ else _) = _; rw [if_neg HAT.out, if_pos hl])
        clear hl
        go_wp2
        go_ret2
        exact HE
      | true =>
        have hc1 := (HB.out.below hB3).c1
        have hc2 := (HB.out.below hB3).c2
        obtain ⟨av, cv, hvv⟩ := HB.out.pl.shape
        subst hvv
        by_cases h24 : 24 ≤ els.length
        · have g24 : decide ((24 : Int) ≤ (els.length : Int)) = true := by simp; omega
          have HE := HERR.out 9 w3 hB3 (by decide) (by unfold tInsErr; rw [HT.out.1]; show (if _ then _ else _) = _; rw [if_neg HAT.out, if_neg (by rw [hl]; decide), if_pos (by rw [← HTL.out]; exact h24)])
          clear hl h24
          go_wp2
          go_ret2
          exact HE
        · have g24 : decide ((24 : Int) ≤ (els.length : Int)) = false := by simp; omega
          have HOK : Hid (tInsErr T par at' kind = 0) := by unfold Hid tInsErr; rw [HT.out.1]; show (if _ then _ else _) = _; rw [if_neg HAT.out, if_neg (by rw [hl]; decide), if_neg (by rw [← HTL.out]; exact h24)]
          have H24 : Hid (els.length < 24) := by unfold Hid; omega
          have HMK : Hid (∀ M, MkO els M → MkO (withP els place ⟨made, par, newRest c⟩) (setM M made (newMk kind))) := fun M hM => hM.more (x := ⟨made, par, newRest c⟩) place (new_shp _ _ _) (new_mk _ _ (HCB.out hl)) (fun e he => by
            obtain ⟨l, hl2⟩ := HB.out.pt.to' e he
            have : e.num < made := HW.out.lt _ hl2
            show e.num ≠ made
            omega)
          have ez : ∀ k, w3.frozen? ⟨b, k, none⟩ = false := fun _ => frozen_of_blk (HB.out.below hB3).doc
          have HB4 : Hid (PB3 (w3.setCell ⟨b, 2, none⟩ (.int .i64 ((made : Int) + 1))) b vS (.slice av els.length cv) els T (made + 1)) := (HB.out.below hB3).count
          clear hl h24
          go_upto_region 14 with fail
          have HFR : Hid (Fr w (w3.setCell ⟨b, 2, none⟩ (.int .i64 ((made : Int) + 1))) (fun k => k = b)) := ((Fr.refl w (fun k => k = b)).below hB3).set (p := ⟨b, 2, none⟩) (Or.inl rfl) _
          obtain ⟨W4, hW4⟩ : ∃ W4, W4 = w3.setCell ⟨b, 2, none⟩ (.int .i64 ((made : Int) + 1)) := ⟨_, rfl⟩
          rw [← hW4] at HB4 HFR ⊢
          clear hW4 hc1 hc2 ez hB3
          have hc1 := HB4.out.c1
          go_wp2_with fail
          have HXOK : Hid (PEl.ok ⟨made, par, newRest c⟩) := new_ok _ _ _
          refine (pwith_any W4 _ els place ⟨made, par, newRest c⟩ HB4.out.pl HXOK.out hpl hfew).mono ?_
          generalize newRest c = rst at HXOK HMK
          rintro e w5 ⟨a5, c5, rfl, own5, hB5⟩
          have HPT : Hid (PT (withP els place ⟨made, par, rst⟩) (tIns T xp.num (kidsP (els.take place) par).length made)) := by
            have hp := HT.out.2.2
            have := HB.out.pt.ins HW.out (p := xp.num) (k := (kidsP (els.take place) par).length) (place := place) ⟨_, HT.out.2.1⟩ rst (by rw [hp])
            rw [← hp] at this
            exact this
          have HB6 : Hid (PB3 (w5.setCell ⟨b, 1, none⟩ (.slice a5 (withP els place ⟨made, par, rst⟩).length c5)) b vS (.slice a5 (withP els place ⟨made, par, rst⟩).length c5) (withP els place ⟨made, par, rst⟩) (tIns T xp.num (kidsP (els.take place) par).length made) (made + 1)) :=
            HB4.out.set hB5 own5 (ok_with HB4.out.pl.ok HXOK.out place) HPT.out (by rw [with_len]; have := H24.out; omega)
          have e1 : w5.cell? ⟨b, 1, none⟩ = some (.slice av els.length cv) := (HB4.out.below hB5).c1
          have ez : ∀ k, w5.frozen? ⟨b, k, none⟩ = false := fun _ => frozen_of_blk (HB4.out.below hB5).doc
          have HE : Hid (PInsPost w b vS (.slice av els.length cv) els T made par at' kind (.returned (.tuple #[.int .i64 made, .int .i64 0])) (w5.setCell ⟨b, 1, none⟩ (.slice a5 (withP els place ⟨made, par, rst⟩).length c5))) := by
            refine ⟨0, _, made + 1, made, _, _, rfl, ⟨HOK.out.symm, Or.inr ⟨rfl, rfl, rfl, xp.num, (kidsP (els.take place) par).length, HT.out.2.2, HK.out.symm, ⟨_, HT.out.2.1, ?_⟩, rfl⟩⟩, HB6.out, (HFR.out.below hB5).set (p := ⟨b, 1, none⟩) (Or.inl rfl) _, fun j hj => Or.inr ?_, fun M hM => by rw [if_pos rfl]; exact HMK.out M hM⟩
            · have h3 : kidsP els par = kidsP (els.take place) par ++ kidsP (els.drop place) par := by rw [← kidsP_append, List.take_append_drop]
              rw [h3, List.length_append]
              omega
            · have := (own5.lt j hj).1
              have := HFR.out.size
              omega
          clear own5 hB5 hc1
          generalize (withP els place ⟨made, par, rst⟩).length = n5 at HE HB6 ⊢
          go_wp2
          go_ret2
          exact HE.out
    · have HE := HERR.out 8 w2 (hB1.trans (hB2.mono hB1.size)) (by decide) (by unfold tInsErr; rw [HT.out.1]; show (if _ then _ else _) = _; rw [if_pos hbad])
      clear hbad hB1 hB2 hc1
      go_wp2
      go_ret2
      exact HE
end Go.Proofs.YtblfffbmklkhmaaGreat

namespace Go.Proofs.YtblfffbmklkhmaaGreat
open Go.RowKit
theorem pt_within {els : List PEl} {T : Tree} {made : Nat} (h : PT els T) (hw : TW T made) {x : PEl} (hx : x ∈ els) {a : Int} (ha : 0 ≤ a) : (∃ k, k < els.length ∧ upP els k x.num = a) ↔ tUnder T a x.num := by
  obtain ⟨l, hl⟩ := h.to' x hx
  rw [hw.short ha ⟨l, hl⟩, h.len hw]
  constructor
  · rintro ⟨k, h1, h2⟩
    exact ⟨k, h1, by rw [← h.upP hw]; exact h2⟩
  · rintro ⟨k, h1, h2⟩
    exact ⟨k, h1, by rw [h.upP hw]; exact h2⟩
noncomputable def remP (T : Tree) (a : Int) (els : List PEl) : List PEl := els.filter fun e => !tUnderB T a e.num
theorem rem_take {els : List PEl} {i : Nat} (T : Tree) (a : Int) (h : i < els.length) : remP T a (els.take (i + 1)) = if tUnderB T a els[i].num = true then remP T a (els.take i) else remP T a (els.take i) ++ [els[i]] := by
  unfold remP
  rw [List.take_succ_eq_append_getElem h, List.filter_append]
  cases hu : tUnderB T a els[i].num <;> simp [hu]
theorem rem_len (T : Tree) (a : Int) (els : List PEl) : (remP T a els).length ≤ els.length := List.length_filter_le _ _
theorem TW.par_neg {T : Tree} {made : Nat} (h : TW T made) {a : Nat} {l : List Nat} (ha : (a, l) ∈ T) : tPar T a < 0 ↔ a = 0 := by
  constructor
  · intro h1
    by_cases h0 : a = 0
    · exact h0
    · obtain ⟨q, _, _, hq⟩ := h.up ha h0
      omega
  · rintro rfl
    have := h.root_par
    show tPar T ((0 : Nat) : Int) < 0
    have e : tPar T ((0 : Nat) : Int) = tPar T 0 := rfl
    omega
def PRemPost (w : World) (b : Nat) (vS : Value × Value) (v : Value) (els : List PEl) (T : Tree) (made : Nat) (n : Int) (e : Ending) (w' : World) : Prop :=
  ∃ y T' v' els', e = .returned (.int .i64 y) ∧ TRem T n y T' ∧ PB3 w' b vS v' els' T' made ∧ Fr w w' (fun k => k = b) ∧ (∀ j, v'.ownBlock = some j → v.ownBlock = some j ∨ w.heap.size ≤ j) ∧ ∀ M, MkO els M → MkO els' M
set_option maxRecDepth 100000 in
set_option maxHeartbeats 4000000 in
theorem prem_any (w : World) (b : Nat) (vS : Value × Value) (v : Value) (els : List PEl) (T : Tree) (made : Nat) (n : Int) (h : PB3 w b vS v els T made) (hw : TW T made) :
    Calls Tryz.prog 155 #[.pointer (some ⟨b, 1, none⟩), .int .i64 n] w fun e w' => PRemPost w b vS v els T made n e w' := by
  obtain ⟨i0, z0, hi, iz, is, ib, izs⟩ := Tryz.infoE
  have HB : Hid (PB3 w b vS v els T made) := h
  have HW : Hid (TW T made) := hw
  have hfew := h.few
  clear h hw
  have HERR : Hid (∀ (y : Int) (w' : World), Below w.heap.size w w' → y ≠ 0 → tRemErr T n = y → PRemPost w b vS v els T made n (.returned (.int .i64 y)) w') := fun y w' hb hy he =>
    ⟨y, T, v, els, rfl, ⟨he.symm, Or.inl ⟨hy, rfl⟩⟩, HB.out.below hb, (Fr.refl w _).below hb, fun j hj => Or.inl hj, fun M hM => hM⟩
  go_enter Tryz.func155, Tryz.ntmps155
  go_wp2_with fail
  refine (pfind_any w b v els n HB.out.c1 HB.out.pl hfew).mono ?_
  rintro e w1 ⟨hB1, ⟨hf, rfl⟩ | ⟨ip, xp, _, hf, rfl⟩⟩
  · have HE := HERR.out 5 w1 hB1 (by decide) (by unfold tRemErr; rw [HB.out.pt.find_none hf])
    clear hf
    go_wp2
    go_ret
    exact HE
  · obtain ⟨hTf, hTm, hpar⟩ := HB.out.pt.find_some HW.out hf
    have HT : Hid (tFind T n = some (kidsP els n) ∧ (xp.num, kidsP els n) ∈ T ∧ n = xp.num) := ⟨hTf, hTm, hpar⟩
    clear hf hTf hTm hpar
    by_cases h0 : n = 0
    · have g0 : (n == 0) = true := by simp [h0]
      have HE := HERR.out 6 w1 hB1 (by decide) (by
        unfold tRemErr
        rw [HT.out.1]
        show (if _ then _ else _) = _
        have h1 := HT.out.2.2
        rw [if_pos (by rw [h1]; exact (HW.out.par_neg HT.out.2.1).2 (by omega))])
      clear h0
      go_wp2
      go_ret
      exact HE
    · have g0 : (n == 0) = false := by simp [h0]
      have H0 : Hid (xp.num ≠ 0) := by have h1 := HT.out.2.2; unfold Hid; omega
      have HOK : Hid (tRemErr T n = 0) := by
        unfold Hid tRemErr
        rw [HT.out.1]
        show (if _ then _ else _) = _
        have h1 := HT.out.2.2
        rw [if_neg (by rw [h1]; exact fun hx => H0.out ((HW.out.par_neg HT.out.2.1).1 hx))]
      clear h0
      have HB1 : Hid (PB3 w1 b vS v els T made) := HB.out.below hB1
      have HBW : Hid (Below w.heap.size w w1) := hB1
      have hc1 := HB1.out.c1
      have hbl : b < w1.heap.size := (Array.getElem?_eq_some_iff.1 HB1.out.doc).1
      obtain ⟨a, c, hv⟩ := HB.out.pl.shape
      subst hv
      have HW0 : Hid (WI w1.heap.size w1 w1 (.slice none 0 0) (remP T n (els.take 0))) := ⟨World.ownsRow_nil _ _ _ _, Below.refl _ _⟩
      clear hB1
      go_wp2_with fail
      go_loopg [7, 25] els.length (fun gk v iv wr => ∃ i : Nat, iv = .int .i64 i ∧ i ≤ els.length ∧ els.length - i ≤ gk ∧ Hid (WI w1.heap.size w1 wr v (remP T n (els.take i))))
      case atStart => exact ⟨0, rfl, Nat.zero_le _, by omega, HW0⟩
      case round =>
        obtain ⟨i, rfl, hil, hgk, HN⟩ := hrel
        obtain ⟨a2, c2, hv2⟩ := own_shape HN.out.own
        subst hv2
        have hll : (remP T n (els.take i)).length ≤ 24 := by
          have h1 := rem_len T n (els.take i)
          have h2 : (els.take i).length ≤ els.length := List.length_take_le' _ _
          omega
        have hbz := HN.out.below.size
        by_cases hlt : i < els.length
        · have hd : decide ((i : Int) < (els.length : Int)) = true := by simp; omega
          obtain ⟨g, hg, hgl, he⟩ := HB1.out.pl.el hlt
          subst hg
          have HE : Hid (ElAt wr g (i * 31) els[i].cells els[i].num els[i].par) := he.below HN.out.below hgl
          have HST : Hid (remP T n (els.take (i + 1)) = if tUnderB T n els[i].num = true then remP T n (els.take i) else remP T n (els.take i) ++ [els[i]]) := rem_take T n hlt
          have HUN : Hid ((∃ k, k < els.length ∧ upP els k els[i].num = n) ↔ tUnderB T n els[i].num = true) := by
            unfold Hid
            rw [tUnderB_iff]
            exact pt_within HB.out.pt HW.out (List.getElem_mem hlt) (a := n) (by have := HT.out.2.2; omega)
          clear he
          generalize els[i] = y at HE HST HUN
          obtain ⟨cs, hcs⟩ : ∃ cs, y.cells = cs := ⟨_, rfl⟩
          have HCY : Hid (y.cells = cs) := hcs
          rw [hcs] at HE
          clear hcs
          have c0 : cs[0]? = some (.int .i64 y.num) := HE.out.c0
          generalize remP T n (els.take i) = L at HN HST hll ⊢
          have HEY1 : Hid (ElAt (wr.alloc (.cells cs.toArray 134)) wr.heap.size 0 cs y.num y.par) := HE.out.new wr
          have HB2 : Hid (PB3 (wr.alloc (.cells cs.toArray 134)) b vS (.slice (some ⟨g, 0, none⟩) els.length c) els T made) := HB1.out.below (HN.out.below.alloc hbz _)
          go_wp2_with (first | (refine wpList_load_mid rfl 134 _ rfl g (i * 31) rfl cs _ HE.out.rng Tryz.underlying134 rfl HE.out.size ?_) | (refine wpList_store_new rfl 134 _ _ rfl _ cs.toArray 134 rfl rfl HE.out.size' HE.out.same HE.out.all ?_))
          refine (pwithin_any (wr.alloc (.cells cs.toArray 134)) b _ els y.num n HB2.out.c1 HB2.out.pl hfew).mono ?_
          rintro e w3 ⟨hB3, r, rfl, hr⟩
          have hz3 : wr.heap.size + 1 ≤ w3.heap.size := by have := hB3.size; simpa using this
          have HB3 : Hid (Below (wr.heap.size + 1) (wr.alloc (.cells cs.toArray 134)) w3) := by simpa [Hid] using hB3
          have HN3 : Hid (WI w1.heap.size w1 w3 (.slice a2 L.length c2) L) := ⟨own_below (HN.out.own.alloc _) hB3, (HN.out.below.alloc hbz _).trans (hB3.mono (by simp; omega))⟩
          have HEY3 : Hid (ElAt w3 wr.heap.size 0 cs y.num y.par) := HEY1.out.below HB3.out (by omega)
          have HR : Hid (r = true ↔ tUnderB T n y.num = true) := hr.trans HUN.out
          clear hB3 hr HN HEY1 HE HB3 HB2 c0
          cases r with
          | true =>
            have HW5 : Hid (WI w1.heap.size w1 w3 (.slice a2 L.length c2) (remP T n (els.take (i + 1)))) := by
              rw [HST.out, if_pos (HR.out.1 rfl)]
              exact HN3.out
            clear HST HR
            go_wp2
            go_roundg (els.length - (i + 1))
            case measure => omega
            case rel => exact ⟨i + 1, by go_num, by omega, Nat.le_refl _, HW5⟩
          | false =>
            have HST2 : Hid (remP T n (els.take (i + 1)) = L ++ [y]) := by
              unfold Hid
              rw [HST.out, if_neg (fun hx => by have := HR.out.2 hx; cases this)]
            clear HST HR
            go_wp2_with (first | (refine wpList_load_mid rfl 134 _ rfl (wr.heap.size) (0) rfl cs _ HEY3.out.rng Tryz.underlying134 rfl HEY3.out.size ?_) | (refine wpList_buildOneAt w3.heap.size rfl rfl 83 134 _ rfl cs.toArray rfl i0 z0 Tryz.underlying83 hi iz (HEY3.out.info is) (HEY3.out.pos) (HEY3.out.small) ?_) | (at_builtin; refine wpList_append_own _ rfl (.tmp 35) (.tmp 37) 83 rfl (w1.heap.size) 134 i0 z0 31 48 Tryz.underlying83 hi iz is ib izs (by decide) _ _ _ rfl (HN3.out.own.alloc _) ⟨w3.heap.size, 0, none⟩ 1 1 cs rfl HEY3.out.len1 ?c1 HEY3.out.one ?c3 ?c4 ?c5 ?_))
            case c1 => exact new_cells w3 _ rfl _ _ _ (by simp)
            case c3 => unfold maxLen; omega
            case c4 => omega
            case c5 => simp; omega
            intro v5 w5 own5 hg5 _
            have HW5 : Hid (WI w1.heap.size w1 w5 v5 (remP T n (els.take (i + 1)))) := by
              rw [HST2.out]
              exact HN3.out.app (HN3.out.below.alloc (by omega) _) (by simp; omega) hg5 (by rw [HCY.out]; exact own5)
            clear own5 hg5 HN3 HEY3
            go_wp2
            go_roundg (els.length - (i + 1))
            case measure => omega
            case rel => exact ⟨i + 1, by go_num, by omega, Nat.le_refl _, HW5⟩
        · have hd : decide ((i : Int) < (els.length : Int)) = false := by simp; omega
          obtain rfl : i = els.length := by omega
          rw [List.take_length] at HN hll ⊢
          have HPT : Hid (PT (remP T n els) (tRem T xp.num)) := by
            have h1 := HT.out.2.2
            have := HB.out.pt.rem HW.out HT.out.2.1 H0.out
            rw [← h1] at this
            exact this
          have HB6 : Hid (PB3 (wr.setCell ⟨b, 1, none⟩ (.slice a2 (remP T n els).length c2)) b vS (.slice a2 (remP T n els).length c2) (remP T n els) (tRem T xp.num) made) :=
            HB1.out.set HN.out.below HN.out.own (fun e he => HB.out.pl.ok e (List.mem_filter.1 he).1) HPT.out hll
          have e1 : wr.cell? ⟨b, 1, none⟩ = some (.slice a els.length c) := (HB1.out.below HN.out.below).c1
          have ez : ∀ k, wr.frozen? ⟨b, k, none⟩ = false := fun _ => frozen_of_blk (HB1.out.below HN.out.below).doc
          have HE : Hid (PRemPost w b vS (.slice a els.length c) els T made n (.returned (.int .i64 0)) (wr.setCell ⟨b, 1, none⟩ (.slice a2 (remP T n els).length c2))) := by
            refine ⟨0, _, _, _, rfl, ⟨HOK.out.symm, Or.inr ⟨rfl, xp.num, HT.out.2.2, H0.out, ⟨_, HT.out.2.1⟩, rfl⟩⟩, HB6.out, ?_, fun j hj => Or.inr ?_, fun M hM => hM.sub (fun x hx => (List.mem_filter.1 hx).1)⟩
            · exact (((Fr.refl w (fun k => k = b)).below HBW.out).below HN.out.below).set (p := ⟨b, 1, none⟩) (Or.inl rfl) _
            · have := (HN.out.own.lt j hj).1
              have := HBW.out.size
              omega
          clear hc1
          generalize (remP T n els).length = n5 at HE HB6 hll ⊢
          go_wp2
          go_ret
          exact HE.out
end Go.Proofs.YtblfffbmklkhmaaGreat
