/- Own work. -/
import Derived.Test.YtblfffbmklkhmaaGreatProgOQ
import Derived.Test.YtblfffbmklkhmaaGreatTreeFX
import Derived.Test.YtblfffbmklkhmaaGreatProgTN
namespace Go.Proofs.YtblfffbmklkhmaaGreat
open Go.RowKit

def POne (w : World) (s : ByteArray) (e : Ending) (w' : World) : Prop := ∃ c : Int, e = .returned (.tuple #[.int .u8 c, .bool (isLetter s)]) ∧ Drew w w' ∧ (isLetter s = true → c = bt s 0) ∧ (s.size = 0 → c = 0)
set_option maxHeartbeats 2000000 in
theorem pone_any (w : World) (s : ByteArray) : Calls Tryz.prog 73 #[.string s] w fun e w' => POne w s e w' := by
  by_cases h1 : s.size = 1
  · have g1 : ((s.size : Int) != 1) = false := by simp [h1]
    have h0 : 0 < s.size := by omega
    have hb : (bt s 0 : Int) = (s[0].toNat : Int) := by rw [bt_at s 0 h0]
    have HBT : Hid ((s[0].toNat : Int) = bt s 0) := hb.symm
    by_cases h2 : (97 : Int) ≤ bt s 0
    · by_cases h3 : (bt s 0 : Int) ≤ 122
      · have HR : Hid (isLetter s = true) := by unfold Hid isLetter isL; simp only [h1, decide_true, Bool.true_and, decide_eq_true_eq]; omega
        rw [hb] at h2 h3
        have hd2 : decide ((97 : Int) ≤ (s[0].toNat : Int)) = true := by simpa using h2
        have hd3 : decide ((s[0].toNat : Int) ≤ 122) = true := by simpa using h3
        clear hb h1
        go_enter Tryz.func73, Tryz.ntmps73
        go_upto_region 3 with fail
        go_quiet (fail)
        go_wp2
        go_ret2
        unfold POne
        rw [HR.out]
        exact ⟨_, rfl, ⟨_, rfl⟩, fun _ => HBT.out, fun h => by omega⟩
      · have HR : Hid (isLetter s = false) := by unfold Hid isLetter isL; simp only [h1, decide_true, Bool.true_and, decide_eq_false_iff_not]; omega
        rw [hb] at h2 h3
        have hd2 : decide ((97 : Int) ≤ (s[0].toNat : Int)) = true := by simpa using h2
        have hd3 : decide ((s[0].toNat : Int) ≤ 122) = false := by simpa using h3
        clear hb h1
        go_enter Tryz.func73, Tryz.ntmps73
        go_upto_region 3 with fail
        go_quiet (fail)
        go_wp2
        go_ret2
        unfold POne
        rw [HR.out]
        exact ⟨_, rfl, ⟨_, rfl⟩, fun _ => HBT.out, fun h => by omega⟩
    · have HR : Hid (isLetter s = false) := by unfold Hid isLetter isL; simp only [h1, decide_true, Bool.true_and, decide_eq_false_iff_not]; omega
      rw [hb] at h2
      have hd2 : decide ((97 : Int) ≤ (s[0].toNat : Int)) = false := by simpa using h2
      clear hb h1
      go_enter Tryz.func73, Tryz.ntmps73
      go_upto_region 3 with fail
      go_quiet (fail)
      go_wp2
      go_ret2
      unfold POne
      rw [HR.out]
      exact ⟨_, rfl, ⟨_, rfl⟩, fun _ => HBT.out, fun h => by omega⟩
  · have g1 : ((s.size : Int) != 1) = true := by rw [bne_iff_ne]; omega
    have HR : Hid (isLetter s = false) := by unfold Hid isLetter; simp only [h1, decide_false, Bool.false_and]
    clear h1
    go_enter Tryz.func73, Tryz.ntmps73
    go_wp2
    go_ret2
    unfold POne
    rw [HR.out]
    exact ⟨0, rfl, ⟨0, rfl⟩, fun h => (by cases h), fun _ => rfl⟩

/-- The cells of a new element behind its numbers. -/
abbrev newRest (c : Int) : List Value := [.int .u8 c, .bool false, .bool false, .bool false, .bool false, .bool false, .bool false, .bool false, .bool false, .bool false, .bool false, .bool false, .bool false, .bool false, .bool false, .bool false, .bool false, .bool false, .bool false, .bool false, .bool false, .bool false, .bool false, .bool false, .bool false, .bool false, .bool false, .int .u8 0, .bool false]
theorem newRest_eq (c : Int) : newRest c = .int .u8 c :: (List.replicate 26 (Value.bool false) ++ [.int .u8 0, .bool false]) := rfl
theorem newRest_cls (c : Int) {i : Nat} (hi : i < 26) : (newRest c)[1 + i]? = some (.bool false) := by
  rw [newRest_eq, Nat.add_comm, List.getElem?_cons_succ, List.getElem?_append_left (by simpa using hi), List.getElem?_replicate, if_pos hi]
theorem new_ok (n : Nat) (p c : Int) : PEl.ok ⟨n, p, newRest c⟩ := by
  refine ⟨rfl, fun u hu => ?_⟩
  simp only [List.mem_cons, List.not_mem_nil, or_false] at hu
  rcases hu with rfl | hu
  · rfl
  · have : u = .bool false ∨ u = .int .u8 0 ∨ u = .bool false := by simpa using hu
    rcases this with rfl | rfl | rfl <;> rfl
theorem new_shp (n : Nat) (p c : Int) : Shp ⟨n, p, newRest c⟩ := ⟨⟨c, rfl⟩, fun _ hi => ⟨false, newRest_cls c hi⟩, ⟨0, rfl⟩, ⟨false, rfl⟩⟩
theorem new_mk (n : Nat) (p : Int) {c : Int} {kind : ByteArray} (hc : c = bt kind 0) : kindP ⟨n, p, newRest c⟩ = (newMk kind).kd ∧ (∀ i, i < 26 → classP ⟨n, p, newRest c⟩ i = (newMk kind).cl i) ∧ nameP ⟨n, p, newRest c⟩ = (newMk kind).nm := by
  refine ⟨hc, fun i hi => ?_, rfl⟩
  unfold classP
  show (match (newRest c)[1 + i]? with | some (.bool b) => b | _ => false) = _
  rw [newRest_cls c hi]
  rfl

/-- The document's block. -/
abbrev docBlk (vS : Value × Value) (v : Value) (made : Nat) : Obj := .cells #[vS.1, v, .int .i64 made, vS.2] 90 (0, 0)

/-- The program's document holds a tree. -/
structure PB3 (w : World) (b : Nat) (vS : Value × Value) (v : Value) (els : List PEl) (T : Tree) (made : Nat) : Prop where
  doc : w.heap[b]? = some (docBlk vS v made)
  pl : PL w v els
  pt : PT els T
  few : els.length ≤ 24
theorem PB3.c1 {w : World} {b : Nat} {vS : Value × Value} {v : Value} {els : List PEl} {T : Tree} {made : Nat} (h : PB3 w b vS v els T made) : w.cell? ⟨b, 1, none⟩ = some v := cell_of_blk h.doc rfl
theorem PB3.c2 {w : World} {b : Nat} {vS : Value × Value} {v : Value} {els : List PEl} {T : Tree} {made : Nat} (h : PB3 w b vS v els T made) : w.cell? ⟨b, 2, none⟩ = some (.int .i64 made) := cell_of_blk h.doc rfl
theorem PB3.below {w w' : World} {b : Nat} {vS : Value × Value} {v : Value} {els : List PEl} {T : Tree} {made : Nat} (h : PB3 w b vS v els T made) (hB : Below w.heap.size w w') : PB3 w' b vS v els T made :=
  ⟨(hB.block b (Array.getElem?_eq_some_iff.1 h.doc).1).trans h.doc, ⟨own_below h.pl.row hB, h.pl.ok⟩, h.pt, h.few⟩
/-- Other elements: the document's two cells are written. -/
theorem PB3.set {w w' : World} {b : Nat} {vS : Value × Value} {v : Value} {els : List PEl} {T : Tree} {made : Nat} (h : PB3 w b vS v els T made) (hB : Below w.heap.size w w') {v' : Value} {els' : List PEl} {T' : Tree} {base : Nat} (ho : w'.ownsRow base 134 31 v' els'.length (flatP els')) (hok : ∀ e ∈ els', e.ok) (ht : PT els' T') (hf : els'.length ≤ 24) : PB3 (w'.setCell ⟨b, 1, none⟩ v') b vS v' els' T' made := by
  have hb' : w'.heap[b]? = some (docBlk vS v made) := (hB.block b (Array.getElem?_eq_some_iff.1 h.doc).1).trans h.doc
  refine ⟨?_, ⟨own_set (own_mono ho (Nat.zero_le _)) (own_ne_type ho hb' (by decide)) _, hok⟩, ht, hf⟩
  rw [heap_setCell_row hb']; rfl
/-- One more has been made: the count is written first. -/
theorem PB3.count {w : World} {b : Nat} {vS : Value × Value} {v : Value} {els : List PEl} {T : Tree} {made : Nat} (h : PB3 w b vS v els T made) : PB3 (w.setCell ⟨b, 2, none⟩ (.int .i64 ((made : Int) + 1))) b vS v els T (made + 1) := by
  refine ⟨?_, ⟨own_set h.pl.row (own_ne_type h.pl.row h.doc (by decide)) _, h.pl.ok⟩, h.pt, h.few⟩
  rw [heap_setCell_row h.doc]; rfl

def PInsPost (w : World) (b : Nat) (vS : Value × Value) (v : Value) (els : List PEl) (T : Tree) (made : Nat) (par at' : Int) (kind : ByteArray) (e : Ending) (w' : World) : Prop :=
  ∃ y T' made' n v' els', e = .returned (.tuple #[.int .i64 n, .int .i64 y]) ∧ TIns T made par at' kind y T' made' n ∧ PB3 w' b vS v' els' T' made' ∧ Fr w w' (fun k => k = b) ∧ (∀ j, v'.ownBlock = some j → v.ownBlock = some j ∨ w.heap.size ≤ j) ∧ ∀ M, MkO els M → MkO els' (if y = 0 then setM M made (newMk kind) else M)

theorem ins_none {T : Tree} {par at' : Int} {kind : ByteArray} (h : tFind T par = none) : tInsErr T par at' kind = 5 := by unfold tInsErr; rw [h]
theorem ok_with {els : List PEl} (h : ∀ e ∈ els, e.ok) {x : PEl} (hx : x.ok) (place : Nat) : ∀ e ∈ withP els place x, e.ok := fun e he => (mem_withP.1 he).elim (fun h1 => h1 ▸ hx) (h e)
theorem with_len (els : List PEl) (place : Nat) (x : PEl) : (withP els place x).length = els.length + 1 := by
  unfold withP
  simp
  omega

set_option maxRecDepth 100000 in
set_option maxHeartbeats 4000000 in
theorem pins_any (w : World) (b : Nat) (vS : Value × Value) (v : Value) (els : List PEl) (T : Tree) (made : Nat) (par at' : Int) (kind : ByteArray) (h : PB3 w b vS v els T made) (hw : TW T made) (hmade : made ≤ 4611686018427387904) :
    Calls Tryz.prog 65 #[.pointer (some ⟨b, 1, none⟩), .int .i64 par, .int .i64 at', .string kind] w fun e w' => PInsPost w b vS v els T made par at' kind e w' := by
  have HB : Hid (PB3 w b vS v els T made) := h
  have HW : Hid (TW T made) := hw
  have hfew := h.few
  have hTl : els.length = T.length := h.pt.len hw
  have HTL : Hid (els.length = T.length) := hTl
  clear h hw hTl
  have HERR : Hid (∀ (y : Int) (w' : World), Below w.heap.size w w' → y ≠ 0 → tInsErr T par at' kind = y → PInsPost w b vS v els T made par at' kind (.returned (.tuple #[.int .i64 0, .int .i64 y])) w') := fun y w' hb hy he =>
    ⟨y, T, made, 0, v, els, rfl, ⟨he.symm, Or.inl ⟨hy, rfl, rfl, rfl⟩⟩, HB.out.below hb, (Fr.refl w _).below hb, fun j hj => Or.inl hj, fun M hM => by rw [if_neg hy]; exact hM⟩
  go_enter Tryz.func65, Tryz.ntmps65
  go_wp2_with fail
  refine (pfind_any w b v els par HB.out.c1 HB.out.pl hfew).mono ?_
  rintro e w1 ⟨hB1, ⟨hf, rfl⟩ | ⟨ip, xp, _, hf, rfl⟩⟩
  · have HE := HERR.out 5 w1 hB1 (by decide) (ins_none (HB.out.pt.find_none hf))
    clear hf
    go_wp2
    go_ret2
    exact HE
  · obtain ⟨hTf, hTm, hpar⟩ := HB.out.pt.find_some HW.out hf
    have HT : Hid (tFind T par = some (kidsP els par) ∧ (xp.num, kidsP els par) ∈ T ∧ par = xp.num) := ⟨hTf, hTm, hpar⟩
    clear hf hTf hTm hpar
    have hc1 := (HB.out.below hB1).c1
    go_wp2_with fail
    refine (pplace_any w1 v els par at' (HB.out.below hB1).pl hfew).mono ?_
    rintro e w2 ⟨hB2, ⟨place, rfl, hpl, hkl⟩ | ⟨n, rfl, hbad⟩⟩
    · have hB12 : Below w.heap.size w w2 := hB1.trans (hB2.mono hB1.size)
      have HK : Hid (((kidsP (els.take place) par).length : Int) = at') := hkl
      clear hB1 hB2 hc1 hkl
      go_wp2_with fail
      refine (pone_any w2 kind).mono ?_
      rintro e w3 ⟨c, rfl, hdr, hcb, _⟩
      have HCB : Hid (isLetter kind = true → c = bt kind 0) := hcb
      clear hcb
      have hB3 : Below w.heap.size w w3 := hB12.trans (hdr.below.mono hB12.size)
      clear hB12 hdr
      have HAT : Hid (¬ (at' < 0 ∨ ((kidsP els par).length : Int) < at')) := by
        have h1 := HK.out
        have h2 : (kidsP (els.take place) par).length ≤ (kidsP els par).length := by
          have h3 : kidsP els par = kidsP (els.take place) par ++ kidsP (els.drop place) par := by rw [← kidsP_append, List.take_append_drop]
          rw [h3, List.length_append]
          omega
        intro h3
        omega
      cases hl : isLetter kind with
      | false =>
        have HE := HERR.out 4 w3 hB3 (by decide) (by unfold tInsErr; rw [HT.out.1]; show (if _ then _ else _) = _; rw [if_neg HAT.out, if_pos hl])
        clear hl
        go_wp2
        go_ret2
        exact HE
      | true =>
        have hc1 := (HB.out.below hB3).c1
        have hc2 := (HB.out.below hB3).c2
        obtain ⟨av, cv, hvv⟩ := HB.out.pl.shape
        subst hvv
        by_cases h24 : 24 ≤ els.length
        · have g24 : decide ((24 : Int) ≤ (els.length : Int)) = true := by simp; omega
          have HE := HERR.out 9 w3 hB3 (by decide) (by unfold tInsErr; rw [HT.out.1]; show (if _ then _ else _) = _; rw [if_neg HAT.out, if_neg (by rw [hl]; decide), if_pos (by rw [← HTL.out]; exact h24)])
          clear hl h24
          go_wp2
          go_ret2
          exact HE
        · have g24 : decide ((24 : Int) ≤ (els.length : Int)) = false := by simp; omega
          have HOK : Hid (tInsErr T par at' kind = 0) := by unfold Hid tInsErr; rw [HT.out.1]; show (if _ then _ else _) = _; rw [if_neg HAT.out, if_neg (by rw [hl]; decide), if_neg (by rw [← HTL.out]; exact h24)]
          have H24 : Hid (els.length < 24) := by unfold Hid; omega
          have HMK : Hid (∀ M, MkO els M → MkO (withP els place ⟨made, par, newRest c⟩) (setM M made (newMk kind))) := fun M hM => hM.more (x := ⟨made, par, newRest c⟩) place (new_shp _ _ _) (new_mk _ _ (HCB.out hl)) (fun e he => by
            obtain ⟨l, hl2⟩ := HB.out.pt.to' e he
            have : e.num < made := HW.out.lt _ hl2
            show e.num ≠ made
            omega)
          have ez : ∀ k, w3.frozen? ⟨b, k, none⟩ = false := fun _ => frozen_of_blk (HB.out.below hB3).doc
          have HB4 : Hid (PB3 (w3.setCell ⟨b, 2, none⟩ (.int .i64 ((made : Int) + 1))) b vS (.slice av els.length cv) els T (made + 1)) := (HB.out.below hB3).count
          clear hl h24
          go_upto_region 14 with fail
          have HFR : Hid (Fr w (w3.setCell ⟨b, 2, none⟩ (.int .i64 ((made : Int) + 1))) (fun k => k = b)) := ((Fr.refl w (fun k => k = b)).below hB3).set (p := ⟨b, 2, none⟩) (Or.inl rfl) _
          obtain ⟨W4, hW4⟩ : ∃ W4, W4 = w3.setCell ⟨b, 2, none⟩ (.int .i64 ((made : Int) + 1)) := ⟨_, rfl⟩
          rw [← hW4] at HB4 HFR ⊢
          clear hW4 hc1 hc2 ez hB3
          have hc1 := HB4.out.c1
          go_wp2_with fail
          have HXOK : Hid (PEl.ok ⟨made, par, newRest c⟩) := new_ok _ _ _
          refine (pwith_any W4 _ els place ⟨made, par, newRest c⟩ HB4.out.pl HXOK.out hpl hfew).mono ?_
          generalize newRest c = rst at HXOK HMK
          rintro e w5 ⟨a5, c5, rfl, own5, hB5⟩
          have HPT : Hid (PT (withP els place ⟨made, par, rst⟩) (tIns T xp.num (kidsP (els.take place) par).length made)) := by
            have hp := HT.out.2.2
            have := HB.out.pt.ins HW.out (p := xp.num) (k := (kidsP (els.take place) par).length) (place := place) ⟨_, HT.out.2.1⟩ rst (by rw [hp])
            rw [← hp] at this
            exact this
          have HB6 : Hid (PB3 (w5.setCell ⟨b, 1, none⟩ (.slice a5 (withP els place ⟨made, par, rst⟩).length c5)) b vS (.slice a5 (withP els place ⟨made, par, rst⟩).length c5) (withP els place ⟨made, par, rst⟩) (tIns T xp.num (kidsP (els.take place) par).length made) (made + 1)) :=
            HB4.out.set hB5 own5 (ok_with HB4.out.pl.ok HXOK.out place) HPT.out (by rw [with_len]; have := H24.out; omega)
          have e1 : w5.cell? ⟨b, 1, none⟩ = some (.slice av els.length cv) := (HB4.out.below hB5).c1
          have ez : ∀ k, w5.frozen? ⟨b, k, none⟩ = false := fun _ => frozen_of_blk (HB4.out.below hB5).doc
          have HE : Hid (PInsPost w b vS (.slice av els.length cv) els T made par at' kind (.returned (.tuple #[.int .i64 made, .int .i64 0])) (w5.setCell ⟨b, 1, none⟩ (.slice a5 (withP els place ⟨made, par, rst⟩).length c5))) := by
            refine ⟨0, _, made + 1, made, _, _, rfl, ⟨HOK.out.symm, Or.inr ⟨rfl, rfl, rfl, xp.num, (kidsP (els.take place) par).length, HT.out.2.2, HK.out.symm, ⟨_, HT.out.2.1, ?_⟩, rfl⟩⟩, HB6.out, (HFR.out.below hB5).set (p := ⟨b, 1, none⟩) (Or.inl rfl) _, fun j hj => Or.inr ?_, fun M hM => by rw [if_pos rfl]; exact HMK.out M hM⟩
            · have h3 : kidsP els par = kidsP (els.take place) par ++ kidsP (els.drop place) par := by rw [← kidsP_append, List.take_append_drop]
              rw [h3, List.length_append]
              omega
            · have := (own5.lt j hj).1
              have := HFR.out.size
              omega
          clear own5 hB5 hc1
          generalize (withP els place ⟨made, par, rst⟩).length = n5 at HE HB6 ⊢
          go_wp2
          go_ret2
          exact HE.out
    · have HE := HERR.out 8 w2 (hB1.trans (hB2.mono hB1.size)) (by decide) (by unfold tInsErr; rw [HT.out.1]; show (if _ then _ else _) = _; rw [if_pos hbad])
      clear hbad hB1 hB2 hc1
      go_wp2
      go_ret2
      exact HE

end Go.Proofs.YtblfffbmklkhmaaGreat

namespace Go.Proofs.YtblfffbmklkhmaaGreat
open Go.RowKit

theorem pt_within {els : List PEl} {T : Tree} {made : Nat} (h : PT els T) (hw : TW T made) {x : PEl} (hx : x ∈ els) {a : Int} (ha : 0 ≤ a) : (∃ k, k < els.length ∧ upP els k x.num = a) ↔ tUnder T a x.num := by
  obtain ⟨l, hl⟩ := h.to' x hx
  rw [hw.short ha ⟨l, hl⟩, h.len hw]
  constructor
  · rintro ⟨k, h1, h2⟩
    exact ⟨k, h1, by rw [← h.upP hw]; exact h2⟩
  · rintro ⟨k, h1, h2⟩
    exact ⟨k, h1, by rw [h.upP hw]; exact h2⟩
noncomputable def remP (T : Tree) (a : Int) (els : List PEl) : List PEl := els.filter fun e => !tUnderB T a e.num
theorem rem_take {els : List PEl} {i : Nat} (T : Tree) (a : Int) (h : i < els.length) : remP T a (els.take (i + 1)) = if tUnderB T a els[i].num = true then remP T a (els.take i) else remP T a (els.take i) ++ [els[i]] := by
  unfold remP
  rw [List.take_succ_eq_append_getElem h, List.filter_append]
  cases hu : tUnderB T a els[i].num <;> simp [hu]
theorem rem_len (T : Tree) (a : Int) (els : List PEl) : (remP T a els).length ≤ els.length := List.length_filter_le _ _
theorem TW.par_neg {T : Tree} {made : Nat} (h : TW T made) {a : Nat} {l : List Nat} (ha : (a, l) ∈ T) : tPar T a < 0 ↔ a = 0 := by
  constructor
  · intro h1
    by_cases h0 : a = 0
    · exact h0
    · obtain ⟨q, _, _, hq⟩ := h.up ha h0
      omega
  · rintro rfl
    have := h.root_par
    show tPar T ((0 : Nat) : Int) < 0
    have e : tPar T ((0 : Nat) : Int) = tPar T 0 := rfl
    omega

def PRemPost (w : World) (b : Nat) (vS : Value × Value) (v : Value) (els : List PEl) (T : Tree) (made : Nat) (n : Int) (e : Ending) (w' : World) : Prop :=
  ∃ y T' v' els', e = .returned (.int .i64 y) ∧ TRem T n y T' ∧ PB3 w' b vS v' els' T' made ∧ Fr w w' (fun k => k = b) ∧ (∀ j, v'.ownBlock = some j → v.ownBlock = some j ∨ w.heap.size ≤ j) ∧ ∀ M, MkO els M → MkO els' M

set_option maxRecDepth 100000 in
set_option maxHeartbeats 4000000 in
theorem prem_any (w : World) (b : Nat) (vS : Value × Value) (v : Value) (els : List PEl) (T : Tree) (made : Nat) (n : Int) (h : PB3 w b vS v els T made) (hw : TW T made) :
    Calls Tryz.prog 155 #[.pointer (some ⟨b, 1, none⟩), .int .i64 n] w fun e w' => PRemPost w b vS v els T made n e w' := by
  obtain ⟨i0, z0, hi, iz, is, ib, izs⟩ := Tryz.infoE
  have HB : Hid (PB3 w b vS v els T made) := h
  have HW : Hid (TW T made) := hw
  have hfew := h.few
  clear h hw
  have HERR : Hid (∀ (y : Int) (w' : World), Below w.heap.size w w' → y ≠ 0 → tRemErr T n = y → PRemPost w b vS v els T made n (.returned (.int .i64 y)) w') := fun y w' hb hy he =>
    ⟨y, T, v, els, rfl, ⟨he.symm, Or.inl ⟨hy, rfl⟩⟩, HB.out.below hb, (Fr.refl w _).below hb, fun j hj => Or.inl hj, fun M hM => hM⟩
  go_enter Tryz.func155, Tryz.ntmps155
  go_wp2_with fail
  refine (pfind_any w b v els n HB.out.c1 HB.out.pl hfew).mono ?_
  rintro e w1 ⟨hB1, ⟨hf, rfl⟩ | ⟨ip, xp, _, hf, rfl⟩⟩
  · have HE := HERR.out 5 w1 hB1 (by decide) (by unfold tRemErr; rw [HB.out.pt.find_none hf])
    clear hf
    go_wp2
    go_ret
    exact HE
  · obtain ⟨hTf, hTm, hpar⟩ := HB.out.pt.find_some HW.out hf
    have HT : Hid (tFind T n = some (kidsP els n) ∧ (xp.num, kidsP els n) ∈ T ∧ n = xp.num) := ⟨hTf, hTm, hpar⟩
    clear hf hTf hTm hpar
    by_cases h0 : n = 0
    · have g0 : (n == 0) = true := by simp [h0]
      have HE := HERR.out 6 w1 hB1 (by decide) (by
        unfold tRemErr
        rw [HT.out.1]
        show (if _ then _ else _) = _
        have h1 := HT.out.2.2
        rw [if_pos (by rw [h1]; exact (HW.out.par_neg HT.out.2.1).2 (by omega))])
      clear h0
      go_wp2
      go_ret
      exact HE
    · have g0 : (n == 0) = false := by simp [h0]
      have H0 : Hid (xp.num ≠ 0) := by have h1 := HT.out.2.2; unfold Hid; omega
      have HOK : Hid (tRemErr T n = 0) := by
        unfold Hid tRemErr
        rw [HT.out.1]
        show (if _ then _ else _) = _
        have h1 := HT.out.2.2
        rw [if_neg (by rw [h1]; exact fun hx => H0.out ((HW.out.par_neg HT.out.2.1).1 hx))]
      clear h0
      have HB1 : Hid (PB3 w1 b vS v els T made) := HB.out.below hB1
      have HBW : Hid (Below w.heap.size w w1) := hB1
      have hc1 := HB1.out.c1
      have hbl : b < w1.heap.size := (Array.getElem?_eq_some_iff.1 HB1.out.doc).1
      obtain ⟨a, c, hv⟩ := HB.out.pl.shape
      subst hv
      have HW0 : Hid (WI w1.heap.size w1 w1 (.slice none 0 0) (remP T n (els.take 0))) := ⟨World.ownsRow_nil _ _ _ _, Below.refl _ _⟩
      clear hB1
      go_wp2_with fail
      go_loopg [7, 25] els.length (fun gk v iv wr => ∃ i : Nat, iv = .int .i64 i ∧ i ≤ els.length ∧ els.length - i ≤ gk ∧ Hid (WI w1.heap.size w1 wr v (remP T n (els.take i))))
      case atStart => exact ⟨0, rfl, Nat.zero_le _, by omega, HW0⟩
      case round =>
        obtain ⟨i, rfl, hil, hgk, HN⟩ := hrel
        obtain ⟨a2, c2, hv2⟩ := own_shape HN.out.own
        subst hv2
        have hll : (remP T n (els.take i)).length ≤ 24 := by
          have h1 := rem_len T n (els.take i)
          have h2 : (els.take i).length ≤ els.length := List.length_take_le' _ _
          omega
        have hbz := HN.out.below.size
        by_cases hlt : i < els.length
        · have hd : decide ((i : Int) < (els.length : Int)) = true := by simp; omega
          obtain ⟨g, hg, hgl, he⟩ := HB1.out.pl.el hlt
          subst hg
          have HE : Hid (ElAt wr g (i * 31) els[i].cells els[i].num els[i].par) := he.below HN.out.below hgl
          have HST : Hid (remP T n (els.take (i + 1)) = if tUnderB T n els[i].num = true then remP T n (els.take i) else remP T n (els.take i) ++ [els[i]]) := rem_take T n hlt
          have HUN : Hid ((∃ k, k < els.length ∧ upP els k els[i].num = n) ↔ tUnderB T n els[i].num = true) := by
            unfold Hid
            rw [tUnderB_iff]
            exact pt_within HB.out.pt HW.out (List.getElem_mem hlt) (a := n) (by have := HT.out.2.2; omega)
          clear he
          generalize els[i] = y at HE HST HUN
          obtain ⟨cs, hcs⟩ : ∃ cs, y.cells = cs := ⟨_, rfl⟩
          have HCY : Hid (y.cells = cs) := hcs
          rw [hcs] at HE
          clear hcs
          have c0 : cs[0]? = some (.int .i64 y.num) := HE.out.c0
          generalize remP T n (els.take i) = L at HN HST hll ⊢
          have HEY1 : Hid (ElAt (wr.alloc (.cells cs.toArray 134)) wr.heap.size 0 cs y.num y.par) := HE.out.new wr
          have HB2 : Hid (PB3 (wr.alloc (.cells cs.toArray 134)) b vS (.slice (some ⟨g, 0, none⟩) els.length c) els T made) := HB1.out.below (HN.out.below.alloc hbz _)
          go_wp2_with (first | (refine wpList_load_mid rfl 134 _ rfl g (i * 31) rfl cs _ HE.out.rng Tryz.underlying134 rfl HE.out.size ?_) | (refine wpList_store_new rfl 134 _ _ rfl _ cs.toArray 134 rfl rfl HE.out.size' HE.out.same HE.out.all ?_))
          refine (pwithin_any (wr.alloc (.cells cs.toArray 134)) b _ els y.num n HB2.out.c1 HB2.out.pl hfew).mono ?_
          rintro e w3 ⟨hB3, r, rfl, hr⟩
          have hz3 : wr.heap.size + 1 ≤ w3.heap.size := by have := hB3.size; simpa using this
          have HB3 : Hid (Below (wr.heap.size + 1) (wr.alloc (.cells cs.toArray 134)) w3) := by simpa [Hid] using hB3
          have HN3 : Hid (WI w1.heap.size w1 w3 (.slice a2 L.length c2) L) := ⟨own_below (HN.out.own.alloc _) hB3, (HN.out.below.alloc hbz _).trans (hB3.mono (by simp; omega))⟩
          have HEY3 : Hid (ElAt w3 wr.heap.size 0 cs y.num y.par) := HEY1.out.below HB3.out (by omega)
          have HR : Hid (r = true ↔ tUnderB T n y.num = true) := hr.trans HUN.out
          clear hB3 hr HN HEY1 HE HB3 HB2 c0
          cases r with
          | true =>
            have HW5 : Hid (WI w1.heap.size w1 w3 (.slice a2 L.length c2) (remP T n (els.take (i + 1)))) := by
              rw [HST.out, if_pos (HR.out.1 rfl)]
              exact HN3.out
            clear HST HR
            go_wp2
            go_roundg (els.length - (i + 1))
            case measure => omega
            case rel => exact ⟨i + 1, by go_num, by omega, Nat.le_refl _, HW5⟩
          | false =>
            have HST2 : Hid (remP T n (els.take (i + 1)) = L ++ [y]) := by
              unfold Hid
              rw [HST.out, if_neg (fun hx => by have := HR.out.2 hx; cases this)]
            clear HST HR
            go_wp2_with (first | (refine wpList_load_mid rfl 134 _ rfl (wr.heap.size) (0) rfl cs _ HEY3.out.rng Tryz.underlying134 rfl HEY3.out.size ?_) | (refine wpList_buildOneAt w3.heap.size rfl rfl 83 134 _ rfl cs.toArray rfl i0 z0 Tryz.underlying83 hi iz (HEY3.out.info is) (HEY3.out.pos) (HEY3.out.small) ?_) | (at_builtin; refine wpList_append_own _ rfl (.tmp 35) (.tmp 37) 83 rfl (w1.heap.size) 134 i0 z0 31 48 Tryz.underlying83 hi iz is ib izs (by decide) _ _ _ rfl (HN3.out.own.alloc _) ⟨w3.heap.size, 0, none⟩ 1 1 cs rfl HEY3.out.len1 ?c1 HEY3.out.one ?c3 ?c4 ?c5 ?_))
            case c1 => exact new_cells w3 _ rfl _ _ _ (by simp)
            case c3 => unfold maxLen; omega
            case c4 => omega
            case c5 => simp; omega
            intro v5 w5 own5 hg5 _
            have HW5 : Hid (WI w1.heap.size w1 w5 v5 (remP T n (els.take (i + 1)))) := by
              rw [HST2.out]
              exact HN3.out.app (HN3.out.below.alloc (by omega) _) (by simp; omega) hg5 (by rw [HCY.out]; exact own5)
            clear own5 hg5 HN3 HEY3
            go_wp2
            go_roundg (els.length - (i + 1))
            case measure => omega
            case rel => exact ⟨i + 1, by go_num, by omega, Nat.le_refl _, HW5⟩
        · have hd : decide ((i : Int) < (els.length : Int)) = false := by simp; omega
          obtain rfl : i = els.length := by omega
          rw [List.take_length] at HN hll ⊢
          have HPT : Hid (PT (remP T n els) (tRem T xp.num)) := by
            have h1 := HT.out.2.2
            have := HB.out.pt.rem HW.out HT.out.2.1 H0.out
            rw [← h1] at this
            exact this
          have HB6 : Hid (PB3 (wr.setCell ⟨b, 1, none⟩ (.slice a2 (remP T n els).length c2)) b vS (.slice a2 (remP T n els).length c2) (remP T n els) (tRem T xp.num) made) :=
            HB1.out.set HN.out.below HN.out.own (fun e he => HB.out.pl.ok e (List.mem_filter.1 he).1) HPT.out hll
          have e1 : wr.cell? ⟨b, 1, none⟩ = some (.slice a els.length c) := (HB1.out.below HN.out.below).c1
          have ez : ∀ k, wr.frozen? ⟨b, k, none⟩ = false := fun _ => frozen_of_blk (HB1.out.below HN.out.below).doc
          have HE : Hid (PRemPost w b vS (.slice a els.length c) els T made n (.returned (.int .i64 0)) (wr.setCell ⟨b, 1, none⟩ (.slice a2 (remP T n els).length c2))) := by
            refine ⟨0, _, _, _, rfl, ⟨HOK.out.symm, Or.inr ⟨rfl, xp.num, HT.out.2.2, H0.out, ⟨_, HT.out.2.1⟩, rfl⟩⟩, HB6.out, ?_, fun j hj => Or.inr ?_, fun M hM => hM.sub (fun x hx => (List.mem_filter.1 hx).1)⟩
            · exact (((Fr.refl w (fun k => k = b)).below HBW.out).below HN.out.below).set (p := ⟨b, 1, none⟩) (Or.inl rfl) _
            · have := (HN.out.own.lt j hj).1
              have := HBW.out.size
              omega
          clear hc1
          generalize (remP T n els).length = n5 at HE HB6 hll ⊢
          go_wp2
          go_ret
          exact HE.out

end Go.Proofs.YtblfffbmklkhmaaGreat

namespace Go.Proofs.YtblfffbmklkhmaaGreat
open Go.RowKit

def PMovPost (w : World) (b : Nat) (vS : Value × Value) (v : Value) (els : List PEl) (T : Tree) (made : Nat) (n m at' : Int) (e : Ending) (w' : World) : Prop :=
  ∃ y T' v' els', e = .returned (.int .i64 y) ∧ TMov T n m at' y T' ∧ PB3 w' b vS v' els' T' made ∧ Fr w w' (fun k => k = b) ∧ (∀ j, v'.ownBlock = some j → v.ownBlock = some j ∨ w.heap.size ≤ j) ∧ ∀ M, MkO els M → MkO els' M
theorem mov_none {T : Tree} {n m at' : Int} (h : tFind T n = none ∨ tFind T m = none) : tMovErr T n m at' = 5 := by
  unfold tMovErr
  rcases h with h | h
  · rw [h]
  · rw [h]
    cases tFind T n <;> rfl
theorem mov_some {T : Tree} {n m at' : Int} {l l' : List Nat} (h : tFind T n = some l') (h2 : tFind T m = some l) : tMovErr T n m at' = if tPar T n < 0 then 6 else if tUnderB T n m = true then 7 else if at' < 0 ∨ ((noneOf n l).length : Int) < at' then 8 else 0 := by
  unfold tMovErr
  rw [h, h2]
theorem erase_len {els : List PEl} {i : Nat} : (els.eraseIdx i).length ≤ els.length := List.length_eraseIdx_le _ _

set_option maxRecDepth 100000 in
set_option maxHeartbeats 4000000 in
theorem pmov_any (w : World) (b : Nat) (vS : Value × Value) (v : Value) (els : List PEl) (T : Tree) (made : Nat) (n m at' : Int) (h : PB3 w b vS v els T made) (hw : TW T made) :
    Calls Tryz.prog 156 #[.pointer (some ⟨b, 1, none⟩), .int .i64 n, .int .i64 m, .int .i64 at'] w fun e w' => PMovPost w b vS v els T made n m at' e w' := by
  have HB : Hid (PB3 w b vS v els T made) := h
  have HW : Hid (TW T made) := hw
  have hfew := h.few
  clear h hw
  have HERR : Hid (∀ (y : Int) (w' : World), Below w.heap.size w w' → y ≠ 0 → tMovErr T n m at' = y → PMovPost w b vS v els T made n m at' (.returned (.int .i64 y)) w') := fun y w' hb hy he =>
    ⟨y, T, v, els, rfl, ⟨he.symm, Or.inl ⟨hy, rfl⟩⟩, HB.out.below hb, (Fr.refl w _).below hb, fun j hj => Or.inl hj, fun M hM => hM⟩
  go_enter Tryz.func156, Tryz.ntmps156
  go_wp2_with fail
  refine (pfind_any w b v els n HB.out.c1 HB.out.pl hfew).mono ?_
  rintro e w1 ⟨hB1, ⟨hf, rfl⟩ | ⟨ip, xp, hxp, hf, rfl⟩⟩
  · have HE := HERR.out 5 w1 hB1 (by decide) (mov_none (Or.inl (HB.out.pt.find_none hf)))
    clear hf
    go_wp2
    go_ret
    exact HE
  · obtain ⟨hTf, hTm, hpar⟩ := HB.out.pt.find_some HW.out hf
    have HT : Hid (tFind T n = some (kidsP els n) ∧ (xp.num, kidsP els n) ∈ T ∧ n = xp.num) := ⟨hTf, hTm, hpar⟩
    have HIX : Hid (els[ip]? = some xp) := hxp
    have hip : ip < els.length := (List.getElem?_eq_some_iff.1 hxp).1
    clear hf hTf hTm hpar hxp
    have hc1 := (HB.out.below hB1).c1
    go_wp2_with fail
    refine (pfind_any w1 b v els m hc1 (HB.out.below hB1).pl hfew).mono ?_
    rintro e w2 ⟨hB2', ⟨hf, rfl⟩ | ⟨iq, xq, _, hf, rfl⟩⟩
    · have hB2 : Below w.heap.size w w2 := hB1.trans (hB2'.mono hB1.size)
      have HE := HERR.out 5 w2 hB2 (by decide) (mov_none (Or.inr (HB.out.pt.find_none hf)))
      clear hf hB2' hB1 hc1
      go_wp2
      go_ret
      exact HE
    · have hB2 : Below w.heap.size w w2 := hB1.trans (hB2'.mono hB1.size)
      clear hB1 hB2' hc1
      obtain ⟨hTf, hTm, hpar⟩ := HB.out.pt.find_some HW.out hf
      have hxq := (findP_some hf).1
      have HQ : Hid (tFind T m = some (kidsP els m) ∧ (xq.num, kidsP els m) ∈ T ∧ m = xq.num ∧ xq ∈ els) := ⟨hTf, hTm, hpar, hxq⟩
      clear hf hTf hTm hpar hxq
      have HSO : Hid (tMovErr T n m at' = if tPar T n < 0 then 6 else if tUnderB T n m = true then 7 else if at' < 0 ∨ ((noneOf n (kidsP els m)).length : Int) < at' then 8 else 0) := mov_some HT.out.1 HQ.out.1
      by_cases h0 : n = 0
      · have g0 : (n == 0) = true := by simp [h0]
        have HE := HERR.out 6 w2 hB2 (by decide) (by
          have h1 := HT.out.2.2
          rw [HSO.out, if_pos (by rw [h1]; exact (HW.out.par_neg HT.out.2.1).2 (by omega))])
        clear h0
        go_wp2
        go_ret
        exact HE
      · have g0 : (n == 0) = false := by simp [h0]
        have H0 : Hid (xp.num ≠ 0) := by have h1 := HT.out.2.2; unfold Hid; omega
        have HPN : Hid (0 ≤ tPar T n) := by
          have h1 := HT.out.2.2
          unfold Hid
          rw [h1]
          exact Int.not_lt.1 fun hx => H0.out ((HW.out.par_neg HT.out.2.1).1 hx)
        clear h0
        have hc1 := (HB.out.below hB2).c1
        have HUN : Hid ((∃ k, k < els.length ∧ upP els k m = n) ↔ tUnderB T n m = true) := by
          unfold Hid
          have h1 := HQ.out.2.2.1
          rw [tUnderB_iff, h1]
          exact pt_within HB.out.pt HW.out HQ.out.2.2.2 (a := n) (by have := HT.out.2.2; omega)
        go_wp2_with fail
        refine (pwithin_any w2 b v els m n hc1 (HB.out.below hB2).pl hfew).mono ?_
        rintro e w3 ⟨hB3', r, rfl, hr⟩
        have hB3 : Below w.heap.size w w3 := hB2.trans (hB3'.mono hB2.size)
        have HR : Hid (r = true ↔ tUnderB T n m = true) := hr.trans HUN.out
        clear hB2 hB3' hr hc1
        cases r with
        | true =>
          have HE := HERR.out 7 w3 hB3 (by decide) (by rw [HSO.out, if_neg (Int.not_lt.2 HPN.out), if_pos (HR.out.1 rfl)])
          go_wp2
          go_ret
          exact HE
        | false =>
          have HNU : Hid (¬ tUnderB T n m = true) := fun hx => by have := HR.out.2 hx; cases this
          clear HR
          have hc1 := (HB.out.below hB3).c1
          have HB3 : Hid (PB3 w3 b vS v els T made) := HB.out.below hB3
          go_wp2_with fail
          refine (pwithout_any w3 v els ip HB3.out.pl hfew).mono ?_
          rintro e w4 ⟨a4, c4, rfl, own4, hB4'⟩
          have hB4 : Below w.heap.size w w4 := hB3.trans (hB4'.mono hB3.size)
          have HER : Hid (els.eraseIdx ip = els.filter fun x => decide (x.num ≠ xp.num)) := HB.out.pt.without HIX.out
          have HKR : Hid (kidsP (els.eraseIdx ip) m = noneOf n (kidsP els m)) := by
            unfold Hid
            rw [HER.out, kids_without, HT.out.2.2]
          have HPR : Hid (PL w4 (.slice a4 (els.eraseIdx ip).length c4) (els.eraseIdx ip)) := ⟨own_mono own4 (Nat.zero_le _), fun e he => HB.out.pl.ok e (List.mem_of_mem_eraseIdx he)⟩
          have hfr : (els.eraseIdx ip).length ≤ 24 := Nat.le_trans erase_len hfew
          clear hB3 hB4' own4 hc1 HB3
          generalize els.eraseIdx ip = R at HER HKR HPR hfr ⊢
          go_wp2_with fail
          refine (pplace_any w4 _ R m at' HPR.out hfr).mono ?_
          rintro e w5 ⟨hB5', ⟨place, rfl, hpl, hkl⟩ | ⟨n', rfl, hbad⟩⟩
          · have hB5 : Below w.heap.size w w5 := hB4.trans (hB5'.mono hB4.size)
            have HPR5 : Hid (PL w5 (.slice a4 R.length c4) R) := ⟨own_below HPR.out.row hB5', HPR.out.ok⟩
            have HK : Hid (((kidsP (R.take place) m).length : Int) = at') := hkl
            have HB5 : Hid (PB3 w5 b vS v els T made) := HB.out.below hB5
            obtain ⟨av, cv, hvv⟩ := HB.out.pl.shape
            subst hvv
            obtain ⟨g, hg, hgl, he⟩ := HB5.out.pl.el hip
            have hxe : els[ip] = xp := (List.getElem?_eq_some_iff.1 HIX.out).2
            rw [hxe] at he
            subst hg
            have HE5 : Hid (ElAt w5 g (ip * 31) xp.cells xp.num xp.par) := he
            have HFR : Hid (Fr w w5 (fun k => k = b)) := (Fr.refl w _).below hB5
            have hc1 := HB5.out.c1
            clear hB4 hB5' hkl he hxe HPR hB5
            have hil : (ip : Int) < (els.length : Int) := by omega
            go_upto_region 16 with (first | (refine wpList_load_mid rfl 134 _ rfl g (ip * 31) rfl xp.cells _ HE5.out.rng Tryz.underlying134 rfl HE5.out.size ?_) | (refine wpList_store_new rfl 134 _ _ rfl _ xp.cells.toArray 134 rfl rfl HE5.out.size' HE5.out.same HE5.out.all ?_))
            go_upto_region 17 with fail
            have HYO : Hid (PEl.ok ⟨xp.num, m, xp.rest⟩) := HB.out.pl.ok xp (List.mem_of_getElem? HIX.out)
            have hset : xp.cells.set 1 (.int .i64 m) = (PEl.mk xp.num m xp.rest).cells := rfl
            rw [hset]
            clear hset
            have HYM : Hid (∀ k, (kidsP (R.take place) m).length = k → PT (withP R place ⟨xp.num, m, xp.rest⟩) (tMov T xp.num xq.num k)) := fun k hk => by
              have h1 := HQ.out.2.2.1
              have := HB.out.pt.mov HW.out (p := xq.num) (k := k) (place := place) HT.out.2.1 H0.out xp.rest (by rw [← HER.out, ← h1]; exact hk)
              rw [← HER.out, ← h1] at this
              exact this
            have hwl := with_len R place ⟨xp.num, m, xp.rest⟩
            have HRL : Hid (R.length + 1 ≤ els.length) := by
              unfold Hid
              have h1 := HT.out.2.1
              have h2 : R.length < els.length := by
                rw [HER.out]
                have h3 : (els.filter fun x => decide (x.num ≠ xp.num)).length + 1 ≤ els.length := by
                  have h4 := List.length_eraseIdx_of_lt hip
                  rw [HB.out.pt.without HIX.out] at h4
                  omega
                omega
              omega
            have HMK : Hid (∀ M, MkO els M → MkO (withP R place ⟨xp.num, m, xp.rest⟩) M) := fun M hM => by
              have hxm : xp ∈ els := List.mem_of_getElem? HIX.out
              have hR : ∀ e ∈ R, e ∈ els ∧ e.num ≠ xp.num := fun e he => by
                rw [HER.out, List.mem_filter, decide_eq_true_eq] at he
                exact he
              have h1 := (hM.sub (fun e he => (hR e he).1) : MkO R M).more (x := ⟨xp.num, m, xp.rest⟩) (m := M xp.num) place ⟨(hM.2 xp hxm).kind, (hM.2 xp hxm).cls, (hM.2 xp hxm).name, (hM.2 xp hxm).shown⟩ (hM.1 xp hxm) (fun e he => (hR e he).2)
              refine h1.ext (fun e _ => ?_)
              unfold setM
              split
              · rename_i h2
                rw [h2]
              · rfl
            generalize PEl.mk xp.num m xp.rest = yp at HYO HYM HMK hwl ⊢
            have HE6 : Hid (ElAt (w5.alloc (.cells yp.cells.toArray 134)) w5.heap.size 0 yp.cells yp.num yp.par) := el_new HYO.out w5
            have HB6 : Hid (PB3 (w5.alloc (.cells yp.cells.toArray 134)) b vS (.slice (some ⟨g, 0, none⟩) els.length cv) els T made) := HB5.out.below ((Below.refl _ _).alloc (Nat.le_refl _) _)
            have HR6 : Hid (PL (w5.alloc (.cells yp.cells.toArray 134)) (.slice a4 R.length c4) R) := ⟨HPR5.out.row.alloc _, HPR5.out.ok⟩
            have HF6 : Hid (Fr w (w5.alloc (.cells yp.cells.toArray 134)) (fun k => k = b)) := HFR.out.alloc _
            obtain ⟨W6, hW6⟩ : ∃ W6, W6 = w5.alloc (.cells yp.cells.toArray 134) := ⟨_, rfl⟩
            rw [← hW6] at HE6 HB6 HR6 HF6 ⊢
            clear hW6 hc1 HE5 HB5 HPR5 HFR
            have hc1 := HB6.out.c1
            go_wp2_with (first | (refine wpList_load_mid rfl 134 _ rfl w5.heap.size 0 rfl yp.cells _ HE6.out.rng Tryz.underlying134 rfl HE6.out.size ?_))
            refine (pwith_any W6 _ R place yp HR6.out HYO.out hpl hfr).mono ?_
            rintro e w7 ⟨a7, c7, rfl, own7, hB7⟩
            have HB8 : Hid (PB3 (w7.setCell ⟨b, 1, none⟩ (.slice a7 (withP R place yp).length c7)) b vS (.slice a7 (withP R place yp).length c7) (withP R place yp) (tMov T xp.num xq.num (kidsP (R.take place) m).length) made) :=
              HB6.out.set hB7 own7 (ok_with HR6.out.ok HYO.out place) (HYM.out _ rfl) (by rw [hwl]; have := HRL.out; omega)
            have e1 : w7.cell? ⟨b, 1, none⟩ = some (.slice (some ⟨g, 0, none⟩) els.length cv) := (HB6.out.below hB7).c1
            have ez : ∀ k, w7.frozen? ⟨b, k, none⟩ = false := fun _ => frozen_of_blk (HB6.out.below hB7).doc
            have HAT : Hid (¬ (at' < 0 ∨ ((noneOf n (kidsP els m)).length : Int) < at')) := by
              have h1 := HK.out
              have h2 : (kidsP (R.take place) m).length ≤ (kidsP R m).length := by
                have h3 : kidsP R m = kidsP (R.take place) m ++ kidsP (R.drop place) m := by rw [← kidsP_append, List.take_append_drop]
                rw [h3, List.length_append]
                omega
              rw [HKR.out] at h2
              intro h3
              omega
            have HE : Hid (PMovPost w b vS (.slice (some ⟨g, 0, none⟩) els.length cv) els T made n m at' (.returned (.int .i64 0)) (w7.setCell ⟨b, 1, none⟩ (.slice a7 (withP R place yp).length c7))) := by
              refine ⟨0, _, _, _, rfl, ⟨?_, Or.inr ⟨rfl, xp.num, xq.num, (kidsP (R.take place) m).length, HT.out.2.2, HQ.out.2.2.1, HK.out.symm, H0.out, ⟨_, HT.out.2.1⟩, ⟨_, HQ.out.2.1, ?_⟩, ?_, rfl⟩⟩, HB8.out, (HF6.out.below hB7).set (p := ⟨b, 1, none⟩) (Or.inl rfl) _, fun j hj => Or.inr ?_, HMK.out⟩
              · rw [HSO.out, if_neg (Int.not_lt.2 HPN.out), if_neg HNU.out, if_neg HAT.out]
              · have h1 := HAT.out
                have h2 := HK.out
                rw [← HT.out.2.2]
                omega
              · have h1 := HNU.out
                rw [tUnderB_iff, HT.out.2.2, HQ.out.2.2.1] at h1
                exact h1
              · have := (own7.lt j hj).1
                have := HF6.out.size
                omega
            clear own7 hB7 hc1
            generalize (withP R place yp).length = n7 at HE HB8 hwl ⊢
            clear hwl
            go_wp2
            go_ret
            exact HE.out
          · have HE := HERR.out 8 w5 (hB4.trans (hB5'.mono hB4.size)) (by decide) (by rw [HSO.out, if_neg (Int.not_lt.2 HPN.out), if_neg HNU.out, if_pos (by rw [← HKR.out]; exact hbad)])
            clear hbad hB4 hB5'
            go_wp2
            go_ret
            exact HE

end Go.Proofs.YtblfffbmklkhmaaGreat

namespace Go.Proofs.YtblfffbmklkhmaaGreat
open Go.RowKit

def PKidPost (w : World) (els : List PEl) (n : Int) (e : Ending) (w' : World) : Prop :=
  Below w.heap.size w w' ∧ ((findP els n = none ∧ e = .returned (.tuple #[.slice none 0 0, .int .i64 5])) ∨ ((∃ x, findP els n = some x) ∧ ∃ (a : Option Addr) (c : Nat), e = .returned (.tuple #[.slice a (kidsP els n).length c, .int .i64 0]) ∧ w'.ownsRow w.heap.size 3 1 (.slice a (kidsP els n).length c) (kidsP els n).length (ints (kidsP els n))))

set_option maxRecDepth 100000 in
set_option maxHeartbeats 4000000 in
theorem pkids_any (w : World) (b : Nat) (v : Value) (els : List PEl) (n : Int) (hb : w.cell? ⟨b, 1, none⟩ = some v) (h : PL w v els) (hfew : els.length ≤ 24) :
    Calls Tryz.prog 138 #[.pointer (some ⟨b, 1, none⟩), .int .i64 n] w fun e w' => PKidPost w els n e w' := by
  obtain ⟨i0, hi, iz0, iz1, iz2⟩ := info_parts Tryz.info3
  obtain ⟨a, c, hv⟩ := h.shape
  subst hv
  have HP : Hid (PL w (.slice a els.length c) els) := h
  have hbl : b < w.heap.size := World.block_lt_of_cell? w _ hb
  clear h
  go_enter Tryz.func138, Tryz.ntmps138
  go_wp2_with fail
  refine (pfind_any w b _ els n hb HP.out hfew).mono ?_
  rintro e w1 ⟨hB1, ⟨hf, rfl⟩ | ⟨ip, xp, _, hf, rfl⟩⟩
  · have HF : Hid (findP els n = none) := hf
    clear hf
    go_wp2
    go_ret2
    exact ⟨hB1, Or.inl ⟨HF.out, rfl⟩⟩
  · have HF : Hid (∃ x, findP els n = some x) := ⟨xp, hf⟩
    clear hf
    have hc1 : w1.cell? ⟨b, 1, none⟩ = some (.slice a els.length c) := (hB1.cell (p := ⟨b, 1, none⟩) hbl).trans hb
    have HB1 : Hid (Below w.heap.size w w1) := hB1
    clear hb hB1
    go_wp2_with fail
    go_loopg [8, 24] els.length (fun gk v iv wr => ∃ i : Nat, iv = .int .i64 i ∧ i ≤ els.length ∧ els.length - i ≤ gk ∧ Hid (wr.ownsRow w.heap.size 3 1 v (kidsP (els.take i) n).length (ints (kidsP (els.take i) n)) ∧ Below w.heap.size w wr))
    case atStart => exact ⟨0, rfl, Nat.zero_le _, by omega, World.ownsRow_nil _ _ _ _, HB1.out⟩
    case round =>
      obtain ⟨i, rfl, hil, hgk, HN⟩ := hrel
      obtain ⟨a2, c2, hv2⟩ := own_shape HN.out.1
      subst hv2
      have hkl : (kidsP (els.take i) n).length ≤ 24 := by
        have := kids_len (els.take i) n
        have : (els.take i).length ≤ els.length := List.length_take_le' _ _
        omega
      have hbz := HN.out.2.size
      by_cases hlt : i < els.length
      · have hd : decide ((i : Int) < (els.length : Int)) = true := by simp; omega
        obtain ⟨g, hg, hgl, he⟩ := HP.out.el hlt
        subst hg
        have HKT : Hid (kidsP (els.take (i + 1)) n = kidsP (els.take i) n ++ if els[i].par = n then [els[i].num] else []) := kids_take hlt n
        have HE : Hid (ElAt wr g (i * 31) els[i].cells els[i].num els[i].par) := he.below HN.out.2 hgl
        clear he
        generalize els[i] = x at HE HKT
        generalize x.cells = cs at HE
        have c0 : cs[0]? = some (.int .i64 x.num) := HE.out.c0
        have c1 : cs[1]? = some (.int .i64 x.par) := HE.out.c1
        generalize kidsP (els.take i) n = L at HN HKT hkl ⊢
        by_cases hpar : x.par = n
        · have gp : (x.par == n) = true := by simp [hpar]
          have HKT2 : Hid (kidsP (els.take (i + 1)) n = L ++ [x.num]) := by unfold Hid; rw [HKT.out, if_pos hpar]
          clear hpar HKT
          go_wp2_with (first | (refine wpList_load_mid rfl 134 _ rfl g (i * 31) rfl cs _ HE.out.rng Tryz.underlying134 rfl HE.out.size ?_) | (refine wpList_store_new rfl 134 _ _ rfl _ cs.toArray 134 rfl rfl HE.out.size' HE.out.same HE.out.all ?_) | (at_builtin; refine wpList_append_own _ rfl (.tmp 32) (.tmp 35) 40 rfl w.heap.size 3 i0 (.int .i64 0) 1 8 Tryz.underlying40 hi iz0 iz1 iz2 rfl (by decide) _ _ _ rfl ((HN.out.1.alloc _).alloc _) ⟨wr.heap.size + 1, 0, none⟩ 1 1 [.int .i64 (x.num : Int)] rfl rfl ?c1 ?c2 ?c3 ?c4 ?c5 ?_))
          case c1 => exact new_cells (wr.alloc _) _ (by simp) _ _ _ rfl
          case c2 => exact one_int x.num
          case c3 => unfold maxLen; omega
          case c4 => omega
          case c5 => simp; omega
          intro v5 w5 own5 hg5 _
          have HN5 : Hid (w5.ownsRow w.heap.size 3 1 v5 (kidsP (els.take (i + 1)) n).length (ints (kidsP (els.take (i + 1)) n)) ∧ Below w.heap.size w w5) := by
            rw [HKT2.out]
            exact ⟨by simpa [ints] using own5, ((HN.out.2.alloc hbz _).alloc (by simp; omega) _).grown hg5 (by simp; omega) (fun k hk => (HN.out.1.lt k hk).1)⟩
          clear own5 hg5 HN HE c0 c1
          go_wp2
          go_roundg (els.length - (i + 1))
          case measure => omega
          case rel => exact ⟨i + 1, by go_num, by omega, Nat.le_refl _, HN5⟩
        · have gp : (x.par == n) = false := by simp [hpar]
          have HN5 : Hid ((wr.alloc (.cells cs.toArray 134)).ownsRow w.heap.size 3 1 (.slice a2 L.length c2) (kidsP (els.take (i + 1)) n).length (ints (kidsP (els.take (i + 1)) n)) ∧ Below w.heap.size w (wr.alloc (.cells cs.toArray 134))) := by
            rw [HKT.out, if_neg hpar, List.append_nil]
            exact ⟨HN.out.1.alloc _, HN.out.2.alloc hbz _⟩
          clear hpar HKT
          go_wp2_with (first | (refine wpList_load_mid rfl 134 _ rfl g (i * 31) rfl cs _ HE.out.rng Tryz.underlying134 rfl HE.out.size ?_) | (refine wpList_store_new rfl 134 _ _ rfl _ cs.toArray 134 rfl rfl HE.out.size' HE.out.same HE.out.all ?_))
          go_roundg (els.length - (i + 1))
          case measure => omega
          case rel => exact ⟨i + 1, by go_num, by omega, Nat.le_refl _, HN5⟩
      · have hd : decide ((i : Int) < (els.length : Int)) = false := by simp; omega
        obtain rfl : i = els.length := by omega
        rw [List.take_length] at HN hkl ⊢
        go_wp2
        go_ret2
        exact ⟨HN.out.2, Or.inr ⟨HF.out, a2, c2, rfl, HN.out.1⟩⟩

def PTreePost (w : World) (s : ByteArray) (e : Ending) (w' : World) : Prop :=
  Below w.heap.size w w' ∧ ((isLetter s = false ∧ e = .returned (.tuple #[.agg #[.slice none 0 0, .int .i64 0], .int .i64 4])) ∨ (isLetter s = true ∧ ∃ (g : Nat) (x : PEl), e = .returned (.tuple #[.agg #[.slice (some ⟨g, 0, none⟩) 1 1, .int .i64 1], .int .i64 0]) ∧ x.num = 0 ∧ x.par = -1 ∧ (∀ M, MkO [x] (setM M 0 (newMk s))) ∧ PL w' (.slice (some ⟨g, 0, none⟩) 1 1) [x] ∧ w.heap.size ≤ g))


set_option maxRecDepth 100000 in
set_option maxHeartbeats 4000000 in
theorem pnew_any (w : World) (s : ByteArray) :
    Calls Tryz.prog 43 #[.string s] w fun e w' => PTreePost w s e w' := by
  obtain ⟨i0, z0, hi, iz, is, ib, izs⟩ := Tryz.infoE
  go_enter Tryz.func43, Tryz.ntmps43
  go_wp2_with fail
  refine (pone_any _ s).mono ?_
  rintro e w1 ⟨c, rfl, hdr, hcb, _⟩
  have HCB : Hid (isLetter s = true → c = bt s 0) := hcb
  clear hcb
  have hB1 : Below w.heap.size w w1 := ((Below.refl _ _).alloc (Nat.le_refl _) _).trans (hdr.below.mono (by simp))
  have hz1 : w.heap.size < w1.heap.size := by have := hdr.below.size; simp at this; omega
  have hblk : w1.heap[w.heap.size]? = some (.cells #[.slice none 0 0, .int .i64 0] 85) := (hdr.below.block w.heap.size (by simp)).trans (heap_alloc_new w _)
  have q0 : w1.cell? ⟨w.heap.size, 0, none⟩ = some (.slice none 0 0) := cell_of_blk hblk rfl
  have q1 : w1.cell? ⟨w.heap.size, 1, none⟩ = some (.int .i64 0) := cell_of_blk hblk rfl
  have qz : ∀ k, w1.frozen? ⟨w.heap.size, k, none⟩ = false := fun _ => frozen_of_blk hblk
  have HBK : Hid (w1.heap[w.heap.size]? = some (.cells #[.slice none 0 0, .int .i64 0] 85)) := hblk
  clear hdr hblk
  cases hl : isLetter s with
  | false =>
    have HL : Hid (isLetter s = false) := hl
    clear hl
    go_wp2_with fail
    exact bodyPost_ret (v := .tuple #[.agg #[.slice none 0 0, .int .i64 0], .int .i64 4]) (by simp [results, Tryz.results43, go_sem, q0, q1]) rfl ⟨(hB1.setCell (Nat.le_refl _) _).setCell (Nat.le_refl _) _, Or.inl ⟨HL.out, rfl⟩⟩
  | true =>
    have HL : Hid (isLetter s = true) := hl
    clear hl
    have HXO := new_ok 0 (-1) c
    have HMK : Hid (∀ M, MkO [PEl.mk 0 (-1) (newRest c)] (setM M 0 (newMk s))) := fun M => (show MkO [] M from ⟨fun _ h => (by cases h), fun _ h => (by cases h)⟩).more (x := PEl.mk 0 (-1) (newRest c)) 0 (new_shp _ _ _) (new_mk _ _ (HCB.out HL.out)) (fun _ h => by cases h)
    have HE : Hid (ElAt (w1.alloc (.cells (PEl.mk 0 (-1) (newRest c)).cells.toArray 134)) w1.heap.size 0 (PEl.mk 0 (-1) (newRest c)).cells 0 (-1)) := el_new HXO w1
    go_upto_region 5 with (refine wpList_store_new rfl 134 _ _ rfl _ (PEl.mk 0 (-1) (newRest c)).cells.toArray 134 rfl rfl HE.out.size' HE.out.same HE.out.all ?_)
    have HX2 : Hid (∃ x : PEl, x.num = 0 ∧ x.par = -1 ∧ (∀ M, MkO [x] (setM M 0 (newMk s))) ∧ x.ok ∧ x.cells = (PEl.mk 0 (-1) (newRest c)).cells) := ⟨_, rfl, rfl, HMK.out, HXO, rfl⟩
    clear HXO HMK
    generalize (PEl.mk 0 (-1) (newRest c)).cells = cs at HE HX2 ⊢
    go_wp2_with (first | (refine wpList_load_mid rfl 134 _ rfl w1.heap.size 0 rfl cs _ HE.out.rng Tryz.underlying134 rfl HE.out.size ?_) | (refine wpList_buildOneAt (w1.heap.size + 1) (by simp) rfl 83 134 _ rfl cs.toArray rfl i0 z0 Tryz.underlying83 hi iz (HE.out.info is) HE.out.pos HE.out.small ?_))
    obtain ⟨W2, hW2⟩ : ∃ W2, W2 = (w1.setCell ⟨w.heap.size, 0, none⟩ (.slice (some ⟨w1.heap.size + 1, 0, none⟩) 1 1)).setCell ⟨w.heap.size, 1, none⟩ (.int .i64 1) := ⟨_, rfl⟩
    rw [← hW2]
    have hb3 : (w1.setCell ⟨w.heap.size, 0, none⟩ (.slice (some ⟨w1.heap.size + 1, 0, none⟩) 1 1)).heap[w.heap.size]? = some (.cells #[.slice (some ⟨w1.heap.size + 1, 0, none⟩) 1 1, .int .i64 0] 85 (0, 0)) := by rw [heap_setCell_row HBK.out]; rfl
    have hb4 : W2.heap[w.heap.size]? = some (.cells #[.slice (some ⟨w1.heap.size + 1, 0, none⟩) 1 1, .int .i64 1] 85 (0, 0)) := by rw [hW2, heap_setCell_row hb3]; rfl
    have hzz : W2.heap.size = w1.heap.size := by rw [hW2]; simp
    have hBW : Below w.heap.size w W2 := by rw [hW2]; exact (hB1.setCell (Nat.le_refl _) _).setCell (Nat.le_refl _) _
    clear hW2 hb3
    have hb5 : ((W2.alloc (.cells cs.toArray 134)).alloc (.cells cs.toArray 134)).heap[w.heap.size]? = some (.cells #[.slice (some ⟨w1.heap.size + 1, 0, none⟩) 1 1, .int .i64 1] 85 (0, 0)) := (Below.heap_alloc _ _ _ (by simp; omega)).trans ((Below.heap_alloc _ _ _ (by omega)).trans hb4)
    have f0 : ((W2.alloc (.cells cs.toArray 134)).alloc (.cells cs.toArray 134)).cell? ⟨w.heap.size, 0, none⟩ = some (.slice (some ⟨w1.heap.size + 1, 0, none⟩) 1 1) := cell_of_blk hb5 rfl
    have f1 : ((W2.alloc (.cells cs.toArray 134)).alloc (.cells cs.toArray 134)).cell? ⟨w.heap.size, 1, none⟩ = some (.int .i64 1) := cell_of_blk hb5 rfl
    have HFIN : Hid (PTreePost w s (.returned (.tuple #[.agg #[.slice (some ⟨w1.heap.size + 1, 0, none⟩) 1 1, .int .i64 1], .int .i64 0])) ((W2.alloc (.cells cs.toArray 134)).alloc (.cells cs.toArray 134))) := by
      have hz := hBW.size
      refine ⟨(hBW.alloc hz _).alloc (by simp; omega) _, Or.inr ⟨HL.out, w1.heap.size + 1, ?_⟩⟩
      obtain ⟨x, h1, h2, hmk, h3, h4⟩ := HX2.out
      refine ⟨x, rfl, h1, h2, hmk, ⟨?_, ?_⟩, by omega⟩
      · have e1 : (W2.alloc (.cells cs.toArray 134)).heap.size = w1.heap.size + 1 := by simp [hzz]
        have hlen := HE.out.len
        have hfl : flatP [x] = cs := by simp [flatP, h4]
        rw [hfl]
        refine ⟨by rw [hlen]; rfl, Or.inr ⟨w1.heap.size + 1, 1, cs.toArray, rfl, Nat.zero_le _, ?_, Nat.le_refl _, by unfold maxLen; omega, by simp [hlen], ?_⟩⟩
        · rw [← e1]
          exact heap_alloc_new _ _
        · have : cs.take 31 = cs := List.take_of_length_le (by omega)
          simpa using this
      · intro e he
        rw [List.mem_singleton] at he
        rw [he]
        exact h3
    generalize (W2.alloc (.cells cs.toArray 134)).alloc (.cells cs.toArray 134) = W5 at f0 f1 HFIN ⊢
    exact bodyPost_ret (v := .tuple #[.agg #[.slice (some ⟨w1.heap.size + 1, 0, none⟩) 1 1, .int .i64 1], .int .i64 0]) (by simp [results, Tryz.results43, go_sem, f0, f1]) rfl HFIN.out

end Go.Proofs.YtblfffbmklkhmaaGreat
