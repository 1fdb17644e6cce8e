/- Own work. -/
import Derived.Test.YtblfffbmklkhmaaGreatAw16
namespace Go.Proofs.YtblfffbmklkhmaaGreat
open Go.RowKit
def initA : Nat → Array Value
  | 0 => #[.int .i64 0, .int .i64 0, .int .i64 0, .int .i64 0, .int .i64 0, .int .i64 0, .int .i64 0, .int .i64 0, .int .i64 0]
  | 1 => #[.int .i64 1, .int .i64 0, .int .i64 0, .int .i64 0, .int .i64 0, .int .i64 0, .int .i64 0, .int .i64 0, .int .i64 0]
  | 2 => #[.int .i64 1, .int .i64 2, .int .i64 0, .int .i64 0, .int .i64 0, .int .i64 0, .int .i64 0, .int .i64 0, .int .i64 0]
  | 3 => #[.int .i64 1, .int .i64 2, .int .i64 3, .int .i64 0, .int .i64 0, .int .i64 0, .int .i64 0, .int .i64 0, .int .i64 0]
  | 4 => #[.int .i64 1, .int .i64 2, .int .i64 3, .int .i64 4, .int .i64 0, .int .i64 0, .int .i64 0, .int .i64 0, .int .i64 0]
  | 5 => #[.int .i64 1, .int .i64 2, .int .i64 3, .int .i64 4, .int .i64 5, .int .i64 0, .int .i64 0, .int .i64 0, .int .i64 0]
  | _ => #[.int .i64 1, .int .i64 2, .int .i64 3, .int .i64 4, .int .i64 5, .int .i64 6, .int .i64 0, .int .i64 0, .int .i64 0]
def PSty (w : World) (l : List Int) (e : Ending) (w' : World) : Prop := e = .returned (.agg (intsZ l).toArray) ∧ Below w.heap.size w w'
section
set_option maxRecDepth 100000
set_option maxHeartbeats 4000000
variable (w : World)
theorem pinitial_any : Calls Tryz.prog 83 #[] w fun e w' => PSty w initP e w' := by
  go_enter Tryz.func83, Tryz.ntmps83
  go_wp2_with fail
  go_loopg [3] 6 (fun gk iv wr => ∃ i : Nat, iv = .int .i64 i ∧ i ≤ 6 ∧ 6 - i ≤ gk ∧ wr = (w.alloc (.cells (initA 0) 103)).alloc (.cells (initA i) 103))
  case atStart => exact ⟨0, rfl, Nat.zero_le _, by omega, rfl⟩
  case round =>
    obtain ⟨i, rfl, hi, hgk, rfl⟩ := hrel
    have hc : i = 0 ∨ i = 1 ∨ i = 2 ∨ i = 3 ∨ i = 4 ∨ i = 5 ∨ i = 6 := by omega
    rcases hc with rfl | rfl | rfl | rfl | rfl | rfl | rfl
    · simp only [initA]
      go_wp2
      go_roundg 5
      case measure => omega
      case rel => exact ⟨1, rfl, by omega, by omega, rfl⟩
    · simp only [initA]
      go_wp2
      go_roundg 4
      case measure => omega
      case rel => exact ⟨2, rfl, by omega, by omega, rfl⟩
    · simp only [initA]
      go_wp2
      go_roundg 3
      case measure => omega
      case rel => exact ⟨3, rfl, by omega, by omega, rfl⟩
    · simp only [initA]
      go_wp2
      go_roundg 2
      case measure => omega
      case rel => exact ⟨4, rfl, by omega, by omega, rfl⟩
    · simp only [initA]
      go_wp2
      go_roundg 1
      case measure => omega
      case rel => exact ⟨5, rfl, by omega, by omega, rfl⟩
    · simp only [initA]
      go_wp2
      go_roundg 0
      case measure => omega
      case rel => exact ⟨6, rfl, by omega, by omega, rfl⟩
    · have HR : Hid (Below w.heap.size w ((w.alloc (.cells (initA 6) 103)).alloc (.cells (initA 6) 103))) := ((Below.refl _ _).alloc (Nat.le_refl _) _).alloc (by simp) _
      simp only [initA] at HR ⊢
      go_wp2
      exact bodyPost_ret (v := .agg #[.int .i64 1, .int .i64 2, .int .i64 3, .int .i64 4, .int .i64 5, .int .i64 6, .int .i64 0, .int .i64 0, .int .i64 0]) (by simp [results, Tryz.results83, go_sem]) rfl ⟨rfl, HR.out⟩
theorem Tryz.sizeW : (Tryz.prog.info? 223).map (·.size) = some 63 := by kernel_rfl
theorem Tryz.sizeS : (Tryz.prog.info? 103).map (·.size) = some 9 := by kernel_rfl
theorem sizeW {W : List Clm} (h : W.length = 9) : (Tryz.prog.info? 223).map (·.size) = some (flatW W).length := by rw [flatW_len, h]; exact Tryz.sizeW
theorem sizeS {l : List Int} (h : l.length = 9) : (Tryz.prog.info? 103).map (·.size) = some (intsZ l).length := by rw [List.length_map, h]; exact Tryz.sizeS
theorem range_new (w : World) (cs : List Value) (t : TypeId) : (w.alloc (.cells cs.toArray t)).rangeAt w.heap.size 0 cs := fun j v hv => by
  rw [Nat.zero_add, cell_of_row _ _ j cs.toArray t (0, 0) (heap_alloc_new w _)]
  simpa using hv
theorem range_keep {w w' : World} {g o : Nat} {cs : List Value} (h : w.rangeAt g o cs) (hk : w'.heap[g]? = w.heap[g]?) : w'.rangeAt g o cs := fun j v hv => by
  have := h j v hv
  unfold World.cell? at this ⊢
  rw [hk]
  exact this
theorem next_lt {W : List Clm} {p k : Nat} (h : nextP W p = some k) : k < 9 := by
  unfold nextP at h
  split at h
  · exact placeOfP_lt h
  · cases h
theorem pback_any (W : List Clm) (hW : FineW W) (p : Nat) (hp : p < 9) : Calls Tryz.prog 183 #[.agg (flatW W).toArray, .int .i64 p] w fun e w' => PBool w (backP W p 3 (nextP W p)) e w' := by
  have HF : Hid (FineW W) := hW
  have HSZ : Hid ((Tryz.prog.info? 223).map (·.size) = some (flatW W).length) := sizeW hW.1
  have HR0 : Hid ((w.alloc (.cells (flatW W).toArray 223)).rangeAt w.heap.size 0 (flatW W)) := range_new w _ _
  have HB0 : Hid (Below w.heap.size w (w.alloc (.cells (flatW W).toArray 223))) := (Below.refl _ _).alloc (Nat.le_refl _) _
  have hzz : (w.alloc (.cells (flatW W).toArray 223)).heap.size = w.heap.size + 1 := by simp
  have HZ : Hid ((w.alloc (.cells (flatW W).toArray 223)).heap.size = w.heap.size + 1) := hzz
  clear hW hzz
  go_enter Tryz.func183, Tryz.ntmps183
  go_wp2_with (refine wpList_load_mid rfl 223 _ rfl w.heap.size 0 rfl (flatW W) _ HR0.out Tryz.underlying223 rfl HSZ.out ?_)
  refine (pnext_any _ W HF.out p hp).mono ?_
  rintro e w1 ⟨rfl, hB⟩
  have HB1 : Hid (Below (w.heap.size + 1) (w.alloc (.cells (flatW W).toArray 223)) w1) := hB.mono (by have := HZ.out; omega)
  clear hB
  go_wp2_with fail
  go_loopg [5, 6, 13] 3 (fun gk pv gv iv wr => ∃ (i : Nat) (q : Option Nat), iv = .int .i64 i ∧ i ≤ 3 ∧ 3 - i ≤ gk ∧ pv = .int .i64 ((q.getD 0 : Nat) : Int) ∧ gv = .bool q.isSome ∧ Hid (Below (w.heap.size + 1) (w.alloc (.cells (flatW W).toArray 223)) wr ∧ backP W p 3 (nextP W p) = backP W p (3 - i) q ∧ ∀ k, q = some k → k < 9))
  case atStart => exact ⟨0, nextP W p, rfl, by omega, by omega, rfl, rfl, HB1.out, rfl, fun k hk => next_lt hk⟩
  case round =>
    obtain ⟨i, q, rfl, hi, hgk, rfl, rfl, HN⟩ := hrel
    have HBW : Hid (Below w.heap.size w wr) := HB0.out.trans (HN.out.1.mono (by omega))
    by_cases hlt : i < 3
    · have hd : decide ((i : Int) < 3) = true := by simp; omega
      cases q with
      | none =>
        have HR : Hid (PBool w (backP W p 3 (nextP W p)) (.returned (.bool false)) wr) := ⟨by rw [HN.out.2.1, show 3 - i = (2 - i) + 1 from by omega]; rfl, HBW.out⟩
        simp only [Option.getD_none, Option.isSome_none]
        go_wp2
        go_ret
        exact HR.out
      | some k =>
        have hk : k < 9 := HN.out.2.2 k rfl
        simp only [Option.getD_some, Option.isSome_some]
        by_cases hkp : k = p
        · have HR : Hid (PBool w (backP W p 3 (nextP W p)) (.returned (.bool true)) wr) := ⟨by rw [HN.out.2.1, show 3 - i = (2 - i) + 1 from by omega]; show _ = Ending.returned (.bool (if k = p then true else _)); rw [if_pos hkp], HBW.out⟩
          have gk2 : ((k : Int) == (p : Int)) = true := by simp [hkp]
          clear hkp
          go_wp2
          go_ret
          exact HR.out
        · have HQ : Hid (backP W p 3 (nextP W p) = backP W p (3 - (i + 1)) (nextP W k)) := by
            unfold Hid
            rw [HN.out.2.1, show 3 - i = (3 - (i + 1)) + 1 from by omega]
            show (if k = p then true else _) = _
            rw [if_neg hkp]
          have gk2 : ((k : Int) == (p : Int)) = false := by rw [beq_eq_false_iff_ne]; omega
          have HRr : Hid (wr.rangeAt w.heap.size 0 (flatW W)) := range_below HN.out.1 (by omega) HR0.out
          have HBr : Hid (Below (w.heap.size + 1) (w.alloc (.cells (flatW W).toArray 223)) wr) := HN.out.1
          clear hkp HN
          go_wp2_with (refine wpList_load_mid rfl 223 _ rfl w.heap.size 0 rfl (flatW W) _ HRr.out Tryz.underlying223 rfl HSZ.out ?_)
          refine (pnext_any _ W HF.out k hk).mono ?_
          rintro e w2 ⟨rfl, hB⟩
          have HN2 : Hid (Below (w.heap.size + 1) (w.alloc (.cells (flatW W).toArray 223)) w2 ∧ backP W p 3 (nextP W p) = backP W p (3 - (i + 1)) (nextP W k) ∧ ∀ j, nextP W k = some j → j < 9) := ⟨HBr.out.trans (hB.mono (by have := HBr.out.size; have := HZ.out; omega)), HQ.out, fun j hj => next_lt hj⟩
          clear hB HRr
          generalize nextP W k = q2 at HN2 ⊢
          go_wp2
          go_roundg (3 - (i + 1))
          case measure => omega
          case rel => exact ⟨i + 1, q2, by go_num, by omega, Nat.le_refl _, rfl, rfl, HN2⟩
    · have hd : decide ((i : Int) < 3) = false := by simp; omega
      have HR : Hid (PBool w (backP W p 3 (nextP W p)) (.returned (.bool false)) wr) := ⟨by rw [HN.out.2.1, show 3 - i = 0 from by omega]; rfl, HBW.out⟩
      go_wp2
      go_ret
      exact HR.out
end
end Go.Proofs.YtblfffbmklkhmaaGreat

namespace Go.Proofs.YtblfffbmklkhmaaGreat
open Go.RowKit
section
set_option maxRecDepth 100000
set_option maxHeartbeats 4000000
variable (w : World)
theorem sty_at {l : List Int} {p : Nat} (hp : p < l.length) : (intsZ l)[p]? = some (.int .i64 (l.getD p 0)) := by
  rw [List.getElem?_map, List.getElem?_eq_getElem hp, List.getD_eq_getElem?_getD, List.getElem?_eq_getElem hp]
  rfl
theorem one_ints (l : List Int) : (intsZ l).toArray.all (·.oneCell') = true := all_oneCell_toArray (fun v hv => by
  obtain ⟨x, _, rfl⟩ := List.mem_map.1 hv
  rfl)
/-- The two blocks that a method of the winners begins with. -/
abbrev twoB (w : World) (W : List Clm) (comes : List Int) : World := (w.alloc (.cells (flatW W).toArray 223)).alloc (.cells (intsZ comes).toArray 103)
theorem twoB_size (w : World) (W : List Clm) (comes : List Int) : (twoB w W comes).heap.size = w.heap.size + 2 := by simp
theorem twoB_below (w : World) (W : List Clm) (comes : List Int) : Below w.heap.size w (twoB w W comes) := ((Below.refl _ _).alloc (Nat.le_refl _) _).alloc (by simp) _
theorem twoB_w (w : World) (W : List Clm) (comes : List Int) : (twoB w W comes).rangeAt w.heap.size 0 (flatW W) := World.rangeAt_alloc (range_new w _ _) _
theorem twoB_s (w : World) (W : List Clm) (comes : List Int) : (twoB w W comes).rangeAt (w.heap.size + 1) 0 (intsZ comes) := by
  have := range_new (w.alloc (.cells (flatW W).toArray 223)) (intsZ comes) 103
  simpa using this
theorem pdirect_any (W : List Clm) (hF : FineW W) (p : Nat) (hp : p < 9) (comes : List Int) (hc : comes.length = 9) : Calls Tryz.prog 185 #[.agg (flatW W).toArray, .int .i64 p, .agg (intsZ comes).toArray] w fun e w' => PNum w (directP W p comes) e w' := by
  have HZ : Hid ((twoB w W comes).heap.size = w.heap.size + 2) := twoB_size w W comes
  have HB0 : Hid (Below w.heap.size w (twoB w W comes)) := twoB_below w W comes
  have HW0 : Hid ((twoB w W comes).rangeAt w.heap.size 0 (flatW W)) := twoB_w w W comes
  have HS0 : Hid ((twoB w W comes).rangeAt (w.heap.size + 1) 0 (intsZ comes)) := twoB_s w W comes
  have hl := hF.1
  have HD : Hid (directP W p comes = if W[p].kd = 1 then W[p].nu else if W[p].kd = 2 then comes.getD p 0 else if W[p].kd = 3 then initP.getD p 0 else if downP p then comes.getD p 0 else initP.getD p 0) := by
    unfold Hid directP
    have : W.getD p Clm.none = W[p] := by rw [List.getD_eq_getElem?_getD, List.getElem?_eq_getElem (by omega)]; rfl
    rw [this]
  have HK : Hid ((flatW W)[p * 7 + 4]? = some (.int .i64 W[p].kd) ∧ (flatW W)[p * 7 + 4 + 1]? = some (.int .i64 W[p].nu)) := ⟨by rw [flatW_at (by omega) (by omega)]; rfl, by rw [show p * 7 + 4 + 1 = p * 7 + 5 from rfl, flatW_at (by omega) (by omega)]; rfl⟩
  have HCM : Hid ((intsZ comes)[p]? = some (.int .i64 (comes.getD p 0))) := sty_at (by omega)
  have HIN : Hid ((intsZ initP)[p]? = some (.int .i64 (initP.getD p 0))) := sty_at (by show p < 9; omega)
  have HSI : Hid ((Tryz.prog.info? 103).map (·.size) = some (intsZ initP).toArray.size) := Tryz.sizeS
  have HOI : Hid ((intsZ initP).toArray.all (·.oneCell') = true) := one_ints initP
  have hpl : (p : Int) < 9 := by omega
  generalize W[p].kd = kd at HD HK
  generalize W[p].nu = nu at HD HK
  clear hF hl
  go_enter Tryz.func185, Tryz.ntmps185
  go_wp2_with fail
  refine (pinitial_any _).mono ?_
  rintro e w1 ⟨rfl, hB⟩
  have HB1 : Hid (Below (w.heap.size + 2) (twoB w W comes) w1) := hB.mono (by have := HZ.out; simp at this ⊢)
  have hz1 : w.heap.size + 2 ≤ w1.heap.size := by have := HB1.out.size; have := HZ.out; omega
  clear hB
  have hzA : w.heap.size < w1.heap.size := by omega
  have hzB : w.heap.size + 1 < w1.heap.size := by omega
  have q0 : w1.cell? ⟨w.heap.size, p * 7 + 4, none⟩ = some (.int .i64 kd) := by have := range_below HB1.out (by omega) HW0.out (p * 7 + 4) _ HK.out.1; rwa [Nat.zero_add] at this
  have q1 : w1.cell? ⟨w.heap.size, p * 7 + 4 + 1, none⟩ = some (.int .i64 nu) := by have := range_below HB1.out (by omega) HW0.out (p * 7 + 4 + 1) _ HK.out.2; rwa [Nat.zero_add] at this
  have q2 : w1.cell? ⟨w.heap.size + 1, p, none⟩ = some (.int .i64 (comes.getD p 0)) := by have := range_below HB1.out (by omega) HS0.out p _ HCM.out; rwa [Nat.zero_add] at this
  have q3 : (w1.alloc (.cells (intsZ initP).toArray 103)).cell? ⟨w1.heap.size, p, none⟩ = some (.int .i64 (initP.getD p 0)) := new_at w1 _ _ (by rw [List.getElem?_toArray]; exact HIN.out)
  have HBE : Hid (Below w.heap.size w (w1.alloc (.cells (intsZ initP).toArray 103))) := (HB0.out.trans (HB1.out.mono (by omega))).alloc (by omega) _
  generalize comes.getD p 0 = cv at q2 HD
  generalize initP.getD p 0 = ivv at q3 HD
  have HSZ9 : Hid (9 = (intsZ initP).toArray.size) := rfl
  generalize (intsZ initP).toArray = IA at q3 HBE HSI HOI HSZ9 ⊢
  by_cases h1 : kd = 1
  · have g1 : (kd == 1) = true := by simp [h1]
    have HR : Hid (PNum w (directP W p comes) (.returned (.int .i64 nu)) (w1.alloc (.cells IA 103))) := ⟨by rw [HD.out, if_pos h1], HBE.out⟩
    clear h1 HD
    go_wp2_with (refine wpList_store_new rfl 103 _ _ rfl _ IA 103 rfl rfl HSI.out HSZ9.out HOI.out ?_)
    go_ret
    exact HR.out
  have g1 : (kd == 1) = false := by simp [h1]
  by_cases h2 : kd = 2
  · have g2 : (kd == 2) = true := by simp [h2]
    have HR : Hid (PNum w (directP W p comes) (.returned (.int .i64 cv)) (w1.alloc (.cells IA 103))) := ⟨by rw [HD.out, if_neg h1, if_pos h2], HBE.out⟩
    clear h1 h2 HD
    go_wp2_with (refine wpList_store_new rfl 103 _ _ rfl _ IA 103 rfl rfl HSI.out HSZ9.out HOI.out ?_)
    go_ret
    exact HR.out
  have g2 : (kd == 2) = false := by simp [h2]
  by_cases h3 : kd = 3
  · have g3 : (kd == 3) = true := by simp [h3]
    have HR : Hid (PNum w (directP W p comes) (.returned (.int .i64 ivv)) (w1.alloc (.cells IA 103))) := ⟨by rw [HD.out, if_neg h1, if_neg h2, if_pos h3], HBE.out⟩
    clear h1 h2 h3 HD
    go_wp2_with (refine wpList_store_new rfl 103 _ _ rfl _ IA 103 rfl rfl HSI.out HSZ9.out HOI.out ?_)
    go_ret
    exact HR.out
  have g3 : (kd == 3) = false := by simp [h3]
  have HD2 : Hid (directP W p comes = if downP p then cv else ivv) := by unfold Hid; rw [HD.out, if_neg h1, if_neg h2, if_neg h3]
  clear h1 h2 h3 HD
  go_wp2_with (refine wpList_store_new rfl 103 _ _ rfl _ IA 103 rfl rfl HSI.out HSZ9.out HOI.out ?_)
  refine (pdown_any _ p).mono ?_
  rintro e w2 ⟨rfl, hB⟩
  have hz2 : w1.heap.size < w2.heap.size := by have := hB.size; simp at this; omega
  have HBF : Hid (Below w.heap.size w w2) := HBE.out.trans (hB.mono HBE.out.size)
  have q2' : w2.cell? ⟨w.heap.size + 1, p, none⟩ = some (.int .i64 cv) := (hB.cell (p := ⟨w.heap.size + 1, p, none⟩) (by simp; omega)).trans ((((Below.refl w1.heap.size w1).alloc (Nat.le_refl _) _).cell (p := ⟨w.heap.size + 1, p, none⟩) hzB).trans q2)
  have q3' : w2.cell? ⟨w1.heap.size, p, none⟩ = some (.int .i64 ivv) := (hB.cell (p := ⟨w1.heap.size, p, none⟩) (by simp)).trans q3
  clear hB q0 q1 q2 q3
  cases hdn : downP p with
  | true =>
    have HR : Hid (PNum w (directP W p comes) (.returned (.int .i64 cv)) w2) := ⟨by rw [HD2.out, hdn]; rfl, HBF.out⟩
    clear hdn
    go_wp2
    go_ret
    exact HR.out
  | false =>
    have HR : Hid (PNum w (directP W p comes) (.returned (.int .i64 ivv)) w2) := ⟨by rw [HD2.out, hdn]; rfl, HBF.out⟩
    clear hdn
    go_wp2
    go_ret
    exact HR.out
end
end Go.Proofs.YtblfffbmklkhmaaGreat

namespace Go.Proofs.YtblfffbmklkhmaaGreat
open Go.RowKit
section
set_option maxRecDepth 100000
set_option maxHeartbeats 4000000
variable (w : World)
theorem pvalue_any (W : List Clm) (hF : FineW W) (p0 : Nat) (hp : p0 < 9) (comes : List Int) (hc : comes.length = 9) : Calls Tryz.prog 163 #[.agg (flatW W).toArray, .int .i64 p0, .agg (intsZ comes).toArray] w fun e w' => PNum w (valueF W comes 9 p0) e w' := by
  have HZ : Hid ((twoB w W comes).heap.size = w.heap.size + 2) := twoB_size w W comes
  have HB0 : Hid (Below w.heap.size w (twoB w W comes)) := twoB_below w W comes
  have HW0 : Hid ((twoB w W comes).rangeAt w.heap.size 0 (flatW W)) := twoB_w w W comes
  have HS0 : Hid ((twoB w W comes).rangeAt (w.heap.size + 1) 0 (intsZ comes)) := twoB_s w W comes
  have HF : Hid (FineW W) := hF
  have HSZ : Hid ((Tryz.prog.info? 223).map (·.size) = some (flatW W).length) := sizeW hF.1
  have HSC : Hid ((Tryz.prog.info? 103).map (·.size) = some (intsZ comes).length) := sizeS hc
  clear hF
  go_enter Tryz.func163, Tryz.ntmps163
  go_wp2_with fail
  go_loopg [1, 9] 9 (fun gk pv iv wr => ∃ (i p : Nat), iv = .int .i64 i ∧ pv = .int .i64 p ∧ i ≤ 9 ∧ 9 - i ≤ gk ∧ p < 9 ∧ Hid (Below (w.heap.size + 2) (twoB w W comes) wr ∧ valueF W comes 9 p0 = valueF W comes (9 - i) p))
  case atStart => exact ⟨0, p0, rfl, rfl, by omega, by omega, hp, Below.refl _ _, rfl⟩
  case round =>
    obtain ⟨i, p, rfl, rfl, hi, hgk, hp9, HN⟩ := hrel
    have hbz : w.heap.size + 2 ≤ wr.heap.size := by have := HN.out.1.size; have := HZ.out; omega
    have HBW : Hid (Below w.heap.size w wr) := HB0.out.trans (HN.out.1.mono (by omega))
    have HWr : Hid (wr.rangeAt w.heap.size 0 (flatW W)) := range_below HN.out.1 (by omega) HW0.out
    have hpl : (p : Int) < 9 := by omega
    by_cases hlt : i < 9
    · have hd : decide ((i : Int) < 9) = true := by simp; omega
      have HV : Hid (valueF W comes 9 p0 = if backP W p 3 (nextP W p) then comes.getD p 0 else match nextP W p with | Option.none => directP W p comes | some q => valueF W comes (9 - (i + 1)) q) := by
        unfold Hid
        rw [HN.out.2, show 9 - i = (9 - (i + 1)) + 1 from by omega]
        rfl
      go_wp2_with (refine wpList_load_mid rfl 223 _ rfl w.heap.size 0 rfl (flatW W) _ HWr.out Tryz.underlying223 rfl HSZ.out ?_)
      refine (pback_any _ W HF.out p hp9).mono ?_
      rintro e w1 ⟨rfl, hB⟩
      have HB1 : Hid (Below (w.heap.size + 2) (twoB w W comes) w1) := HN.out.1.trans (hB.mono (by omega))
      have hbz1 : w.heap.size + 2 ≤ w1.heap.size := by have := HB1.out.size; have := HZ.out; omega
      have HBW1 : Hid (Below w.heap.size w w1) := HB0.out.trans (HB1.out.mono (by omega))
      have HW1 : Hid (w1.rangeAt w.heap.size 0 (flatW W)) := range_below HB1.out (by omega) HW0.out
      clear hB
      cases hbk : backP W p 3 (nextP W p) with
      | true =>
        have q2 : w1.cell? ⟨w.heap.size + 1, p, none⟩ = some (.int .i64 (comes.getD p 0)) := by have := range_below HB1.out (by omega) HS0.out p _ (sty_at (by omega)); rwa [Nat.zero_add] at this
        have HR : Hid (PNum w (valueF W comes 9 p0) (.returned (.int .i64 (comes.getD p 0))) w1) := ⟨by rw [HV.out, hbk]; rfl, HBW1.out⟩
        clear hbk HV
        generalize comes.getD p 0 = cv at q2 HR
        go_wp2
        go_ret
        exact HR.out
      | false =>
        have HV2 : Hid (valueF W comes 9 p0 = match nextP W p with | Option.none => directP W p comes | some q => valueF W comes (9 - (i + 1)) q) := by unfold Hid; rw [HV.out, hbk]; rfl
        clear hbk HV HN HWr HBW
        go_wp2_with (refine wpList_load_mid rfl 223 _ rfl w.heap.size 0 rfl (flatW W) _ HW1.out Tryz.underlying223 rfl HSZ.out ?_)
        refine (pnext_any _ W HF.out p hp9).mono ?_
        rintro e w2 ⟨rfl, hB⟩
        have HB2 : Hid (Below (w.heap.size + 2) (twoB w W comes) w2) := HB1.out.trans (hB.mono (by omega))
        have hbz2 : w.heap.size + 2 ≤ w2.heap.size := by have := HB2.out.size; have := HZ.out; omega
        have HBW2 : Hid (Below w.heap.size w w2) := HB0.out.trans (HB2.out.mono (by omega))
        clear hB
        cases hnx : nextP W p with
        | none =>
          have HW2 : Hid (w2.rangeAt w.heap.size 0 (flatW W)) := range_below HB2.out (by omega) HW0.out
          have HS2 : Hid (w2.rangeAt (w.heap.size + 1) 0 (intsZ comes)) := range_below HB2.out (by omega) HS0.out
          have HV3 : Hid (valueF W comes 9 p0 = directP W p comes) := by unfold Hid; rw [HV2.out, hnx]
          clear hnx HV2
          simp only [Option.getD_none, Option.isSome_none]
          go_wp2_with (first | (refine wpList_load_mid rfl 223 _ rfl w.heap.size 0 rfl (flatW W) _ HW2.out Tryz.underlying223 rfl HSZ.out ?_) | (refine wpList_load_mid rfl 103 _ rfl (w.heap.size + 1) 0 rfl (intsZ comes) _ HS2.out Tryz.underlying103 rfl HSC.out ?_))
          refine (pdirect_any _ W HF.out p hp9 comes hc).mono ?_
          rintro e w3 ⟨rfl, hB⟩
          have HR : Hid (PNum w (valueF W comes 9 p0) (.returned (.int .i64 (directP W p comes))) w3) := ⟨by rw [HV3.out], HBW2.out.trans (hB.mono (by omega))⟩
          clear hB HV3
          generalize directP W p comes = dv at HR ⊢
          go_wp2
          go_ret
          exact HR.out
        | some q =>
          have hq9 : q < 9 := next_lt hnx
          have HN2 : Hid (Below (w.heap.size + 2) (twoB w W comes) w2 ∧ valueF W comes 9 p0 = valueF W comes (9 - (i + 1)) q) := ⟨HB2.out, by rw [HV2.out, hnx]⟩
          clear hnx HV2
          simp only [Option.getD_some, Option.isSome_some]
          go_wp2
          go_roundg (9 - (i + 1))
          case measure => omega
          case rel => exact ⟨i + 1, q, by go_num, rfl, by omega, Nat.le_refl _, hq9, HN2⟩
    · have hd : decide ((i : Int) < 9) = false := by simp; omega
      have q2 : wr.cell? ⟨w.heap.size + 1, p, none⟩ = some (.int .i64 (comes.getD p 0)) := by have := range_below HN.out.1 (by omega) HS0.out p _ (sty_at (by omega)); rwa [Nat.zero_add] at this
      have HR : Hid (PNum w (valueF W comes 9 p0) (.returned (.int .i64 (comes.getD p 0))) wr) := ⟨by rw [HN.out.2, show 9 - i = 0 from by omega]; rfl, HBW.out⟩
      generalize comes.getD p 0 = cv at q2 HR
      go_wp2
      go_ret
      exact HR.out
/-- The selectors of a rule in memory. -/
structure SlRow (w : World) (asl : Option Addr) (cc : Nat) (xs : List Value) (ss : List (List PCp)) : Prop where
  row : w.ownsRow 0 141 1 (.slice asl ss.length cc) ss.length xs
  sels : Sels w 0 xs ss
  few : ss.length ≤ 400
  short : ∀ cs ∈ ss, Short cs
  fine : ∀ cs ∈ ss, ∀ x ∈ cs, ∀ p ∈ x.ps, p.fine
theorem SlRow.below {w w' : World} {asl : Option Addr} {cc : Nat} {xs : List Value} {ss : List (List PCp)} (h : SlRow w asl cc xs ss) (hB : Below w.heap.size w w') : SlRow w' asl cc xs ss :=
  ⟨own_below h.row hB, h.sels.keep (keeps_below hB _ _) (keeps_below hB _ _), h.few, h.short, h.fine⟩
def PWgh (w : World) (r : Int × Bool) (e : Ending) (w' : World) : Prop := e = .returned (.tuple #[.int .i64 r.1, .bool r.2]) ∧ Below w.heap.size w w'
theorem weigh_take {els : List PEl} {n : Int} {ss : List (List PCp)} {i : Nat} (h : i < ss.length) : weighP els n (ss.take (i + 1)) = weighStep els n (weighP els n (ss.take i)) ss[i] := by
  unfold weighP
  rw [List.take_succ_eq_append_getElem h, List.foldl_append]
  rfl
theorem weigh_le {els : List PEl} {n : Int} : ∀ {ss : List (List PCp)} {a : Int × Bool}, (∀ cs ∈ ss, Short cs) → 0 ≤ a.1 ∧ a.1 ≤ 160000000400 → 0 ≤ (ss.foldl (weighStep els n) a).1 ∧ (ss.foldl (weighStep els n) a).1 ≤ 160000000400
  | [], _, _, h => h
  | cs :: ss, a, hs, h => by
    rw [List.foldl_cons]
    refine weigh_le (fun x hx => hs x (List.mem_cons_of_mem _ hx)) ?_
    unfold weighStep
    split
    · have h2 := cws_take_le (hs cs List.mem_cons_self) cs.length
      rw [List.take_length] at h2
      show 0 ≤ max _ _ ∧ max _ _ ≤ _
      omega
    · exact h
theorem pweightFor_any (b : Nat) (a : Option Addr) (c : Nat) (els : List PEl) (n : Int) (ly : Int) (asl : Option Addr) (cc : Nat) (xs : List Value) (ss : List (List PCp)) (vd : Value) (hvd : ∃ ad nd cd, vd = .slice ad nd cd) (h : TRd w b a c els) (ho : SlRow w asl cc xs ss) :
    Calls Tryz.prog 181 #[.agg #[.int .i64 ly, .slice asl ss.length cc, vd], .pointer (some ⟨b, 1, none⟩), .int .i64 n] w fun e w' => PWgh w (weighP els n ss) e w' := by
  obtain ⟨ad, nd, cd, rfl⟩ := hvd
  have HT : Hid (TRd w b a c els) := h
  have HO : Hid (SlRow w asl cc xs ss) := ho
  have hfew := ho.few
  have HWL : Hid (∀ i, 0 ≤ (weighP els n (ss.take i)).1 ∧ (weighP els n (ss.take i)).1 ≤ 160000000400) := fun i => weigh_le (fun x hx => ho.short x (List.mem_of_mem_take hx)) ⟨by decide, by decide⟩
  have HB1 : Hid (Below w.heap.size w (w.alloc (.cells #[.int .i64 ly, .slice asl ss.length cc, .slice ad nd cd] 138))) := (Below.refl _ _).alloc (Nat.le_refl _) _
  clear h ho
  go_enter Tryz.func181, Tryz.ntmps181
  go_wp2_with fail
  go_loopg [8, 9, 16] ss.length (fun gk gv mv iv wr => ∃ (i : Nat), iv = .int .i64 i ∧ i ≤ ss.length ∧ ss.length - i ≤ gk ∧ gv = .int .i64 (weighP els n (ss.take i)).1 ∧ mv = .bool (weighP els n (ss.take i)).2 ∧ Hid (Below w.heap.size w wr))
  case atStart => exact ⟨0, rfl, Nat.zero_le _, by omega, rfl, rfl, HB1.out⟩
  case round =>
    obtain ⟨i, rfl, hi, hgk, rfl, rfl, HN⟩ := hrel
    have hbz := HN.out.size
    by_cases hlt : i < ss.length
    · have hd : decide ((i : Int) < (ss.length : Int)) = true := by simp; omega
      obtain ⟨g, hg, hgl, hgc⟩ := own_cells HO.out.row (by omega)
      subst hg
      obtain ⟨ac, ccc, ps, e1, e2, e3⟩ := sels_at HO.out.sels hlt
      have c0 := (HN.out.cell (p := ⟨g, i, none⟩) hgl).trans (hgc _ _ e1)
      have HST : Hid (weighP els n (ss.take (i + 1)) = weighStep els n (weighP els n (ss.take i)) ss[i]) := weigh_take hlt
      have HCL : Hid (ClRow w ac ccc ps ss[i]) := ⟨e2, e3, (HO.out.short _ (List.getElem_mem hlt)).1, (HO.out.short _ (List.getElem_mem hlt)).2, HO.out.fine _ (List.getElem_mem hlt)⟩
      have HSH : Hid (Short ss[i]) := HO.out.short _ (List.getElem_mem hlt)
      have hw0 := HWL.out i
      have hcl : cws ss[i] ≤ 160000000400 := by have := cws_take_le HSH.out ss[i].length; rwa [List.take_length] at this
      clear e1 e2 e3 hgc
      generalize weighP els n (ss.take i) = a0 at HST hw0 ⊢
      obtain ⟨gr, mt⟩ := a0
      simp only at hw0 ⊢
      obtain ⟨hw1, hw2⟩ := hw0
      generalize ss[i] = cs at c0 HST HCL HSH hcl
      have HB2 : Hid (Below w.heap.size w (wr.alloc (.cells #[.slice ac cs.length ccc] 141))) := HN.out.alloc hbz _
      go_wp2_with fail
      refine (pselector_any b a c els _ n ac ccc ps cs (HT.out.below HB2.out) (HCL.out.below HB2.out)).mono ?_
      rintro e w1 ⟨rfl, hB⟩
      have hz1 : wr.heap.size < w1.heap.size := by have := hB.size; simp at this; omega
      have q0 : w1.cell? ⟨wr.heap.size, 0, none⟩ = some (.slice ac cs.length ccc) := (hB.cell (p := ⟨wr.heap.size, 0, none⟩) (by simp)).trans (cell_of_blk (heap_alloc_new wr _) rfl)
      have HB3 : Hid (Below w.heap.size w w1) := HB2.out.trans (hB.mono (by simp; omega))
      have hbz3 := HB3.out.size
      clear hB c0 HB2
      cases hr : matchP els cs n with
      | false =>
        have HST2 : Hid (weighP els n (ss.take (i + 1)) = (gr, mt)) := by unfold Hid; rw [HST.out]; unfold weighStep; rw [hr]; rfl
        clear hr HST
        go_wp2
        go_roundg (ss.length - (i + 1))
        case measure => omega
        case rel => exact ⟨i + 1, by go_num, by omega, Nat.le_refl _, by rw [HST2.out], by rw [HST2.out], HB3⟩
      | true =>
        have HST2 : Hid (weighP els n (ss.take (i + 1)) = (max gr ((cws cs : Nat) : Int), true)) := by unfold Hid; rw [HST.out]; unfold weighStep; rw [hr]; rfl
        clear hr HST
        have HCL2 := HCL.out.below HB3.out
        go_wp2_with fail
        refine (selw_any w1 0 ac ccc cs ps HCL2.row HCL2.comps HSH.out).mono ?_
        rintro e w2 ⟨rfl, hB⟩
        have HB4 : Hid (Below w.heap.size w w2) := HB3.out.trans (hB.mono hbz3)
        clear hB HCL2
        generalize cws cs = z at HST2 hcl ⊢
        go_wp2
        case inl =>
          go_roundg (ss.length - (i + 1))
          case measure => omega
          case rel => exact ⟨i + 1, by go_num, by omega, Nat.le_refl _, by rw [HST2.out]; show Value.int .i64 (z : Int) = Value.int .i64 (max gr (z : Int)); congr 1; omega, by rw [HST2.out], HB4⟩
        case inr =>
          go_roundg (ss.length - (i + 1))
          case measure => omega
          case rel => exact ⟨i + 1, by go_num, by omega, Nat.le_refl _, by rw [HST2.out]; show Value.int .i64 gr = Value.int .i64 (max gr (z : Int)); congr 1; omega, by rw [HST2.out], HB4⟩
    · have hd : decide ((i : Int) < (ss.length : Int)) = false := by simp; omega
      obtain rfl : i = ss.length := by omega
      rw [List.take_length]
      have HR : Hid (PWgh w (weighP els n ss) (.returned (.tuple #[.int .i64 (weighP els n ss).1, .bool (weighP els n ss).2])) wr) := ⟨rfl, HN.out⟩
      generalize (weighP els n ss).1 = r1 at HR ⊢
      generalize (weighP els n ss).2 = r2 at HR ⊢
      go_wp2
      go_ret2
      exact HR.out
end
end Go.Proofs.YtblfffbmklkhmaaGreat
