/- Own work. -/
import Derived.Test.YtblfffbmklkhmaaGreatPs47
import Derived.Test.YtblfffbmklkhmaaGreatPs11
import Derived.Test.YtblfffbmklkhmaaGreatPs38
import Derived.Test.YtblfffbmklkhmaaGreatPs25
namespace Go.Proofs.YtblfffbmklkhmaaGreat
open Go.RowKit
/-- The rule that presses. -/
def prR (dl : Nat) (vv : Int) : PRu := ⟨dl, [[⟨0, 0, []⟩]], [⟨65, 1, vv, 0, true⟩]⟩
def prC (dl : Nat) (vv : Int) : Clm := ⟨true, true, dl, 0, 1, vv, 0⟩
/-- Nothing is important; what hangs on another hangs on a variable. -/
def MildD (d : PDc) : Prop := d.im = false ∧ (d.kd = 5 → 88 ≤ d.va ∧ d.va < 91)
def MildR (r : PRu) : Prop := ∀ d ∈ r.ds, MildD d
theorem pr_first (v : Vw) (dl : Nat) (vv : Int) (e : Int) : ruleStepV v e (List.replicate 9 Clm.none) (prR dl vv) = (List.replicate 9 Clm.none).set 0 (prC dl vv) := by
  have hm : matchV v [⟨0, 0, []⟩] e = true := rfl
  have hw : weighV v e (prR dl vv).ss = (0, true) := by
    show weighStepV v e (0, false) [⟨0, 0, []⟩] = _
    unfold weighStepV
    rw [if_pos hm]
    rfl
  unfold ruleStepV
  rw [hw]
  rfl
section
variable {C : Clm}
theorem getD_set_ne {W : List Clm} {i j : Nat} (h : i ≠ j) : (W.set i C).getD j Clm.none = W.getD j Clm.none := by
  rw [List.getD_eq_getElem?_getD, List.getD_eq_getElem?_getD, List.getElem?_set_ne h]
theorem getD_set_eq {W : List Clm} {i : Nat} (h : i < W.length) : (W.set i C).getD i Clm.none = C := by
  rw [List.getD_eq_getElem?_getD, List.getElem?_set_self h]
  rfl
theorem step_press (ht : C.th = true) (hi : C.im = true) (ly wt : Int) {W : List Clm} (hW : W.length = 9) {d : PDc} (hd : d.im = false) : stepP ly wt (W.set 0 C) d = (stepP ly wt W d).set 0 C := by
  unfold stepP
  cases hp : placeOfP d.pr with
  | none => rfl
  | some k =>
    simp only
    by_cases hk : k = 0
    · subst hk
      rw [getD_set_eq (by omega)]
      have hb : beatsP (laterP ly wt d) C = false := by
        unfold beatsP
        rw [if_neg (by rw [ht]; simp)]
        have h1 : (laterP ly wt d).im = false := hd
        rw [if_pos (by rw [h1, hi]; simp), h1]
      rw [hb, if_neg (by simp)]
      split
      · rw [List.set_set]
      · rfl
    · rw [getD_set_ne (fun e => hk e.symm)]
      split
      · rw [List.set_comm _ _ (fun e => hk e.symm)]
      · rfl
theorem after_press (ht : C.th = true) (hi : C.im = true) (ly wt : Int) : ∀ (ds : List PDc) {W : List Clm}, W.length = 9 → (∀ d ∈ ds, d.im = false) → ds.foldl (stepP ly wt) (W.set 0 C) = (ds.foldl (stepP ly wt) W).set 0 C
  | [], _, _, _ => rfl
  | d :: ds, W, hW, h => by
    rw [List.foldl_cons, List.foldl_cons, step_press ht hi ly wt hW (h d List.mem_cons_self)]
    exact after_press ht hi ly wt ds (by rw [stepP_len]; exact hW) (fun y hy => h y (List.mem_cons_of_mem _ hy))
theorem after_len (ly wt : Int) : ∀ (ds : List PDc) (W : List Clm), (ds.foldl (stepP ly wt) W).length = W.length
  | [], _ => rfl
  | d :: ds, W => by rw [List.foldl_cons, after_len ly wt ds, stepP_len]
theorem rule_press (v : Vw) (e : Int) (ht : C.th = true) (hi : C.im = true) {W : List Clm} (hW : W.length = 9) {r : PRu} (hr : MildR r) : ruleStepV v e (W.set 0 C) r = (ruleStepV v e W r).set 0 C := by
  unfold ruleStepV
  split
  · exact after_press ht hi _ _ r.ds hW (fun d hd => (hr d hd).1)
  · rfl
theorem ruleStep_len (v : Vw) (e : Int) (W : List Clm) (r : PRu) : (ruleStepV v e W r).length = W.length := by
  unfold ruleStepV
  split
  · exact after_len _ _ _ _
  · rfl
theorem win_press (v : Vw) (e : Int) (ht : C.th = true) (hi : C.im = true) : ∀ (rs : List PRu) {W : List Clm}, W.length = 9 → (∀ r ∈ rs, MildR r) → rs.foldl (ruleStepV v e) (W.set 0 C) = (rs.foldl (ruleStepV v e) W).set 0 C
  | [], _, _, _ => rfl
  | r :: rs, W, hW, h => by
    rw [List.foldl_cons, List.foldl_cons, rule_press v e ht hi hW (h r List.mem_cons_self)]
    exact win_press v e ht hi rs (by rw [ruleStep_len]; exact hW) (fun y hy => h y (List.mem_cons_of_mem _ hy))
/-- What hangs on another hangs on a variable. -/
def VarW (W : List Clm) : Prop := ∀ k, (W.getD k Clm.none).kd = 5 → 88 ≤ (W.getD k Clm.none).va ∧ (W.getD k Clm.none).va < 91
theorem var_set {W : List Clm} (h : VarW W) {c : Clm} (hc : c.kd = 5 → 88 ≤ c.va ∧ c.va < 91) (k : Nat) : VarW (W.set k c) := by
  intro j hj
  by_cases e : k = j
  · subst e
    by_cases hl : k < W.length
    · rw [getD_set_eq hl] at hj ⊢
      exact hc hj
    · rw [List.set_eq_of_length_le (by omega)] at hj ⊢
      exact h k hj
  · rw [getD_set_ne e] at hj ⊢
    exact h j hj
theorem var_step (ly wt : Int) {W : List Clm} (h : VarW W) {d : PDc} (hd : MildD d) : VarW (stepP ly wt W d) := by
  unfold stepP
  split
  · split
    · exact var_set h hd.2 _
    · exact h
  · exact h
theorem var_after (ly wt : Int) : ∀ (ds : List PDc) {W : List Clm}, VarW W → (∀ d ∈ ds, MildD d) → VarW (ds.foldl (stepP ly wt) W)
  | [], _, h, _ => h
  | d :: ds, _, h, hd => var_after ly wt ds (var_step ly wt h (hd d List.mem_cons_self)) (fun y hy => hd y (List.mem_cons_of_mem _ hy))
theorem var_rules (v : Vw) (e : Int) : ∀ (rs : List PRu) {W : List Clm}, VarW W → (∀ r ∈ rs, MildR r) → VarW (rs.foldl (ruleStepV v e) W)
  | [], _, h, _ => h
  | r :: rs, W, h, hr => by
    refine var_rules v e rs (W := ruleStepV v e W r) ?_ (fun y hy => hr y (List.mem_cons_of_mem _ hy))
    unfold ruleStepV
    split
    · exact var_after _ _ r.ds h (hr r List.mem_cons_self)
    · exact h
theorem var_none : VarW (List.replicate 9 Clm.none) := by
  intro k hk
  have h1 : (List.replicate 9 Clm.none).getD k Clm.none = Clm.none := by
    rw [List.getD_eq_getElem?_getD, List.getElem?_replicate]
    split <;> rfl
  rw [h1] at hk
  cases hk
theorem next_press {W : List Clm} (hv : VarW W) {p : Nat} (hp : p ≠ 0) : nextP (W.set 0 C) p = nextP W p ∧ nextP W p ≠ some 0 := by
  unfold nextP
  rw [getD_set_ne (fun e => hp e.symm)]
  refine ⟨rfl, ?_⟩
  split
  · rename_i h5
    have := hv p h5
    unfold placeOfP
    rw [if_neg (by omega), if_pos this]
    intro e
    injection e with e
    omega
  · intro e; cases e
theorem back_press {W : List Clm} (hv : VarW W) (start : Nat) : ∀ (k : Nat) (q : Option Nat), q ≠ some 0 → backP (W.set 0 C) start k q = backP W start k q
  | 0, _, _ => rfl
  | k + 1, none, _ => rfl
  | k + 1, some p, h => by
    have hp : p ≠ 0 := fun e => h (by rw [e])
    show (if p = start then true else backP (W.set 0 C) start k (nextP (W.set 0 C) p)) = (if p = start then true else backP W start k (nextP W p))
    rw [(next_press hv hp).1, back_press hv start k _ (next_press (C := C) hv hp).2]
theorem direct_press {W : List Clm} {p : Nat} (hp : p ≠ 0) {c' c : List Int} (hc : ∀ q, q ≠ 0 → c'.getD q 0 = c.getD q 0) : directP (W.set 0 C) p c' = directP W p c := by
  unfold directP
  rw [getD_set_ne (fun e => hp e.symm), hc p hp]
theorem value_press {W : List Clm} (hv : VarW W) {c' c : List Int} (hc : ∀ q, q ≠ 0 → c'.getD q 0 = c.getD q 0) : ∀ (k p : Nat), p ≠ 0 → valueF (W.set 0 C) c' k p = valueF W c k p
  | 0, p, hp => hc p hp
  | k + 1, p, hp => by
    have h1 := next_press (C := C) hv hp
    have h2 := back_press (C := C) hv p 3 _ h1.2
    show (if backP (W.set 0 C) p 3 (nextP (W.set 0 C) p) then c'.getD p 0 else match nextP (W.set 0 C) p with | Option.none => directP (W.set 0 C) p c' | some q => valueF (W.set 0 C) c' k q) = (if backP W p 3 (nextP W p) then c.getD p 0 else match nextP W p with | Option.none => directP W p c | some q => valueF W c k q)
    rw [h1.1, h2, hc p hp]
    split
    · rfl
    · cases hn : nextP W p with
      | none => exact direct_press hp hc
      | some q => exact value_press hv hc k q (fun e => h1.2 (by rw [hn, e]))
theorem of_getD (W : List Clm) (c : List Int) (q : Nat) : ((List.range 9).map fun p => valueF W c 9 p).getD q 0 = if q < 9 then valueF W c 9 q else 0 := by
  rw [List.getD_eq_getElem?_getD, List.getElem?_map]
  split
  · rename_i h
    rw [List.getElem?_range h]
    rfl
  · rename_i h
    rw [List.getElem?_eq_none (by rw [List.length_range]; omega)]
    rfl
end
theorem press_zero {W : List Clm} (hW : W.length = 9) (dl : Nat) (vv : Int) (c : List Int) : valueF (W.set 0 (prC dl vv)) c 9 0 = vv := by
  have h1 : (W.set 0 (prC dl vv)).getD 0 Clm.none = prC dl vv := getD_set_eq (by omega)
  have hn : nextP (W.set 0 (prC dl vv)) 0 = none := by
    unfold nextP
    rw [h1]
    rfl
  show (if backP (W.set 0 (prC dl vv)) 0 3 (nextP (W.set 0 (prC dl vv)) 0) then c.getD 0 0 else match nextP (W.set 0 (prC dl vv)) 0 with | Option.none => directP (W.set 0 (prC dl vv)) 0 c | some q => valueF (W.set 0 (prC dl vv)) c 8 q) = vv
  rw [hn]
  show (if false = true then _ else directP (W.set 0 (prC dl vv)) 0 c) = vv
  rw [if_neg (by simp)]
  unfold directP
  rw [h1]
  rfl
theorem winners_press (v : Vw) (dl : Nat) (vv : Int) {rs : List PRu} (hr : ∀ r ∈ rs, MildR r) (e : Int) : winnersV v (prR dl vv :: rs) e = (winnersV v rs e).set 0 (prC dl vv) := by
  unfold winnersV
  rw [List.foldl_cons, pr_first]
  exact win_press v e rfl rfl rs (by rw [List.length_replicate]) hr
theorem winners_len (v : Vw) (e : Int) : ∀ (rs : List PRu) (W : List Clm), (rs.foldl (ruleStepV v e) W).length = W.length
  | [], _ => rfl
  | r :: rs, W => by rw [List.foldl_cons, winners_len v e rs, ruleStep_len]
theorem of_press (v : Vw) (dl : Nat) (vv : Int) {rs : List PRu} (hr : ∀ r ∈ rs, MildR r) (e : Int) {c' c : List Int} (hc : ∀ q, q ≠ 0 → c'.getD q 0 = c.getD q 0) : (ofV v (prR dl vv :: rs) e c').getD 0 0 = vv ∧ ∀ q, q ≠ 0 → (ofV v (prR dl vv :: rs) e c').getD q 0 = (ofV v rs e c).getD q 0 := by
  have hl : (winnersV v rs e).length = 9 := by
    unfold winnersV
    rw [winners_len, List.length_replicate]
  have hv : VarW (winnersV v rs e) := var_rules v e rs var_none hr
  unfold ofV
  rw [winners_press v dl vv hr]
  refine ⟨?_, fun q hq => ?_⟩
  · rw [of_getD, if_pos (by decide)]
    exact press_zero hl dl vv c'
  · rw [of_getD, of_getD]
    split
    · exact value_press hv hc 9 q hq
    · rfl
theorem style_press (v : Vw) (dl : Nat) (vv : Int) {rs : List PRu} (hr : ∀ r ∈ rs, MildR r) (e : Int) : (styleV v (prR dl vv :: rs) e).getD 0 0 = vv ∧ ∀ q, q ≠ 0 → (styleV v (prR dl vv :: rs) e).getD q 0 = (styleV v rs e).getD q 0 := by
  have key : ∀ (l : List Int) (q : Nat), q ≠ 0 → (l.foldr (fun x comes => ofV v (prR dl vv :: rs) x comes) initP).getD q 0 = (l.foldr (fun x comes => ofV v rs x comes) initP).getD q 0 := fun l => by
    induction l with
    | nil => intro q _; rfl
    | cons x l ih =>
      intro q hq
      rw [List.foldr_cons, List.foldr_cons]
      exact (of_press v dl vv hr x ih).2 q hq
  unfold styleV
  exact of_press v dl vv hr e (key _)
def prA (dl d1 d2 d3 : Nat) : RuA := ⟨some dl, ⟨⟨some none, []⟩, []⟩, [], ⟨65, .num [d1, d2, d3], true⟩, []⟩
theorem pr_ren (dl d1 d2 d3 : Nat) : renR 0 (prA dl d1 d2 d3) = [64, 48 + dl, 42, 123, 65, 58, 48 + d1, 48 + d2, 48 + d3, 33, 125] := rfl
theorem pr_to (dl d1 d2 d3 : Nat) : toR 0 (prA dl d1 d2 d3) = prR dl (numA [d1, d2, d3]) := rfl
theorem pr_ok {dl d1 d2 d3 : Nat} (h1 : d1 ≤ 9) (h2 : d2 ≤ 9) (h3 : d3 ≤ 9) : (prA dl d1 d2 d3).ok := by
  refine ⟨⟨⟨fun p hp => (by cases hp), fun e => (by cases e)⟩, fun y hy => by cases hy⟩, fun y hy => (by cases hy), ⟨⟨by simp, by simp, fun d hd => ?_⟩, by show (65 : Nat) ≠ 125; decide⟩, fun y hy => by cases hy⟩
  simp at hd
  omega
theorem num3 {v : Nat} : numA [v / 100, v / 10 % 10, v % 10] = (v : Int) := by
  show ((0 * 10 + ((v / 100 : Nat) : Int)) * 10 + ((v / 10 % 10 : Nat) : Int)) * 10 + ((v % 10 : Nat) : Int) = v
  omega
theorem mild_to {rs : List RuA} {b : Nat} (h : ∀ r ∈ rs, r.fine true) : ∀ r ∈ rs.map (toR b), MildR r := by
  have key : ∀ d : DcA, d.fine true → MildD (toD d) := fun d hd => by
    refine ⟨hd.2.1 rfl, fun h5 => ?_⟩
    obtain ⟨pr, v, im⟩ := d
    cases v with
    | ini => exact absurd h5 (by show ¬ (2 : Int) = 5; decide)
    | rev => exact absurd h5 (by show ¬ (3 : Int) = 5; decide)
    | uns => exact absurd h5 (by show ¬ (4 : Int) = 5; decide)
    | num ds => exact absurd h5 (by show ¬ (1 : Int) = 5; decide)
    | var z =>
      have := hd.2.2.2 z rfl
      unfold isV at this
      rw [decide_eq_true_eq] at this
      show 88 ≤ (z : Int) ∧ (z : Int) < 91
      omega
  intro r hr
  obtain ⟨a, ha, rfl⟩ := List.mem_map.1 hr
  intro d hd
  have hf := h a ha
  rcases List.mem_cons.1 hd with h1 | h1
  · rw [h1]; exact key _ hf.2.1
  · obtain ⟨y, hy, rfl⟩ := List.mem_map.1 h1
    exact key y (hf.2.2 y hy)
theorem run_sheetFrom {len : Nat} {L : Nat → Int} {by' : Nat} {mild : Bool} {most : Nat} {q : Q3} : ∀ (k : Nat) (p : ByteArray × Nat) (nr : Nat), nr + k ≤ 20 → (∃ nr' nc, nr' ≤ nr ∧ run (bl p.1) q = some (0, nr', nc)) → ∃ nr' nc, run (bl (sheetLoop len L by' mild most k p).1) q = some (0, nr', nc)
  | 0, _, _, _, ⟨nr', nc, _, h⟩ => ⟨nr', nc, h⟩
  | k + 1, p, nr, hk, ⟨nr', nc, hle, h⟩ => by
    refine run_sheetFrom k (sheetStep len L by' mild most p) (nr + 1) (by omega) ?_
    by_cases hfit : p.1.size + (wRuleF len L by' mild p.2).1.size ≤ most
    · have hs : (sheetStep len L by' mild most p).1 = p.1 ++ (wRuleF len L by' mild p.2).1 := if_pos hfit
      obtain ⟨nc', hr⟩ := run_rule (len := len) (L := L) (by' := by') (mild := mild) p.2 nr' nc (by omega)
      refine ⟨nr' + 1, nc', by omega, ?_⟩
      rw [hs, bl_append]
      exact run_two h hr
    · have hs : (sheetStep len L by' mild most p).1 = p.1 := if_neg hfit
      exact ⟨nr', nc, by omega, by rw [hs]; exact h⟩
theorem run_pr0 {dl d1 d2 d3 : Nat} (h0 : dl ≤ 9) (h1 : d1 ≤ 9) (h2 : d2 ≤ 9) (h3 : d3 ≤ 9) : run [64, 48 + dl, 42, 123, 65, 58, 48 + d1, 48 + d2, 48 + d3, 33, 125] (0, 0, 0) = some (0, 1, 1) := by
  have e0 := isD_dig (k := dl) (by omega)
  have e1 := isD_dig (k := d1) (by omega)
  have e2 := isD_dig (k := d2) (by omega)
  have e3 := isD_dig (k := d3) (by omega)
  have s0 : stp (0, 0, 0) 64 = some (1, 1, 1) := rfl
  have s1 : stp (1, 1, 1) (48 + dl) = some (2, 1, 1) := by simp [stp, nxt, wh, e0]
  have s2 : stp (2, 1, 1) 42 = some (3, 1, 1) := rfl
  have s3 : stp (3, 1, 1) 123 = some (9, 1, 1) := rfl
  have s4 : stp (9, 1, 1) 65 = some (11, 1, 1) := rfl
  have s5 : stp (11, 1, 1) 58 = some (12, 1, 1) := rfl
  have s6 : stp (12, 1, 1) (48 + d1) = some (13, 1, 1) := by simp [stp, nxt, e1]
  have s7 : stp (13, 1, 1) (48 + d2) = some (14, 1, 1) := by simp [stp, nxt, e2]
  have s8 : stp (14, 1, 1) (48 + d3) = some (15, 1, 1) := by simp [stp, nxt, e3]
  have s9 : stp (15, 1, 1) 33 = some (16, 1, 1) := rfl
  have sa : stp (16, 1, 1) 125 = some (0, 1, 1) := rfl
  simp only [run, s0, s1, s2, s3, s4, s5, s6, s7, s8, s9, sa, Option.bind_some]
theorem pr_chk {len : Nat} {L : Nat → Int} {t : ByteArray} {dl d1 d2 d3 : Nat} (h0 : dl ≤ 9) (h1 : d1 ≤ 9) (h2 : d2 ≤ 9) (h3 : d3 ≤ 9) (hz : t.size ≤ 400) (ht : bl t = [64, 48 + dl, 42, 123, 65, 58, 48 + d1, 48 + d2, 48 + d3, 33, 125] ++ bl (wSheetF len L 0 true 380)) : chk t = (0, 0) := by
  have l9 := nx_lt (len := len) (L := L) (n := 9) (at' := 0) (by decide)
  obtain ⟨nr, nc, h⟩ := run_sheetFrom (len := len) (L := L) (by' := 0) (mild := true) (most := 380) (q := (0, 1, 1)) (nx len L 9 0).1 (⟨#[]⟩, (nx len L 9 0).2) 1 (by omega) ⟨1, 1, Nat.le_refl _, rfl⟩
  refine chk_run (r := (nr, nc)) hz ?_
  rw [ht]
  exact run_two (run_pr0 h0 h1 h2 h3) h
end Go.Proofs.YtblfffbmklkhmaaGreat

namespace Go.Proofs.YtblfffbmklkhmaaGreat
open Go.RowKit
/-- Two groves in memory of their own, made since a world. -/
structure Two (DS : World → Value → Tree → Nat → (Nat → Mk) → List PRu → (Nat → Prop) → Prop) (w0 w : World) (g : Nat) (px vl : Value) (made b : Nat) (ns : List GN) (rs : List PRu) (Fg Fx : Nat → Prop) (g2 : Nat) (px2 vl2 : Value) (made2 b2 : Nat) (ns2 : List GN) (rs2 : List PRu) (Fg2 Fx2 : Nat → Prop) : Prop where
  one : GD DS w g px vl made b ns rs Fg Fx
  two : GD DS w g2 px2 vl2 made2 b2 ns2 rs2 Fg2 Fx2
  ap : ∀ k, Fg k ∨ Fx k → ¬ (Fg2 k ∨ Fx2 k)
  na : ∀ k, Fg k ∨ Fx k → w0.heap.size ≤ k
  nb : ∀ k, Fg2 k ∨ Fx2 k → w0.heap.size ≤ k
  bl : Below w0.heap.size w0 w
section
variable {DS : World → Value → Tree → Nat → (Nat → Mk) → List PRu → (Nat → Prop) → Prop} {w0 w w' : World} {g : Nat} {px vl : Value} {made b : Nat} {ns : List GN} {rs : List PRu} {Fg Fx : Nat → Prop} {g2 : Nat} {px2 vl2 : Value} {made2 b2 : Nat} {ns2 : List GN} {rs2 : List PRu} {Fg2 Fx2 : Nat → Prop}
theorem Two.swap (h : Two DS w0 w g px vl made b ns rs Fg Fx g2 px2 vl2 made2 b2 ns2 rs2 Fg2 Fx2) : Two DS w0 w g2 px2 vl2 made2 b2 ns2 rs2 Fg2 Fx2 g px vl made b ns rs Fg Fx :=
  ⟨h.two, h.one, fun k hk hx => h.ap k hx hk, h.nb, h.na, h.bl⟩
theorem Two.below (hP : DocOK DS) (h : Two DS w0 w g px vl made b ns rs Fg Fx g2 px2 vl2 made2 b2 ns2 rs2 Fg2 Fx2) (hB : Below w.heap.size w w') : Two DS w0 w' g px vl made b ns rs Fg Fx g2 px2 vl2 made2 b2 ns2 rs2 Fg2 Fx2 :=
  ⟨h.one.below hP hB, h.two.below hP hB, h.ap, h.na, h.nb, h.bl.trans (hB.mono h.bl.size)⟩
/-- A second grove is planted. -/
theorem two_plant (hP : DocOK DS) (h : GD DS w g px vl made b ns rs Fg Fx) (hna : ∀ k, Fg k ∨ Fx k → w0.heap.size ≤ k) (hbl : Below w0.heap.size w0 w) (h2 : GD DS w' g2 px2 vl2 made2 b2 ns2 rs2 Fg2 Fx2) (hin : ∀ k, Fg2 k ∨ Fx2 k → w.heap.size ≤ k) (hB : Below w.heap.size w w') : Two DS w0 w' g px vl made b ns rs Fg Fx g2 px2 vl2 made2 b2 ns2 rs2 Fg2 Fx2 :=
  ⟨h.below hP hB, h2, fun k hk hx => by have := h.here k hk; have := hin k hx; omega, hna, fun k hk => Nat.le_trans hbl.size (hin k hk), hbl.trans (hB.mono hbl.size)⟩
/-- The first one has turned. -/
theorem Two.turn (hP : DocOK DS) (h : Two DS w0 w g px vl made b ns rs Fg Fx g2 px2 vl2 made2 b2 ns2 rs2 Fg2 Fx2) {px' vl' : Value} {made' b' : Nat} {ns' : List GN} {rs' : List PRu} {Fg' Fx' G : Nat → Prop} (h1 : GD DS w' g px' vl' made' b' ns' rs' Fg' Fx') (hin : ∀ k, Fg' k ∨ Fx' k → (Fg k ∨ Fx k) ∨ w.heap.size ≤ k) (hG : ∀ k, G k → Fg k ∨ Fx k) (hf : Fr w w' G) : Two DS w0 w' g px' vl' made' b' ns' rs' Fg' Fx' g2 px2 vl2 made2 b2 ns2 rs2 Fg2 Fx2 :=
  ⟨h1, h.two.apart hP hf (fun k hk hx => h.ap k (hG k hx) hk), fun k hk hx => by
    rcases hin k hk with h2 | h2
    · exact h.ap k h2 hx
    · have := h.two.here k hx; omega, fun k hk => by
    rcases hin k hk with h2 | h2
    · exact h.na k h2
    · exact Nat.le_trans h.bl.size h2, h.nb, h.bl.trans ⟨hf.os, hf.tape, hf.output, hf.size, fun k hk => hf.block k (Nat.lt_of_lt_of_le hk h.bl.size) (fun hx => by have := h.na k (hG k hx); omega)⟩⟩
theorem Two.all (hP : DocOK DS) (h : Two DS w0 w g px vl made b ns rs Fg Fx g2 px2 vl2 made2 b2 ns2 rs2 Fg2 Fx2) {Fx' : Nat → Prop} (h1 : GDM DS w' g px vl made b (mOf b (ns.map GN.pl)) ns rs Fg Fx') (hin : ∀ k, Fx' k → Fx k ∨ w.heap.size ≤ k) (hf : Fr w w' Fx) : Two DS w0 w' g px vl made b ns rs Fg Fx' g2 px2 vl2 made2 b2 ns2 rs2 Fg2 Fx2 :=
  h.turn hP (GDM.gd h1) (fun k hk => by
    rcases hk with hk | hk
    · exact Or.inl (Or.inl hk)
    · rcases hin k hk with h2 | h2
      · exact Or.inl (Or.inr h2)
      · exact Or.inr h2) (fun _ hk => Or.inr hk) hf
end
end Go.Proofs.YtblfffbmklkhmaaGreat
