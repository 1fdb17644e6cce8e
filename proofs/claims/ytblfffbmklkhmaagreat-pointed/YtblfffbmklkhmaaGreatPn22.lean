/- Own work. -/
import Derived.Test.YtblfffbmklkhmaaGreatPn21
namespace Go.Proofs.YtblfffbmklkhmaaGreat
open Go.RowKit
def pointX (a b : ByteArray) : ByteArray := (((((⟨#[35, 122, 62, 58, 110, 48]⟩ : ByteArray) ++ a) ++ ⟨#[123, 68, 58, 53, 48, 48, 125, 35, 122, 62, 58, 110, 48]⟩) ++ a) ++ ⟨#[62, 58, 110, 48]⟩) ++ b ++ ⟨#[123, 69, 58, 54, 48, 48, 125]⟩
def pC : PCp := ⟨0, 0, [⟨false, 3, 122, 0, 0⟩]⟩
def pN (a : Nat) : PCp := ⟨62, 0, [⟨false, 7, 0, 0, a⟩]⟩
def pU1 (a : Nat) : PRu := ⟨10, [[pC, pN a]], [⟨68, 1, 500, 0, false⟩]⟩
def pU2 (a b : Nat) : PRu := ⟨10, [[pC, pN a, pN b]], [⟨69, 1, 600, 0, false⟩]⟩
theorem point_rules : ∀ a, a < 5 → ∀ b, b < 5 → sheetOf (pointX (digB a) (digB b)) = [pU1 a, pU2 a b] := by decide +kernel
def m1V (v : Vw) (a : Nat) (e : Int) : Bool := nthP (((v.ah e).length : Int) + 1) 0 a && ((v.ab e).take 1).any fun x => v.nm x 122
def m2V (v : Vw) (a b : Nat) (e : Int) : Bool := nthP (((v.ah e).length : Int) + 1) 0 b && ((v.ab e).take 1).any (m1V v a)
theorem comp_z (v : Vw) (e : Int) : compV v pC e = v.nm e 122 := by
  show ((pC.ty == 0 || v.ty e pC.ty) && pC.ps.all fun p => simpV v p e != p.nt) = _
  simp [pC, simpV]
theorem comp_n (v : Vw) (a : Nat) (e : Int) : compV v (pN a) e = nthP (((v.ah e).length : Int) + 1) 0 a := by
  show (((pN a).ty == 0 || v.ty e (pN a).ty) && (pN a).ps.all fun p => simpV v p e != p.nt) = _
  simp [pN, simpV]
theorem match1 (v : Vw) (a : Nat) (e : Int) : matchV v [pC, pN a] e = m1V v a e := by
  show (compV v (pN a) e && (signedV v 62 e).any (fun x => compV v pC x)) = _
  rw [comp_n]
  unfold m1V
  congr 1
  show ((v.ab e).take 1).any (fun x => compV v pC x) = _
  congr 1
  funext x
  exact comp_z v x
theorem match2 (v : Vw) (a b : Nat) (e : Int) : matchV v [pC, pN a, pN b] e = m2V v a b e := by
  show (compV v (pN b) e && (signedV v 62 e).any (fun x => chainV v [pN a, pC] x)) = _
  rw [comp_n]
  unfold m2V
  congr 1
  show ((v.ab e).take 1).any (fun x => chainV v [pN a, pC] x) = _
  congr 1
  funext x
  exact match1 v a x
def pW (a b : Nat) (m1 m2 : Bool) : List Clm := if m2 then afterP (if m1 then afterP (List.replicate 9 Clm.none) (pU1 a) (max 0 ((cws [pC, pN a] : Nat) : Int)) else List.replicate 9 Clm.none) (pU2 a b) (max 0 ((cws [pC, pN a, pN b] : Nat) : Int)) else (if m1 then afterP (List.replicate 9 Clm.none) (pU1 a) (max 0 ((cws [pC, pN a] : Nat) : Int)) else List.replicate 9 Clm.none)
theorem point_of (v : Vw) (a b : Nat) (e : Int) (comes : List Int) : ofV v [pU1 a, pU2 a b] e comes = (List.range 9).map fun p => valueF (pW a b (m1V v a e) (m2V v a b e)) comes 9 p := by
  have q1 : weighV v e (pU1 a).ss = if m1V v a e then (max 0 ((cws [pC, pN a] : Nat) : Int), true) else (0, false) := by
    show weighStepV v e (0, false) [pC, pN a] = _
    unfold weighStepV
    rw [match1]
  have q2 : weighV v e (pU2 a b).ss = if m2V v a b e then (max 0 ((cws [pC, pN a, pN b] : Nat) : Int), true) else (0, false) := by
    show weighStepV v e (0, false) [pC, pN a, pN b] = _
    unfold weighStepV
    rw [match2]
  have hw : winnersV v [pU1 a, pU2 a b] e = pW a b (m1V v a e) (m2V v a b e) := by
    show ruleStepV v e (ruleStepV v e (List.replicate 9 Clm.none) (pU1 a)) (pU2 a b) = _
    unfold ruleStepV pW
    rw [q1, q2]
    cases m1V v a e <;> cases m2V v a b e <;> simp only [↓reduceIte, Bool.false_eq_true]
  unfold ofV
  rw [hw]
theorem point_D (a b : Nat) (m1 m2 : Bool) (comes : List Int) : ((List.range 9).map fun p => valueF (pW a b m1 m2) comes 9 p).getD 3 0 = if m1 then 500 else 4 := by
  cases m1 <;> cases m2 <;> kernel_rfl
theorem point_E (a b : Nat) (m1 m2 : Bool) (comes : List Int) : ((List.range 9).map fun p => valueF (pW a b m1 m2) comes 9 p).getD 4 0 = if m2 then 600 else 5 := by
  cases m1 <;> cases m2 <;> kernel_rfl
end Go.Proofs.YtblfffbmklkhmaaGreat

namespace Go.Proofs.YtblfffbmklkhmaaGreat
open Go.RowKit
theorem tw_at : ∀ (l : List Nat) (k : Nat), k ∈ l → l[(l.takeWhile fun (x : Nat) => decide (¬ (x : Int) = (k : Int))).length]? = some k
  | [], _, h => by cases h
  | x :: l, k, h => by
    by_cases hx : x = k
    · subst hx
      rw [List.takeWhile_cons_of_neg (by simp)]
      rfl
    · have hm : k ∈ l := by
        rcases List.mem_cons.1 h with e | e
        · exact absurd e.symm hx
        · exact e
      rw [List.takeWhile_cons_of_pos (by simp; omega)]
      exact tw_at l k hm
theorem nodup_at {l : List Nat} (h : l.Nodup) {i j k : Nat} (h1 : l[i]? = some k) (h2 : l[j]? = some k) : i = j := by
  obtain ⟨hi, e1⟩ := List.getElem?_eq_some_iff.1 h1
  obtain ⟨hj, e2⟩ := List.getElem?_eq_some_iff.1 h2
  have h' := List.pairwise_iff_getElem.1 h
  rcases Nat.lt_trichotomy i j with c | c | c
  · exact absurd (e1.trans e2.symm) (h' i j hi hj c)
  · exact c
  · exact absurd (e2.trans e1.symm) (h' j i hj hi c)
theorem tw_place {l : List Nat} (hn : l.Nodup) {k : Nat} (hk : k ∈ l) {a : Nat} (ha : 1 ≤ a) : (((l.takeWhile fun (x : Nat) => decide (¬ (x : Int) = (k : Int))).length : Nat) : Int) + 1 = a ↔ l[a - 1]? = some k := by
  have h1 := tw_at l k hk
  constructor
  · intro h
    rw [show a - 1 = (l.takeWhile fun (x : Nat) => decide (¬ (x : Int) = (k : Int))).length from by omega]
    exact h1
  · intro h
    have := nodup_at hn h1 h
    omega
theorem tFind_of {T : Tree} {o : Nat} {l : List Nat} (h : tFind T (o : Int) = some l) : (o, l) ∈ T := by
  unfold tFind at h
  cases hf : T.find? (fun e => decide ((e.1 : Int) = (o : Int))) with
  | none => rw [hf] at h; simp at h
  | some e =>
    rw [hf] at h
    have h1 := List.mem_of_find?_eq_some hf
    have h2 := List.find?_some hf
    have h3 : e.1 = o := by have := of_decide_eq_true h2; omega
    have h4 : e.2 = l := by simpa using h
    rw [← h3, ← h4]
    exact h1
section
variable {T : Tree} {made : Nat} {M : Nat → Mk}
theorem nth_ahead (h : TW T made) {k : Nat} {l : List Nat} (hk : (k, l) ∈ T) {q : Nat × List Nat} (hq : q ∈ T) (hm : k ∈ q.2) (hp : tPar T k = q.1) {a : Nat} (ha : 1 ≤ a) : nthP ((((viewT T M).ah (k : Int)).length : Int) + 1) 0 a = decide (q.2[a - 1]? = some k) := by
  have e1 : ((viewT T M).ah (k : Int)).length = (q.2.takeWhile fun (x : Nat) => decide (¬ (x : Int) = (k : Int))).length := by
    show (aheadT T (k : Int)).length = _
    unfold aheadT
    rw [tFind_mem h.nums hk, hp]
    show ((((kidsOf T (q.1 : Int)).takeWhile fun (x : Nat) => decide (¬ (x : Int) = (k : Int))).map fun (x : Nat) => (x : Int)).reverse).length = _
    rw [List.length_reverse, List.length_map]
    unfold kidsOf
    rw [tFind_mem h.nums (show (q.1, q.2) ∈ T from hq)]
    rfl
  rw [e1]
  unfold nthP
  rw [if_pos (Or.inl (by decide))]
  have := tw_place (h.kdup q hq) hm ha
  by_cases hx : q.2[a - 1]? = some k
  · rw [decide_eq_true hx, this.2 hx]
    simp
  · rw [decide_eq_false hx]
    have h2 := fun e => hx (this.1 e)
    simpa using h2
theorem ab_one {k : Nat} {q : Nat × List Nat} (hq : q ∈ T) (hp : tPar T k = q.1) : ((viewT T M).ab (k : Int)).take 1 = [(q.1 : Int)] := by
  show (aboveT T T.length (k : Int)).take 1 = _
  have hl := List.length_pos_of_mem hq
  obtain ⟨f, hf⟩ : ∃ f, T.length = f + 1 := ⟨T.length - 1, by omega⟩
  rw [hf]
  show (if tPar T k = -1 then [] else tPar T k :: aboveT T f (tPar T k)).take 1 = _
  rw [hp, if_neg (by omega)]
  rfl
theorem nm_is (h : TW T made) (h0 : (M 0).nm = 122) (hn : ∀ k l, (k, l) ∈ T → k ≠ 0 → (M k).nm ≠ 122) {k : Nat} {l : List Nat} (hk : (k, l) ∈ T) : (viewT T M).nm (k : Int) 122 = decide (k = 0) := by
  show ((tFind T (k : Int)).isSome && (M (k : Int).toNat).nm == (122 : Int)) = _
  rw [tFind_mem h.nums hk]
  by_cases hk0 : k = 0
  · subst hk0
    simp [h0]
  · have := hn k l hk hk0
    simp [hk0]
    exact this
theorem m1_is (h : TW T made) (h0 : (M 0).nm = 122) (hn : ∀ k l, (k, l) ∈ T → k ≠ 0 → (M k).nm ≠ 122) {k : Nat} {l : List Nat} (hk : (k, l) ∈ T) {a : Nat} (ha : 1 ≤ a) : m1V (viewT T M) a k = decide ((kidsOf T 0)[a - 1]? = some k) := by
  obtain ⟨l0, hl0⟩ := h.root
  have hk0 : kidsOf T 0 = l0 := by
    unfold kidsOf
    rw [show tFind T 0 = some l0 from tFind_mem h.nums hl0]
    rfl
  by_cases hz : k = 0
  · subst hz
    have e1 : (viewT T M).ab ((0 : Nat) : Int) = [] := above_top h
    unfold m1V
    rw [e1]
    have : ¬ (kidsOf T 0)[a - 1]? = some 0 := fun e => by
      rw [hk0] at e
      exact h.top _ hl0 (List.mem_of_getElem? e)
    rw [decide_eq_false this]
    simp
  · obtain ⟨q, hq, hm, hp⟩ := h.up hk hz
    unfold m1V
    rw [nth_ahead h hk hq hm hp ha, ab_one hq hp]
    show (decide (q.2[a - 1]? = some k) && ((viewT T M).nm (q.1 : Int) 122 || false)) = _
    rw [Bool.or_false, nm_is h h0 hn (show (q.1, q.2) ∈ T from hq)]
    by_cases hq0 : q.1 = 0
    · have : q = (0, l0) := num_inj h.nums hq hl0 hq0
      rw [hk0]
      subst this
      simp
    · rw [decide_eq_false hq0, Bool.and_false]
      have : ¬ (kidsOf T 0)[a - 1]? = some k := fun e => by
        rw [hk0] at e
        have hm0 := List.mem_of_getElem? e
        have := h.one q hq (0, l0) hl0 k hm hm0
        rw [this] at hq0
        exact hq0 rfl
      rw [decide_eq_false this]
theorem m2_is (h : TW T made) (h0 : (M 0).nm = 122) (hn : ∀ k l, (k, l) ∈ T → k ≠ 0 → (M k).nm ≠ 122) {k : Nat} {l : List Nat} (hk : (k, l) ∈ T) {a b : Nat} (ha : 1 ≤ a) (hb : 1 ≤ b) : m2V (viewT T M) a b k = true ↔ ∃ o : Nat, (kidsOf T 0)[a - 1]? = some o ∧ (kidsOf T (o : Int))[b - 1]? = some k := by
  by_cases hz : k = 0
  · subst hz
    have e1 : (viewT T M).ab ((0 : Nat) : Int) = [] := above_top h
    unfold m2V
    rw [e1]
    constructor
    · intro e; simp at e
    · rintro ⟨o, _, e⟩
      exfalso
      unfold kidsOf at e
      cases hf : tFind T (o : Int) with
      | none => rw [hf] at e; simp at e
      | some lo =>
        rw [hf] at e
        have e2 : lo[b - 1]? = some 0 := e
        exact h.top _ (tFind_of hf) (List.mem_of_getElem? e2)
  · obtain ⟨q, hq, hm, hp⟩ := h.up hk hz
    unfold m2V
    rw [nth_ahead h hk hq hm hp hb, ab_one hq hp]
    show (decide (q.2[b - 1]? = some k) && (m1V (viewT T M) a (q.1 : Int) || false)) = true ↔ _
    rw [Bool.or_false, m1_is h h0 hn (show (q.1, q.2) ∈ T from hq) ha, Bool.and_eq_true, decide_eq_true_iff, decide_eq_true_iff]
    have hkq : kidsOf T (q.1 : Int) = q.2 := by
      unfold kidsOf
      rw [tFind_mem h.nums (show (q.1, q.2) ∈ T from hq)]
      rfl
    constructor
    · rintro ⟨h1, h2⟩
      exact ⟨q.1, h2, by rw [hkq]; exact h1⟩
    · rintro ⟨o, h1, h2⟩
      have ho : o = q.1 := by
        unfold kidsOf at h2
        cases hf : tFind T (o : Int) with
        | none => rw [hf] at h2; simp at h2
        | some lo =>
          rw [hf] at h2
          have e2 : lo[b - 1]? = some k := h2
          have := h.one q hq _ (tFind_of hf) k hm (List.mem_of_getElem? e2)
          rw [this]
      subst ho
      rw [hkq] at h2
      exact ⟨h2, h1⟩
theorem point_vals (a b : Nat) (k : Nat) : (styleV (viewT T M) [pU1 a, pU2 a b] k).getD 3 0 = (if m1V (viewT T M) a k then 500 else 4) ∧ (styleV (viewT T M) [pU1 a, pU2 a b] k).getD 4 0 = (if m2V (viewT T M) a b k then 600 else 5) := by
  unfold styleV
  rw [point_of]
  exact ⟨point_D _ _ _ _ _, point_E _ _ _ _ _⟩
end
end Go.Proofs.YtblfffbmklkhmaaGreat

namespace Go.Proofs.YtblfffbmklkhmaaGreat
open Go.RowKit
def oneZ (T : Tree) (a : Nat) : Int := match (kidsOf T 0)[a - 1]? with | some o => (o : Int) | none => -1
def twoZ (T : Tree) (a b : Nat) : Int := match (kidsOf T 0)[a - 1]? with | none => -1 | some o => match (kidsOf T (o : Int))[b - 1]? with | some t => (t : Int) | none => -1
theorem point_hon {T : Tree} {made : Nat} {M : Nat → Mk} (h : TW T made) (h0 : (M 0).nm = 122) (hn : ∀ k l, (k, l) ∈ T → k ≠ 0 → (M k).nm ≠ 122) {a b : Nat} (ha : 1 ≤ a) (hb : 1 ≤ b) {k : Nat} {l : List Nat} (hk : (k, l) ∈ T) :
    ((styleV (viewT T M) [pU1 a, pU2 a b] k).getD 3 0 == 500) = ((k : Int) == oneZ T a) ∧ ((styleV (viewT T M) [pU1 a, pU2 a b] k).getD 4 0 == 600) = ((k : Int) == twoZ T a b) := by
  obtain ⟨v3, v4⟩ := point_vals (T := T) (M := M) a b k
  rw [v3, v4]
  have h1 := m1_is h h0 hn hk ha
  have h2 := m2_is h h0 hn hk ha hb
  constructor
  · rw [h1]
    unfold oneZ
    cases hf : (kidsOf T 0)[a - 1]? with
    | none =>
      have : ((k : Int) == -1) = false := by simp
      simp [this]
    | some o =>
      by_cases ho : o = k
      · subst ho
        simp
      · have : ((k : Int) == (o : Int)) = false := by simp; omega
        simp [ho, this]
  · unfold twoZ
    cases hf : (kidsOf T 0)[a - 1]? with
    | none =>
      have hm : m2V (viewT T M) a b k = false := by
        cases hm : m2V (viewT T M) a b k with
        | false => rfl
        | true => obtain ⟨o, h3, _⟩ := h2.1 hm; rw [hf] at h3; cases h3
      have : ((k : Int) == -1) = false := by simp
      rw [hm]
      simp [this]
    | some o =>
      show ((if m2V (viewT T M) a b k = true then (600 : Int) else 5) == 600) = ((k : Int) == match (kidsOf T (o : Int))[b - 1]? with | some t => (t : Int) | none => -1)
      cases hg : (kidsOf T (o : Int))[b - 1]? with
      | none =>
        have hm : m2V (viewT T M) a b k = false := by
          cases hm : m2V (viewT T M) a b k with
          | false => rfl
          | true =>
            obtain ⟨o', h3, h4⟩ := h2.1 hm
            rw [hf] at h3
            injection h3 with h3
            subst h3
            rw [hg] at h4
            cases h4
        have : ((k : Int) == -1) = false := by simp
        rw [hm]
        simp [this]
      | some t =>
        by_cases ht : t = k
        · subst ht
          rw [h2.2 ⟨o, hf, hg⟩]
          simp
        · have hm : m2V (viewT T M) a b k = false := by
            cases hm : m2V (viewT T M) a b k with
            | false => rfl
            | true =>
              obtain ⟨o', h3, h4⟩ := h2.1 hm
              rw [hf] at h3
              injection h3 with h3
              subst h3
              rw [hg] at h4
              injection h4 with h4
              exact absurd h4 ht
          have : ((k : Int) == (t : Int)) = false := by simp; omega
          rw [hm]
          simp [this]
end Go.Proofs.YtblfffbmklkhmaaGreat

namespace Go.Proofs.YtblfffbmklkhmaaGreat
open Go.RowKit
/-- A script, or none. -/
def Sc (w : World) (a0 : Option Addr) (len : Nat) (K X Y Z : Nat → Int) : Prop := len = 0 ∨ ∃ b0 off, a0 = some ⟨b0, off, none⟩ ∧ Stp w b0 off len K X Y Z
theorem GDM.below {DS : World → Value → Tree → Nat → (Nat → Mk) → List PRu → (Nat → Prop) → Prop} {w w' : World} {g : Nat} {px vl : Value} {made b : Nat} {M : Nat → Mk} {ns : List GN} {rs : List PRu} {Fg Fx : Nat → Prop} (hP : DocOK DS) (h : GDM DS w g px vl made b M ns rs Fg Fx) (hB : Below w.heap.size w w') : GDM DS w' g px vl made b M ns rs Fg Fx :=
  ⟨h.gr.below hB, h.pw, hP.keep h.ds (fun k _ hl => hB.block k hl) hB.size, h.inb, h.inn, h.inl, h.ink, h.gx, fun k hk => Nat.lt_of_lt_of_le (h.here k hk) hB.size⟩
section
set_option maxRecDepth 100000
set_option maxHeartbeats 1500000
variable {DS : World → Value → Tree → Nat → (Nat → Mk) → List PRu → (Nat → Prop) → Prop}
theorem kgrow_sc (hP : DocOK DS) {w0 : World} (w : World) (g : Nat) (px vl : Value) (made b : Nat) (ns : List GN) (rs : List PRu) (Fg Fx : Nat → Prop) (h : GD DS w g px vl made b ns rs Fg Fx) (last : Int) (hl7 : last ≤ 7) (hb : b ≤ 25) (a0 : Option Addr) (len cap : Nat) (K X Y Z : Nat → Int) (hs : Sc w0 a0 len K X Y Z) (hB : Below w0.heap.size w0 w) (hna : ∀ k, Fg k ∨ Fx k → w0.heap.size ≤ k) (hm : made + len ≤ 4611686018427387904) :
    Calls Tryz.prog 20 #[.pointer (some ⟨g, 0, none⟩), .slice a0 len cap, .int .i64 last] w fun e w' => KStepPost DS w (fun k => Fg k ∨ Fx k) g px b (growS b last K X Y Z (ns.map GN.pl) made len).1 (growS b last K X Y Z (ns.map GN.pl) made len).2 rs e w' := by
  rcases hs with rfl | ⟨b0, off, rfl, hs⟩
  · exact kgrow_none w g px vl made b ns rs Fg Fx h last a0 cap
  · refine kgrow_any hP w g px vl made b ns rs Fg Fx h last hl7 hb b0 off len cap K X Y Z (hs.keep (hB.block b0 hs.lt)) (fun hk => ?_) hm
    have h1 := hna b0 hk
    have h2 := hs.lt
    omega
end
end Go.Proofs.YtblfffbmklkhmaaGreat
