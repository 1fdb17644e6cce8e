/- Own work. -/
import Derived.Test.YtblfffbmklkhmaaGreatAw12
namespace Go.Proofs.YtblfffbmklkhmaaGreat
open Go.RowKit
structure SameV (v v' : Vw) (ok : PPt → Prop) (S : Int → Prop) : Prop where
  ty : ∀ e, S e → ∀ l, v.ty e l = v'.ty e l
  sm : ∀ e, S e → ∀ p, ok p → simpV v p e = simpV v' p e
  ab : ∀ e, S e → v.ab e = v'.ab e
  ah : ∀ e, S e → v.ah e = v'.ah e
  sab : ∀ e, S e → ∀ x ∈ v.ab e, S x
  sah : ∀ e, S e → ∀ x ∈ v.ah e, S x
section
variable {v v' : Vw} {ok : PPt → Prop} {S : Int → Prop}
theorem all_congr' {α : Type} {f g : α → Bool} : ∀ {l : List α}, (∀ x ∈ l, f x = g x) → l.all f = l.all g
  | [], _ => rfl
  | x :: l, h => by
    rw [List.all_cons, List.all_cons, h x List.mem_cons_self, all_congr' (fun y hy => h y (List.mem_cons_of_mem _ hy))]
theorem any_congr' {α : Type} {f g : α → Bool} : ∀ {l : List α}, (∀ x ∈ l, f x = g x) → l.any f = l.any g
  | [], _ => rfl
  | x :: l, h => by
    rw [List.any_cons, List.any_cons, h x List.mem_cons_self, any_congr' (fun y hy => h y (List.mem_cons_of_mem _ hy))]
theorem foldl_congr' {α β : Type} {f g : β → α → β} : ∀ {l : List α} {b : β}, (∀ x ∈ l, ∀ b, f b x = g b x) → l.foldl f b = l.foldl g b
  | [], _, _ => rfl
  | x :: l, b, h => by
    rw [List.foldl_cons, List.foldl_cons, h x List.mem_cons_self b, foldl_congr' (fun y hy => h y (List.mem_cons_of_mem _ hy))]
theorem foldr_congr' {α β : Type} {f g : α → β → β} : ∀ {l : List α} {b : β}, (∀ x ∈ l, ∀ b, f x b = g x b) → l.foldr f b = l.foldr g b
  | [], _, _ => rfl
  | x :: l, b, h => by
    rw [List.foldr_cons, List.foldr_cons, foldr_congr' (fun y hy => h y (List.mem_cons_of_mem _ hy)), h x List.mem_cons_self]
theorem comp_loc (h : SameV v v' ok S) {e : Int} (he : S e) {c : PCp} (hc : ∀ p ∈ c.ps, ok p) : compV v c e = compV v' c e := by
  unfold compV
  rw [h.ty e he, all_congr' (fun p hp => by rw [h.sm e he p (hc p hp)])]
theorem signed_loc (h : SameV v v' ok S) {e : Int} (he : S e) (sg : Int) : signedV v sg e = signedV v' sg e ∧ ∀ x ∈ signedV v sg e, S x := by
  refine ⟨?_, fun x hx => ?_⟩
  · unfold signedV
    rw [h.ab e he, h.ah e he]
  · unfold signedV at hx
    split at hx
    · exact h.sab e he x hx
    · split at hx
      · exact h.sab e he x (List.mem_of_mem_take hx)
      · split at hx
        · exact h.sah e he x hx
        · split at hx
          · exact h.sah e he x (List.mem_of_mem_take hx)
          · cases hx
theorem chain_loc (h : SameV v v' ok S) : ∀ (cs : List PCp), (∀ c ∈ cs, ∀ p ∈ c.ps, ok p) → ∀ e, S e → chainV v cs e = chainV v' cs e
  | [], _, _, _ => rfl
  | [c], hc, _, he => comp_loc h he (hc c List.mem_cons_self)
  | c :: d :: r, hc, e, he => by
    show (compV v c e && (signedV v c.sg e).any (chainV v (d :: r))) = (compV v' c e && (signedV v' c.sg e).any (chainV v' (d :: r)))
    rw [comp_loc h he (hc c List.mem_cons_self), ← (signed_loc h he c.sg).1, any_congr' (fun x hx => chain_loc h (d :: r) (fun c' hc' => hc c' (List.mem_cons_of_mem _ hc')) x ((signed_loc h he c.sg).2 x hx))]
theorem match_loc (h : SameV v v' ok S) {cs : List PCp} (hc : ∀ c ∈ cs, ∀ p ∈ c.ps, ok p) {e : Int} (he : S e) : matchV v cs e = matchV v' cs e := chain_loc h _ (fun c hx => hc c (List.mem_reverse.1 hx)) e he
theorem weigh_loc (h : SameV v v' ok S) {ss : List (List PCp)} (hc : ∀ cs ∈ ss, ∀ c ∈ cs, ∀ p ∈ c.ps, ok p) {e : Int} (he : S e) : weighV v e ss = weighV v' e ss := by
  unfold weighV
  refine foldl_congr' fun cs hcs a => ?_
  unfold weighStepV
  rw [match_loc h (hc cs hcs) he]
theorem winners_loc (h : SameV v v' ok S) {rs : List PRu} (hc : ∀ r ∈ rs, ∀ cs ∈ r.ss, ∀ c ∈ cs, ∀ p ∈ c.ps, ok p) {e : Int} (he : S e) : winnersV v rs e = winnersV v' rs e := by
  unfold winnersV
  refine foldl_congr' fun r hr W => ?_
  unfold ruleStepV
  rw [weigh_loc h (hc r hr) he]
theorem of_loc (h : SameV v v' ok S) {rs : List PRu} (hc : ∀ r ∈ rs, ∀ cs ∈ r.ss, ∀ c ∈ cs, ∀ p ∈ c.ps, ok p) {e : Int} (he : S e) (comes : List Int) : ofV v rs e comes = ofV v' rs e comes := by
  unfold ofV
  rw [winners_loc h hc he]
theorem style_loc (h : SameV v v' ok S) {rs : List PRu} (hc : ∀ r ∈ rs, ∀ cs ∈ r.ss, ∀ c ∈ cs, ∀ p ∈ c.ps, ok p) {e : Int} (he : S e) : styleV v rs e = styleV v' rs e := by
  unfold styleV
  rw [h.ab e he, of_loc h hc he, foldr_congr' (fun x hx b => of_loc h hc (h.sab e he x (by rw [h.ab e he]; exact hx)) b)]
end
theorem above_fuel (T : Tree) : ∀ (j i : Nat) (e : Int), tUp T (j + 1) e < 0 → aboveT T j e = aboveT T (j + i) e
  | 0, 0, _, _ => rfl
  | 0, i + 1, e, h => by
    have h1 : tPar T e < 0 := h
    have h2 : tPar T e = -1 := by
      rcases tPar_cases T e with ⟨h3, _⟩ | ⟨q, _, _, h3⟩
      · exact h3
      · omega
    rw [Nat.zero_add]
    show [] = if tPar T e = -1 then [] else _
    rw [if_pos h2]
  | j + 1, i, e, h => by
    have e1 : j + 1 + i = (j + i) + 1 := by omega
    rw [e1]
    show (if tPar T e = -1 then [] else tPar T e :: aboveT T j (tPar T e)) = (if tPar T e = -1 then [] else tPar T e :: aboveT T (j + i) (tPar T e))
    rw [above_fuel T j i (tPar T e) h]
theorem TW.up_end {T : Tree} {made : Nat} (h : TW T made) {k : Nat} {l : List Nat} (hk : (k, l) ∈ T) {j : Nat} (hj : T.length ≤ j) : tUp T j k < 0 := by
  obtain ⟨rk, hr⟩ := h.rank
  rcases Int.lt_or_le (tUp T j k) 0 with h1 | h1
  · exact h1
  · obtain ⟨L, hL, hd, hin, _⟩ := h.chain hr h1 j k ⟨l, hk⟩ rfl
    have := nodup_len hd (m := T.map Prod.fst) (fun x hx => by
      obtain ⟨c, hc⟩ := hin x hx
      exact List.mem_map.2 ⟨_, hc, rfl⟩)
    simp at this
    omega
theorem TW.above_any {T : Tree} {made : Nat} (h : TW T made) {k : Nat} {l : List Nat} (hk : (k, l) ∈ T) {j : Nat} (hj : T.length ≤ j) : aboveT T T.length k = aboveT T j k := by
  have := above_fuel T T.length (j - T.length) k (h.up_end hk (by omega))
  rw [this]
  congr 1
  omega
def topsT (T : Tree) (p : Nat) : List Nat := if tPar T p < 0 then [p] else (kidsOf T (tPar T p)).dropWhile fun (k : Nat) => decide (¬ k = p)
def RchT (T : Tree) (p : Nat) (x : Nat) : Prop := ∃ t ∈ topsT T p, tUnder T t x
theorem drop_from {l : List Nat} {p : Nat} (hp : p ∈ l) : ∃ A B, l = A ++ p :: B ∧ p ∉ A ∧ (l.dropWhile fun (k : Nat) => decide (¬ k = p)) = p :: B := by
  induction l with
  | nil => cases hp
  | cons x l ih =>
    by_cases h : x = p
    · subst h
      exact ⟨[], l, rfl, by simp, by simp⟩
    · rcases List.mem_cons.1 hp with h1 | h1
      · exact absurd h1.symm h
      · obtain ⟨A, B, h2, h3, h4⟩ := ih h1
        refine ⟨x :: A, B, by rw [h2]; rfl, by rw [List.mem_cons]; exact fun h5 => h5.elim (fun h6 => h h6.symm) h3, ?_⟩
        rw [List.dropWhile_cons_of_pos (by simpa using h)]
        exact h4
theorem ahead_in {l : List Nat} (hn : l.Nodup) {p j k : Nat} (hp : p ∈ l) (hk : k ∈ l) (hj : j ∈ l.takeWhile fun (x : Nat) => decide (¬ (x : Int) = (k : Int))) (hjd : j ∈ l.dropWhile fun (x : Nat) => decide (¬ x = p)) : k ∈ l.dropWhile fun (x : Nat) => decide (¬ x = p) := by
  obtain ⟨A, B, h1, _, h2⟩ := drop_from hp
  rw [h2] at hjd ⊢
  rw [h1, List.mem_append] at hk
  rcases hk with hk | hk
  · exfalso
    obtain ⟨C, D, h3, _, _⟩ := drop_from hk
    have h4 : ∀ x ∈ (l.takeWhile fun (x : Nat) => decide (¬ (x : Int) = (k : Int))), x ∈ C := by
      intro x hx
      rw [h1, h3, List.append_assoc] at hx
      have : ∀ (C : List Nat) (E : List Nat), x ∈ ((C ++ (k :: E)).takeWhile fun (x : Nat) => decide (¬ (x : Int) = (k : Int))) → x ∈ C := by
        intro C E
        induction C with
        | nil => intro h; simp at h
        | cons c C ih =>
          intro h
          rw [List.cons_append, List.takeWhile_cons] at h
          split at h
          · rcases List.mem_cons.1 h with rfl | h
            · exact List.mem_cons_self
            · exact List.mem_cons_of_mem _ (ih h)
          · cases h
      exact this C _ hx
    have h5 : j ∈ A := by rw [h3]; exact List.mem_append_left _ (h4 j hj)
    rw [h1, List.nodup_append] at hn
    exact hn.2.2 j h5 j hjd rfl
  · exact hk
section
variable {T T' : Tree} {made made' : Nat}
theorem kidsOf_mem (h : TW T made) {q : Nat} {l : List Nat} (hq : (q, l) ∈ T) : kidsOf T q = l := by
  unfold kidsOf
  rw [tFind_mem h.nums hq]
  rfl
theorem tops_self (h : TW T made) {p : Nat} {l : List Nat} (_hp : (p, l) ∈ T) : p ∈ topsT T p := by
  unfold topsT
  split
  · simp
  · rename_i h0
    rcases tPar_cases T p with ⟨h1, _⟩ | ⟨q, hq, h1, h2⟩
    · omega
    · rw [h2, kidsOf_mem h (q := q.1) (l := q.2) hq]
      obtain ⟨A, B, _, _, h3⟩ := drop_from (tHas_nat.1 h1)
      rw [h3]
      exact List.mem_cons_self
theorem rch_self (h : TW T made) {p : Nat} {l : List Nat} (hp : (p, l) ∈ T) : RchT T p p := ⟨p, tops_self h hp, under_self T p⟩
theorem rch_kid (h : TW T made) {p : Nat} {q : Nat × List Nat} (hq : q ∈ T) {k : Nat} (hk : k ∈ q.2) (hr : RchT T p q.1) : RchT T p k := by
  obtain ⟨t, ht, hu⟩ := hr
  exact ⟨t, ht, (h.under_kid hq hk t).2 (Or.inr hu)⟩
/-- Who is not told on: nor are those ahead. -/
theorem rch_ahead (h : TW T made) {p : Nat} {l : List Nat} (hp : (p, l) ∈ T) {q : Nat × List Nat} (hq : q ∈ T) {j k : Nat} (hk : k ∈ q.2) (hj : j ∈ q.2.takeWhile fun (x : Nat) => decide (¬ (x : Int) = (k : Int))) (hr : RchT T p j) : RchT T p k := by
  have hjm : j ∈ q.2 := (List.takeWhile_sublist _).subset hj
  obtain ⟨t, ht, hu⟩ := hr
  rcases (h.under_kid hq hjm t).1 hu with h1 | h1
  · subst h1
    unfold topsT at ht
    split at ht
    · rename_i h0
      rw [List.mem_singleton] at ht
      subst ht
      have := h.parent hq hjm
      omega
    · rename_i h0
      rcases tPar_cases T p with ⟨h1, _⟩ | ⟨f, hf, h1, h2⟩
      · omega
      · have hpf := tHas_nat.1 h1
        have hfq : f = q := by
          rw [h2, kidsOf_mem h (q := f.1) (l := f.2) hf] at ht
          exact h.one f hf q hq j ((List.dropWhile_sublist _).subset ht) hjm
        subst hfq
        rw [h2, kidsOf_mem h (q := f.1) (l := f.2) hf] at ht
        refine ⟨k, ?_, under_self T k⟩
        unfold topsT
        rw [if_neg h0, h2, kidsOf_mem h (q := f.1) (l := f.2) hf]
        exact ahead_in (h.kdup f hf) hpf hk hj ht
  · exact ⟨t, ht, (h.under_kid hq hk t).2 (Or.inr h1)⟩
/-- A set of elements that holds with one all below it, and with one that is ahead all behind it. -/
structure Shut (T : Tree) (R : Nat → Prop) : Prop where
  kid : ∀ q ∈ T, ∀ k ∈ q.2, R q.1 → R k
  next : ∀ q ∈ T, ∀ k ∈ q.2, ∀ j ∈ q.2.takeWhile (fun (x : Nat) => decide (¬ (x : Int) = (k : Int))), R j → R k
theorem shut_rch (h : TW T made) {p : Nat} {l : List Nat} (hp : (p, l) ∈ T) : Shut T (RchT T p) := ⟨fun _ hq _ hk hr => rch_kid h hq hk hr, fun _ hq _ hk _ hj hr => rch_ahead h hp hq hk hj hr⟩
theorem shut_or {R R' : Nat → Prop} (h : Shut T R) (h' : Shut T R') : Shut T (fun k => R k ∨ R' k) := ⟨fun q hq k hk hr => hr.imp (h.kid q hq k hk) (h'.kid q hq k hk), fun q hq k hk j hj hr => hr.imp (h.next q hq k hk j hj) (h'.next q hq k hk j hj)⟩
theorem shut_no : Shut T (fun _ => False) := ⟨fun _ _ _ _ h => h, fun _ _ _ _ _ _ h => h⟩
variable {M M' : Nat → Mk} {R : Nat → Prop} {ok : PPt → Prop}
/-- The set of those that are not told on. -/
def Out (T : Tree) (R : Nat → Prop) (e : Int) : Prop := ∃ k l, e = (k : Nat) ∧ (k, l) ∈ T ∧ ¬ R k
theorem par_same (h : TW T made) (h' : TW T' made') (hs : Shut T R) (hin : ∀ k l, (k, l) ∈ T → ¬ R k → (k, l) ∈ T') {k : Nat} {l : List Nat} (hk : (k, l) ∈ T) (hr : ¬ R k) : tPar T' k = tPar T k ∧ (tPar T k = -1 ∨ ∃ q ∈ T, k ∈ q.2 ∧ tPar T k = q.1 ∧ ¬ R q.1 ∧ q ∈ T') := by
  by_cases h0 : k = 0
  · subst h0
    exact ⟨h'.root_par.trans h.root_par.symm, Or.inl h.root_par⟩
  · obtain ⟨q, hq, hm, hp⟩ := h.up hk h0
    have hqr : ¬ R q.1 := fun hx => hr (hs.kid q hq k hm hx)
    have hq' : q ∈ T' := hin q.1 q.2 hq hqr
    exact ⟨by rw [hp]; exact h'.parent hq' hm, Or.inr ⟨q, hq, hm, hp, hqr, hq'⟩⟩
theorem above_same (h : TW T made) (h' : TW T' made') (hs : Shut T R) (hin : ∀ k l, (k, l) ∈ T → ¬ R k → (k, l) ∈ T') : ∀ (n k : Nat) (l : List Nat), (k, l) ∈ T → ¬ R k → aboveT T n k = aboveT T' n k ∧ ∀ x ∈ aboveT T n k, Out T R x
  | 0, _, _, _, _ => ⟨rfl, fun x hx => by cases hx⟩
  | n + 1, k, l, hk, hr => by
    obtain ⟨h1, h2⟩ := par_same h h' hs hin hk hr
    show (if tPar T k = -1 then [] else tPar T k :: aboveT T n (tPar T k)) = (if tPar T' k = -1 then [] else tPar T' k :: aboveT T' n (tPar T' k)) ∧ ∀ x ∈ (if tPar T k = -1 then [] else tPar T k :: aboveT T n (tPar T k)), Out T R x
    rw [h1]
    rcases h2 with h2 | ⟨q, hq, hm, hp, hqr, hq'⟩
    · rw [if_pos h2, if_pos h2]
      exact ⟨rfl, fun x hx => by cases hx⟩
    · have hne : ¬ tPar T k = -1 := by omega
      rw [if_neg hne, if_neg hne, hp]
      obtain ⟨h3, h4⟩ := above_same h h' hs hin n q.1 q.2 hq hqr
      refine ⟨by rw [h3], fun x hx => ?_⟩
      rcases List.mem_cons.1 hx with rfl | hx
      · exact ⟨q.1, q.2, rfl, hq, hqr⟩
      · exact h4 x hx
theorem sib_same (h : TW T made) (h' : TW T' made') (hs : Shut T R) (hin : ∀ k l, (k, l) ∈ T → ¬ R k → (k, l) ∈ T') {k : Nat} {l : List Nat} (hk : (k, l) ∈ T) (hr : ¬ R k) : kidsOf T (tPar T k) = kidsOf T' (tPar T' k) := by
  obtain ⟨h1, h2⟩ := par_same h h' hs hin hk hr
  rw [h1]
  rcases h2 with h2 | ⟨q, hq, hm, hp, hqr, hq'⟩
  · rw [h2]
    have : ∀ T : Tree, kidsOf T (-1) = [] := fun T => by
      unfold kidsOf
      cases ht : tFind T (-1) with
      | none => rfl
      | some l =>
        obtain ⟨k, hk, _⟩ := tFind_some ht
        omega
    rw [this, this]
  · rw [hp, kidsOf_mem h (q := q.1) (l := q.2) hq, kidsOf_mem h' (q := q.1) (l := q.2) hq']
theorem same_view (h : TW T made) (h' : TW T' made') (hs : Shut T R) (hin : ∀ k l, (k, l) ∈ T → ¬ R k → (k, l) ∈ T')
    (hkd : ∀ k l, (k, l) ∈ T → ¬ R k → (M k).kd = (M' k).kd) (hcl : ∀ k l, (k, l) ∈ T → ¬ R k → ∀ p, ok p → p.kd = 2 → 97 ≤ p.lt → p.lt ≤ 122 → (M k).cl (p.lt - 97).toNat = (M' k).cl (p.lt - 97).toNat) (hnm : ∀ k l, (k, l) ∈ T → ¬ R k → ∀ p, ok p → p.kd = 3 → ((M k).nm == p.lt) = ((M' k).nm == p.lt)) :
    SameV (viewT T M) (viewT T' M') ok (Out T R) := by
  have hty : ∀ e, Out T R e → ∀ l, hasTypeT T M e l = hasTypeT T' M' e l := by
    rintro _ ⟨k, l, rfl, hk, hr⟩ x
    unfold hasTypeT
    rw [tFind_mem h.nums hk, tFind_mem h'.nums (hin k l hk hr), Int.toNat_natCast, hkd k l hk hr]
  have hah : ∀ e, Out T R e → aheadT T e = aheadT T' e := by
    rintro _ ⟨k, l, rfl, hk, hr⟩
    unfold aheadT
    rw [tFind_mem h.nums hk, tFind_mem h'.nums (hin k l hk hr), sib_same h h' hs hin hk hr]
  refine ⟨hty, ?_, ?_, hah, ?_, ?_⟩
  · rintro _ ⟨k, l, rfl, hk, hr⟩ p hp
    have ht := tFind_mem h.nums hk
    have ht' := tFind_mem h'.nums (hin k l hk hr)
    have e1 := hty k ⟨k, l, rfl, hk, hr⟩ p.lt
    have e4 := hah k ⟨k, l, rfl, hk, hr⟩
    have e2 : p.kd = 2 → hasClassT T M k p.lt = hasClassT T' M' k p.lt := fun h2 => by
      unfold hasClassT
      rw [ht, ht', Int.toNat_natCast]
      by_cases hl : 97 ≤ p.lt ∧ p.lt ≤ 122
      · rw [hcl k l hk hr p hp h2 hl.1 hl.2]
      · rw [decide_eq_false hl]
        rfl
    have e3 : p.kd = 3 → hasNameT T M k p.lt = hasNameT T' M' k p.lt := fun h3 => by
      unfold hasNameT
      rw [ht, ht', Int.toNat_natCast, hnm k l hk hr p hp h3]
    have e5 : lastT T k = lastT T' k := by
      unfold lastT
      rw [ht, ht', sib_same h h' hs hin hk hr]
    have e6 : emptyT T k = emptyT T' k := by
      unfold emptyT
      rw [ht, ht', kidsOf_mem h hk, kidsOf_mem h' (hin k l hk hr)]
    unfold simpV
    show (if p.kd = 1 then hasTypeT T M k p.lt else if p.kd = 2 then hasClassT T M k p.lt else if p.kd = 3 then hasNameT T M k p.lt else if p.kd = 4 then decide (((aheadT T k).length : Int) + 1 = 1) else if p.kd = 5 then lastT T k else if p.kd = 6 then emptyT T k else if p.kd = 7 then nthP (((aheadT T k).length : Int) + 1) p.st p.sr else false) = (if p.kd = 1 then hasTypeT T' M' k p.lt else if p.kd = 2 then hasClassT T' M' k p.lt else if p.kd = 3 then hasNameT T' M' k p.lt else if p.kd = 4 then decide (((aheadT T' k).length : Int) + 1 = 1) else if p.kd = 5 then lastT T' k else if p.kd = 6 then emptyT T' k else if p.kd = 7 then nthP (((aheadT T' k).length : Int) + 1) p.st p.sr else false)
    rw [e1, e4, e5, e6]
    by_cases h2 : p.kd = 2
    · rw [e2 h2]
      by_cases h3 : p.kd = 3
      · omega
      · rw [if_neg h3, if_neg h3]
    · rw [if_neg h2, if_neg h2]
      by_cases h3 : p.kd = 3
      · rw [e3 h3]
      · rw [if_neg h3, if_neg h3]
  · rintro _ ⟨k, l, rfl, hk, hr⟩
    show aboveT T T.length k = aboveT T' T'.length k
    rw [h.above_any hk (j := T.length + T'.length) (by omega), h'.above_any (hin k l hk hr) (j := T.length + T'.length) (by omega)]
    exact (above_same h h' hs hin _ k l hk hr).1
  · rintro _ ⟨k, l, rfl, hk, hr⟩
    exact (above_same h h' hs hin T.length k l hk hr).2
  · rintro _ ⟨k, l, rfl, hk, hr⟩ x hx
    have hx' : x ∈ aheadT T k := hx
    unfold aheadT at hx'
    rw [tFind_mem h.nums hk, Option.isSome_some, if_pos rfl, List.mem_reverse, List.mem_map] at hx'
    obtain ⟨j, hj, rfl⟩ := hx'
    obtain ⟨_, h2⟩ := par_same h h' hs hin hk hr
    rcases h2 with h2 | ⟨q, hq, hm, hp, hqr, hq'⟩
    · rw [h2] at hj
      have : kidsOf T (-1) = [] := by
        unfold kidsOf
        cases ht : tFind T (-1) with
        | none => rfl
        | some l =>
          obtain ⟨k, hk, _⟩ := tFind_some ht
          omega
      rw [this] at hj
      cases hj
    · rw [hp, kidsOf_mem h (q := q.1) (l := q.2) hq] at hj
      obtain ⟨lj, hlj⟩ := h.kin q hq j ((List.takeWhile_sublist _).subset hj)
      exact ⟨j, lj, rfl, hlj, fun hx => hr (hs.next q hq k hm j hj hx)⟩
end
def ReachIn (els : List PEl) (n : Int) (k : Nat) : Prop := ∃ i x, els[i]? = some x ∧ (x.num : Int) = n ∧ ∃ t ∈ els.drop i, t.par = x.par ∧ ∃ y ∈ els, y.num = k ∧ ∃ j, j < els.length ∧ upP els j y.num = t.num
theorem drop_nat (l : List Nat) (p : Nat) : (l.dropWhile fun (k : Nat) => decide (¬ k = p)) = l.dropWhile fun (k : Nat) => decide (¬ (k : Int) = (p : Int)) := by
  congr 1
  funext k
  congr 1
  rw [eq_iff_iff]
  omega
theorem reach_in {els : List PEl} {T : Tree} {made : Nat} (h : PT els T) (hw : TW T made) {p k : Nat} {l lk : List Nat} (hp : (p, l) ∈ T) (hk : (k, lk) ∈ T) (hr : RchT T p k) : ReachIn els p k := by
  obtain ⟨t, ht, hu⟩ := hr
  obtain ⟨x, hx, hxn⟩ := h.of' p l hp
  obtain ⟨i, hi, hxi⟩ := List.getElem_of_mem hx
  have hix : els[i]? = some x := by rw [List.getElem?_eq_getElem hi, hxi]
  obtain ⟨y, hy, hyn⟩ := h.of' k lk hk
  have hxd : x ∈ els.drop i := by
    rw [List.drop_eq_getElem_cons hi, hxi]
    exact List.mem_cons_self
  refine ⟨i, x, hix, by rw [hxn], ?_⟩
  have key : ∃ z ∈ els.drop i, z.par = x.par ∧ z.num = t := by
    unfold topsT at ht
    split at ht
    · rw [List.mem_singleton] at ht
      exact ⟨x, hxd, rfl, by rw [hxn, ht]⟩
    · rename_i h0
      have hpar := h.par hw hx
      have hne : x.par ≠ -1 := by rw [hpar, hxn]; omega
      have e1 := kidsOf_par h hw hx hne
      rw [hxn] at e1
      rw [e1, drop_nat, ← hxn, (takeWhile_kids h.nums hix).2] at ht
      rcases List.mem_cons.1 ht with h1 | h1
      · exact ⟨x, hxd, rfl, h1.symm⟩
      · rw [mem_kidsP] at h1
        obtain ⟨z, hz, h2, h3⟩ := h1
        exact ⟨z, List.mem_of_mem_drop (i := 1) (by rw [List.drop_drop]; exact hz), h2, h3⟩
  obtain ⟨z, hz, h1, h2⟩ := key
  refine ⟨z, hz, h1, y, hy, hyn, ?_⟩
  rw [← hyn] at hu
  rw [h2]
  exact (pt_within h hw hy (a := t) (by omega)).2 hu
end Go.Proofs.YtblfffbmklkhmaaGreat
