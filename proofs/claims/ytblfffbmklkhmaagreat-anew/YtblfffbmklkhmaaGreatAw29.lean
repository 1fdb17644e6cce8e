/- Own work. -/
import Derived.Test.YtblfffbmklkhmaaGreatAw28
import Derived.Test.YtblfffbmklkhmaaGreatAw13
import Derived.Test.YtblfffbmklkhmaaGreatAw9
namespace Go.Proofs.YtblfffbmklkhmaaGreat
open Go.RowKit
/-- The styles that are kept: of elements of the tree, each once, and right. -/
structure KOK (T : Tree) (M : Nat → Mk) (rs : List PRu) (kl : List (Int × List Int)) : Prop where
  nums : (kl.map Prod.fst).Nodup
  els : ∀ x ∈ kl, ∃ k l, x.1 = ((k : Nat) : Int) ∧ (k, l) ∈ T
  right : ∀ x ∈ kl, x.2 = styleV (viewT T M) rs x.1
theorem styleV_len (v : Vw) (rs : List PRu) (e : Int) : (styleV v rs e).length = 9 := by
  unfold styleV ofV
  rw [List.length_map, List.length_range]
section
variable {T T' : Tree} {made made' : Nat} {M M' : Nat → Mk} {rs : List PRu} {kl kl' : List (Int × List Int)} {R : Nat → Prop} {ok : PPt → Prop}
theorem kok_nil : KOK T M rs [] := ⟨by simp, fun _ h => (by cases h), fun _ h => by cases h⟩
theorem KOK.len (h : KOK T M rs kl) : kl.length ≤ T.length := by
  have h1 : (kl.map fun x => x.1.toNat).Nodup := by
    have h2 := h.nums
    have h3 := h.els
    clear h
    induction kl with
    | nil => simp
    | cons x l ih =>
      rw [List.map_cons, List.nodup_cons] at h2 ⊢
      refine ⟨fun hm => ?_, ih h2.2 (fun y hy => h3 y (List.mem_cons_of_mem _ hy))⟩
      obtain ⟨y, hy, he⟩ := List.mem_map.1 hm
      obtain ⟨k, _, hk, _⟩ := h3 x List.mem_cons_self
      obtain ⟨j, _, hj, _⟩ := h3 y (List.mem_cons_of_mem _ hy)
      exact h2.1 (List.mem_map.2 ⟨y, hy, by omega⟩)
  have := nodup_len h1 (m := T.map Prod.fst) (fun k hk => by
    obtain ⟨x, hx, rfl⟩ := List.mem_map.1 hk
    obtain ⟨j, l, hj, hl⟩ := h.els x hx
    exact List.mem_map.2 ⟨_, hl, by show j = _; omega⟩)
  simpa using this
theorem KOK.sub (h : KOK T M rs kl) (hs : kl'.Sublist kl) : KOK T M rs kl' := ⟨h.nums.sublist (hs.map _), fun x hx => h.els x (hs.subset hx), fun x hx => h.right x (hs.subset hx)⟩
theorem KOK.fwd (h : KOK T M rs kl) (hv : SameV (viewT T' M') (viewT T M) ok (Out T' R)) (hok : ∀ r ∈ rs, ∀ cs ∈ r.ss, ∀ c ∈ cs, ∀ p ∈ c.ps, ok p) (hs : kl'.Sublist kl) (ho : ∀ x ∈ kl', Out T' R x.1) : KOK T' M' rs kl' :=
  ⟨h.nums.sublist (hs.map _), fun x hx => by obtain ⟨k, l, h1, h2, _⟩ := ho x hx; exact ⟨k, l, h1, h2⟩, fun x hx => by rw [h.right x (hs.subset hx), style_loc hv hok (ho x hx)]⟩
theorem KOK.bwd (h : KOK T M rs kl) (hv : SameV (viewT T M) (viewT T' M') ok (Out T R)) (hok : ∀ r ∈ rs, ∀ cs ∈ r.ss, ∀ c ∈ cs, ∀ p ∈ c.ps, ok p) (hs : kl'.Sublist kl) (ho : ∀ x ∈ kl', Out T R x.1) (ht : ∀ x ∈ kl', ∃ k l, x.1 = ((k : Nat) : Int) ∧ (k, l) ∈ T') : KOK T' M' rs kl' :=
  ⟨h.nums.sublist (hs.map _), ht, fun x hx => by rw [h.right x (hs.subset hx), style_loc hv hok (ho x hx)]⟩
/-- The marks are other ones, the same of all elements. -/
theorem KOK.marks (h : KOK T M rs kl) (hw : TW T made) (hm : ∀ k l, (k, l) ∈ T → M k = M' k) : KOK T M' rs kl :=
  h.fwd (same_view (ok := fun _ => True) hw hw shut_no (fun _ _ hk _ => hk) (fun k l hk _ => by rw [hm k l hk]) (fun k l hk _ p _ _ _ _ => by rw [hm k l hk]) (fun k l hk _ p _ _ => by rw [hm k l hk])) (fun _ _ _ _ _ _ _ _ => trivial) (List.Sublist.refl _) (fun x hx => by
    obtain ⟨k, l, h1, h2⟩ := h.els x hx
    exact ⟨k, l, h1, h2, id⟩)
theorem KOK.ins (h : KOK T M rs kl) (hw : TW T made) {p k : Nat} {l : List Nat} (hp : (p, l) ∈ T) (mk : Mk) (hs : kl'.Sublist kl) (ho : ∀ x ∈ kl', ∀ j : Nat, x.1 = j → ¬ RchT (tIns T p k made) p j) : KOK (tIns T p k made) (setM M made mk) rs kl' := by
  have hw' : TW (tIns T p k made) (made + 1) := hw.ins ⟨l, hp⟩
  have hpl : p < made := hw.lt _ hp
  have hp' : (p, insL l k made) ∈ tIns T p k made := mem_tIns.2 (Or.inl ⟨(p, l), hp, rfl, by simp⟩)
  have hself := rch_self hw' hp'
  have hmade : RchT (tIns T p k made) p made := rch_kid hw' hp' (mem_insL.2 (Or.inl rfl)) hself
  have hin : ∀ k' l', (k', l') ∈ tIns T p k made → ¬ RchT (tIns T p k made) p k' → (k', l') ∈ T := by
    intro k' l' hk hr
    rcases mem_tIns.1 hk with ⟨x, hx, h1, h2⟩ | h1
    · have h1' : k' = x.1 := h1
      have h2' : l' = if x.1 = p then insL x.2 k made else x.2 := h2
      have hne : ¬ x.1 = p := fun e => hr (by rw [h1', e]; exact hself)
      rw [if_neg hne] at h2'
      rw [h1', h2']
      exact hx
    · injection h1 with h1 _
      exact absurd (by rw [h1]; exact hmade) hr
  have hmk : ∀ k' l', (k', l') ∈ tIns T p k made → ¬ RchT (tIns T p k made) p k' → setM M made mk k' = M k' := fun k' l' _ hr => by
    unfold setM
    rw [if_neg (fun e => hr (by rw [e]; exact hmade))]
  refine h.fwd (same_view (ok := fun _ => True) hw' hw (shut_rch hw' hp') hin (fun k' l' h1 h2 => by rw [hmk k' l' h1 h2]) (fun k' l' h1 h2 p _ _ _ _ => by rw [hmk k' l' h1 h2]) (fun k' l' h1 h2 p _ _ => by rw [hmk k' l' h1 h2])) (fun _ _ _ _ _ _ _ _ => trivial) hs (fun x hx => ?_)
  obtain ⟨j, lj, h1, h2⟩ := h.els x (hs.subset hx)
  exact ⟨j, if j = p then insL lj k made else lj, h1, mem_tIns.2 (Or.inl ⟨(j, lj), h2, rfl, rfl⟩), ho x hx j h1⟩
theorem under_trans {a b c : Nat} (h1 : tUnder T a b) (h2 : tUnder T b c) : tUnder T a c := by
  obtain ⟨h0, k, hk⟩ := h1
  obtain ⟨_, j, hj⟩ := h2
  exact ⟨h0, j + k, by rw [tUp_add, hj, hk]⟩
theorem KOK.rem (h : KOK T M rs kl) (hw : TW T made) {a : Nat} {la : List Nat} (ha : (a, la) ∈ T) (h0 : a ≠ 0) {q : Nat × List Nat} (hq : q ∈ T) (hm : a ∈ q.2) (hs : kl'.Sublist kl) (ho : ∀ x ∈ kl', ∀ j : Nat, x.1 = j → ¬ RchT T q.1 j) : KOK (tRem T a) M rs kl' := by
  have hw' : TW (tRem T a) made := hw.rem ha h0
  have hp : tPar T a = q.1 := hw.parent hq hm
  have hself := rch_self hw (p := q.1) (l := q.2) hq
  have hin : ∀ k' l', (k', l') ∈ T → ¬ RchT T q.1 k' → (k', l') ∈ tRem T a := by
    intro k' l' hk hr
    refine (mem_tRem hp).2 ⟨(k', l'), hk, fun hu => hr ?_, rfl, ?_⟩
    · refine ⟨q.1, tops_self hw (l := q.2) hq, under_trans ?_ hu⟩
      exact (hw.under_kid hq hm q.1).2 (Or.inr (under_self T q.1))
    · show l' = if k' = q.1 then _ else l'
      rw [if_neg (fun e => hr (by rw [e]; exact hself))]
  have hout : ∀ x ∈ kl', Out T (RchT T q.1) x.1 := fun x hx => by
    obtain ⟨j, lj, h1, h2⟩ := h.els x (hs.subset hx)
    exact ⟨j, lj, h1, h2, ho x hx j h1⟩
  refine h.bwd (same_view (ok := fun _ => True) hw hw' (shut_rch hw (l := q.2) hq) hin (fun _ _ _ _ => rfl) (fun _ _ _ _ _ _ _ _ _ => rfl) (fun _ _ _ _ _ _ _ => rfl)) (fun _ _ _ _ _ _ _ _ => trivial) hs hout (fun x hx => ?_)
  obtain ⟨j, lj, h1, h2, h3⟩ := hout x hx
  exact ⟨j, lj, h1, hin j lj h2 h3⟩
theorem KOK.mov (h : KOK T M rs kl) (hw : TW T made) {a p k : Nat} {la lp : List Nat} (ha : (a, la) ∈ T) (h0 : a ≠ 0) (hpp : (p, lp) ∈ T) (hnu : ¬ tUnder T a p) {q : Nat × List Nat} (hq : q ∈ T) (hm : a ∈ q.2) (hs : kl'.Sublist kl) (ho : ∀ x ∈ kl', ∀ j : Nat, x.1 = j → ¬ RchT (tMov T a p k) q.1 j ∧ ¬ RchT (tMov T a p k) p j) : KOK (tMov T a p k) M rs kl' := by
  have hw' : TW (tMov T a p k) made := hw.mov ha h0 hpp hnu
  have hpq : tPar T a = q.1 := hw.parent hq hm
  have mem : ∀ j lj, (j, lj) ∈ T → ∃ l, (j, l) ∈ tMov T a p k := fun j lj hj => ⟨if j = p then insL (noneOf a (if j = q.1 then noneOf a lj else lj)) k a else if j = q.1 then noneOf a lj else lj, (mem_tMov hpq).2 ⟨(j, lj), hj, rfl, rfl⟩⟩
  obtain ⟨lq, hq'⟩ := mem q.1 q.2 hq
  obtain ⟨lp', hp'⟩ := mem p lp hpp
  have hin : ∀ k' l', (k', l') ∈ tMov T a p k → ¬ (RchT (tMov T a p k) q.1 k' ∨ RchT (tMov T a p k) p k') → (k', l') ∈ T := by
    intro k' l' hk hr
    obtain ⟨x, hx, h1, h2⟩ := (mem_tMov hpq).1 hk
    have h1' : k' = x.1 := h1
    have hn1 : ¬ x.1 = p := fun e => hr (Or.inr (by rw [h1', e]; exact rch_self hw' hp'))
    have hn2 : ¬ x.1 = q.1 := fun e => hr (Or.inl (by rw [h1', e]; exact rch_self hw' hq'))
    have h2' : l' = x.2 := by
      have h3 : l' = if x.1 = p then insL (noneOf a (if x.1 = q.1 then noneOf a x.2 else x.2)) k a else if x.1 = q.1 then noneOf a x.2 else x.2 := h2
      rw [if_neg hn1, if_neg hn2] at h3
      exact h3
    rw [h1', h2']
    exact hx
  refine h.fwd (same_view (ok := fun _ => True) hw' hw (shut_or (shut_rch hw' hq') (shut_rch hw' hp')) hin (fun _ _ _ _ => rfl) (fun _ _ _ _ _ _ _ _ _ => rfl) (fun _ _ _ _ _ _ _ => rfl)) (fun _ _ _ _ _ _ _ _ => trivial) hs (fun x hx => ?_)
  obtain ⟨j, lj, h1, h2⟩ := h.els x (hs.subset hx)
  obtain ⟨l, hl⟩ := mem j lj h2
  have := ho x hx j h1
  exact ⟨j, l, h1, hl, fun h3 => h3.elim this.1 this.2⟩
theorem KOK.mark (h : KOK T M rs kl) (hw : TW T made) {p : Nat} {l : List Nat} (hp : (p, l) ∈ T) (mk : Mk) (hs : kl'.Sublist kl) (ho : ∀ x ∈ kl', ∀ j : Nat, x.1 = j → ¬ RchT T p j) : KOK T (setM M p mk) rs kl' := by
  have hmk : ∀ k' l', (k', l') ∈ T → ¬ RchT T p k' → setM M p mk k' = M k' := fun k' l' _ hr => by
    unfold setM
    rw [if_neg (fun e => hr (by rw [e]; exact rch_self hw hp))]
  refine h.fwd (same_view (ok := fun _ => True) hw hw (shut_rch hw hp) (fun _ _ hk _ => hk) (fun k' l' h1 h2 => by rw [hmk k' l' h1 h2]) (fun k' l' h1 h2 p _ _ _ _ => by rw [hmk k' l' h1 h2]) (fun k' l' h1 h2 p _ _ => by rw [hmk k' l' h1 h2])) (fun _ _ _ _ _ _ _ _ => trivial) hs (fun x hx => ?_)
  obtain ⟨j, lj, h1, h2⟩ := h.els x (hs.subset hx)
  exact ⟨j, lj, h1, h2, ho x hx j h1⟩
/-- Does a letter stand as a class (2) or a name (3) in a selector? -/
def namesB (rs : List PRu) (kd lt : Int) : Bool := rs.any fun r => r.ss.any fun cs => cs.any fun c => c.ps.any fun p => decide (p.kd = kd) && decide (p.lt = lt)
theorem names_no {kd lt : Int} (h : namesB rs kd lt = false) : ∀ r ∈ rs, ∀ cs ∈ r.ss, ∀ c ∈ cs, ∀ p ∈ c.ps, ¬ (p.kd = kd ∧ p.lt = lt) := by
  intro r hr cs hcs c hc p hp hx
  unfold namesB at h
  rw [List.any_eq_false] at h
  have h1 := h r hr
  rw [Bool.not_eq_true, List.any_eq_false] at h1
  have h2 := h1 cs hcs
  rw [Bool.not_eq_true, List.any_eq_false] at h2
  have h3 := h2 c hc
  rw [Bool.not_eq_true, List.any_eq_false] at h3
  have h4 := h3 p hp
  rw [hx.1, hx.2] at h4
  simp at h4
theorem KOK.cls (h : KOK T M rs kl) (hw : TW T made) {p : Nat} (s : ByteArray) (on : Bool) (hno : namesB rs 2 (bt s 0) = false ∨ (97 ≤ bt s 0 ∧ (M p).cl (bt s 0 - 97) = on)) : KOK T (setM M p (clsMk (M p) s on)) rs kl := by
  have hkd : ∀ k, (setM M p (clsMk (M p) s on) k).kd = (M k).kd := fun k => by
    unfold setM
    split
    · rename_i e; rw [e]; rfl
    · rfl
  have hnm : ∀ k, (setM M p (clsMk (M p) s on) k).nm = (M k).nm := fun k => by
    unfold setM
    split
    · rename_i e; rw [e]; rfl
    · rfl
  refine h.fwd (R := fun _ => False) (same_view (ok := fun x => namesB rs 2 (bt s 0) = false → ¬ (x.kd = 2 ∧ x.lt = bt s 0)) hw hw shut_no (fun _ _ hk _ => hk) (fun k l _ _ => hkd k) (fun k l _ _ x hx h2 h3 h4 => ?_) (fun k l _ _ x _ _ => by rw [hnm])) (fun r hr cs hcs c hc x hx hf => names_no hf r hr cs hcs c hc x hx) (List.Sublist.refl _) (fun x hx => by
    obtain ⟨k, l, h1, h2⟩ := h.els x hx
    exact ⟨k, l, h1, h2, id⟩)
  unfold setM
  split
  · rename_i e
    rw [e]
    show (if (x.lt - 97).toNat + 97 = bt s 0 then on else (M p).cl (x.lt - 97).toNat) = _
    split
    · rename_i e2
      rcases hno with hno | ⟨_, hno⟩
      · exact absurd ⟨h2, by omega⟩ (hx hno)
      · rw [← hno]
        congr 1
        omega
    · rfl
  · rfl
theorem KOK.nam (h : KOK T M rs kl) (hw : TW T made) {p : Nat} (s : ByteArray) (hno : (M p).nm = (namMk (M p) s).nm ∨ (namesB rs 3 (M p).nm = false ∧ namesB rs 3 (namMk (M p) s).nm = false)) : KOK T (setM M p (namMk (M p) s)) rs kl := by
  have hkd : ∀ k, (setM M p (namMk (M p) s) k).kd = (M k).kd := fun k => by
    unfold setM
    split
    · rename_i e; rw [e]; rfl
    · rfl
  have hcl : ∀ k, (setM M p (namMk (M p) s) k).cl = (M k).cl := fun k => by
    unfold setM
    split
    · rename_i e; rw [e]; rfl
    · rfl
  refine h.fwd (R := fun _ => False) (same_view (ok := fun x => (namesB rs 3 (M p).nm = false → ¬ (x.kd = 3 ∧ x.lt = (M p).nm)) ∧ (namesB rs 3 (namMk (M p) s).nm = false → ¬ (x.kd = 3 ∧ x.lt = (namMk (M p) s).nm))) hw hw shut_no (fun _ _ hk _ => hk) (fun k l _ _ => hkd k) (fun k l _ _ x hx h2 h3 h4 => by rw [hcl]) (fun k l _ _ x hx h3 => ?_)) (fun r hr cs hcs c hc x hx => ⟨fun hf => names_no hf r hr cs hcs c hc x hx, fun hf => names_no hf r hr cs hcs c hc x hx⟩) (List.Sublist.refl _) (fun x hx => by
    obtain ⟨k, l, h1, h2⟩ := h.els x hx
    exact ⟨k, l, h1, h2, id⟩)
  unfold setM
  split
  · rename_i e
    rw [e]
    rcases hno with hno | ⟨h1, h2⟩
    · rw [hno]
    · have e1 : ((namMk (M p) s).nm == x.lt) = false := by
        rw [beq_eq_false_iff_ne]
        exact fun e => hx.2 h2 ⟨h3, e.symm⟩
      have e2 : ((M p).nm == x.lt) = false := by
        rw [beq_eq_false_iff_ne]
        exact fun e => hx.1 h1 ⟨h3, e.symm⟩
      rw [e1, e2]
  · rfl
end
theorem KOK.more {T : Tree} {M : Nat → Mk} {rs : List PRu} {kl : List (Int × List Int)} (h : KOK T M rs kl) {k : Nat} {l : List Nat} (hk : (k, l) ∈ T) (hn : ∀ x ∈ kl, x.1 ≠ ((k : Nat) : Int)) : KOK T M rs (kl ++ [((k : Int), styleV (viewT T M) rs k)]) := by
  refine ⟨?_, fun x hx => ?_, fun x hx => ?_⟩
  · rw [List.map_append, List.nodup_append]
    refine ⟨h.nums, by simp, fun a ha b hb => ?_⟩
    obtain ⟨x, hx, rfl⟩ := List.mem_map.1 ha
    have : b = (k : Int) := by simpa using hb
    rw [this]
    exact hn x hx
  · rcases List.mem_append.1 hx with hx | hx
    · exact h.els x hx
    · rw [List.mem_singleton] at hx
      rw [hx]
      exact ⟨k, l, rfl, hk⟩
  · rcases List.mem_append.1 hx with hx | hx
    · exact h.right x hx
    · rw [List.mem_singleton] at hx
      rw [hx]
/-- The style of an element by that of its parent. -/
def comesV (T : Tree) (M : Nat → Mk) (rs : List PRu) : List Int → List Int
  | [] => initP
  | x :: _ => styleV (viewT T M) rs x
theorem above_next {T : Tree} {made : Nat} (h : TW T made) {k : Nat} {l : List Nat} (hk : (k, l) ∈ T) : aboveT T T.length k = [] ∨ ∃ q ∈ T, k ∈ q.2 ∧ aboveT T T.length k = (q.1 : Int) :: aboveT T T.length q.1 := by
  by_cases h0 : k = 0
  · left
    subst h0
    cases hl : T.length with
    | zero => rfl
    | succ n =>
      show (if tPar T 0 = -1 then [] else _) = _
      rw [if_pos h.root_par]
  · obtain ⟨q, hq, hm, hp⟩ := h.up hk h0
    refine Or.inr ⟨q, hq, hm, ?_⟩
    rw [h.above_any hk (j := T.length + 1) (by omega)]
    show (if tPar T k = -1 then [] else tPar T k :: aboveT T T.length (tPar T k)) = _
    rw [hp, if_neg (by omega)]
theorem style_next {T : Tree} {made : Nat} (h : TW T made) {M : Nat → Mk} {rs : List PRu} {k : Nat} {l : List Nat} (hk : (k, l) ∈ T) : styleV (viewT T M) rs k = ofV (viewT T M) rs k (comesV T M rs (aboveT T T.length k)) := by
  have e1 : styleV (viewT T M) rs k = ofV (viewT T M) rs k ((aboveT T T.length k).foldr (fun x comes => ofV (viewT T M) rs x comes) initP) := rfl
  rw [e1]
  congr 1
  rcases above_next h hk with h1 | ⟨q, hq, _, h1⟩
  · rw [h1]
    rfl
  · rw [h1]
    rfl
theorem above_drop {T : Tree} {made : Nat} (h : TW T made) : ∀ (i : Nat) {k : Nat} {l : List Nat}, (k, l) ∈ T → ∀ {x : Int}, (aboveT T T.length k)[i]? = some x → ∃ j lj, x = ((j : Nat) : Int) ∧ (j, lj) ∈ T ∧ aboveT T T.length x = (aboveT T T.length k).drop (i + 1)
  | 0, k, l, hk, x, hx => by
    rcases above_next h hk with h1 | ⟨q, hq, _, h1⟩
    · rw [h1] at hx; cases hx
    · rw [h1] at hx ⊢
      have : (q.1 : Int) = x := by simpa using hx
      subst this
      exact ⟨q.1, q.2, rfl, hq, rfl⟩
  | i + 1, k, l, hk, x, hx => by
    rcases above_next h hk with h1 | ⟨q, hq, _, h1⟩
    · rw [h1] at hx; cases hx
    · rw [h1] at hx ⊢
      rw [List.getElem?_cons_succ] at hx
      obtain ⟨j, lj, h2, h3, h4⟩ := above_drop h i (k := q.1) (l := q.2) hq hx
      exact ⟨j, lj, h2, h3, h4⟩
end Go.Proofs.YtblfffbmklkhmaaGreat

namespace Go.Proofs.YtblfffbmklkhmaaGreat
open Go.RowKit
def kCells (x : Int × List Int) : List Value := .int .i64 x.1 :: intsZ x.2
def flatK (kl : List (Int × List Int)) : List Value := kl.flatMap kCells
theorem kCells_len {x : Int × List Int} (h : x.2.length = 9) : (kCells x).length = 10 := by
  unfold kCells
  rw [List.length_cons, List.length_map, h]
theorem kCells_one (x : Int × List Int) : ∀ v ∈ kCells x, v.oneCell' = true := by
  intro v hv
  unfold kCells at hv
  rcases List.mem_cons.1 hv with rfl | hv
  · rfl
  · obtain ⟨y, _, rfl⟩ := List.mem_map.1 hv
    rfl
theorem flatK_at {kl : List (Int × List Int)} (h : ∀ x ∈ kl, x.2.length = 9) {i j : Nat} (hi : i < kl.length) (hj : j < 10) : (flatK kl)[i * 10 + j]? = (kCells kl[i])[j]? := by
  induction kl generalizing i with
  | nil => simp at hi
  | cons x l ih =>
    have h1 := kCells_len (h x List.mem_cons_self)
    unfold flatK
    rw [List.flatMap_cons]
    cases i with
    | zero =>
      rw [List.getElem?_append_left (by omega)]
      simp
    | succ i =>
      rw [List.getElem?_append_right (by omega), h1, show (i + 1) * 10 + j - 10 = i * 10 + j from by omega]
      have := ih (fun e he => h e (List.mem_cons_of_mem _ he)) (i := i) (by simpa using hi)
      unfold flatK at this
      rw [this]
      simp
theorem flatK_snoc (L : List (Int × List Int)) (x : Int × List Int) : flatK (L ++ [x]) = flatK L ++ kCells x := by simp [flatK]
/-- The kept styles in memory. -/
structure KL (w : World) (v : Value) (kl : List (Int × List Int)) : Prop where
  row : w.ownsRow 0 196 10 v kl.length (flatK kl)
  nine : ∀ x ∈ kl, x.2.length = 9
theorem KL.below {w w' : World} {v : Value} {kl : List (Int × List Int)} (h : KL w v kl) (hB : Below w.heap.size w w') : KL w' v kl := ⟨own_below h.row hB, h.nine⟩
theorem KL.shape {w : World} {v : Value} {kl : List (Int × List Int)} (h : KL w v kl) : ∃ a c, v = .slice a kl.length c := own_shape h.row
theorem Tryz.sizeK : (Tryz.prog.info? 196).map (·.size) = some 10 := by kernel_rfl
theorem Tryz.infoK : ∃ (i : TypeInfo) (z : Value), Tryz.prog.info? 196 = some i ∧ i.zero = some z ∧ i.size = 10 ∧ i.bytes = 80 ∧ z.cells.size = 10 := by
  have h : (Tryz.prog.info? 196).map (fun i => (i.zero.map (·.cells.size), i.size, i.bytes)) = some (some 10, 10, 80) := by kernel_rfl
  cases hq : Tryz.prog.info? 196 with
  | none => rw [hq] at h; cases h
  | some i =>
    rw [hq] at h
    simp only [Option.map_some, Option.some.injEq, Prod.mk.injEq] at h
    cases hz : i.zero with
    | none => rw [hz] at h; cases h.1
    | some z =>
      rw [hz] at h
      simp only [Option.map_some, Option.some.injEq] at h
      exact ⟨i, z, rfl, hz, h.2.1, h.2.2, h.1⟩
/-- One of them at a place. -/
structure KAt (w : World) (g o : Nat) (cs : List Value) (n : Int) : Prop where
  rng : w.rangeAt g o cs
  len : cs.length = 10
  one : ∀ v ∈ cs, v.oneCell' = true
  c0 : cs[0]? = some (.int .i64 n)
section
variable {w : World} {g o : Nat} {cs : List Value} {n : Int}
theorem KAt.size (h : KAt w g o cs n) : (Tryz.prog.info? 196).map (·.size) = some cs.length := by rw [h.len]; exact Tryz.sizeK
theorem KAt.size' (h : KAt w g o cs n) : (Tryz.prog.info? 196).map (·.size) = some cs.toArray.size := by rw [List.size_toArray]; exact h.size
theorem KAt.same (h : KAt w g o cs n) : 10 = cs.toArray.size := by rw [List.size_toArray, h.len]
theorem KAt.all (h : KAt w g o cs n) : cs.toArray.all (·.oneCell') = true := all_oneCell_toArray h.one
theorem KAt.info (h : KAt w g o cs n) {m : Nat} (hn : m = 10) : m = cs.toArray.size := by rw [hn]; exact h.same
theorem KAt.pos (h : KAt w g o cs n) : 0 < cs.toArray.size := by rw [← h.same]; omega
theorem KAt.small (h : KAt w g o cs n) : cs.toArray.size ≤ 1000 := by rw [← h.same]; omega
theorem KAt.len1 (h : KAt w g o cs n) : cs.length = 1 * 10 := by rw [h.len]
theorem KAt.below {wr : World} {base : Nat} (h : KAt w g o cs n) (hB : Below base w wr) (hg : g < base) : KAt wr g o cs n := ⟨range_below hB hg h.rng, h.len, h.one, h.c0⟩
theorem KAt.new (h : KAt w g o cs n) (w' : World) : KAt (w'.alloc (.cells cs.toArray 196)) w'.heap.size 0 cs n := by
  refine ⟨fun j v hv => ?_, h.len, h.one, h.c0⟩
  rw [Nat.zero_add, cell_of_row _ _ j cs.toArray 196 (0, 0) (heap_alloc_new w' _)]
  simpa using hv
end
theorem KL.el {w : World} {a : Option Addr} {c : Nat} {kl : List (Int × List Int)} (h : KL w (.slice a kl.length c) kl) {i : Nat} (hi : i < kl.length) : ∃ g, a = some ⟨g, 0, none⟩ ∧ g < w.heap.size ∧ KAt w g (i * 10) (kCells kl[i]) kl[i].1 := by
  obtain ⟨g, hg, hgl, hc⟩ := own_cells h.row (by omega)
  have hl := kCells_len (h.nine _ (List.getElem_mem hi))
  refine ⟨g, hg, hgl, fun j v hv => hc _ _ ?_, hl, kCells_one _, rfl⟩
  have hj : j < 10 := by
    have := (List.getElem?_eq_some_iff.1 hv).1
    omega
  rw [flatK_at h.nine hi hj]
  exact hv
section
set_option maxRecDepth 100000
set_option maxHeartbeats 4000000
theorem pisIn_any (w : World) (al : Option Addr) (cl : Nat) (L : List Int) (n : Int) (h : RowI w al L) (hL : L.length ≤ 1000) : Calls Tryz.prog 121 #[.slice al L.length cl, .int .i64 n] w fun e w' => PBool w (L.contains n) e w' := by
  have HI : Hid (RowI w al L) := h
  clear h
  go_enter Tryz.func121, Tryz.ntmps121
  go_wp2_with fail
  go_loopg [9] L.length (fun gk iv wr => ∃ i : Nat, iv = .int .i64 i ∧ i ≤ L.length ∧ L.length - i ≤ gk ∧ Hid (Below w.heap.size w wr ∧ ∀ j (_ : j < L.length), j < i → ¬ L[j] = n))
  case atStart => exact ⟨0, rfl, Nat.zero_le _, by omega, Below.refl _ _, fun j _ h => by omega⟩
  case round =>
    obtain ⟨i, rfl, hi, hgk, HN⟩ := hrel
    by_cases hli : i < L.length
    · have hd : decide ((i : Int) < (L.length : Int)) = true := by simp; omega
      obtain ⟨g2, hg2, hgl2, hq2⟩ := HI.out i hli
      subst hg2
      have q1 := (HN.out.1.cell (p := ⟨g2, i, none⟩) hgl2).trans hq2
      rw [List.getElem?_eq_getElem hli] at q1
      replace q1 : wr.cell? ⟨g2, i, none⟩ = some (.int .i64 L[i]) := q1
      have HNX : Hid (¬ L[i] = n → ∀ j (_ : j < L.length), j < i + 1 → ¬ L[j] = n) := fun hm j hj h1 => by
        by_cases e : j = i
        · subst e; exact hm
        · exact HN.out.2 j hj (by omega)
      have HY : Hid (L[i] = n → L.contains n = true) := fun h => by
        rw [List.contains_iff_mem]
        exact h ▸ List.getElem_mem hli
      clear hq2
      generalize L[i] = o at q1 HNX HY
      by_cases ho : o = n
      · have go : (o == n) = true := by simp [ho]
        have HR : Hid (PBool w (L.contains n) (.returned (.bool true)) wr) := ⟨by rw [HY.out ho], HN.out.1⟩
        clear ho
        go_wp2
        go_ret
        exact HR.out
      · have go : (o == n) = false := by simp [ho]
        have HN2 : Hid (Below w.heap.size w wr ∧ ∀ j (_ : j < L.length), j < i + 1 → ¬ L[j] = n) := ⟨HN.out.1, HNX.out ho⟩
        clear ho
        go_wp2
        go_roundg (L.length - (i + 1))
        case measure => omega
        case rel => exact ⟨i + 1, by go_num, by omega, Nat.le_refl _, HN2⟩
    · have hd : decide ((i : Int) < (L.length : Int)) = false := by simp; omega
      have HR : Hid (PBool w (L.contains n) (.returned (.bool false)) wr) := by
        refine ⟨?_, HN.out.1⟩
        have : L.contains n = false := by
          rw [Bool.eq_false_iff]
          intro h
          rw [List.contains_iff_mem] at h
          obtain ⟨j, hj, h1⟩ := List.getElem_of_mem h
          exact HN.out.2 j hj (by omega) h1
        rw [this]
      go_wp2
      go_ret
      exact HR.out
def dropK (L : List Int) (kl : List (Int × List Int)) : List (Int × List Int) := kl.filter fun x => !L.contains x.1
theorem dropK_take {L : List Int} {kl : List (Int × List Int)} {i : Nat} (h : i < kl.length) : dropK L (kl.take (i + 1)) = if L.contains kl[i].1 = true then dropK L (kl.take i) else dropK L (kl.take i) ++ [kl[i]] := by
  unfold dropK
  rw [List.take_succ_eq_append_getElem h, List.filter_append]
  cases hu : L.contains kl[i].1 with
  | true => simp only [List.filter_cons, hu, Bool.not_true]; simp
  | false => simp only [List.filter_cons, hu, Bool.not_false]; simp
theorem dropK_len (L : List Int) (kl : List (Int × List Int)) : (dropK L kl).length ≤ kl.length := List.length_filter_le _ _
/-- In the midst of Drop. -/
structure KI (base : Nat) (W wr : World) (v : Value) (L : List (Int × List Int)) : Prop where
  own : wr.ownsRow base 196 10 v L.length (flatK L)
  below : Below base W wr
theorem KI.app {base : Nat} {W wr : World} {v : Value} {L : List (Int × List Int)} (h : KI base W wr v L) {w2 w3 : World} {v3 : Value} {x : Int × List Int} (hb : Below base W w2) (hz : base ≤ w2.heap.size) (hg : w2.grownBy w3 v.ownBlock) (ho : w3.ownsRow base 196 10 v3 (L.length + 1) (flatK L ++ kCells x)) : KI base W w3 v3 (L ++ [x]) := by
  refine ⟨?_, hb.grown hg hz (fun k hk => (h.own.lt k hk).1)⟩
  rw [flatK_snoc, List.length_append]
  exact ho
def PDropPost (w : World) (b : Nat) (kl : List (Int × List Int)) (e : Ending) (w' : World) : Prop :=
  e = .returned (.tuple #[]) ∧ ∃ (w1 : World) (a : Option Addr) (c : Nat), Below w.heap.size w w1 ∧ w1.ownsRow w.heap.size 196 10 (.slice a kl.length c) kl.length (flatK kl) ∧ w' = w1.setCell ⟨b, 3, none⟩ (.slice a kl.length c)
theorem pdrop_any (w : World) (b : Nat) (cur : Array Value) (v : Value) (kl : List (Int × List Int)) (al : Option Addr) (cl : Nat) (L : List Int) (hb : w.heap[b]? = some (.cells cur 90 (0, 0))) (hv3 : cur[3]? = some v) (h : KL w v kl) (hfew : kl.length ≤ 24) (hI : RowI w al L) (hL : L.length ≤ 1000) :
    Calls Tryz.prog 76 #[.pointer (some ⟨b, 3, none⟩), .slice al L.length cl] w fun e w' => PDropPost w b (dropK L kl) e w' := by
  obtain ⟨i0, z0, hi, iz, is, ib, izs⟩ := Tryz.infoK
  obtain ⟨a, c, hv⟩ := h.shape
  subst hv
  have HBK : Hid (w.heap[b]? = some (.cells cur 90 (0, 0))) := hb
  have HP : Hid (KL w (.slice a kl.length c) kl) := h
  have HIL : Hid (RowI w al L) := hI
  have hbl : b < w.heap.size := (Array.getElem?_eq_some_iff.1 hb).1
  have q3 : w.cell? ⟨b, 3, none⟩ = some (.slice a kl.length c) := cell_of_blk hb hv3
  have HV3 : Hid (cur[3]? = some (.slice a kl.length c)) := hv3
  clear h hI hb hv3
  have HW0 : Hid (KI w.heap.size w w (.slice none 0 0) (dropK L (kl.take 0))) := ⟨World.ownsRow_nil _ _ _ _, Below.refl _ _⟩
  go_enter Tryz.func76, Tryz.ntmps76
  go_wp2_with fail
  go_loopg [4, 12] kl.length (fun gk v iv wr => ∃ i : Nat, iv = .int .i64 i ∧ i ≤ kl.length ∧ kl.length - i ≤ gk ∧ Hid (KI w.heap.size w wr v (dropK L (kl.take i))))
  case atStart => exact ⟨0, rfl, Nat.zero_le _, by omega, HW0⟩
  case round =>
    obtain ⟨i, rfl, hil, hgk, HN⟩ := hrel
    obtain ⟨a2, c2, hv2⟩ := own_shape HN.out.own
    subst hv2
    have hll : (dropK L (kl.take i)).length ≤ 24 := by
      have h1 := dropK_len L (kl.take i)
      have h2 : (kl.take i).length ≤ kl.length := List.length_take_le' _ _
      omega
    have hbz := HN.out.below.size
    by_cases hlt : i < kl.length
    · have hd : decide ((i : Int) < (kl.length : Int)) = true := by simp; omega
      obtain ⟨g, hg, hgl, he⟩ := HP.out.el hlt
      subst hg
      have HE : Hid (KAt wr g (i * 10) (kCells kl[i]) kl[i].1) := he.below HN.out.below hgl
      have HST : Hid (dropK L (kl.take (i + 1)) = if L.contains kl[i].1 = true then dropK L (kl.take i) else dropK L (kl.take i) ++ [kl[i]]) := dropK_take hlt
      clear he
      generalize kl[i] = y at HE HST
      obtain ⟨cs, hcs⟩ : ∃ cs, kCells y = cs := ⟨_, rfl⟩
      have HCY : Hid (kCells y = cs) := hcs
      rw [hcs] at HE
      clear hcs
      have c0 : cs[0]? = some (.int .i64 y.1) := HE.out.c0
      generalize dropK L (kl.take i) = R at HN HST hll ⊢
      have HEY1 : Hid (KAt (wr.alloc (.cells cs.toArray 196)) wr.heap.size 0 cs y.1) := HE.out.new wr
      have HI1 : Hid (RowI (wr.alloc (.cells cs.toArray 196)) al L) := HIL.out.below (HN.out.below.alloc hbz _)
      go_wp2_with (first | (refine wpList_load_mid rfl 196 _ rfl g (i * 10) rfl cs _ HE.out.rng Tryz.underlying196 rfl HE.out.size ?_) | (refine wpList_store_new rfl 196 _ _ rfl _ cs.toArray 196 rfl rfl HE.out.size' HE.out.same HE.out.all ?_))
      refine (pisIn_any (wr.alloc (.cells cs.toArray 196)) al cl L y.1 HI1.out hL).mono ?_
      rintro e w3 ⟨rfl, hB3⟩
      have hz3 : wr.heap.size + 1 ≤ w3.heap.size := by have := hB3.size; simpa using this
      have HB3 : Hid (Below (wr.heap.size + 1) (wr.alloc (.cells cs.toArray 196)) w3) := by simpa [Hid] using hB3
      have HN3 : Hid (KI w.heap.size w w3 (.slice a2 R.length c2) R) := ⟨own_below (HN.out.own.alloc _) hB3, (HN.out.below.alloc hbz _).trans (hB3.mono (by simp; omega))⟩
      have HEY3 : Hid (KAt w3 wr.heap.size 0 cs y.1) := HEY1.out.below HB3.out (by omega)
      clear hB3 HN HEY1 HE HB3 HI1 c0
      cases hr : L.contains y.1 with
      | true =>
        have HW5 : Hid (KI w.heap.size w w3 (.slice a2 R.length c2) (dropK L (kl.take (i + 1)))) := by
          rw [HST.out, if_pos hr]
          exact HN3.out
        clear HST hr
        go_wp2
        go_roundg (kl.length - (i + 1))
        case measure => omega
        case rel => exact ⟨i + 1, by go_num, by omega, Nat.le_refl _, HW5⟩
      | false =>
        have HST2 : Hid (dropK L (kl.take (i + 1)) = R ++ [y]) := by
          unfold Hid
          rw [HST.out, if_neg (by rw [hr]; decide)]
        clear HST hr
        go_wp2_with (first | (refine wpList_load_mid rfl 196 _ rfl (wr.heap.size) (0) rfl cs _ HEY3.out.rng Tryz.underlying196 rfl HEY3.out.size ?_) | (refine wpList_buildOneAt w3.heap.size rfl rfl 86 196 _ rfl cs.toArray rfl i0 z0 Tryz.underlying86 hi iz (HEY3.out.info is) (HEY3.out.pos) (HEY3.out.small) ?_) | (at_builtin; refine wpList_append_own _ rfl (.tmp 21) (.tmp 23) 86 rfl (w.heap.size) 196 i0 z0 10 80 Tryz.underlying86 hi iz is ib izs (by decide) _ _ _ rfl (HN3.out.own.alloc _) ⟨w3.heap.size, 0, none⟩ 1 1 cs rfl HEY3.out.len1 ?c1 HEY3.out.one ?c3 ?c4 ?c5 ?_))
        case c1 => exact new_cells w3 _ rfl _ _ _ (by simp)
        case c3 => unfold maxLen; omega
        case c4 => omega
        case c5 => simp; omega
        intro v5 w5 own5 hg5 _
        have HW5 : Hid (KI w.heap.size w w5 v5 (dropK L (kl.take (i + 1)))) := by
          rw [HST2.out]
          exact HN3.out.app (HN3.out.below.alloc (by omega) _) (by simp; omega) hg5 (by rw [HCY.out]; exact own5)
        clear own5 hg5 HN3 HEY3
        go_wp2
        go_roundg (kl.length - (i + 1))
        case measure => omega
        case rel => exact ⟨i + 1, by go_num, by omega, Nat.le_refl _, HW5⟩
    · have hd : decide ((i : Int) < (kl.length : Int)) = false := by simp; omega
      obtain rfl : i = kl.length := by omega
      rw [List.take_length] at HN hll ⊢
      have hb1 : wr.heap[b]? = some (.cells cur 90 (0, 0)) := (HN.out.below.block b hbl).trans HBK.out
      have e1 : wr.cell? ⟨b, 3, none⟩ = some (.slice a kl.length c) := cell_of_blk hb1 HV3.out
      have ez : wr.frozen? ⟨b, 3, none⟩ = false := frozen_of_blk hb1
      have HE : Hid (PDropPost w b (dropK L kl) (.returned (.tuple #[])) (wr.setCell ⟨b, 3, none⟩ (.slice a2 (dropK L kl).length c2))) := ⟨rfl, wr, a2, c2, HN.out.below, HN.out.own, rfl⟩
      clear hb1 q3
      generalize (dropK L kl).length = n5 at HE hll ⊢
      go_wp2
      go_end0
      exact HE.out
end
end Go.Proofs.YtblfffbmklkhmaaGreat
