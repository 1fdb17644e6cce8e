/- Own work. -/
import Derived.Test.YtblfffbmklkhmaaGreatProgTN
import Derived.Test.YtblfffbmklkhmaaGreatProgRV
namespace Go.Proofs.YtblfffbmklkhmaaGreat
open Go.RowKit

/-! The meaning, by what can be asked of the elements. -/
structure Vw where
  ty : Int → Int → Bool
  cl : Int → Int → Bool
  nm : Int → Int → Bool
  ab : Int → List Int
  ah : Int → List Int
  la : Int → Bool
  em : Int → Bool
def simpV (v : Vw) (p : PPt) (e : Int) : Bool :=
  if p.kd = 1 then v.ty e p.lt else if p.kd = 2 then v.cl e p.lt else if p.kd = 3 then v.nm e p.lt
  else if p.kd = 4 then decide (((v.ah e).length : Int) + 1 = 1) else if p.kd = 5 then v.la e else if p.kd = 6 then v.em e
  else if p.kd = 7 then nthP (((v.ah e).length : Int) + 1) p.st p.sr else false
def compV (v : Vw) (c : PCp) (e : Int) : Bool := (c.ty == 0 || v.ty e c.ty) && c.ps.all fun p => simpV v p e != p.nt
def signedV (v : Vw) (sg e : Int) : List Int := if sg = 32 then v.ab e else if sg = 62 then (v.ab e).take 1 else if sg = 126 then v.ah e else if sg = 43 then (v.ah e).take 1 else []
def chainV (v : Vw) : List PCp → Int → Bool
  | [], _ => false
  | [c], e => compV v c e
  | c :: d :: r, e => compV v c e && (signedV v c.sg e).any (chainV v (d :: r))
def matchV (v : Vw) (cs : List PCp) (e : Int) : Bool := chainV v cs.reverse e
def weighStepV (v : Vw) (e : Int) (a : Int × Bool) (cs : List PCp) : Int × Bool := if matchV v cs e then (max a.1 ((cws cs : Nat) : Int), true) else a
def weighV (v : Vw) (e : Int) (ss : List (List PCp)) : Int × Bool := ss.foldl (weighStepV v e) (0, false)
def ruleStepV (v : Vw) (e : Int) (W : List Clm) (r : PRu) : List Clm := if (weighV v e r.ss).2 then afterP W r (weighV v e r.ss).1 else W
def winnersV (v : Vw) (rs : List PRu) (e : Int) : List Clm := rs.foldl (ruleStepV v e) (List.replicate 9 Clm.none)
def ofV (v : Vw) (rs : List PRu) (e : Int) (comes : List Int) : List Int := (List.range 9).map fun p => valueF (winnersV v rs e) comes 9 p
def styleV (v : Vw) (rs : List PRu) (e : Int) : List Int := ofV v rs e ((v.ab e).foldr (fun x comes => ofV v rs x comes) initP)

def viewP (els : List PEl) : Vw := ⟨hasTypeP els, hasClassP els, hasNameP els, aboveP els els.length, aheadP els, lastP els, emptyP els⟩
theorem chain_view (els : List PEl) : ∀ (cs : List PCp) (e : Int), chainR els cs e = chainV (viewP els) cs e
  | [], _ => rfl
  | [_], _ => rfl
  | c :: d :: r, e => by
    have ih : chainR els (d :: r) = chainV (viewP els) (d :: r) := funext fun x => chain_view els (d :: r) x
    show (compP els c e && (signedP els c.sg e).any (chainR els (d :: r))) = (compV (viewP els) c e && (signedV (viewP els) c.sg e).any (chainV (viewP els) (d :: r)))
    rw [ih]
    rfl
theorem match_view (els : List PEl) (cs : List PCp) (e : Int) : matchP els cs e = matchV (viewP els) cs e := chain_view els _ e
theorem weigh_view (els : List PEl) (e : Int) : weighP els e = weighV (viewP els) e := by
  have : weighStep els e = weighStepV (viewP els) e := by
    funext a cs
    unfold weighStep weighStepV
    rw [match_view]
  funext ss
  unfold weighP weighV
  rw [this]
theorem winners_view (els : List PEl) (rs : List PRu) (e : Int) : winnersP els rs e = winnersV (viewP els) rs e := by
  have : ruleStep els e = ruleStepV (viewP els) e := by
    funext W r
    unfold ruleStep ruleStepV
    rw [weigh_view]
  unfold winnersP winnersV
  rw [this]
theorem of_view (els : List PEl) (rs : List PRu) : ofP els rs = ofV (viewP els) rs := by
  funext e comes
  unfold ofP ofV
  rw [winners_view]
theorem style_view (els : List PEl) (rs : List PRu) (e : Int) : styleP els rs e = styleV (viewP els) rs e := by
  unfold styleP styleV
  rw [of_view]
  rfl

/-! The same of a tree with marks. -/
def kidsOf (T : Tree) (p : Int) : List Nat := (tFind T p).getD []
def hasTypeT (T : Tree) (M : Nat → Mk) (e l : Int) : Bool := (tFind T e).isSome && (M e.toNat).kd == l
def hasClassT (T : Tree) (M : Nat → Mk) (e l : Int) : Bool := (tFind T e).isSome && (decide (97 ≤ l ∧ l ≤ 122) && (M e.toNat).cl (l - 97).toNat)
def hasNameT (T : Tree) (M : Nat → Mk) (e l : Int) : Bool := (tFind T e).isSome && (M e.toNat).nm == l
def aboveT (T : Tree) : Nat → Int → List Int
  | 0, _ => []
  | k + 1, e => if tPar T e = -1 then [] else tPar T e :: aboveT T k (tPar T e)
def aheadT (T : Tree) (e : Int) : List Int := if (tFind T e).isSome then (((kidsOf T (tPar T e)).takeWhile fun (k : Nat) => decide (¬ (k : Int) = e)).map fun (k : Nat) => (k : Int)).reverse else []
def lastT (T : Tree) (e : Int) : Bool := (tFind T e).isSome && decide (((kidsOf T (tPar T e)).dropWhile fun (k : Nat) => decide (¬ (k : Int) = e)).length ≤ 1)
def emptyT (T : Tree) (e : Int) : Bool := (tFind T e).isSome && (kidsOf T e).isEmpty
def viewT (T : Tree) (M : Nat → Mk) : Vw := ⟨hasTypeT T M, hasClassT T M, hasNameT T M, aboveT T T.length, aheadT T, lastT T, emptyT T⟩

section
variable {els : List PEl} {T : Tree} {made : Nat} {M : Nat → Mk}
theorem findP_isSome (h : PT els T) (hw : TW T made) (e : Int) : (findP els e).isSome = (tFind T e).isSome := by
  cases hf : findP els e with
  | none => rw [h.find_none hf]; rfl
  | some x => rw [(h.find_some hw hf).1]; rfl
theorem above_eq (h : PT els T) (hw : TW T made) : ∀ k e, aboveP els k e = aboveT T k e
  | 0, _ => rfl
  | k + 1, e => by
    have e1 := h.parP hw e
    show (if parP els e = -1 then [] else parP els e :: aboveP els k (parP els e)) = (if tPar T e = -1 then [] else tPar T e :: aboveT T k (tPar T e))
    rw [e1, above_eq h hw k]
theorem split_at {i : Nat} {x : PEl} (hx : els[i]? = some x) : els = els.take i ++ x :: els.drop (i + 1) := by
  obtain ⟨hi, he⟩ := List.getElem?_eq_some_iff.1 hx
  rw [← he, ← List.drop_eq_getElem_cons hi, List.take_append_drop]
theorem kids_split {i : Nat} {x : PEl} (hx : els[i]? = some x) : kidsP els x.par = kidsP (els.take i) x.par ++ x.num :: kidsP (els.drop (i + 1)) x.par := by
  conv => lhs; rw [split_at hx]
  rw [kidsP_append, show x :: els.drop (i + 1) = [x] ++ els.drop (i + 1) from rfl, kidsP_append, kidsP_one, if_pos rfl]
  rfl
theorem not_ahead (hn : (els.map PEl.num).Nodup) {i : Nat} {x : PEl} (hx : els[i]? = some x) : ∀ k ∈ kidsP (els.take i) x.par, k ≠ x.num := by
  intro k hk e
  rw [mem_kidsP] at hk
  obtain ⟨y, hy, _, h2⟩ := hk
  have hs := split_at hx
  rw [hs, List.map_append, List.nodup_append] at hn
  exact hn.2.2 y.num (List.mem_map.2 ⟨y, hy, rfl⟩) x.num (by simp) (by rw [h2, e])
theorem takeWhile_kids (hn : (els.map PEl.num).Nodup) {i : Nat} {x : PEl} (hx : els[i]? = some x) : (kidsP els x.par).takeWhile (fun (k : Nat) => decide (¬ (k : Int) = (x.num : Int))) = kidsP (els.take i) x.par ∧ (kidsP els x.par).dropWhile (fun (k : Nat) => decide (¬ (k : Int) = (x.num : Int))) = x.num :: kidsP (els.drop (i + 1)) x.par := by
  have hna := not_ahead hn hx
  have h1 : ∀ k ∈ kidsP (els.take i) x.par, decide (¬ (k : Int) = (x.num : Int)) = true := fun k hk => by
    have := hna k hk
    rw [decide_eq_true_eq]
    omega
  rw [kids_split hx]
  constructor
  · rw [List.takeWhile_append_of_pos h1]
    simp
  · rw [List.dropWhile_append_of_pos h1]
    simp
/-- The root alone has no parent. -/
theorem root_only (h : PT els T) (hw : TW T made) {x y : PEl} (hx : x ∈ els) (hy : y ∈ els) (h1 : x.par = -1) (h2 : y.par = -1) : x = y := by
  have z : ∀ z ∈ els, z.par = -1 → z.num = 0 := fun z hz hp => by
    by_cases h0 : z.num = 0
    · exact h0
    · obtain ⟨l, hl⟩ := h.to' z hz
      obtain ⟨q, hq, _, hpq⟩ := hw.up hl h0
      have := h.par hw hz
      rw [hp, hpq] at this
      omega
  exact pel_inj h.nums hx hy (by rw [z x hx h1, z y hy h2])
theorem kidsOf_par (h : PT els T) (hw : TW T made) {x : PEl} (hx : x ∈ els) (hp : x.par ≠ -1) : kidsOf T (tPar T x.num) = kidsP els x.par := by
  rw [← h.par hw hx]
  have h2 := h.par hw hx
  rcases tPar_cases T x.num with ⟨h1, _⟩ | ⟨e, he, _, h1⟩
  · rw [h1] at h2; exact absurd h2 hp
  · rw [h2, h1]
    unfold kidsOf
    rw [tFind_mem hw.nums (k := e.1) (l := e.2) he]
    show e.2 = _
    exact h.kids e.1 e.2 he
theorem none_par (h : PT els T) (hw : TW T made) {x : PEl} (hx : x ∈ els) (hp : x.par = -1) : kidsOf T (tPar T x.num) = [] := by
  rw [← h.par hw hx, hp]
  unfold kidsOf
  cases ht : tFind T (-1) with
  | none => rfl
  | some l =>
    obtain ⟨k, hk, _⟩ := tFind_some ht
    omega
theorem mem_ofIdx {i : Nat} {x : PEl} (hx : els[i]? = some x) : x ∈ els := List.mem_of_getElem? hx
theorem root_ahead (h : PT els T) (hw : TW T made) {i : Nat} {x : PEl} (hx : els[i]? = some x) (hp : x.par = -1) : kidsP (els.take i) x.par = [] ∧ kidsP (els.drop (i + 1)) x.par = [] := by
  have hd : (els.map PEl.num).Nodup := h.nums
  have hs := split_at hx
  constructor
  · rw [List.eq_nil_iff_forall_not_mem]
    intro k hk
    rw [mem_kidsP] at hk
    obtain ⟨y, hy, h1, _⟩ := hk
    have := root_only h hw (mem_ofIdx hx) (List.mem_of_mem_take hy) hp (h1.trans hp)
    subst this
    rw [hs, List.map_append, List.nodup_append] at hd
    exact hd.2.2 x.num (List.mem_map.2 ⟨x, hy, rfl⟩) x.num (by simp) rfl
  · rw [List.eq_nil_iff_forall_not_mem]
    intro k hk
    rw [mem_kidsP] at hk
    obtain ⟨y, hy, h1, _⟩ := hk
    have := root_only h hw (mem_ofIdx hx) (List.mem_of_mem_drop hy) hp (h1.trans hp)
    subst this
    rw [hs, List.map_append, List.nodup_append] at hd
    have h3 := hd.2.1
    rw [List.map_cons, List.nodup_cons] at h3
    exact h3.1 (List.mem_map.2 ⟨x, hy, rfl⟩)
theorem idx_find {e : Int} {x : PEl} (hn : (els.map PEl.num).Nodup) (hf : findP els e = some x) : els[idxP els e]? = some x := by
  obtain ⟨hm, he⟩ := findP_some hf
  obtain ⟨i, hi, hx⟩ := List.getElem_of_mem hm
  have h1 : els[i]? = some x := by rw [List.getElem?_eq_getElem hi, hx]
  have h2 := idx_of hn h1
  rw [he] at h2
  rw [h2]
  exact h1
theorem ahead_eq (h : PT els T) (hw : TW T made) (e : Int) : aheadP els e = aheadT T e := by
  unfold aheadP aheadT
  cases hf : findP els e with
  | none => rw [h.find_none hf]; rfl
  | some x =>
    have hi := idx_find h.nums hf
    obtain ⟨hm, rfl⟩ := findP_some hf
    rw [(h.find_some hw hf).1]
    show aheadOf els (idxP els x.num) x.par = (((kidsOf T (tPar T x.num)).takeWhile fun (k : Nat) => decide (¬ (k : Int) = (x.num : Int))).map fun (k : Nat) => (k : Int)).reverse
    have e1 : aheadOf els (idxP els x.num) x.par = ((kidsP (els.take (idxP els x.num)) x.par).map fun (k : Nat) => (k : Int)).reverse := by
      unfold aheadOf kidsP
      rw [List.map_map]
      rfl
    rw [e1]
    by_cases hp : x.par = -1
    · rw [none_par h hw hm hp, (root_ahead h hw hi hp).1]
      rfl
    · rw [kidsOf_par h hw hm hp, (takeWhile_kids h.nums hi).1]
theorem last_eq (h : PT els T) (hw : TW T made) (e : Int) : lastP els e = lastT T e := by
  unfold lastP lastT
  cases hf : findP els e with
  | none => rw [h.find_none hf]; rfl
  | some x =>
    have hi := idx_find h.nums hf
    obtain ⟨hm, rfl⟩ := findP_some hf
    rw [(h.find_some hw hf).1]
    show ((els.drop (idxP els x.num + 1)).all fun y => decide (¬ y.par = x.par)) = (true && decide (((kidsOf T (tPar T x.num)).dropWhile fun (k : Nat) => decide (¬ (k : Int) = (x.num : Int))).length ≤ 1))
    have e1 : ((els.drop (idxP els x.num + 1)).all fun y => decide (¬ y.par = x.par)) = decide (kidsP (els.drop (idxP els x.num + 1)) x.par = []) := by
      rw [Bool.eq_iff_iff, List.all_eq_true, decide_eq_true_eq]
      constructor
      · intro h1
        rw [List.eq_nil_iff_forall_not_mem]
        intro k hk
        rw [mem_kidsP] at hk
        obtain ⟨y, hy, h2, _⟩ := hk
        have := h1 y hy
        rw [decide_eq_true_eq] at this
        exact this h2
      · intro h1 y hy
        rw [decide_eq_true_eq]
        intro h2
        have : y.num ∈ kidsP (els.drop (idxP els x.num + 1)) x.par := mem_kidsP.2 ⟨y, hy, h2, rfl⟩
        rw [h1] at this
        cases this
    rw [e1, Bool.true_and]
    by_cases hp : x.par = -1
    · rw [none_par h hw hm hp, (root_ahead h hw hi hp).2]
      rfl
    · rw [kidsOf_par h hw hm hp, (takeWhile_kids h.nums hi).2]
      cases kidsP (els.drop (idxP els x.num + 1)) x.par <;> simp
theorem empty_eq (h : PT els T) (hw : TW T made) (e : Int) : emptyP els e = emptyT T e := by
  unfold emptyP emptyT
  rw [findP_isSome h hw, Bool.and_comm]
  cases ht : tFind T e with
  | none => rfl
  | some l =>
    show (true && _) = (true && _)
    rw [Bool.true_and, Bool.true_and]
    have hk : kidsOf T e = kidsP els e := by
      unfold kidsOf
      rw [ht]
      obtain ⟨k, rfl, hk⟩ := tFind_some ht
      exact h.kids k l hk
    rw [hk, Bool.eq_iff_iff, List.all_eq_true, List.isEmpty_iff]
    constructor
    · intro h1
      rw [List.eq_nil_iff_forall_not_mem]
      intro k hk
      rw [mem_kidsP] at hk
      obtain ⟨y, hy, h2, _⟩ := hk
      have := h1 y hy
      rw [decide_eq_true_eq] at this
      exact this h2
    · intro h1 y hy
      rw [decide_eq_true_eq]
      intro h2
      have : y.num ∈ kidsP els e := mem_kidsP.2 ⟨y, hy, h2, rfl⟩
      rw [h1] at this
      cases this
theorem view_eq (h : PT els T) (hw : TW T made) (hM : Marks els M) : viewP els = viewT T M := by
  have e1 : hasTypeP els = hasTypeT T M := by
    funext e l
    unfold hasTypeP hasTypeT
    rw [← findP_isSome h hw]
    cases hf : findP els e with
    | none => rfl
    | some x =>
      obtain ⟨hm, rfl⟩ := findP_some hf
      show (kindP x == l) = (true && ((M x.num).kd == l))
      rw [(hM x hm).1, Bool.true_and]
  have e2 : hasClassP els = hasClassT T M := by
    funext e l
    unfold hasClassP hasClassT
    rw [← findP_isSome h hw]
    cases hf : findP els e with
    | none => rfl
    | some x =>
      obtain ⟨hm, rfl⟩ := findP_some hf
      show (if 97 ≤ l ∧ l ≤ 122 then classP x (l - 97).toNat else false) = (true && (decide (97 ≤ l ∧ l ≤ 122) && (M x.num).cl (l - 97).toNat))
      by_cases hl : 97 ≤ l ∧ l ≤ 122
      · rw [if_pos hl, decide_eq_true hl, (hM x hm).2.1 _ (by omega)]; rfl
      · rw [if_neg hl, decide_eq_false hl]; rfl
  have e3 : hasNameP els = hasNameT T M := by
    funext e l
    unfold hasNameP hasNameT
    rw [← findP_isSome h hw]
    cases hf : findP els e with
    | none => rfl
    | some x =>
      obtain ⟨hm, rfl⟩ := findP_some hf
      show (nameP x == l) = (true && ((M x.num).nm == l))
      rw [(hM x hm).2.2, Bool.true_and]
  unfold viewP viewT
  rw [e1, e2, e3, h.len hw, funext (above_eq h hw T.length), funext (ahead_eq h hw), funext (last_eq h hw), funext (empty_eq h hw)]
theorem style_eq (h : PT els T) (hw : TW T made) (hM : Marks els M) (rs : List PRu) (e : Int) : styleP els rs e = styleV (viewT T M) rs e := by rw [style_view, view_eq h hw hM]
end

end Go.Proofs.YtblfffbmklkhmaaGreat

namespace Go.Proofs.YtblfffbmklkhmaaGreat
open Go.RowKit

/-! Two views that agree on a set which holds with an element all above it and all ahead of it. -/
structure SameV (v v' : Vw) (ok : PPt → Prop) (S : Int → Prop) : Prop where
  ty : ∀ e, S e → ∀ l, v.ty e l = v'.ty e l
  sm : ∀ e, S e → ∀ p, ok p → simpV v p e = simpV v' p e
  ab : ∀ e, S e → v.ab e = v'.ab e
  ah : ∀ e, S e → v.ah e = v'.ah e
  sab : ∀ e, S e → ∀ x ∈ v.ab e, S x
  sah : ∀ e, S e → ∀ x ∈ v.ah e, S x
section
variable {v v' : Vw} {ok : PPt → Prop} {S : Int → Prop}
theorem all_congr' {α : Type} {f g : α → Bool} : ∀ {l : List α}, (∀ x ∈ l, f x = g x) → l.all f = l.all g
  | [], _ => rfl
  | x :: l, h => by
    rw [List.all_cons, List.all_cons, h x List.mem_cons_self, all_congr' (fun y hy => h y (List.mem_cons_of_mem _ hy))]
theorem any_congr' {α : Type} {f g : α → Bool} : ∀ {l : List α}, (∀ x ∈ l, f x = g x) → l.any f = l.any g
  | [], _ => rfl
  | x :: l, h => by
    rw [List.any_cons, List.any_cons, h x List.mem_cons_self, any_congr' (fun y hy => h y (List.mem_cons_of_mem _ hy))]
theorem foldl_congr' {α β : Type} {f g : β → α → β} : ∀ {l : List α} {b : β}, (∀ x ∈ l, ∀ b, f b x = g b x) → l.foldl f b = l.foldl g b
  | [], _, _ => rfl
  | x :: l, b, h => by
    rw [List.foldl_cons, List.foldl_cons, h x List.mem_cons_self b, foldl_congr' (fun y hy => h y (List.mem_cons_of_mem _ hy))]
theorem foldr_congr' {α β : Type} {f g : α → β → β} : ∀ {l : List α} {b : β}, (∀ x ∈ l, ∀ b, f x b = g x b) → l.foldr f b = l.foldr g b
  | [], _, _ => rfl
  | x :: l, b, h => by
    rw [List.foldr_cons, List.foldr_cons, foldr_congr' (fun y hy => h y (List.mem_cons_of_mem _ hy)), h x List.mem_cons_self]
theorem comp_loc (h : SameV v v' ok S) {e : Int} (he : S e) {c : PCp} (hc : ∀ p ∈ c.ps, ok p) : compV v c e = compV v' c e := by
  unfold compV
  rw [h.ty e he, all_congr' (fun p hp => by rw [h.sm e he p (hc p hp)])]
theorem signed_loc (h : SameV v v' ok S) {e : Int} (he : S e) (sg : Int) : signedV v sg e = signedV v' sg e ∧ ∀ x ∈ signedV v sg e, S x := by
  refine ⟨?_, fun x hx => ?_⟩
  · unfold signedV
    rw [h.ab e he, h.ah e he]
  · unfold signedV at hx
    split at hx
    · exact h.sab e he x hx
    · split at hx
      · exact h.sab e he x (List.mem_of_mem_take hx)
      · split at hx
        · exact h.sah e he x hx
        · split at hx
          · exact h.sah e he x (List.mem_of_mem_take hx)
          · cases hx
theorem chain_loc (h : SameV v v' ok S) : ∀ (cs : List PCp), (∀ c ∈ cs, ∀ p ∈ c.ps, ok p) → ∀ e, S e → chainV v cs e = chainV v' cs e
  | [], _, _, _ => rfl
  | [c], hc, _, he => comp_loc h he (hc c List.mem_cons_self)
  | c :: d :: r, hc, e, he => by
    show (compV v c e && (signedV v c.sg e).any (chainV v (d :: r))) = (compV v' c e && (signedV v' c.sg e).any (chainV v' (d :: r)))
    rw [comp_loc h he (hc c List.mem_cons_self), ← (signed_loc h he c.sg).1, any_congr' (fun x hx => chain_loc h (d :: r) (fun c' hc' => hc c' (List.mem_cons_of_mem _ hc')) x ((signed_loc h he c.sg).2 x hx))]
theorem match_loc (h : SameV v v' ok S) {cs : List PCp} (hc : ∀ c ∈ cs, ∀ p ∈ c.ps, ok p) {e : Int} (he : S e) : matchV v cs e = matchV v' cs e := chain_loc h _ (fun c hx => hc c (List.mem_reverse.1 hx)) e he
theorem weigh_loc (h : SameV v v' ok S) {ss : List (List PCp)} (hc : ∀ cs ∈ ss, ∀ c ∈ cs, ∀ p ∈ c.ps, ok p) {e : Int} (he : S e) : weighV v e ss = weighV v' e ss := by
  unfold weighV
  refine foldl_congr' fun cs hcs a => ?_
  unfold weighStepV
  rw [match_loc h (hc cs hcs) he]
theorem winners_loc (h : SameV v v' ok S) {rs : List PRu} (hc : ∀ r ∈ rs, ∀ cs ∈ r.ss, ∀ c ∈ cs, ∀ p ∈ c.ps, ok p) {e : Int} (he : S e) : winnersV v rs e = winnersV v' rs e := by
  unfold winnersV
  refine foldl_congr' fun r hr W => ?_
  unfold ruleStepV
  rw [weigh_loc h (hc r hr) he]
theorem of_loc (h : SameV v v' ok S) {rs : List PRu} (hc : ∀ r ∈ rs, ∀ cs ∈ r.ss, ∀ c ∈ cs, ∀ p ∈ c.ps, ok p) {e : Int} (he : S e) (comes : List Int) : ofV v rs e comes = ofV v' rs e comes := by
  unfold ofV
  rw [winners_loc h hc he]
theorem style_loc (h : SameV v v' ok S) {rs : List PRu} (hc : ∀ r ∈ rs, ∀ cs ∈ r.ss, ∀ c ∈ cs, ∀ p ∈ c.ps, ok p) {e : Int} (he : S e) : styleV v rs e = styleV v' rs e := by
  unfold styleV
  rw [h.ab e he, of_loc h hc he, foldr_congr' (fun x hx b => of_loc h hc (h.sab e he x (by rw [h.ab e he]; exact hx)) b)]
end

/-! The way up, whatever the fuel. -/
theorem above_fuel (T : Tree) : ∀ (j i : Nat) (e : Int), tUp T (j + 1) e < 0 → aboveT T j e = aboveT T (j + i) e
  | 0, 0, _, _ => rfl
  | 0, i + 1, e, h => by
    have h1 : tPar T e < 0 := h
    have h2 : tPar T e = -1 := by
      rcases tPar_cases T e with ⟨h3, _⟩ | ⟨q, _, _, h3⟩
      · exact h3
      · omega
    rw [Nat.zero_add]
    show [] = if tPar T e = -1 then [] else _
    rw [if_pos h2]
  | j + 1, i, e, h => by
    have e1 : j + 1 + i = (j + i) + 1 := by omega
    rw [e1]
    show (if tPar T e = -1 then [] else tPar T e :: aboveT T j (tPar T e)) = (if tPar T e = -1 then [] else tPar T e :: aboveT T (j + i) (tPar T e))
    rw [above_fuel T j i (tPar T e) h]
theorem TW.up_end {T : Tree} {made : Nat} (h : TW T made) {k : Nat} {l : List Nat} (hk : (k, l) ∈ T) {j : Nat} (hj : T.length ≤ j) : tUp T j k < 0 := by
  obtain ⟨rk, hr⟩ := h.rank
  rcases Int.lt_or_le (tUp T j k) 0 with h1 | h1
  · exact h1
  · obtain ⟨L, hL, hd, hin, _⟩ := h.chain hr h1 j k ⟨l, hk⟩ rfl
    have := nodup_len hd (m := T.map Prod.fst) (fun x hx => by
      obtain ⟨c, hc⟩ := hin x hx
      exact List.mem_map.2 ⟨_, hc, rfl⟩)
    simp at this
    omega
theorem TW.above_any {T : Tree} {made : Nat} (h : TW T made) {k : Nat} {l : List Nat} (hk : (k, l) ∈ T) {j : Nat} (hj : T.length ≤ j) : aboveT T T.length k = aboveT T j k := by
  have := above_fuel T T.length (j - T.length) k (h.up_end hk (by omega))
  rw [this]
  congr 1
  omega

/-! What may be told on: an element, its siblings behind it, all below these. -/
def topsT (T : Tree) (p : Nat) : List Nat := if tPar T p < 0 then [p] else (kidsOf T (tPar T p)).dropWhile fun (k : Nat) => decide (¬ k = p)
def RchT (T : Tree) (p : Nat) (x : Nat) : Prop := ∃ t ∈ topsT T p, tUnder T t x
theorem drop_from {l : List Nat} {p : Nat} (hp : p ∈ l) : ∃ A B, l = A ++ p :: B ∧ p ∉ A ∧ (l.dropWhile fun (k : Nat) => decide (¬ k = p)) = p :: B := by
  induction l with
  | nil => cases hp
  | cons x l ih =>
    by_cases h : x = p
    · subst h
      exact ⟨[], l, rfl, by simp, by simp⟩
    · rcases List.mem_cons.1 hp with h1 | h1
      · exact absurd h1.symm h
      · obtain ⟨A, B, h2, h3, h4⟩ := ih h1
        refine ⟨x :: A, B, by rw [h2]; rfl, by rw [List.mem_cons]; exact fun h5 => h5.elim (fun h6 => h h6.symm) h3, ?_⟩
        rw [List.dropWhile_cons_of_pos (by simpa using h)]
        exact h4
theorem ahead_in {l : List Nat} (hn : l.Nodup) {p j k : Nat} (hp : p ∈ l) (hk : k ∈ l) (hj : j ∈ l.takeWhile fun (x : Nat) => decide (¬ (x : Int) = (k : Int))) (hjd : j ∈ l.dropWhile fun (x : Nat) => decide (¬ x = p)) : k ∈ l.dropWhile fun (x : Nat) => decide (¬ x = p) := by
  obtain ⟨A, B, h1, _, h2⟩ := drop_from hp
  rw [h2] at hjd ⊢
  rw [h1, List.mem_append] at hk
  rcases hk with hk | hk
  · exfalso
    obtain ⟨C, D, h3, _, _⟩ := drop_from hk
    have h4 : ∀ x ∈ (l.takeWhile fun (x : Nat) => decide (¬ (x : Int) = (k : Int))), x ∈ C := by
      intro x hx
      rw [h1, h3, List.append_assoc] at hx
      have : ∀ (C : List Nat) (E : List Nat), x ∈ ((C ++ (k :: E)).takeWhile fun (x : Nat) => decide (¬ (x : Int) = (k : Int))) → x ∈ C := by
        intro C E
        induction C with
        | nil => intro h; simp at h
        | cons c C ih =>
          intro h
          rw [List.cons_append, List.takeWhile_cons] at h
          split at h
          · rcases List.mem_cons.1 h with rfl | h
            · exact List.mem_cons_self
            · exact List.mem_cons_of_mem _ (ih h)
          · cases h
      exact this C _ hx
    have h5 : j ∈ A := by rw [h3]; exact List.mem_append_left _ (h4 j hj)
    rw [h1, List.nodup_append] at hn
    exact hn.2.2 j h5 j hjd rfl
  · exact hk
section
variable {T T' : Tree} {made made' : Nat}
theorem kidsOf_mem (h : TW T made) {q : Nat} {l : List Nat} (hq : (q, l) ∈ T) : kidsOf T q = l := by
  unfold kidsOf
  rw [tFind_mem h.nums hq]
  rfl
theorem tops_self (h : TW T made) {p : Nat} {l : List Nat} (_hp : (p, l) ∈ T) : p ∈ topsT T p := by
  unfold topsT
  split
  · simp
  · rename_i h0
    rcases tPar_cases T p with ⟨h1, _⟩ | ⟨q, hq, h1, h2⟩
    · omega
    · rw [h2, kidsOf_mem h (q := q.1) (l := q.2) hq]
      obtain ⟨A, B, _, _, h3⟩ := drop_from (tHas_nat.1 h1)
      rw [h3]
      exact List.mem_cons_self
theorem rch_self (h : TW T made) {p : Nat} {l : List Nat} (hp : (p, l) ∈ T) : RchT T p p := ⟨p, tops_self h hp, under_self T p⟩
theorem rch_kid (h : TW T made) {p : Nat} {q : Nat × List Nat} (hq : q ∈ T) {k : Nat} (hk : k ∈ q.2) (hr : RchT T p q.1) : RchT T p k := by
  obtain ⟨t, ht, hu⟩ := hr
  exact ⟨t, ht, (h.under_kid hq hk t).2 (Or.inr hu)⟩
/-- Who is not told on: nor are those ahead. -/
theorem rch_ahead (h : TW T made) {p : Nat} {l : List Nat} (hp : (p, l) ∈ T) {q : Nat × List Nat} (hq : q ∈ T) {j k : Nat} (hk : k ∈ q.2) (hj : j ∈ q.2.takeWhile fun (x : Nat) => decide (¬ (x : Int) = (k : Int))) (hr : RchT T p j) : RchT T p k := by
  have hjm : j ∈ q.2 := (List.takeWhile_sublist _).subset hj
  obtain ⟨t, ht, hu⟩ := hr
  rcases (h.under_kid hq hjm t).1 hu with h1 | h1
  · subst h1
    unfold topsT at ht
    split at ht
    · rename_i h0
      rw [List.mem_singleton] at ht
      subst ht
      have := h.parent hq hjm
      omega
    · rename_i h0
      rcases tPar_cases T p with ⟨h1, _⟩ | ⟨f, hf, h1, h2⟩
      · omega
      · have hpf := tHas_nat.1 h1
        have hfq : f = q := by
          rw [h2, kidsOf_mem h (q := f.1) (l := f.2) hf] at ht
          exact h.one f hf q hq j ((List.dropWhile_sublist _).subset ht) hjm
        subst hfq
        rw [h2, kidsOf_mem h (q := f.1) (l := f.2) hf] at ht
        refine ⟨k, ?_, under_self T k⟩
        unfold topsT
        rw [if_neg h0, h2, kidsOf_mem h (q := f.1) (l := f.2) hf]
        exact ahead_in (h.kdup f hf) hpf hk hj ht
  · exact ⟨t, ht, (h.under_kid hq hk t).2 (Or.inr h1)⟩

/-- A set of elements that holds with one all below it, and with one that is ahead all behind it. -/
structure Shut (T : Tree) (R : Nat → Prop) : Prop where
  kid : ∀ q ∈ T, ∀ k ∈ q.2, R q.1 → R k
  next : ∀ q ∈ T, ∀ k ∈ q.2, ∀ j ∈ q.2.takeWhile (fun (x : Nat) => decide (¬ (x : Int) = (k : Int))), R j → R k
theorem shut_rch (h : TW T made) {p : Nat} {l : List Nat} (hp : (p, l) ∈ T) : Shut T (RchT T p) := ⟨fun _ hq _ hk hr => rch_kid h hq hk hr, fun _ hq _ hk _ hj hr => rch_ahead h hp hq hk hj hr⟩
theorem shut_or {R R' : Nat → Prop} (h : Shut T R) (h' : Shut T R') : Shut T (fun k => R k ∨ R' k) := ⟨fun q hq k hk hr => hr.imp (h.kid q hq k hk) (h'.kid q hq k hk), fun q hq k hk j hj hr => hr.imp (h.next q hq k hk j hj) (h'.next q hq k hk j hj)⟩
theorem shut_no : Shut T (fun _ => False) := ⟨fun _ _ _ _ h => h, fun _ _ _ _ _ _ h => h⟩

variable {M M' : Nat → Mk} {R : Nat → Prop} {ok : PPt → Prop}
/-- The set of those that are not told on. -/
def Out (T : Tree) (R : Nat → Prop) (e : Int) : Prop := ∃ k l, e = (k : Nat) ∧ (k, l) ∈ T ∧ ¬ R k
theorem par_same (h : TW T made) (h' : TW T' made') (hs : Shut T R) (hin : ∀ k l, (k, l) ∈ T → ¬ R k → (k, l) ∈ T') {k : Nat} {l : List Nat} (hk : (k, l) ∈ T) (hr : ¬ R k) : tPar T' k = tPar T k ∧ (tPar T k = -1 ∨ ∃ q ∈ T, k ∈ q.2 ∧ tPar T k = q.1 ∧ ¬ R q.1 ∧ q ∈ T') := by
  by_cases h0 : k = 0
  · subst h0
    exact ⟨h'.root_par.trans h.root_par.symm, Or.inl h.root_par⟩
  · obtain ⟨q, hq, hm, hp⟩ := h.up hk h0
    have hqr : ¬ R q.1 := fun hx => hr (hs.kid q hq k hm hx)
    have hq' : q ∈ T' := hin q.1 q.2 hq hqr
    exact ⟨by rw [hp]; exact h'.parent hq' hm, Or.inr ⟨q, hq, hm, hp, hqr, hq'⟩⟩
theorem above_same (h : TW T made) (h' : TW T' made') (hs : Shut T R) (hin : ∀ k l, (k, l) ∈ T → ¬ R k → (k, l) ∈ T') : ∀ (n k : Nat) (l : List Nat), (k, l) ∈ T → ¬ R k → aboveT T n k = aboveT T' n k ∧ ∀ x ∈ aboveT T n k, Out T R x
  | 0, _, _, _, _ => ⟨rfl, fun x hx => by cases hx⟩
  | n + 1, k, l, hk, hr => by
    obtain ⟨h1, h2⟩ := par_same h h' hs hin hk hr
    show (if tPar T k = -1 then [] else tPar T k :: aboveT T n (tPar T k)) = (if tPar T' k = -1 then [] else tPar T' k :: aboveT T' n (tPar T' k)) ∧ ∀ x ∈ (if tPar T k = -1 then [] else tPar T k :: aboveT T n (tPar T k)), Out T R x
    rw [h1]
    rcases h2 with h2 | ⟨q, hq, hm, hp, hqr, hq'⟩
    · rw [if_pos h2, if_pos h2]
      exact ⟨rfl, fun x hx => by cases hx⟩
    · have hne : ¬ tPar T k = -1 := by omega
      rw [if_neg hne, if_neg hne, hp]
      obtain ⟨h3, h4⟩ := above_same h h' hs hin n q.1 q.2 hq hqr
      refine ⟨by rw [h3], fun x hx => ?_⟩
      rcases List.mem_cons.1 hx with rfl | hx
      · exact ⟨q.1, q.2, rfl, hq, hqr⟩
      · exact h4 x hx
theorem sib_same (h : TW T made) (h' : TW T' made') (hs : Shut T R) (hin : ∀ k l, (k, l) ∈ T → ¬ R k → (k, l) ∈ T') {k : Nat} {l : List Nat} (hk : (k, l) ∈ T) (hr : ¬ R k) : kidsOf T (tPar T k) = kidsOf T' (tPar T' k) := by
  obtain ⟨h1, h2⟩ := par_same h h' hs hin hk hr
  rw [h1]
  rcases h2 with h2 | ⟨q, hq, hm, hp, hqr, hq'⟩
  · rw [h2]
    have : ∀ T : Tree, kidsOf T (-1) = [] := fun T => by
      unfold kidsOf
      cases ht : tFind T (-1) with
      | none => rfl
      | some l =>
        obtain ⟨k, hk, _⟩ := tFind_some ht
        omega
    rw [this, this]
  · rw [hp, kidsOf_mem h (q := q.1) (l := q.2) hq, kidsOf_mem h' (q := q.1) (l := q.2) hq']
theorem same_view (h : TW T made) (h' : TW T' made') (hs : Shut T R) (hin : ∀ k l, (k, l) ∈ T → ¬ R k → (k, l) ∈ T')
    (hkd : ∀ k l, (k, l) ∈ T → ¬ R k → (M k).kd = (M' k).kd) (hcl : ∀ k l, (k, l) ∈ T → ¬ R k → ∀ p, ok p → p.kd = 2 → 97 ≤ p.lt → p.lt ≤ 122 → (M k).cl (p.lt - 97).toNat = (M' k).cl (p.lt - 97).toNat) (hnm : ∀ k l, (k, l) ∈ T → ¬ R k → ∀ p, ok p → p.kd = 3 → ((M k).nm == p.lt) = ((M' k).nm == p.lt)) :
    SameV (viewT T M) (viewT T' M') ok (Out T R) := by
  have hty : ∀ e, Out T R e → ∀ l, hasTypeT T M e l = hasTypeT T' M' e l := by
    rintro _ ⟨k, l, rfl, hk, hr⟩ x
    unfold hasTypeT
    rw [tFind_mem h.nums hk, tFind_mem h'.nums (hin k l hk hr), Int.toNat_natCast, hkd k l hk hr]
  have hah : ∀ e, Out T R e → aheadT T e = aheadT T' e := by
    rintro _ ⟨k, l, rfl, hk, hr⟩
    unfold aheadT
    rw [tFind_mem h.nums hk, tFind_mem h'.nums (hin k l hk hr), sib_same h h' hs hin hk hr]
  refine ⟨hty, ?_, ?_, hah, ?_, ?_⟩
  · rintro _ ⟨k, l, rfl, hk, hr⟩ p hp
    have ht := tFind_mem h.nums hk
    have ht' := tFind_mem h'.nums (hin k l hk hr)
    have e1 := hty k ⟨k, l, rfl, hk, hr⟩ p.lt
    have e4 := hah k ⟨k, l, rfl, hk, hr⟩
    have e2 : p.kd = 2 → hasClassT T M k p.lt = hasClassT T' M' k p.lt := fun h2 => by
      unfold hasClassT
      rw [ht, ht', Int.toNat_natCast]
      by_cases hl : 97 ≤ p.lt ∧ p.lt ≤ 122
      · rw [hcl k l hk hr p hp h2 hl.1 hl.2]
      · rw [decide_eq_false hl]
        rfl
    have e3 : p.kd = 3 → hasNameT T M k p.lt = hasNameT T' M' k p.lt := fun h3 => by
      unfold hasNameT
      rw [ht, ht', Int.toNat_natCast, hnm k l hk hr p hp h3]
    have e5 : lastT T k = lastT T' k := by
      unfold lastT
      rw [ht, ht', sib_same h h' hs hin hk hr]
    have e6 : emptyT T k = emptyT T' k := by
      unfold emptyT
      rw [ht, ht', kidsOf_mem h hk, kidsOf_mem h' (hin k l hk hr)]
    unfold simpV
    show (if p.kd = 1 then hasTypeT T M k p.lt else if p.kd = 2 then hasClassT T M k p.lt else if p.kd = 3 then hasNameT T M k p.lt else if p.kd = 4 then decide (((aheadT T k).length : Int) + 1 = 1) else if p.kd = 5 then lastT T k else if p.kd = 6 then emptyT T k else if p.kd = 7 then nthP (((aheadT T k).length : Int) + 1) p.st p.sr else false) = (if p.kd = 1 then hasTypeT T' M' k p.lt else if p.kd = 2 then hasClassT T' M' k p.lt else if p.kd = 3 then hasNameT T' M' k p.lt else if p.kd = 4 then decide (((aheadT T' k).length : Int) + 1 = 1) else if p.kd = 5 then lastT T' k else if p.kd = 6 then emptyT T' k else if p.kd = 7 then nthP (((aheadT T' k).length : Int) + 1) p.st p.sr else false)
    rw [e1, e4, e5, e6]
    by_cases h2 : p.kd = 2
    · rw [e2 h2]
      by_cases h3 : p.kd = 3
      · omega
      · rw [if_neg h3, if_neg h3]
    · rw [if_neg h2, if_neg h2]
      by_cases h3 : p.kd = 3
      · rw [e3 h3]
      · rw [if_neg h3, if_neg h3]
  · rintro _ ⟨k, l, rfl, hk, hr⟩
    show aboveT T T.length k = aboveT T' T'.length k
    rw [h.above_any hk (j := T.length + T'.length) (by omega), h'.above_any (hin k l hk hr) (j := T.length + T'.length) (by omega)]
    exact (above_same h h' hs hin _ k l hk hr).1
  · rintro _ ⟨k, l, rfl, hk, hr⟩
    exact (above_same h h' hs hin T.length k l hk hr).2
  · rintro _ ⟨k, l, rfl, hk, hr⟩ x hx
    have hx' : x ∈ aheadT T k := hx
    unfold aheadT at hx'
    rw [tFind_mem h.nums hk, Option.isSome_some, if_pos rfl, List.mem_reverse, List.mem_map] at hx'
    obtain ⟨j, hj, rfl⟩ := hx'
    obtain ⟨_, h2⟩ := par_same h h' hs hin hk hr
    rcases h2 with h2 | ⟨q, hq, hm, hp, hqr, hq'⟩
    · rw [h2] at hj
      have : kidsOf T (-1) = [] := by
        unfold kidsOf
        cases ht : tFind T (-1) with
        | none => rfl
        | some l =>
          obtain ⟨k, hk, _⟩ := tFind_some ht
          omega
      rw [this] at hj
      cases hj
    · rw [hp, kidsOf_mem h (q := q.1) (l := q.2) hq] at hj
      obtain ⟨lj, hlj⟩ := h.kin q hq j ((List.takeWhile_sublist _).subset hj)
      exact ⟨j, lj, rfl, hlj, fun hx => hr (hs.next q hq k hm j hj hx)⟩
end

/-! The same, as the program finds it in its list. -/
def ReachIn (els : List PEl) (n : Int) (k : Nat) : Prop := ∃ i x, els[i]? = some x ∧ (x.num : Int) = n ∧ ∃ t ∈ els.drop i, t.par = x.par ∧ ∃ y ∈ els, y.num = k ∧ ∃ j, j < els.length ∧ upP els j y.num = t.num
theorem drop_nat (l : List Nat) (p : Nat) : (l.dropWhile fun (k : Nat) => decide (¬ k = p)) = l.dropWhile fun (k : Nat) => decide (¬ (k : Int) = (p : Int)) := by
  congr 1
  funext k
  congr 1
  rw [eq_iff_iff]
  omega
theorem reach_in {els : List PEl} {T : Tree} {made : Nat} (h : PT els T) (hw : TW T made) {p k : Nat} {l lk : List Nat} (hp : (p, l) ∈ T) (hk : (k, lk) ∈ T) (hr : RchT T p k) : ReachIn els p k := by
  obtain ⟨t, ht, hu⟩ := hr
  obtain ⟨x, hx, hxn⟩ := h.of' p l hp
  obtain ⟨i, hi, hxi⟩ := List.getElem_of_mem hx
  have hix : els[i]? = some x := by rw [List.getElem?_eq_getElem hi, hxi]
  obtain ⟨y, hy, hyn⟩ := h.of' k lk hk
  have hxd : x ∈ els.drop i := by
    rw [List.drop_eq_getElem_cons hi, hxi]
    exact List.mem_cons_self
  refine ⟨i, x, hix, by rw [hxn], ?_⟩
  have key : ∃ z ∈ els.drop i, z.par = x.par ∧ z.num = t := by
    unfold topsT at ht
    split at ht
    · rw [List.mem_singleton] at ht
      exact ⟨x, hxd, rfl, by rw [hxn, ht]⟩
    · rename_i h0
      have hpar := h.par hw hx
      have hne : x.par ≠ -1 := by rw [hpar, hxn]; omega
      have e1 := kidsOf_par h hw hx hne
      rw [hxn] at e1
      rw [e1, drop_nat, ← hxn, (takeWhile_kids h.nums hix).2] at ht
      rcases List.mem_cons.1 ht with h1 | h1
      · exact ⟨x, hxd, rfl, h1.symm⟩
      · rw [mem_kidsP] at h1
        obtain ⟨z, hz, h2, h3⟩ := h1
        exact ⟨z, List.mem_of_mem_drop (i := 1) (by rw [List.drop_drop]; exact hz), h2, h3⟩
  obtain ⟨z, hz, h1, h2⟩ := key
  refine ⟨z, hz, h1, y, hy, hyn, ?_⟩
  rw [← hyn] at hu
  rw [h2]
  exact (pt_within h hw hy (a := t) (by omega)).2 hu

end Go.Proofs.YtblfffbmklkhmaaGreat

namespace Go.Proofs.YtblfffbmklkhmaaGreat
open Go.RowKit

/-- The styles that are kept: of elements of the tree, each once, and right. -/
structure KOK (T : Tree) (M : Nat → Mk) (rs : List PRu) (kl : List (Int × List Int)) : Prop where
  nums : (kl.map Prod.fst).Nodup
  els : ∀ x ∈ kl, ∃ k l, x.1 = ((k : Nat) : Int) ∧ (k, l) ∈ T
  right : ∀ x ∈ kl, x.2 = styleV (viewT T M) rs x.1
theorem styleV_len (v : Vw) (rs : List PRu) (e : Int) : (styleV v rs e).length = 9 := by
  unfold styleV ofV
  rw [List.length_map, List.length_range]
section
variable {T T' : Tree} {made made' : Nat} {M M' : Nat → Mk} {rs : List PRu} {kl kl' : List (Int × List Int)} {R : Nat → Prop} {ok : PPt → Prop}
theorem KOK.nine (h : KOK T M rs kl) {x : Int × List Int} (hx : x ∈ kl) : x.2.length = 9 := by rw [h.right x hx, styleV_len]
theorem kok_nil : KOK T M rs [] := ⟨by simp, fun _ h => (by cases h), fun _ h => by cases h⟩
theorem KOK.len (h : KOK T M rs kl) : kl.length ≤ T.length := by
  have h1 : (kl.map fun x => x.1.toNat).Nodup := by
    have h2 := h.nums
    have h3 := h.els
    clear h
    induction kl with
    | nil => simp
    | cons x l ih =>
      rw [List.map_cons, List.nodup_cons] at h2 ⊢
      refine ⟨fun hm => ?_, ih h2.2 (fun y hy => h3 y (List.mem_cons_of_mem _ hy))⟩
      obtain ⟨y, hy, he⟩ := List.mem_map.1 hm
      obtain ⟨k, _, hk, _⟩ := h3 x List.mem_cons_self
      obtain ⟨j, _, hj, _⟩ := h3 y (List.mem_cons_of_mem _ hy)
      exact h2.1 (List.mem_map.2 ⟨y, hy, by omega⟩)
  have := nodup_len h1 (m := T.map Prod.fst) (fun k hk => by
    obtain ⟨x, hx, rfl⟩ := List.mem_map.1 hk
    obtain ⟨j, l, hj, hl⟩ := h.els x hx
    exact List.mem_map.2 ⟨_, hl, by show j = _; omega⟩)
  simpa using this
theorem KOK.sub (h : KOK T M rs kl) (hs : kl'.Sublist kl) : KOK T M rs kl' := ⟨h.nums.sublist (hs.map _), fun x hx => h.els x (hs.subset hx), fun x hx => h.right x (hs.subset hx)⟩
theorem KOK.fwd (h : KOK T M rs kl) (hv : SameV (viewT T' M') (viewT T M) ok (Out T' R)) (hok : ∀ r ∈ rs, ∀ cs ∈ r.ss, ∀ c ∈ cs, ∀ p ∈ c.ps, ok p) (hs : kl'.Sublist kl) (ho : ∀ x ∈ kl', Out T' R x.1) : KOK T' M' rs kl' :=
  ⟨h.nums.sublist (hs.map _), fun x hx => by obtain ⟨k, l, h1, h2, _⟩ := ho x hx; exact ⟨k, l, h1, h2⟩, fun x hx => by rw [h.right x (hs.subset hx), style_loc hv hok (ho x hx)]⟩
theorem KOK.bwd (h : KOK T M rs kl) (hv : SameV (viewT T M) (viewT T' M') ok (Out T R)) (hok : ∀ r ∈ rs, ∀ cs ∈ r.ss, ∀ c ∈ cs, ∀ p ∈ c.ps, ok p) (hs : kl'.Sublist kl) (ho : ∀ x ∈ kl', Out T R x.1) (ht : ∀ x ∈ kl', ∃ k l, x.1 = ((k : Nat) : Int) ∧ (k, l) ∈ T') : KOK T' M' rs kl' :=
  ⟨h.nums.sublist (hs.map _), ht, fun x hx => by rw [h.right x (hs.subset hx), style_loc hv hok (ho x hx)]⟩
/-- The marks are other ones, the same of all elements. -/
theorem KOK.marks (h : KOK T M rs kl) (hw : TW T made) (hm : ∀ k l, (k, l) ∈ T → M k = M' k) : KOK T M' rs kl :=
  h.fwd (same_view (ok := fun _ => True) hw hw shut_no (fun _ _ hk _ => hk) (fun k l hk _ => by rw [hm k l hk]) (fun k l hk _ p _ _ _ _ => by rw [hm k l hk]) (fun k l hk _ p _ _ => by rw [hm k l hk])) (fun _ _ _ _ _ _ _ _ => trivial) (List.Sublist.refl _) (fun x hx => by
    obtain ⟨k, l, h1, h2⟩ := h.els x hx
    exact ⟨k, l, h1, h2, id⟩)

theorem KOK.ins (h : KOK T M rs kl) (hw : TW T made) {p k : Nat} {l : List Nat} (hp : (p, l) ∈ T) (mk : Mk) (hs : kl'.Sublist kl) (ho : ∀ x ∈ kl', ∀ j : Nat, x.1 = j → ¬ RchT (tIns T p k made) p j) : KOK (tIns T p k made) (setM M made mk) rs kl' := by
  have hw' : TW (tIns T p k made) (made + 1) := hw.ins ⟨l, hp⟩
  have hpl : p < made := hw.lt _ hp
  have hp' : (p, insL l k made) ∈ tIns T p k made := mem_tIns.2 (Or.inl ⟨(p, l), hp, rfl, by simp⟩)
  have hself := rch_self hw' hp'
  have hmade : RchT (tIns T p k made) p made := rch_kid hw' hp' (mem_insL.2 (Or.inl rfl)) hself
  have hin : ∀ k' l', (k', l') ∈ tIns T p k made → ¬ RchT (tIns T p k made) p k' → (k', l') ∈ T := by
    intro k' l' hk hr
    rcases mem_tIns.1 hk with ⟨x, hx, h1, h2⟩ | h1
    · have h1' : k' = x.1 := h1
      have h2' : l' = if x.1 = p then insL x.2 k made else x.2 := h2
      have hne : ¬ x.1 = p := fun e => hr (by rw [h1', e]; exact hself)
      rw [if_neg hne] at h2'
      rw [h1', h2']
      exact hx
    · injection h1 with h1 _
      exact absurd (by rw [h1]; exact hmade) hr
  have hmk : ∀ k' l', (k', l') ∈ tIns T p k made → ¬ RchT (tIns T p k made) p k' → setM M made mk k' = M k' := fun k' l' _ hr => by
    unfold setM
    rw [if_neg (fun e => hr (by rw [e]; exact hmade))]
  refine h.fwd (same_view (ok := fun _ => True) hw' hw (shut_rch hw' hp') hin (fun k' l' h1 h2 => by rw [hmk k' l' h1 h2]) (fun k' l' h1 h2 p _ _ _ _ => by rw [hmk k' l' h1 h2]) (fun k' l' h1 h2 p _ _ => by rw [hmk k' l' h1 h2])) (fun _ _ _ _ _ _ _ _ => trivial) hs (fun x hx => ?_)
  obtain ⟨j, lj, h1, h2⟩ := h.els x (hs.subset hx)
  exact ⟨j, if j = p then insL lj k made else lj, h1, mem_tIns.2 (Or.inl ⟨(j, lj), h2, rfl, rfl⟩), ho x hx j h1⟩

theorem under_trans {a b c : Nat} (h1 : tUnder T a b) (h2 : tUnder T b c) : tUnder T a c := by
  obtain ⟨h0, k, hk⟩ := h1
  obtain ⟨_, j, hj⟩ := h2
  exact ⟨h0, j + k, by rw [tUp_add, hj, hk]⟩
theorem KOK.rem (h : KOK T M rs kl) (hw : TW T made) {a : Nat} {la : List Nat} (ha : (a, la) ∈ T) (h0 : a ≠ 0) {q : Nat × List Nat} (hq : q ∈ T) (hm : a ∈ q.2) (hs : kl'.Sublist kl) (ho : ∀ x ∈ kl', ∀ j : Nat, x.1 = j → ¬ RchT T q.1 j) : KOK (tRem T a) M rs kl' := by
  have hw' : TW (tRem T a) made := hw.rem ha h0
  have hp : tPar T a = q.1 := hw.parent hq hm
  have hself := rch_self hw (p := q.1) (l := q.2) hq
  have hin : ∀ k' l', (k', l') ∈ T → ¬ RchT T q.1 k' → (k', l') ∈ tRem T a := by
    intro k' l' hk hr
    refine (mem_tRem hp).2 ⟨(k', l'), hk, fun hu => hr ?_, rfl, ?_⟩
    · refine ⟨q.1, tops_self hw (l := q.2) hq, under_trans ?_ hu⟩
      exact (hw.under_kid hq hm q.1).2 (Or.inr (under_self T q.1))
    · show l' = if k' = q.1 then _ else l'
      rw [if_neg (fun e => hr (by rw [e]; exact hself))]
  have hout : ∀ x ∈ kl', Out T (RchT T q.1) x.1 := fun x hx => by
    obtain ⟨j, lj, h1, h2⟩ := h.els x (hs.subset hx)
    exact ⟨j, lj, h1, h2, ho x hx j h1⟩
  refine h.bwd (same_view (ok := fun _ => True) hw hw' (shut_rch hw (l := q.2) hq) hin (fun _ _ _ _ => rfl) (fun _ _ _ _ _ _ _ _ _ => rfl) (fun _ _ _ _ _ _ _ => rfl)) (fun _ _ _ _ _ _ _ _ => trivial) hs hout (fun x hx => ?_)
  obtain ⟨j, lj, h1, h2, h3⟩ := hout x hx
  exact ⟨j, lj, h1, hin j lj h2 h3⟩

theorem KOK.mov (h : KOK T M rs kl) (hw : TW T made) {a p k : Nat} {la lp : List Nat} (ha : (a, la) ∈ T) (h0 : a ≠ 0) (hpp : (p, lp) ∈ T) (hnu : ¬ tUnder T a p) {q : Nat × List Nat} (hq : q ∈ T) (hm : a ∈ q.2) (hs : kl'.Sublist kl) (ho : ∀ x ∈ kl', ∀ j : Nat, x.1 = j → ¬ RchT (tMov T a p k) q.1 j ∧ ¬ RchT (tMov T a p k) p j) : KOK (tMov T a p k) M rs kl' := by
  have hw' : TW (tMov T a p k) made := hw.mov ha h0 hpp hnu
  have hpq : tPar T a = q.1 := hw.parent hq hm
  have mem : ∀ j lj, (j, lj) ∈ T → ∃ l, (j, l) ∈ tMov T a p k := fun j lj hj => ⟨if j = p then insL (noneOf a (if j = q.1 then noneOf a lj else lj)) k a else if j = q.1 then noneOf a lj else lj, (mem_tMov hpq).2 ⟨(j, lj), hj, rfl, rfl⟩⟩
  obtain ⟨lq, hq'⟩ := mem q.1 q.2 hq
  obtain ⟨lp', hp'⟩ := mem p lp hpp
  have hin : ∀ k' l', (k', l') ∈ tMov T a p k → ¬ (RchT (tMov T a p k) q.1 k' ∨ RchT (tMov T a p k) p k') → (k', l') ∈ T := by
    intro k' l' hk hr
    obtain ⟨x, hx, h1, h2⟩ := (mem_tMov hpq).1 hk
    have h1' : k' = x.1 := h1
    have hn1 : ¬ x.1 = p := fun e => hr (Or.inr (by rw [h1', e]; exact rch_self hw' hp'))
    have hn2 : ¬ x.1 = q.1 := fun e => hr (Or.inl (by rw [h1', e]; exact rch_self hw' hq'))
    have h2' : l' = x.2 := by
      have h3 : l' = if x.1 = p then insL (noneOf a (if x.1 = q.1 then noneOf a x.2 else x.2)) k a else if x.1 = q.1 then noneOf a x.2 else x.2 := h2
      rw [if_neg hn1, if_neg hn2] at h3
      exact h3
    rw [h1', h2']
    exact hx
  refine h.fwd (same_view (ok := fun _ => True) hw' hw (shut_or (shut_rch hw' hq') (shut_rch hw' hp')) hin (fun _ _ _ _ => rfl) (fun _ _ _ _ _ _ _ _ _ => rfl) (fun _ _ _ _ _ _ _ => rfl)) (fun _ _ _ _ _ _ _ _ => trivial) hs (fun x hx => ?_)
  obtain ⟨j, lj, h1, h2⟩ := h.els x (hs.subset hx)
  obtain ⟨l, hl⟩ := mem j lj h2
  have := ho x hx j h1
  exact ⟨j, l, h1, hl, fun h3 => h3.elim this.1 this.2⟩

/-! A mark of one element: all that it may tell on is dropped, or no selector asks for it. -/
theorem KOK.mark (h : KOK T M rs kl) (hw : TW T made) {p : Nat} {l : List Nat} (hp : (p, l) ∈ T) (mk : Mk) (hs : kl'.Sublist kl) (ho : ∀ x ∈ kl', ∀ j : Nat, x.1 = j → ¬ RchT T p j) : KOK T (setM M p mk) rs kl' := by
  have hmk : ∀ k' l', (k', l') ∈ T → ¬ RchT T p k' → setM M p mk k' = M k' := fun k' l' _ hr => by
    unfold setM
    rw [if_neg (fun e => hr (by rw [e]; exact rch_self hw hp))]
  refine h.fwd (same_view (ok := fun _ => True) hw hw (shut_rch hw hp) (fun _ _ hk _ => hk) (fun k' l' h1 h2 => by rw [hmk k' l' h1 h2]) (fun k' l' h1 h2 p _ _ _ _ => by rw [hmk k' l' h1 h2]) (fun k' l' h1 h2 p _ _ => by rw [hmk k' l' h1 h2])) (fun _ _ _ _ _ _ _ _ => trivial) hs (fun x hx => ?_)
  obtain ⟨j, lj, h1, h2⟩ := h.els x (hs.subset hx)
  exact ⟨j, lj, h1, h2, ho x hx j h1⟩
/-- Does a letter stand as a class (2) or a name (3) in a selector? -/
def namesB (rs : List PRu) (kd lt : Int) : Bool := rs.any fun r => r.ss.any fun cs => cs.any fun c => c.ps.any fun p => decide (p.kd = kd) && decide (p.lt = lt)
theorem names_no {kd lt : Int} (h : namesB rs kd lt = false) : ∀ r ∈ rs, ∀ cs ∈ r.ss, ∀ c ∈ cs, ∀ p ∈ c.ps, ¬ (p.kd = kd ∧ p.lt = lt) := by
  intro r hr cs hcs c hc p hp hx
  unfold namesB at h
  rw [List.any_eq_false] at h
  have h1 := h r hr
  rw [Bool.not_eq_true, List.any_eq_false] at h1
  have h2 := h1 cs hcs
  rw [Bool.not_eq_true, List.any_eq_false] at h2
  have h3 := h2 c hc
  rw [Bool.not_eq_true, List.any_eq_false] at h3
  have h4 := h3 p hp
  rw [hx.1, hx.2] at h4
  simp at h4
theorem KOK.cls (h : KOK T M rs kl) (hw : TW T made) {p : Nat} (s : ByteArray) (on : Bool) (hno : namesB rs 2 (bt s 0) = false ∨ (97 ≤ bt s 0 ∧ (M p).cl (bt s 0 - 97) = on)) : KOK T (setM M p (clsMk (M p) s on)) rs kl := by
  have hkd : ∀ k, (setM M p (clsMk (M p) s on) k).kd = (M k).kd := fun k => by
    unfold setM
    split
    · rename_i e; rw [e]; rfl
    · rfl
  have hnm : ∀ k, (setM M p (clsMk (M p) s on) k).nm = (M k).nm := fun k => by
    unfold setM
    split
    · rename_i e; rw [e]; rfl
    · rfl
  refine h.fwd (R := fun _ => False) (same_view (ok := fun x => namesB rs 2 (bt s 0) = false → ¬ (x.kd = 2 ∧ x.lt = bt s 0)) hw hw shut_no (fun _ _ hk _ => hk) (fun k l _ _ => hkd k) (fun k l _ _ x hx h2 h3 h4 => ?_) (fun k l _ _ x _ _ => by rw [hnm])) (fun r hr cs hcs c hc x hx hf => names_no hf r hr cs hcs c hc x hx) (List.Sublist.refl _) (fun x hx => by
    obtain ⟨k, l, h1, h2⟩ := h.els x hx
    exact ⟨k, l, h1, h2, id⟩)
  unfold setM
  split
  · rename_i e
    rw [e]
    show (if (x.lt - 97).toNat + 97 = bt s 0 then on else (M p).cl (x.lt - 97).toNat) = _
    split
    · rename_i e2
      rcases hno with hno | ⟨_, hno⟩
      · exact absurd ⟨h2, by omega⟩ (hx hno)
      · rw [← hno]
        congr 1
        omega
    · rfl
  · rfl
theorem KOK.nam (h : KOK T M rs kl) (hw : TW T made) {p : Nat} (s : ByteArray) (hno : (M p).nm = (namMk (M p) s).nm ∨ (namesB rs 3 (M p).nm = false ∧ namesB rs 3 (namMk (M p) s).nm = false)) : KOK T (setM M p (namMk (M p) s)) rs kl := by
  have hkd : ∀ k, (setM M p (namMk (M p) s) k).kd = (M k).kd := fun k => by
    unfold setM
    split
    · rename_i e; rw [e]; rfl
    · rfl
  have hcl : ∀ k, (setM M p (namMk (M p) s) k).cl = (M k).cl := fun k => by
    unfold setM
    split
    · rename_i e; rw [e]; rfl
    · rfl
  refine h.fwd (R := fun _ => False) (same_view (ok := fun x => (namesB rs 3 (M p).nm = false → ¬ (x.kd = 3 ∧ x.lt = (M p).nm)) ∧ (namesB rs 3 (namMk (M p) s).nm = false → ¬ (x.kd = 3 ∧ x.lt = (namMk (M p) s).nm))) hw hw shut_no (fun _ _ hk _ => hk) (fun k l _ _ => hkd k) (fun k l _ _ x hx h2 h3 h4 => by rw [hcl]) (fun k l _ _ x hx h3 => ?_)) (fun r hr cs hcs c hc x hx => ⟨fun hf => names_no hf r hr cs hcs c hc x hx, fun hf => names_no hf r hr cs hcs c hc x hx⟩) (List.Sublist.refl _) (fun x hx => by
    obtain ⟨k, l, h1, h2⟩ := h.els x hx
    exact ⟨k, l, h1, h2, id⟩)
  unfold setM
  split
  · rename_i e
    rw [e]
    rcases hno with hno | ⟨h1, h2⟩
    · rw [hno]
    · have e1 : ((namMk (M p) s).nm == x.lt) = false := by
        rw [beq_eq_false_iff_ne]
        exact fun e => hx.2 h2 ⟨h3, e.symm⟩
      have e2 : ((M p).nm == x.lt) = false := by
        rw [beq_eq_false_iff_ne]
        exact fun e => hx.1 h1 ⟨h3, e.symm⟩
      rw [e1, e2]
  · rfl
end

/-! One more is kept. -/
theorem KOK.more {T : Tree} {M : Nat → Mk} {rs : List PRu} {kl : List (Int × List Int)} (h : KOK T M rs kl) {k : Nat} {l : List Nat} (hk : (k, l) ∈ T) (hn : ∀ x ∈ kl, x.1 ≠ ((k : Nat) : Int)) : KOK T M rs (kl ++ [((k : Int), styleV (viewT T M) rs k)]) := by
  refine ⟨?_, fun x hx => ?_, fun x hx => ?_⟩
  · rw [List.map_append, List.nodup_append]
    refine ⟨h.nums, by simp, fun a ha b hb => ?_⟩
    obtain ⟨x, hx, rfl⟩ := List.mem_map.1 ha
    have : b = (k : Int) := by simpa using hb
    rw [this]
    exact hn x hx
  · rcases List.mem_append.1 hx with hx | hx
    · exact h.els x hx
    · rw [List.mem_singleton] at hx
      rw [hx]
      exact ⟨k, l, rfl, hk⟩
  · rcases List.mem_append.1 hx with hx | hx
    · exact h.right x hx
    · rw [List.mem_singleton] at hx
      rw [hx]
/-- The style of an element by that of its parent. -/
def comesV (T : Tree) (M : Nat → Mk) (rs : List PRu) : List Int → List Int
  | [] => initP
  | x :: _ => styleV (viewT T M) rs x
theorem above_next {T : Tree} {made : Nat} (h : TW T made) {k : Nat} {l : List Nat} (hk : (k, l) ∈ T) : aboveT T T.length k = [] ∨ ∃ q ∈ T, k ∈ q.2 ∧ aboveT T T.length k = (q.1 : Int) :: aboveT T T.length q.1 := by
  by_cases h0 : k = 0
  · left
    subst h0
    cases hl : T.length with
    | zero => rfl
    | succ n =>
      show (if tPar T 0 = -1 then [] else _) = _
      rw [if_pos h.root_par]
  · obtain ⟨q, hq, hm, hp⟩ := h.up hk h0
    refine Or.inr ⟨q, hq, hm, ?_⟩
    rw [h.above_any hk (j := T.length + 1) (by omega)]
    show (if tPar T k = -1 then [] else tPar T k :: aboveT T T.length (tPar T k)) = _
    rw [hp, if_neg (by omega)]
theorem style_next {T : Tree} {made : Nat} (h : TW T made) {M : Nat → Mk} {rs : List PRu} {k : Nat} {l : List Nat} (hk : (k, l) ∈ T) : styleV (viewT T M) rs k = ofV (viewT T M) rs k (comesV T M rs (aboveT T T.length k)) := by
  have e1 : styleV (viewT T M) rs k = ofV (viewT T M) rs k ((aboveT T T.length k).foldr (fun x comes => ofV (viewT T M) rs x comes) initP) := rfl
  rw [e1]
  congr 1
  rcases above_next h hk with h1 | ⟨q, hq, _, h1⟩
  · rw [h1]
    rfl
  · rw [h1]
    rfl
theorem above_drop {T : Tree} {made : Nat} (h : TW T made) : ∀ (i : Nat) {k : Nat} {l : List Nat}, (k, l) ∈ T → ∀ {x : Int}, (aboveT T T.length k)[i]? = some x → ∃ j lj, x = ((j : Nat) : Int) ∧ (j, lj) ∈ T ∧ aboveT T T.length x = (aboveT T T.length k).drop (i + 1)
  | 0, k, l, hk, x, hx => by
    rcases above_next h hk with h1 | ⟨q, hq, _, h1⟩
    · rw [h1] at hx; cases hx
    · rw [h1] at hx ⊢
      have : (q.1 : Int) = x := by simpa using hx
      subst this
      exact ⟨q.1, q.2, rfl, hq, rfl⟩
  | i + 1, k, l, hk, x, hx => by
    rcases above_next h hk with h1 | ⟨q, hq, _, h1⟩
    · rw [h1] at hx; cases hx
    · rw [h1] at hx ⊢
      rw [List.getElem?_cons_succ] at hx
      obtain ⟨j, lj, h2, h3, h4⟩ := above_drop h i (k := q.1) (l := q.2) hq hx
      exact ⟨j, lj, h2, h3, h4⟩

end Go.Proofs.YtblfffbmklkhmaaGreat
