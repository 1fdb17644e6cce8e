/- Own work. -/
import Derived.Test.YtblfffbmklkhmaaGreatAw9
import Derived.Test.YtblfffbmklkhmaaGreatAw11
namespace Go.Proofs.YtblfffbmklkhmaaGreat
open Go.RowKit
structure Vw where
  ty : Int → Int → Bool
  cl : Int → Int → Bool
  nm : Int → Int → Bool
  ab : Int → List Int
  ah : Int → List Int
  la : Int → Bool
  em : Int → Bool
def simpV (v : Vw) (p : PPt) (e : Int) : Bool :=
  if p.kd = 1 then v.ty e p.lt else if p.kd = 2 then v.cl e p.lt else if p.kd = 3 then v.nm e p.lt
  else if p.kd = 4 then decide (((v.ah e).length : Int) + 1 = 1) else if p.kd = 5 then v.la e else if p.kd = 6 then v.em e
  else if p.kd = 7 then nthP (((v.ah e).length : Int) + 1) p.st p.sr else false
def compV (v : Vw) (c : PCp) (e : Int) : Bool := (c.ty == 0 || v.ty e c.ty) && c.ps.all fun p => simpV v p e != p.nt
def signedV (v : Vw) (sg e : Int) : List Int := if sg = 32 then v.ab e else if sg = 62 then (v.ab e).take 1 else if sg = 126 then v.ah e else if sg = 43 then (v.ah e).take 1 else []
def chainV (v : Vw) : List PCp → Int → Bool
  | [], _ => false
  | [c], e => compV v c e
  | c :: d :: r, e => compV v c e && (signedV v c.sg e).any (chainV v (d :: r))
def matchV (v : Vw) (cs : List PCp) (e : Int) : Bool := chainV v cs.reverse e
def weighStepV (v : Vw) (e : Int) (a : Int × Bool) (cs : List PCp) : Int × Bool := if matchV v cs e then (max a.1 ((cws cs : Nat) : Int), true) else a
def weighV (v : Vw) (e : Int) (ss : List (List PCp)) : Int × Bool := ss.foldl (weighStepV v e) (0, false)
def ruleStepV (v : Vw) (e : Int) (W : List Clm) (r : PRu) : List Clm := if (weighV v e r.ss).2 then afterP W r (weighV v e r.ss).1 else W
def winnersV (v : Vw) (rs : List PRu) (e : Int) : List Clm := rs.foldl (ruleStepV v e) (List.replicate 9 Clm.none)
def ofV (v : Vw) (rs : List PRu) (e : Int) (comes : List Int) : List Int := (List.range 9).map fun p => valueF (winnersV v rs e) comes 9 p
def styleV (v : Vw) (rs : List PRu) (e : Int) : List Int := ofV v rs e ((v.ab e).foldr (fun x comes => ofV v rs x comes) initP)
def viewP (els : List PEl) : Vw := ⟨hasTypeP els, hasClassP els, hasNameP els, aboveP els els.length, aheadP els, lastP els, emptyP els⟩
theorem chain_view (els : List PEl) : ∀ (cs : List PCp) (e : Int), chainR els cs e = chainV (viewP els) cs e
  | [], _ => rfl
  | [_], _ => rfl
  | c :: d :: r, e => by
    have ih : chainR els (d :: r) = chainV (viewP els) (d :: r) := funext fun x => chain_view els (d :: r) x
    show (compP els c e && (signedP els c.sg e).any (chainR els (d :: r))) = (compV (viewP els) c e && (signedV (viewP els) c.sg e).any (chainV (viewP els) (d :: r)))
    rw [ih]
    rfl
theorem match_view (els : List PEl) (cs : List PCp) (e : Int) : matchP els cs e = matchV (viewP els) cs e := chain_view els _ e
theorem weigh_view (els : List PEl) (e : Int) : weighP els e = weighV (viewP els) e := by
  have : weighStep els e = weighStepV (viewP els) e := by
    funext a cs
    unfold weighStep weighStepV
    rw [match_view]
  funext ss
  unfold weighP weighV
  rw [this]
theorem winners_view (els : List PEl) (rs : List PRu) (e : Int) : winnersP els rs e = winnersV (viewP els) rs e := by
  have : ruleStep els e = ruleStepV (viewP els) e := by
    funext W r
    unfold ruleStep ruleStepV
    rw [weigh_view]
  unfold winnersP winnersV
  rw [this]
theorem of_view (els : List PEl) (rs : List PRu) : ofP els rs = ofV (viewP els) rs := by
  funext e comes
  unfold ofP ofV
  rw [winners_view]
def kidsOf (T : Tree) (p : Int) : List Nat := (tFind T p).getD []
def hasTypeT (T : Tree) (M : Nat → Mk) (e l : Int) : Bool := (tFind T e).isSome && (M e.toNat).kd == l
def hasClassT (T : Tree) (M : Nat → Mk) (e l : Int) : Bool := (tFind T e).isSome && (decide (97 ≤ l ∧ l ≤ 122) && (M e.toNat).cl (l - 97).toNat)
def hasNameT (T : Tree) (M : Nat → Mk) (e l : Int) : Bool := (tFind T e).isSome && (M e.toNat).nm == l
def aboveT (T : Tree) : Nat → Int → List Int
  | 0, _ => []
  | k + 1, e => if tPar T e = -1 then [] else tPar T e :: aboveT T k (tPar T e)
def aheadT (T : Tree) (e : Int) : List Int := if (tFind T e).isSome then (((kidsOf T (tPar T e)).takeWhile fun (k : Nat) => decide (¬ (k : Int) = e)).map fun (k : Nat) => (k : Int)).reverse else []
def lastT (T : Tree) (e : Int) : Bool := (tFind T e).isSome && decide (((kidsOf T (tPar T e)).dropWhile fun (k : Nat) => decide (¬ (k : Int) = e)).length ≤ 1)
def emptyT (T : Tree) (e : Int) : Bool := (tFind T e).isSome && (kidsOf T e).isEmpty
def viewT (T : Tree) (M : Nat → Mk) : Vw := ⟨hasTypeT T M, hasClassT T M, hasNameT T M, aboveT T T.length, aheadT T, lastT T, emptyT T⟩
section
variable {els : List PEl} {T : Tree} {made : Nat} {M : Nat → Mk}
theorem findP_isSome (h : PT els T) (hw : TW T made) (e : Int) : (findP els e).isSome = (tFind T e).isSome := by
  cases hf : findP els e with
  | none => rw [h.find_none hf]; rfl
  | some x => rw [(h.find_some hw hf).1]; rfl
theorem above_eq (h : PT els T) (hw : TW T made) : ∀ k e, aboveP els k e = aboveT T k e
  | 0, _ => rfl
  | k + 1, e => by
    have e1 := h.parP hw e
    show (if parP els e = -1 then [] else parP els e :: aboveP els k (parP els e)) = (if tPar T e = -1 then [] else tPar T e :: aboveT T k (tPar T e))
    rw [e1, above_eq h hw k]
theorem split_at {i : Nat} {x : PEl} (hx : els[i]? = some x) : els = els.take i ++ x :: els.drop (i + 1) := by
  obtain ⟨hi, he⟩ := List.getElem?_eq_some_iff.1 hx
  rw [← he, ← List.drop_eq_getElem_cons hi, List.take_append_drop]
theorem kids_split {i : Nat} {x : PEl} (hx : els[i]? = some x) : kidsP els x.par = kidsP (els.take i) x.par ++ x.num :: kidsP (els.drop (i + 1)) x.par := by
  conv => lhs; rw [split_at hx]
  rw [kidsP_append, show x :: els.drop (i + 1) = [x] ++ els.drop (i + 1) from rfl, kidsP_append, kidsP_one, if_pos rfl]
  rfl
theorem not_ahead (hn : (els.map PEl.num).Nodup) {i : Nat} {x : PEl} (hx : els[i]? = some x) : ∀ k ∈ kidsP (els.take i) x.par, k ≠ x.num := by
  intro k hk e
  rw [mem_kidsP] at hk
  obtain ⟨y, hy, _, h2⟩ := hk
  have hs := split_at hx
  rw [hs, List.map_append, List.nodup_append] at hn
  exact hn.2.2 y.num (List.mem_map.2 ⟨y, hy, rfl⟩) x.num (by simp) (by rw [h2, e])
theorem takeWhile_kids (hn : (els.map PEl.num).Nodup) {i : Nat} {x : PEl} (hx : els[i]? = some x) : (kidsP els x.par).takeWhile (fun (k : Nat) => decide (¬ (k : Int) = (x.num : Int))) = kidsP (els.take i) x.par ∧ (kidsP els x.par).dropWhile (fun (k : Nat) => decide (¬ (k : Int) = (x.num : Int))) = x.num :: kidsP (els.drop (i + 1)) x.par := by
  have hna := not_ahead hn hx
  have h1 : ∀ k ∈ kidsP (els.take i) x.par, decide (¬ (k : Int) = (x.num : Int)) = true := fun k hk => by
    have := hna k hk
    rw [decide_eq_true_eq]
    omega
  rw [kids_split hx]
  constructor
  · rw [List.takeWhile_append_of_pos h1]
    simp
  · rw [List.dropWhile_append_of_pos h1]
    simp
/-- The root alone has no parent. -/
theorem root_only (h : PT els T) (hw : TW T made) {x y : PEl} (hx : x ∈ els) (hy : y ∈ els) (h1 : x.par = -1) (h2 : y.par = -1) : x = y := by
  have z : ∀ z ∈ els, z.par = -1 → z.num = 0 := fun z hz hp => by
    by_cases h0 : z.num = 0
    · exact h0
    · obtain ⟨l, hl⟩ := h.to' z hz
      obtain ⟨q, hq, _, hpq⟩ := hw.up hl h0
      have := h.par hw hz
      rw [hp, hpq] at this
      omega
  exact pel_inj h.nums hx hy (by rw [z x hx h1, z y hy h2])
theorem kidsOf_par (h : PT els T) (hw : TW T made) {x : PEl} (hx : x ∈ els) (hp : x.par ≠ -1) : kidsOf T (tPar T x.num) = kidsP els x.par := by
  rw [← h.par hw hx]
  have h2 := h.par hw hx
  rcases tPar_cases T x.num with ⟨h1, _⟩ | ⟨e, he, _, h1⟩
  · rw [h1] at h2; exact absurd h2 hp
  · rw [h2, h1]
    unfold kidsOf
    rw [tFind_mem hw.nums (k := e.1) (l := e.2) he]
    show e.2 = _
    exact h.kids e.1 e.2 he
theorem none_par (h : PT els T) (hw : TW T made) {x : PEl} (hx : x ∈ els) (hp : x.par = -1) : kidsOf T (tPar T x.num) = [] := by
  rw [← h.par hw hx, hp]
  unfold kidsOf
  cases ht : tFind T (-1) with
  | none => rfl
  | some l =>
    obtain ⟨k, hk, _⟩ := tFind_some ht
    omega
theorem mem_ofIdx {i : Nat} {x : PEl} (hx : els[i]? = some x) : x ∈ els := List.mem_of_getElem? hx
theorem root_ahead (h : PT els T) (hw : TW T made) {i : Nat} {x : PEl} (hx : els[i]? = some x) (hp : x.par = -1) : kidsP (els.take i) x.par = [] ∧ kidsP (els.drop (i + 1)) x.par = [] := by
  have hd : (els.map PEl.num).Nodup := h.nums
  have hs := split_at hx
  constructor
  · rw [List.eq_nil_iff_forall_not_mem]
    intro k hk
    rw [mem_kidsP] at hk
    obtain ⟨y, hy, h1, _⟩ := hk
    have := root_only h hw (mem_ofIdx hx) (List.mem_of_mem_take hy) hp (h1.trans hp)
    subst this
    rw [hs, List.map_append, List.nodup_append] at hd
    exact hd.2.2 x.num (List.mem_map.2 ⟨x, hy, rfl⟩) x.num (by simp) rfl
  · rw [List.eq_nil_iff_forall_not_mem]
    intro k hk
    rw [mem_kidsP] at hk
    obtain ⟨y, hy, h1, _⟩ := hk
    have := root_only h hw (mem_ofIdx hx) (List.mem_of_mem_drop hy) hp (h1.trans hp)
    subst this
    rw [hs, List.map_append, List.nodup_append] at hd
    have h3 := hd.2.1
    rw [List.map_cons, List.nodup_cons] at h3
    exact h3.1 (List.mem_map.2 ⟨x, hy, rfl⟩)
theorem idx_find {e : Int} {x : PEl} (hn : (els.map PEl.num).Nodup) (hf : findP els e = some x) : els[idxP els e]? = some x := by
  obtain ⟨hm, he⟩ := findP_some hf
  obtain ⟨i, hi, hx⟩ := List.getElem_of_mem hm
  have h1 : els[i]? = some x := by rw [List.getElem?_eq_getElem hi, hx]
  have h2 := idx_of hn h1
  rw [he] at h2
  rw [h2]
  exact h1
theorem ahead_eq (h : PT els T) (hw : TW T made) (e : Int) : aheadP els e = aheadT T e := by
  unfold aheadP aheadT
  cases hf : findP els e with
  | none => rw [h.find_none hf]; rfl
  | some x =>
    have hi := idx_find h.nums hf
    obtain ⟨hm, rfl⟩ := findP_some hf
    rw [(h.find_some hw hf).1]
    show aheadOf els (idxP els x.num) x.par = (((kidsOf T (tPar T x.num)).takeWhile fun (k : Nat) => decide (¬ (k : Int) = (x.num : Int))).map fun (k : Nat) => (k : Int)).reverse
    have e1 : aheadOf els (idxP els x.num) x.par = ((kidsP (els.take (idxP els x.num)) x.par).map fun (k : Nat) => (k : Int)).reverse := by
      unfold aheadOf kidsP
      rw [List.map_map]
      rfl
    rw [e1]
    by_cases hp : x.par = -1
    · rw [none_par h hw hm hp, (root_ahead h hw hi hp).1]
      rfl
    · rw [kidsOf_par h hw hm hp, (takeWhile_kids h.nums hi).1]
theorem last_eq (h : PT els T) (hw : TW T made) (e : Int) : lastP els e = lastT T e := by
  unfold lastP lastT
  cases hf : findP els e with
  | none => rw [h.find_none hf]; rfl
  | some x =>
    have hi := idx_find h.nums hf
    obtain ⟨hm, rfl⟩ := findP_some hf
    rw [(h.find_some hw hf).1]
    show ((els.drop (idxP els x.num + 1)).all fun y => decide (¬ y.par = x.par)) = (true && decide (((kidsOf T (tPar T x.num)).dropWhile fun (k : Nat) => decide (¬ (k : Int) = (x.num : Int))).length ≤ 1))
    have e1 : ((els.drop (idxP els x.num + 1)).all fun y => decide (¬ y.par = x.par)) = decide (kidsP (els.drop (idxP els x.num + 1)) x.par = []) := by
      rw [Bool.eq_iff_iff, List.all_eq_true, decide_eq_true_eq]
      constructor
      · intro h1
        rw [List.eq_nil_iff_forall_not_mem]
        intro k hk
        rw [mem_kidsP] at hk
        obtain ⟨y, hy, h2, _⟩ := hk
        have := h1 y hy
        rw [decide_eq_true_eq] at this
        exact this h2
      · intro h1 y hy
        rw [decide_eq_true_eq]
        intro h2
        have : y.num ∈ kidsP (els.drop (idxP els x.num + 1)) x.par := mem_kidsP.2 ⟨y, hy, h2, rfl⟩
        rw [h1] at this
        cases this
    rw [e1, Bool.true_and]
    by_cases hp : x.par = -1
    · rw [none_par h hw hm hp, (root_ahead h hw hi hp).2]
      rfl
    · rw [kidsOf_par h hw hm hp, (takeWhile_kids h.nums hi).2]
      cases kidsP (els.drop (idxP els x.num + 1)) x.par <;> simp
theorem empty_eq (h : PT els T) (hw : TW T made) (e : Int) : emptyP els e = emptyT T e := by
  unfold emptyP emptyT
  rw [findP_isSome h hw, Bool.and_comm]
  cases ht : tFind T e with
  | none => rfl
  | some l =>
    show (true && _) = (true && _)
    rw [Bool.true_and, Bool.true_and]
    have hk : kidsOf T e = kidsP els e := by
      unfold kidsOf
      rw [ht]
      obtain ⟨k, rfl, hk⟩ := tFind_some ht
      exact h.kids k l hk
    rw [hk, Bool.eq_iff_iff, List.all_eq_true, List.isEmpty_iff]
    constructor
    · intro h1
      rw [List.eq_nil_iff_forall_not_mem]
      intro k hk
      rw [mem_kidsP] at hk
      obtain ⟨y, hy, h2, _⟩ := hk
      have := h1 y hy
      rw [decide_eq_true_eq] at this
      exact this h2
    · intro h1 y hy
      rw [decide_eq_true_eq]
      intro h2
      have : y.num ∈ kidsP els e := mem_kidsP.2 ⟨y, hy, h2, rfl⟩
      rw [h1] at this
      cases this
theorem view_eq (h : PT els T) (hw : TW T made) (hM : Marks els M) : viewP els = viewT T M := by
  have e1 : hasTypeP els = hasTypeT T M := by
    funext e l
    unfold hasTypeP hasTypeT
    rw [← findP_isSome h hw]
    cases hf : findP els e with
    | none => rfl
    | some x =>
      obtain ⟨hm, rfl⟩ := findP_some hf
      show (kindP x == l) = (true && ((M x.num).kd == l))
      rw [(hM x hm).1, Bool.true_and]
  have e2 : hasClassP els = hasClassT T M := by
    funext e l
    unfold hasClassP hasClassT
    rw [← findP_isSome h hw]
    cases hf : findP els e with
    | none => rfl
    | some x =>
      obtain ⟨hm, rfl⟩ := findP_some hf
      show (if 97 ≤ l ∧ l ≤ 122 then classP x (l - 97).toNat else false) = (true && (decide (97 ≤ l ∧ l ≤ 122) && (M x.num).cl (l - 97).toNat))
      by_cases hl : 97 ≤ l ∧ l ≤ 122
      · rw [if_pos hl, decide_eq_true hl, (hM x hm).2.1 _ (by omega)]; rfl
      · rw [if_neg hl, decide_eq_false hl]; rfl
  have e3 : hasNameP els = hasNameT T M := by
    funext e l
    unfold hasNameP hasNameT
    rw [← findP_isSome h hw]
    cases hf : findP els e with
    | none => rfl
    | some x =>
      obtain ⟨hm, rfl⟩ := findP_some hf
      show (nameP x == l) = (true && ((M x.num).nm == l))
      rw [(hM x hm).2.2, Bool.true_and]
  unfold viewP viewT
  rw [e1, e2, e3, h.len hw, funext (above_eq h hw T.length), funext (ahead_eq h hw), funext (last_eq h hw), funext (empty_eq h hw)]
end
end Go.Proofs.YtblfffbmklkhmaaGreat

namespace Go.Proofs.YtblfffbmklkhmaaGreat
open Go.RowKit
/-- The tree of a document, to be read. -/
structure TRd (w : World) (b : Nat) (a : Option Addr) (c : Nat) (els : List PEl) : Prop where
  cell : w.cell? ⟨b, 1, none⟩ = some (.slice a els.length c)
  pl : PL w (.slice a els.length c) els
  few : els.length ≤ 24
  nums : (els.map PEl.num).Nodup
  shp : ∀ e ∈ els, Shp e
theorem TRd.lt {w : World} {b : Nat} {a : Option Addr} {c : Nat} {els : List PEl} (h : TRd w b a c els) : b < w.heap.size := World.block_lt_of_cell? w _ h.cell
theorem TRd.below {w w' : World} {b : Nat} {a : Option Addr} {c : Nat} {els : List PEl} (h : TRd w b a c els) (hB : Below w.heap.size w w') : TRd w' b a c els :=
  ⟨(hB.cell (p := ⟨b, 1, none⟩) h.lt).trans h.cell, ⟨own_below h.pl.row hB, h.pl.ok⟩, h.few, h.nums, h.shp⟩
def PBool (w : World) (r : Bool) (e : Ending) (w' : World) : Prop := e = .returned (.bool r) ∧ Below w.heap.size w w'
section
set_option maxRecDepth 100000
set_option maxHeartbeats 2000000
variable (w : World) (b : Nat) (a : Option Addr) (c : Nat) (els : List PEl) (n : Int)
theorem phas_any (h : TRd w b a c els) : Calls Tryz.prog 113 #[.pointer (some ⟨b, 1, none⟩), .int .i64 n] w fun e w' => PBool w (findP els n).isSome e w' := by
  have HT : Hid (TRd w b a c els) := h
  clear h
  go_enter Tryz.func113, Tryz.ntmps113
  go_wp2_with fail
  refine (pfind_any w b _ els n HT.out.cell HT.out.pl HT.out.few).mono ?_
  rintro e w1 ⟨hB, ⟨hf, rfl⟩ | ⟨i, x, hx, hf, rfl⟩⟩
  · have HE : Hid (PBool w (findP els n).isSome (.returned (.bool false)) w1) := by rw [hf]; exact ⟨rfl, hB⟩
    clear hf hB
    go_wp2
    go_ret
    exact HE.out
  · have HE : Hid (PBool w (findP els n).isSome (.returned (.bool true)) w1) := by rw [hf]; exact ⟨rfl, hB⟩
    clear hf hB hx
    go_wp2
    go_ret
    exact HE.out
theorem phasType_any (l : Int) (h : TRd w b a c els) : Calls Tryz.prog 220 #[.pointer (some ⟨b, 1, none⟩), .int .i64 n, .int .u8 l] w fun e w' => PBool w (hasTypeP els n l) e w' := by
  have HT : Hid (TRd w b a c els) := h
  clear h
  go_enter Tryz.func220, Tryz.ntmps220
  go_wp2_with fail
  refine (pfind_any w b _ els n HT.out.cell HT.out.pl HT.out.few).mono ?_
  rintro e w1 ⟨hB, ⟨hf, rfl⟩ | ⟨i, x, hx, hf, rfl⟩⟩
  · have HE : Hid (PBool w (hasTypeP els n l) (.returned (.bool false)) w1) := by unfold hasTypeP; rw [hf]; exact ⟨rfl, hB⟩
    clear hf hB
    go_wp2
    go_ret
    exact HE.out
  · have HE : Hid (PBool w (hasTypeP els n l) (.returned (.bool (kindP x == l))) w1) := by unfold hasTypeP; rw [hf]; exact ⟨rfl, hB⟩
    have T1 := HT.out.below hB
    have hi : i < els.length := (List.getElem?_eq_some_iff.1 hx).1
    have hxe : els[i] = x := (List.getElem?_eq_some_iff.1 hx).2
    obtain ⟨g, hg, hgl, hr⟩ := T1.pl.at' hi
    subst hg
    have q2 : w1.cell? ⟨g, i * 31 + 2, none⟩ = some (.int .u8 (kindP x)) := by rw [← hxe]; exact hr 2 _ (T1.shp _ (List.getElem_mem hi)).kd
    have q0 := T1.cell
    have hil : (i : Int) < (els.length : Int) := by omega
    clear hf hB hx hxe hr T1
    generalize kindP x = kx at q2 HE
    go_wp2
    go_ret
    exact HE.out
theorem phasName_any (l : Int) (h : TRd w b a c els) : Calls Tryz.prog 227 #[.pointer (some ⟨b, 1, none⟩), .int .i64 n, .int .u8 l] w fun e w' => PBool w (hasNameP els n l) e w' := by
  have HT : Hid (TRd w b a c els) := h
  clear h
  go_enter Tryz.func227, Tryz.ntmps227
  go_wp2_with fail
  refine (pfind_any w b _ els n HT.out.cell HT.out.pl HT.out.few).mono ?_
  rintro e w1 ⟨hB, ⟨hf, rfl⟩ | ⟨i, x, hx, hf, rfl⟩⟩
  · have HE : Hid (PBool w (hasNameP els n l) (.returned (.bool false)) w1) := by unfold hasNameP; rw [hf]; exact ⟨rfl, hB⟩
    clear hf hB
    go_wp2
    go_ret
    exact HE.out
  · have HE : Hid (PBool w (hasNameP els n l) (.returned (.bool (nameP x == l))) w1) := by unfold hasNameP; rw [hf]; exact ⟨rfl, hB⟩
    have T1 := HT.out.below hB
    have hi : i < els.length := (List.getElem?_eq_some_iff.1 hx).1
    have hxe : els[i] = x := (List.getElem?_eq_some_iff.1 hx).2
    obtain ⟨g, hg, hgl, hr⟩ := T1.pl.at' hi
    subst hg
    have q2 : w1.cell? ⟨g, i * 31 + 29, none⟩ = some (.int .u8 (nameP x)) := by rw [← hxe]; exact hr 29 _ (T1.shp _ (List.getElem_mem hi)).nm
    have q0 := T1.cell
    have hil : (i : Int) < (els.length : Int) := by omega
    clear hf hB hx hxe hr T1
    generalize nameP x = kx at q2 HE
    go_wp2
    go_ret
    exact HE.out
theorem phasClass_any (l : Int) (h : TRd w b a c els) : Calls Tryz.prog 226 #[.pointer (some ⟨b, 1, none⟩), .int .i64 n, .int .u8 l] w fun e w' => PBool w (hasClassP els n l) e w' := by
  have HT : Hid (TRd w b a c els) := h
  clear h
  go_enter Tryz.func226, Tryz.ntmps226
  go_wp2_with fail
  refine (pfind_any w b _ els n HT.out.cell HT.out.pl HT.out.few).mono ?_
  rintro e w1 ⟨hB, ⟨hf, rfl⟩ | ⟨i, x, hx, hf, rfl⟩⟩
  · have HE : Hid (PBool w (hasClassP els n l) (.returned (.bool false)) w1) := by unfold hasClassP; rw [hf]; exact ⟨rfl, hB⟩
    clear hf hB
    go_wp2
    go_ret
    exact HE.out
  · by_cases hl : 97 ≤ l ∧ l ≤ 122
    · have HE : Hid (PBool w (hasClassP els n l) (.returned (.bool (classP x (l - 97).toNat))) w1) := by unfold hasClassP; rw [hf]; simp only [if_pos hl]; exact ⟨rfl, hB⟩
      have T1 := HT.out.below hB
      have hi : i < els.length := (List.getElem?_eq_some_iff.1 hx).1
      have hxe : els[i] = x := (List.getElem?_eq_some_iff.1 hx).2
      obtain ⟨g, hg, hgl, hr⟩ := T1.pl.at' hi
      subst hg
      obtain ⟨k, rfl⟩ : ∃ k : Nat, l = 97 + k := ⟨(l - 97).toNat, by omega⟩
      have hk : k < 26 := by omega
      have e1 : ((97 : Int) + k - 97).toNat = k := by omega
      rw [e1] at HE
      have q2 : w1.cell? ⟨g, i * 31 + 3 + k, none⟩ = some (.bool (classP x k)) := by rw [← hxe, Nat.add_assoc]; exact hr (3 + k) _ ((T1.shp _ (List.getElem_mem hi)).cl hk)
      have q0 := T1.cell
      have hil : (i : Int) < (els.length : Int) := by omega
      have d1 : decide ((97 : Int) + k < 97) = false := by rw [decide_eq_false_iff_not]; omega
      have d2 : decide ((122 : Int) < 97 + k) = false := by rw [decide_eq_false_iff_not]; omega
      clear hf hB hx hxe hr T1 hl e1
      generalize classP x k = kx at q2 HE
      go_wp2
      go_ret
      exact HE.out
    · have HE : Hid (PBool w (hasClassP els n l) (.returned (.bool false)) w1) := by unfold hasClassP; rw [hf]; simp only [if_neg hl]; exact ⟨rfl, hB⟩
      clear hf hB hx
      by_cases h1 : l < 97
      · have d1 : decide (l < 97) = true := by simpa using h1
        clear hl h1
        go_wp2
        go_ret
        exact HE.out
      · have d1 : decide (l < 97) = false := by simpa using h1
        have d2 : decide (122 < l) = true := by simp; omega
        clear hl h1
        go_wp2
        go_ret
        exact HE.out
end
end Go.Proofs.YtblfffbmklkhmaaGreat
