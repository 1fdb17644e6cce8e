/- Own work. -/
import Derived.Test.YtblfffbmklkhmaaGreatPn8
import Derived.Test.YtblfffbmklkhmaaGreatPn9
namespace Go.Proofs.YtblfffbmklkhmaaGreat
open Go.RowKit
structure Vw where
  ty : Int → Int → Bool
  cl : Int → Int → Bool
  nm : Int → Int → Bool
  ab : Int → List Int
  ah : Int → List Int
  la : Int → Bool
  em : Int → Bool
def simpV (v : Vw) (p : PPt) (e : Int) : Bool :=
  if p.kd = 1 then v.ty e p.lt else if p.kd = 2 then v.cl e p.lt else if p.kd = 3 then v.nm e p.lt
  else if p.kd = 4 then decide (((v.ah e).length : Int) + 1 = 1) else if p.kd = 5 then v.la e else if p.kd = 6 then v.em e
  else if p.kd = 7 then nthP (((v.ah e).length : Int) + 1) p.st p.sr else false
def compV (v : Vw) (c : PCp) (e : Int) : Bool := (c.ty == 0 || v.ty e c.ty) && c.ps.all fun p => simpV v p e != p.nt
def signedV (v : Vw) (sg e : Int) : List Int := if sg = 32 then v.ab e else if sg = 62 then (v.ab e).take 1 else if sg = 126 then v.ah e else if sg = 43 then (v.ah e).take 1 else []
def chainV (v : Vw) : List PCp → Int → Bool
  | [], _ => false
  | [c], e => compV v c e
  | c :: d :: r, e => compV v c e && (signedV v c.sg e).any (chainV v (d :: r))
def matchV (v : Vw) (cs : List PCp) (e : Int) : Bool := chainV v cs.reverse e
def weighStepV (v : Vw) (e : Int) (a : Int × Bool) (cs : List PCp) : Int × Bool := if matchV v cs e then (max a.1 ((cws cs : Nat) : Int), true) else a
def weighV (v : Vw) (e : Int) (ss : List (List PCp)) : Int × Bool := ss.foldl (weighStepV v e) (0, false)
def ruleStepV (v : Vw) (e : Int) (W : List Clm) (r : PRu) : List Clm := if (weighV v e r.ss).2 then afterP W r (weighV v e r.ss).1 else W
def winnersV (v : Vw) (rs : List PRu) (e : Int) : List Clm := rs.foldl (ruleStepV v e) (List.replicate 9 Clm.none)
def ofV (v : Vw) (rs : List PRu) (e : Int) (comes : List Int) : List Int := (List.range 9).map fun p => valueF (winnersV v rs e) comes 9 p
def styleV (v : Vw) (rs : List PRu) (e : Int) : List Int := ofV v rs e ((v.ab e).foldr (fun x comes => ofV v rs x comes) initP)
def viewP (els : List PEl) : Vw := ⟨hasTypeP els, hasClassP els, hasNameP els, aboveP els els.length, aheadP els, lastP els, emptyP els⟩
theorem chain_view (els : List PEl) : ∀ (cs : List PCp) (e : Int), chainR els cs e = chainV (viewP els) cs e
  | [], _ => rfl
  | [_], _ => rfl
  | c :: d :: r, e => by
    have ih : chainR els (d :: r) = chainV (viewP els) (d :: r) := funext fun x => chain_view els (d :: r) x
    show (compP els c e && (signedP els c.sg e).any (chainR els (d :: r))) = (compV (viewP els) c e && (signedV (viewP els) c.sg e).any (chainV (viewP els) (d :: r)))
    rw [ih]
    rfl
theorem match_view (els : List PEl) (cs : List PCp) (e : Int) : matchP els cs e = matchV (viewP els) cs e := chain_view els _ e
theorem weigh_view (els : List PEl) (e : Int) : weighP els e = weighV (viewP els) e := by
  have : weighStep els e = weighStepV (viewP els) e := by
    funext a cs
    unfold weighStep weighStepV
    rw [match_view]
  funext ss
  unfold weighP weighV
  rw [this]
theorem winners_view (els : List PEl) (rs : List PRu) (e : Int) : winnersP els rs e = winnersV (viewP els) rs e := by
  have : ruleStep els e = ruleStepV (viewP els) e := by
    funext W r
    unfold ruleStep ruleStepV
    rw [weigh_view]
  unfold winnersP winnersV
  rw [this]
theorem of_view (els : List PEl) (rs : List PRu) : ofP els rs = ofV (viewP els) rs := by
  funext e comes
  unfold ofP ofV
  rw [winners_view]
def kidsOf (T : Tree) (p : Int) : List Nat := (tFind T p).getD []
def hasTypeT (T : Tree) (M : Nat → Mk) (e l : Int) : Bool := (tFind T e).isSome && (M e.toNat).kd == l
def hasClassT (T : Tree) (M : Nat → Mk) (e l : Int) : Bool := (tFind T e).isSome && (decide (97 ≤ l ∧ l ≤ 122) && (M e.toNat).cl (l - 97).toNat)
def hasNameT (T : Tree) (M : Nat → Mk) (e l : Int) : Bool := (tFind T e).isSome && (M e.toNat).nm == l
def aboveT (T : Tree) : Nat → Int → List Int
  | 0, _ => []
  | k + 1, e => if tPar T e = -1 then [] else tPar T e :: aboveT T k (tPar T e)
def aheadT (T : Tree) (e : Int) : List Int := if (tFind T e).isSome then (((kidsOf T (tPar T e)).takeWhile fun (k : Nat) => decide (¬ (k : Int) = e)).map fun (k : Nat) => (k : Int)).reverse else []
def lastT (T : Tree) (e : Int) : Bool := (tFind T e).isSome && decide (((kidsOf T (tPar T e)).dropWhile fun (k : Nat) => decide (¬ (k : Int) = e)).length ≤ 1)
def emptyT (T : Tree) (e : Int) : Bool := (tFind T e).isSome && (kidsOf T e).isEmpty
def viewT (T : Tree) (M : Nat → Mk) : Vw := ⟨hasTypeT T M, hasClassT T M, hasNameT T M, aboveT T T.length, aheadT T, lastT T, emptyT T⟩
section
variable {els : List PEl} {T : Tree} {made : Nat} {M : Nat → Mk}
theorem findP_isSome (h : PT els T) (hw : TW T made) (e : Int) : (findP els e).isSome = (tFind T e).isSome := by
  cases hf : findP els e with
  | none => rw [h.find_none hf]; rfl
  | some x => rw [(h.find_some hw hf).1]; rfl
theorem above_eq (h : PT els T) (hw : TW T made) : ∀ k e, aboveP els k e = aboveT T k e
  | 0, _ => rfl
  | k + 1, e => by
    have e1 := h.parP hw e
    show (if parP els e = -1 then [] else parP els e :: aboveP els k (parP els e)) = (if tPar T e = -1 then [] else tPar T e :: aboveT T k (tPar T e))
    rw [e1, above_eq h hw k]
theorem split_at {i : Nat} {x : PEl} (hx : els[i]? = some x) : els = els.take i ++ x :: els.drop (i + 1) := by
  obtain ⟨hi, he⟩ := List.getElem?_eq_some_iff.1 hx
  rw [← he, ← List.drop_eq_getElem_cons hi, List.take_append_drop]
theorem kids_split {i : Nat} {x : PEl} (hx : els[i]? = some x) : kidsP els x.par = kidsP (els.take i) x.par ++ x.num :: kidsP (els.drop (i + 1)) x.par := by
  conv => lhs; rw [split_at hx]
  rw [kidsP_append, show x :: els.drop (i + 1) = [x] ++ els.drop (i + 1) from rfl, kidsP_append, kidsP_one, if_pos rfl]
  rfl
theorem not_ahead (hn : (els.map PEl.num).Nodup) {i : Nat} {x : PEl} (hx : els[i]? = some x) : ∀ k ∈ kidsP (els.take i) x.par, k ≠ x.num := by
  intro k hk e
  rw [mem_kidsP] at hk
  obtain ⟨y, hy, _, h2⟩ := hk
  have hs := split_at hx
  rw [hs, List.map_append, List.nodup_append] at hn
  exact hn.2.2 y.num (List.mem_map.2 ⟨y, hy, rfl⟩) x.num (by simp) (by rw [h2, e])
theorem takeWhile_kids (hn : (els.map PEl.num).Nodup) {i : Nat} {x : PEl} (hx : els[i]? = some x) : (kidsP els x.par).takeWhile (fun (k : Nat) => decide (¬ (k : Int) = (x.num : Int))) = kidsP (els.take i) x.par ∧ (kidsP els x.par).dropWhile (fun (k : Nat) => decide (¬ (k : Int) = (x.num : Int))) = x.num :: kidsP (els.drop (i + 1)) x.par := by
  have hna := not_ahead hn hx
  have h1 : ∀ k ∈ kidsP (els.take i) x.par, decide (¬ (k : Int) = (x.num : Int)) = true := fun k hk => by
    have := hna k hk
    rw [decide_eq_true_eq]
    omega
  rw [kids_split hx]
  constructor
  · rw [List.takeWhile_append_of_pos h1]
    simp
  · rw [List.dropWhile_append_of_pos h1]
    simp
/-- The root alone has no parent. -/
theorem root_only (h : PT els T) (hw : TW T made) {x y : PEl} (hx : x ∈ els) (hy : y ∈ els) (h1 : x.par = -1) (h2 : y.par = -1) : x = y := by
  have z : ∀ z ∈ els, z.par = -1 → z.num = 0 := fun z hz hp => by
    by_cases h0 : z.num = 0
    · exact h0
    · obtain ⟨l, hl⟩ := h.to' z hz
      obtain ⟨q, hq, _, hpq⟩ := hw.up hl h0
      have := h.par hw hz
      rw [hp, hpq] at this
      omega
  exact pel_inj h.nums hx hy (by rw [z x hx h1, z y hy h2])
theorem kidsOf_par (h : PT els T) (hw : TW T made) {x : PEl} (hx : x ∈ els) (hp : x.par ≠ -1) : kidsOf T (tPar T x.num) = kidsP els x.par := by
  rw [← h.par hw hx]
  have h2 := h.par hw hx
  rcases tPar_cases T x.num with ⟨h1, _⟩ | ⟨e, he, _, h1⟩
  · rw [h1] at h2; exact absurd h2 hp
  · rw [h2, h1]
    unfold kidsOf
    rw [tFind_mem hw.nums (k := e.1) (l := e.2) he]
    show e.2 = _
    exact h.kids e.1 e.2 he
theorem none_par (h : PT els T) (hw : TW T made) {x : PEl} (hx : x ∈ els) (hp : x.par = -1) : kidsOf T (tPar T x.num) = [] := by
  rw [← h.par hw hx, hp]
  unfold kidsOf
  cases ht : tFind T (-1) with
  | none => rfl
  | some l =>
    obtain ⟨k, hk, _⟩ := tFind_some ht
    omega
theorem mem_ofIdx {i : Nat} {x : PEl} (hx : els[i]? = some x) : x ∈ els := List.mem_of_getElem? hx
theorem root_ahead (h : PT els T) (hw : TW T made) {i : Nat} {x : PEl} (hx : els[i]? = some x) (hp : x.par = -1) : kidsP (els.take i) x.par = [] ∧ kidsP (els.drop (i + 1)) x.par = [] := by
  have hd : (els.map PEl.num).Nodup := h.nums
  have hs := split_at hx
  constructor
  · rw [List.eq_nil_iff_forall_not_mem]
    intro k hk
    rw [mem_kidsP] at hk
    obtain ⟨y, hy, h1, _⟩ := hk
    have := root_only h hw (mem_ofIdx hx) (List.mem_of_mem_take hy) hp (h1.trans hp)
    subst this
    rw [hs, List.map_append, List.nodup_append] at hd
    exact hd.2.2 x.num (List.mem_map.2 ⟨x, hy, rfl⟩) x.num (by simp) rfl
  · rw [List.eq_nil_iff_forall_not_mem]
    intro k hk
    rw [mem_kidsP] at hk
    obtain ⟨y, hy, h1, _⟩ := hk
    have := root_only h hw (mem_ofIdx hx) (List.mem_of_mem_drop hy) hp (h1.trans hp)
    subst this
    rw [hs, List.map_append, List.nodup_append] at hd
    have h3 := hd.2.1
    rw [List.map_cons, List.nodup_cons] at h3
    exact h3.1 (List.mem_map.2 ⟨x, hy, rfl⟩)
theorem idx_find {e : Int} {x : PEl} (hn : (els.map PEl.num).Nodup) (hf : findP els e = some x) : els[idxP els e]? = some x := by
  obtain ⟨hm, he⟩ := findP_some hf
  obtain ⟨i, hi, hx⟩ := List.getElem_of_mem hm
  have h1 : els[i]? = some x := by rw [List.getElem?_eq_getElem hi, hx]
  have h2 := idx_of hn h1
  rw [he] at h2
  rw [h2]
  exact h1
theorem ahead_eq (h : PT els T) (hw : TW T made) (e : Int) : aheadP els e = aheadT T e := by
  unfold aheadP aheadT
  cases hf : findP els e with
  | none => rw [h.find_none hf]; rfl
  | some x =>
    have hi := idx_find h.nums hf
    obtain ⟨hm, rfl⟩ := findP_some hf
    rw [(h.find_some hw hf).1]
    show aheadOf els (idxP els x.num) x.par = (((kidsOf T (tPar T x.num)).takeWhile fun (k : Nat) => decide (¬ (k : Int) = (x.num : Int))).map fun (k : Nat) => (k : Int)).reverse
    have e1 : aheadOf els (idxP els x.num) x.par = ((kidsP (els.take (idxP els x.num)) x.par).map fun (k : Nat) => (k : Int)).reverse := by
      unfold aheadOf kidsP
      rw [List.map_map]
      rfl
    rw [e1]
    by_cases hp : x.par = -1
    · rw [none_par h hw hm hp, (root_ahead h hw hi hp).1]
      rfl
    · rw [kidsOf_par h hw hm hp, (takeWhile_kids h.nums hi).1]
theorem last_eq (h : PT els T) (hw : TW T made) (e : Int) : lastP els e = lastT T e := by
  unfold lastP lastT
  cases hf : findP els e with
  | none => rw [h.find_none hf]; rfl
  | some x =>
    have hi := idx_find h.nums hf
    obtain ⟨hm, rfl⟩ := findP_some hf
    rw [(h.find_some hw hf).1]
    show ((els.drop (idxP els x.num + 1)).all fun y => decide (¬ y.par = x.par)) = (true && decide (((kidsOf T (tPar T x.num)).dropWhile fun (k : Nat) => decide (¬ (k : Int) = (x.num : Int))).length ≤ 1))
    have e1 : ((els.drop (idxP els x.num + 1)).all fun y => decide (¬ y.par = x.par)) = decide (kidsP (els.drop (idxP els x.num + 1)) x.par = []) := by
      rw [Bool.eq_iff_iff, List.all_eq_true, decide_eq_true_eq]
      constructor
      · intro h1
        rw [List.eq_nil_iff_forall_not_mem]
        intro k hk
        rw [mem_kidsP] at hk
        obtain ⟨y, hy, h2, _⟩ := hk
        have := h1 y hy
        rw [decide_eq_true_eq] at this
        exact this h2
      · intro h1 y hy
        rw [decide_eq_true_eq]
        intro h2
        have : y.num ∈ kidsP (els.drop (idxP els x.num + 1)) x.par := mem_kidsP.2 ⟨y, hy, h2, rfl⟩
        rw [h1] at this
        cases this
    rw [e1, Bool.true_and]
    by_cases hp : x.par = -1
    · rw [none_par h hw hm hp, (root_ahead h hw hi hp).2]
      rfl
    · rw [kidsOf_par h hw hm hp, (takeWhile_kids h.nums hi).2]
      cases kidsP (els.drop (idxP els x.num + 1)) x.par <;> simp
theorem empty_eq (h : PT els T) (hw : TW T made) (e : Int) : emptyP els e = emptyT T e := by
  unfold emptyP emptyT
  rw [findP_isSome h hw, Bool.and_comm]
  cases ht : tFind T e with
  | none => rfl
  | some l =>
    show (true && _) = (true && _)
    rw [Bool.true_and, Bool.true_and]
    have hk : kidsOf T e = kidsP els e := by
      unfold kidsOf
      rw [ht]
      obtain ⟨k, rfl, hk⟩ := tFind_some ht
      exact h.kids k l hk
    rw [hk, Bool.eq_iff_iff, List.all_eq_true, List.isEmpty_iff]
    constructor
    · intro h1
      rw [List.eq_nil_iff_forall_not_mem]
      intro k hk
      rw [mem_kidsP] at hk
      obtain ⟨y, hy, h2, _⟩ := hk
      have := h1 y hy
      rw [decide_eq_true_eq] at this
      exact this h2
    · intro h1 y hy
      rw [decide_eq_true_eq]
      intro h2
      have : y.num ∈ kidsP els e := mem_kidsP.2 ⟨y, hy, h2, rfl⟩
      rw [h1] at this
      cases this
theorem view_eq (h : PT els T) (hw : TW T made) (hM : Marks els M) : viewP els = viewT T M := by
  have e1 : hasTypeP els = hasTypeT T M := by
    funext e l
    unfold hasTypeP hasTypeT
    rw [← findP_isSome h hw]
    cases hf : findP els e with
    | none => rfl
    | some x =>
      obtain ⟨hm, rfl⟩ := findP_some hf
      show (kindP x == l) = (true && ((M x.num).kd == l))
      rw [(hM x hm).1, Bool.true_and]
  have e2 : hasClassP els = hasClassT T M := by
    funext e l
    unfold hasClassP hasClassT
    rw [← findP_isSome h hw]
    cases hf : findP els e with
    | none => rfl
    | some x =>
      obtain ⟨hm, rfl⟩ := findP_some hf
      show (if 97 ≤ l ∧ l ≤ 122 then classP x (l - 97).toNat else false) = (true && (decide (97 ≤ l ∧ l ≤ 122) && (M x.num).cl (l - 97).toNat))
      by_cases hl : 97 ≤ l ∧ l ≤ 122
      · rw [if_pos hl, decide_eq_true hl, (hM x hm).2.1 _ (by omega)]; rfl
      · rw [if_neg hl, decide_eq_false hl]; rfl
  have e3 : hasNameP els = hasNameT T M := by
    funext e l
    unfold hasNameP hasNameT
    rw [← findP_isSome h hw]
    cases hf : findP els e with
    | none => rfl
    | some x =>
      obtain ⟨hm, rfl⟩ := findP_some hf
      show (nameP x == l) = (true && ((M x.num).nm == l))
      rw [(hM x hm).2.2, Bool.true_and]
  unfold viewP viewT
  rw [e1, e2, e3, h.len hw, funext (above_eq h hw T.length), funext (ahead_eq h hw), funext (last_eq h hw), funext (empty_eq h hw)]
end
end Go.Proofs.YtblfffbmklkhmaaGreat

namespace Go.Proofs.YtblfffbmklkhmaaGreat
open Go.RowKit
/-- The tree of a document, to be read. -/
structure TRd (w : World) (b : Nat) (a : Option Addr) (c : Nat) (els : List PEl) : Prop where
  cell : w.cell? ⟨b, 1, none⟩ = some (.slice a els.length c)
  pl : PL w (.slice a els.length c) els
  few : els.length ≤ 24
  nums : (els.map PEl.num).Nodup
  shp : ∀ e ∈ els, Shp e
theorem TRd.lt {w : World} {b : Nat} {a : Option Addr} {c : Nat} {els : List PEl} (h : TRd w b a c els) : b < w.heap.size := World.block_lt_of_cell? w _ h.cell
theorem TRd.below {w w' : World} {b : Nat} {a : Option Addr} {c : Nat} {els : List PEl} (h : TRd w b a c els) (hB : Below w.heap.size w w') : TRd w' b a c els :=
  ⟨(hB.cell (p := ⟨b, 1, none⟩) h.lt).trans h.cell, ⟨own_below h.pl.row hB, h.pl.ok⟩, h.few, h.nums, h.shp⟩
def PBool (w : World) (r : Bool) (e : Ending) (w' : World) : Prop := e = .returned (.bool r) ∧ Below w.heap.size w w'
section
set_option maxRecDepth 100000
set_option maxHeartbeats 2000000
variable (w : World) (b : Nat) (a : Option Addr) (c : Nat) (els : List PEl) (n : Int)
theorem phas_any (h : TRd w b a c els) : Calls Tryz.prog 113 #[.pointer (some ⟨b, 1, none⟩), .int .i64 n] w fun e w' => PBool w (findP els n).isSome e w' := by
  have HT : Hid (TRd w b a c els) := h
  clear h
  go_enter Tryz.func113, Tryz.ntmps113
  go_wp2_with fail
  refine (pfind_any w b _ els n HT.out.cell HT.out.pl HT.out.few).mono ?_
  rintro e w1 ⟨hB, ⟨hf, rfl⟩ | ⟨i, x, hx, hf, rfl⟩⟩
  · have HE : Hid (PBool w (findP els n).isSome (.returned (.bool false)) w1) := by rw [hf]; exact ⟨rfl, hB⟩
    clear hf hB
    go_wp2
    go_ret
    exact HE.out
  · have HE : Hid (PBool w (findP els n).isSome (.returned (.bool true)) w1) := by rw [hf]; exact ⟨rfl, hB⟩
    clear hf hB hx
    go_wp2
    go_ret
    exact HE.out
theorem phasType_any (l : Int) (h : TRd w b a c els) : Calls Tryz.prog 220 #[.pointer (some ⟨b, 1, none⟩), .int .i64 n, .int .u8 l] w fun e w' => PBool w (hasTypeP els n l) e w' := by
  have HT : Hid (TRd w b a c els) := h
  clear h
  go_enter Tryz.func220, Tryz.ntmps220
  go_wp2_with fail
  refine (pfind_any w b _ els n HT.out.cell HT.out.pl HT.out.few).mono ?_
  rintro e w1 ⟨hB, ⟨hf, rfl⟩ | ⟨i, x, hx, hf, rfl⟩⟩
  · have HE : Hid (PBool w (hasTypeP els n l) (.returned (.bool false)) w1) := by unfold hasTypeP; rw [hf]; exact ⟨rfl, hB⟩
    clear hf hB
    go_wp2
    go_ret
    exact HE.out
  · have HE : Hid (PBool w (hasTypeP els n l) (.returned (.bool (kindP x == l))) w1) := by unfold hasTypeP; rw [hf]; exact ⟨rfl, hB⟩
    have T1 := HT.out.below hB
    have hi : i < els.length := (List.getElem?_eq_some_iff.1 hx).1
    have hxe : els[i] = x := (List.getElem?_eq_some_iff.1 hx).2
    obtain ⟨g, hg, hgl, hr⟩ := T1.pl.at' hi
    subst hg
    have q2 : w1.cell? ⟨g, i * 31 + 2, none⟩ = some (.int .u8 (kindP x)) := by rw [← hxe]; exact hr 2 _ (T1.shp _ (List.getElem_mem hi)).kd
    have q0 := T1.cell
    have hil : (i : Int) < (els.length : Int) := by omega
    clear hf hB hx hxe hr T1
    generalize kindP x = kx at q2 HE
    go_wp2
    go_ret
    exact HE.out
theorem phasName_any (l : Int) (h : TRd w b a c els) : Calls Tryz.prog 227 #[.pointer (some ⟨b, 1, none⟩), .int .i64 n, .int .u8 l] w fun e w' => PBool w (hasNameP els n l) e w' := by
  have HT : Hid (TRd w b a c els) := h
  clear h
  go_enter Tryz.func227, Tryz.ntmps227
  go_wp2_with fail
  refine (pfind_any w b _ els n HT.out.cell HT.out.pl HT.out.few).mono ?_
  rintro e w1 ⟨hB, ⟨hf, rfl⟩ | ⟨i, x, hx, hf, rfl⟩⟩
  · have HE : Hid (PBool w (hasNameP els n l) (.returned (.bool false)) w1) := by unfold hasNameP; rw [hf]; exact ⟨rfl, hB⟩
    clear hf hB
    go_wp2
    go_ret
    exact HE.out
  · have HE : Hid (PBool w (hasNameP els n l) (.returned (.bool (nameP x == l))) w1) := by unfold hasNameP; rw [hf]; exact ⟨rfl, hB⟩
    have T1 := HT.out.below hB
    have hi : i < els.length := (List.getElem?_eq_some_iff.1 hx).1
    have hxe : els[i] = x := (List.getElem?_eq_some_iff.1 hx).2
    obtain ⟨g, hg, hgl, hr⟩ := T1.pl.at' hi
    subst hg
    have q2 : w1.cell? ⟨g, i * 31 + 29, none⟩ = some (.int .u8 (nameP x)) := by rw [← hxe]; exact hr 29 _ (T1.shp _ (List.getElem_mem hi)).nm
    have q0 := T1.cell
    have hil : (i : Int) < (els.length : Int) := by omega
    clear hf hB hx hxe hr T1
    generalize nameP x = kx at q2 HE
    go_wp2
    go_ret
    exact HE.out
theorem phasClass_any (l : Int) (h : TRd w b a c els) : Calls Tryz.prog 226 #[.pointer (some ⟨b, 1, none⟩), .int .i64 n, .int .u8 l] w fun e w' => PBool w (hasClassP els n l) e w' := by
  have HT : Hid (TRd w b a c els) := h
  clear h
  go_enter Tryz.func226, Tryz.ntmps226
  go_wp2_with fail
  refine (pfind_any w b _ els n HT.out.cell HT.out.pl HT.out.few).mono ?_
  rintro e w1 ⟨hB, ⟨hf, rfl⟩ | ⟨i, x, hx, hf, rfl⟩⟩
  · have HE : Hid (PBool w (hasClassP els n l) (.returned (.bool false)) w1) := by unfold hasClassP; rw [hf]; exact ⟨rfl, hB⟩
    clear hf hB
    go_wp2
    go_ret
    exact HE.out
  · by_cases hl : 97 ≤ l ∧ l ≤ 122
    · have HE : Hid (PBool w (hasClassP els n l) (.returned (.bool (classP x (l - 97).toNat))) w1) := by unfold hasClassP; rw [hf]; simp only [if_pos hl]; exact ⟨rfl, hB⟩
      have T1 := HT.out.below hB
      have hi : i < els.length := (List.getElem?_eq_some_iff.1 hx).1
      have hxe : els[i] = x := (List.getElem?_eq_some_iff.1 hx).2
      obtain ⟨g, hg, hgl, hr⟩ := T1.pl.at' hi
      subst hg
      obtain ⟨k, rfl⟩ : ∃ k : Nat, l = 97 + k := ⟨(l - 97).toNat, by omega⟩
      have hk : k < 26 := by omega
      have e1 : ((97 : Int) + k - 97).toNat = k := by omega
      rw [e1] at HE
      have q2 : w1.cell? ⟨g, i * 31 + 3 + k, none⟩ = some (.bool (classP x k)) := by rw [← hxe, Nat.add_assoc]; exact hr (3 + k) _ ((T1.shp _ (List.getElem_mem hi)).cl hk)
      have q0 := T1.cell
      have hil : (i : Int) < (els.length : Int) := by omega
      have d1 : decide ((97 : Int) + k < 97) = false := by rw [decide_eq_false_iff_not]; omega
      have d2 : decide ((122 : Int) < 97 + k) = false := by rw [decide_eq_false_iff_not]; omega
      clear hf hB hx hxe hr T1 hl e1
      generalize classP x k = kx at q2 HE
      go_wp2
      go_ret
      exact HE.out
    · have HE : Hid (PBool w (hasClassP els n l) (.returned (.bool false)) w1) := by unfold hasClassP; rw [hf]; simp only [if_neg hl]; exact ⟨rfl, hB⟩
      clear hf hB hx
      by_cases h1 : l < 97
      · have d1 : decide (l < 97) = true := by simpa using h1
        clear hl h1
        go_wp2
        go_ret
        exact HE.out
      · have d1 : decide (l < 97) = false := by simpa using h1
        have d2 : decide (122 < l) = true := by simp; omega
        clear hl h1
        go_wp2
        go_ret
        exact HE.out
end
end Go.Proofs.YtblfffbmklkhmaaGreat

namespace Go.Proofs.YtblfffbmklkhmaaGreat
open Go.RowKit
abbrev intsZ (l : List Int) : List Value := l.map (Value.int .i64)
/-- A list of numbers, to be read. -/
def RowI (w : World) (a : Option Addr) (l : List Int) : Prop := ∀ i (_ : i < l.length), ∃ g, a = some ⟨g, 0, none⟩ ∧ g < w.heap.size ∧ w.cell? ⟨g, i, none⟩ = l[i]?.map (Value.int .i64)
theorem RowI.below {w w' : World} {a : Option Addr} {l : List Int} (h : RowI w a l) (hB : Below w.heap.size w w') : RowI w' a l := fun i hi => by
  obtain ⟨g, h1, h2, h3⟩ := h i hi
  exact ⟨g, h1, Nat.lt_of_lt_of_le h2 hB.size, (hB.cell (p := ⟨g, i, none⟩) h2).trans h3⟩
theorem RowI.own {w : World} {base : Nat} {a : Option Addr} {c : Nat} {l : List Int} (h : w.ownsRow base 3 1 (.slice a l.length c) l.length (intsZ l)) : RowI w a l := fun i hi => by
  obtain ⟨g, hg, hgl, hc⟩ := own_cells h (by omega)
  refine ⟨g, hg, hgl, ?_⟩
  have := hc i (.int .i64 l[i]) (by simp [hi])
  rw [this, List.getElem?_eq_getElem hi]
  rfl
theorem own_cap {w : World} {base : Nat} {e : TypeId} {sz : Nat} {a : Option Addr} {n c : Nat} {xs : List Value} (h : w.ownsRow base e sz (.slice a n c) n xs) : n ≤ c := by
  rcases h.2 with ⟨h1, h2⟩ | ⟨g, cap, cur, hv, _, hh, hc, _⟩
  · omega
  · injection hv with h1 h2 h3
    omega
theorem own_capM {w : World} {base : Nat} {e : TypeId} {sz : Nat} {a : Option Addr} {n c : Nat} {xs : List Value} (h : w.ownsRow base e sz (.slice a n c) n xs) : c ≤ maxLen := by
  rcases h.2 with ⟨h1, h2⟩ | ⟨g, cap, cur, hv, _, hh, hc, hm, _⟩
  · injection h1 with _ _ h3
    rw [h3]
    exact Nat.zero_le _
  · injection hv with h1 h2 h3
    rw [h3]
    exact hm
def PList (w : World) (l : List Int) (e : Ending) (w' : World) : Prop := ∃ (a : Option Addr) (c : Nat), e = .returned (.slice a l.length c) ∧ l.length ≤ c ∧ c ≤ maxLen ∧ RowI w' a l ∧ Below w.heap.size w w'
def PNum (w : World) (r : Int) (e : Ending) (w' : World) : Prop := e = .returned (.int .i64 r) ∧ Below w.heap.size w w'
theorem one_z (x : Int) : ∀ u ∈ [Value.int .i64 x], u.oneCell' = true := by
  intro u hu
  simp only [List.mem_cons, List.not_mem_nil, or_false] at hu
  rcases hu with rfl; rfl
theorem above_go {els : List PEl} {k : Nat} {e : Int} (h : parP els e ≠ -1) : aboveP els (k + 1) e = parP els e :: aboveP els k (parP els e) := by
  show (if parP els e = -1 then [] else _) = _
  rw [if_neg h]
theorem above_stop {els : List PEl} {k : Nat} {e : Int} (h : parP els e = -1) : aboveP els k e = [] := by
  cases k with
  | zero => rfl
  | succ k =>
    show (if parP els e = -1 then [] else _) = _
    rw [if_pos h]
theorem ahead_step {els : List PEl} {k : Nat} {par : Int} (h : k < els.length) : aheadOf els (k + 1) par = (if els[k].par = par then [(els[k].num : Int)] else []) ++ aheadOf els k par := by
  unfold aheadOf
  rw [List.take_succ_eq_append_getElem h, List.filter_append, List.map_append, List.reverse_append]
  congr 1
  by_cases hp : els[k].par = par
  · simp [hp]
  · simp [hp]
section
set_option maxRecDepth 100000
set_option maxHeartbeats 4000000
variable (w : World) (b : Nat) (a : Option Addr) (c : Nat) (els : List PEl) (n : Int)
theorem pabove_any (h : TRd w b a c els) : Calls Tryz.prog 84 #[.pointer (some ⟨b, 1, none⟩), .int .i64 n] w fun e w' => PList w (aboveP els els.length n) e w' := by
  obtain ⟨i0, hi, iz0, iz1, iz2⟩ := info_parts Tryz.info3
  have HT : Hid (TRd w b a c els) := h
  have hfew := h.few
  have q0 := h.cell
  clear h
  go_enter Tryz.func84, Tryz.ntmps84
  go_wp2_with fail
  go_loopg [1, 5, 11] els.length (fun gk nv v iv wr => ∃ (i : Nat) (m : Int) (L : List Int), iv = .int .i64 i ∧ nv = .int .i64 m ∧ i ≤ els.length ∧ els.length - i ≤ gk ∧ L.length ≤ i ∧ Hid (wr.ownsRow w.heap.size 3 1 v L.length (intsZ L) ∧ Below w.heap.size w wr ∧ aboveP els els.length n = L ++ aboveP els (els.length - i) m))
  case atStart => exact ⟨0, n, [], rfl, rfl, Nat.zero_le _, by omega, by simp, World.ownsRow_nil _ _ _ _, Below.refl _ _, by simp⟩
  case round =>
    obtain ⟨i, m, L, rfl, rfl, hil, hgk, hL, HN⟩ := hrel
    obtain ⟨a2, c2, hv2⟩ := own_shape HN.out.1
    subst hv2
    have hbz := HN.out.2.1.size
    by_cases hlt : i < els.length
    · have hd : decide ((i : Int) < (els.length : Int)) = true := by simp; omega
      have HT1 : Hid (TRd wr b a c els) := HT.out.below HN.out.2.1
      clear q0
      go_wp2_with fail
      refine (pparentOf_any wr b _ els m HT1.out.cell HT1.out.pl hfew).mono ?_
      rintro e w1 ⟨rfl, hB1⟩
      have hB2 : Below w.heap.size w w1 := HN.out.2.1.trans (hB1.mono hbz)
      have HO : Hid (w1.ownsRow w.heap.size 3 1 (.slice a2 L.length c2) L.length (intsZ L)) := own_below HN.out.1 (hB1.mono (Nat.le_refl _))
      have hbz1 := hB2.size
      have HB2 : Hid (Below w.heap.size w w1) := hB2
      clear hB1 hB2
      by_cases hp : parP els m = -1
      · have gp : (parP els m == -1) = true := by simp [hp]
        have HE : Hid (PList w (aboveP els els.length n) (.returned (.slice a2 L.length c2)) w1) := by
          have e1 : aboveP els els.length n = L := by rw [HN.out.2.2, above_stop hp, List.append_nil]
          unfold Hid
          rw [e1]
          exact ⟨a2, c2, rfl, own_cap HO.out, own_capM HO.out, RowI.own HO.out, HB2.out⟩
        clear hp
        generalize parP els m = p at gp ⊢
        go_wp2
        go_ret
        exact HE.out
      · have gp : (parP els m == -1) = false := by simp [hp]
        have HA : Hid (aboveP els els.length n = (L ++ [parP els m]) ++ aboveP els (els.length - (i + 1)) (parP els m)) := by
          unfold Hid
          rw [HN.out.2.2, show els.length - i = els.length - (i + 1) + 1 from by omega, above_go hp]
          simp
        clear hp HN
        generalize parP els m = p at gp HA ⊢
        go_wp2_with (at_builtin; refine wpList_append_own _ rfl (.tmp 19) (.tmp 21) 40 rfl w.heap.size 3 i0 (.int .i64 0) 1 8 Tryz.underlying40 hi iz0 iz1 iz2 rfl (by decide) _ _ _ rfl (HO.out.alloc _) ⟨w1.heap.size, 0, none⟩ 1 1 [.int .i64 p] rfl rfl ?c1 ?c2 ?c3 ?c4 ?c5 ?_)
        case c1 => exact new_cells w1 _ rfl _ _ _ rfl
        case c2 => exact one_z p
        case c3 => unfold maxLen; omega
        case c4 => omega
        case c5 => simp; omega
        intro v5 w5 own5 hg5 _
        have HN5 : Hid (w5.ownsRow w.heap.size 3 1 v5 (L ++ [p]).length (intsZ (L ++ [p])) ∧ Below w.heap.size w w5 ∧ aboveP els els.length n = (L ++ [p]) ++ aboveP els (els.length - (i + 1)) p) :=
          ⟨by simpa using own5, (HB2.out.alloc hbz1 _).grown hg5 (by simp; omega) (fun k hk => (HO.out.lt k hk).1), HA.out⟩
        have hL2 : (L ++ [p]).length ≤ i + 1 := by simp; omega
        clear own5 hg5 HO HB2 HA HT1
        generalize L ++ [p] = L2 at HN5 hL2
        go_wp2
        go_roundg (els.length - (i + 1))
        case measure => omega
        case rel => exact ⟨i + 1, p, L2, by go_num, rfl, by omega, Nat.le_refl _, hL2, HN5⟩
    · have hd : decide ((i : Int) < (els.length : Int)) = false := by simp; omega
      obtain rfl : i = els.length := by omega
      have HE : Hid (PList w (aboveP els els.length n) (.returned (.slice a2 L.length c2)) wr) := by
        have e1 : aboveP els els.length n = L := by rw [HN.out.2.2, Nat.sub_self]; exact List.append_nil _
        unfold Hid
        rw [e1]
        exact ⟨a2, c2, rfl, own_cap HN.out.1, own_capM HN.out.1, RowI.own HN.out.1, HN.out.2.1⟩
      go_wp2
      go_ret
      exact HE.out
theorem pahead_any (h : TRd w b a c els) : Calls Tryz.prog 223 #[.pointer (some ⟨b, 1, none⟩), .int .i64 n] w fun e w' => PList w (aheadP els n) e w' := by
  obtain ⟨i0, hi, iz0, iz1, iz2⟩ := info_parts Tryz.info3
  have HT : Hid (TRd w b a c els) := h
  have hfew := h.few
  clear h
  go_enter Tryz.func223, Tryz.ntmps223
  go_wp2_with fail
  refine (pfind_any w b _ els n HT.out.cell HT.out.pl HT.out.few).mono ?_
  rintro e w1 ⟨hB, ⟨hf, rfl⟩ | ⟨ip, x, hx, hf, rfl⟩⟩
  · have HE : Hid (PList w (aheadP els n) (.returned (.slice none 0 0)) w1) := by unfold aheadP; rw [hf]; exact ⟨none, 0, rfl, Nat.le_refl _, Nat.zero_le _, fun i hi => absurd hi (by simp), hB⟩
    clear hf hB
    go_wp2
    go_ret
    exact HE.out
  · have hip : ip < els.length := (List.getElem?_eq_some_iff.1 hx).1
    have hxe : els[ip] = x := (List.getElem?_eq_some_iff.1 hx).2
    have HA : Hid (aheadP els n = aheadOf els ip x.par) := by
      unfold Hid aheadP
      rw [hf]
      have h1 := (findP_some hf).2
      have h2 := idx_of HT.out.nums hx
      rw [h1] at h2
      show aheadOf els (idxP els n) x.par = _
      rw [h2]
    have T1 := HT.out.below hB
    obtain ⟨g, hg, hgl, he⟩ := T1.pl.el hip
    subst hg
    have q1 := he.cell1
    rw [hxe] at q1
    have q0 := T1.cell
    have hil : (ip : Int) < (els.length : Int) := by omega
    have HB1 : Hid (Below w.heap.size w w1) := hB
    clear hf hB hx hxe he T1
    generalize x.par = par at HA q1
    go_wp2_with fail
    go_loopg [8, 9] ip (fun gk v iv wr => ∃ (k : Nat) (iz : Int) (L : List Int), iv = .int .i64 iz ∧ iz = (k : Int) - 1 ∧ k ≤ ip ∧ k ≤ gk ∧ L.length + k ≤ ip ∧ Hid (wr.ownsRow w.heap.size 3 1 v L.length (intsZ L) ∧ Below w.heap.size w wr ∧ aheadP els n = L ++ aheadOf els k par))
    case atStart => exact ⟨ip, _, [], rfl, by go_num, Nat.le_refl _, Nat.le_refl _, by simp, World.ownsRow_nil _ _ _ _, HB1.out, HA.out⟩
    case round =>
      obtain ⟨k, iz, L, rfl, hiz, hkp, hgk, hL, HN⟩ := hrel
      obtain ⟨a2, c2, hv2⟩ := own_shape HN.out.1
      subst hv2
      have hbz := HN.out.2.1.size
      cases k with
      | zero =>
        have hd : decide ((0 : Int) ≤ iz) = false := by rw [decide_eq_false_iff_not]; omega
        clear hiz
        have HE : Hid (PList w (aheadP els n) (.returned (.slice a2 L.length c2)) wr) := by
          have e1 : aheadP els n = L := by rw [HN.out.2.2]; unfold aheadOf; simp
          unfold Hid
          rw [e1]
          exact ⟨a2, c2, rfl, own_cap HN.out.1, own_capM HN.out.1, RowI.own HN.out.1, HN.out.2.1⟩
        go_wp2
        go_ret
        exact HE.out
      | succ k =>
        obtain rfl : iz = (k : Int) := by omega
        clear hiz q0 q1
        have hk : k < els.length := by omega
        have hkl : (k : Int) < (els.length : Int) := by omega
        have T2 := HT.out.below HN.out.2.1
        obtain ⟨g2, hg2, hgl2, he2⟩ := T2.pl.el hk
        injection hg2 with hg2
        injection hg2 with hg2 _ _
        subst hg2
        have q0 := T2.cell
        have q1 := he2.cell1
        have q2 : wr.cell? ⟨g, k * 31, none⟩ = some (.int .i64 els[k].num) := he2.rng 0 _ he2.c0
        have HS : Hid (aheadOf els (k + 1) par = (if els[k].par = par then [(els[k].num : Int)] else []) ++ aheadOf els k par) := ahead_step hk
        clear T2 he2
        generalize els[k].par = py at q1 HS
        obtain ⟨ny, hny⟩ : ∃ ny : Int, ny = (els[k].num : Int) := ⟨_, rfl⟩
        rw [← hny] at q2 HS
        clear hny
        by_cases hp : py = par
        · have gp : (py == par) = true := by simp [hp]
          have HA2 : Hid (aheadP els n = (L ++ [ny]) ++ aheadOf els k par) := by
            unfold Hid
            rw [HN.out.2.2, HS.out, if_pos hp]
            simp
          clear hp HS
          have HO : Hid (wr.ownsRow w.heap.size 3 1 (.slice a2 L.length c2) L.length (intsZ L) ∧ Below w.heap.size w wr) := ⟨HN.out.1, HN.out.2.1⟩
          clear HN
          go_wp2_with (at_builtin; refine wpList_append_own _ rfl (.tmp 42) (.tmp 51) 40 rfl w.heap.size 3 i0 (.int .i64 0) 1 8 Tryz.underlying40 hi iz0 iz1 iz2 rfl (by decide) _ _ _ rfl (HO.out.1.alloc _) ⟨wr.heap.size, 0, none⟩ 1 1 [.int .i64 ny] rfl rfl ?c1 ?c2 ?c3 ?c4 ?c5 ?_)
          case c2 => first | exact one_z ny | rfl
          case c3 => unfold maxLen; omega
          case c4 => omega
          case c5 => first | (simp; omega) | omega
          intro v5 w5 own5 hg5 _
          have HN5 : Hid (w5.ownsRow w.heap.size 3 1 v5 (L ++ [ny]).length (intsZ (L ++ [ny])) ∧ Below w.heap.size w w5 ∧ aheadP els n = (L ++ [ny]) ++ aheadOf els k par) :=
            ⟨by simpa using own5, (HO.out.2.alloc hbz _).grown hg5 (by simp; omega) (fun k hk => (HO.out.1.lt k hk).1), HA2.out⟩
          have hL2 : (L ++ [ny]).length + k ≤ ip := by simp; omega
          clear own5 hg5 HO HA2 q0 q1 q2
          generalize L ++ [ny] = L2 at HN5 hL2
          go_wp2
          go_roundg k
          case measure => omega
          case rel => exact ⟨k, _, L2, rfl, by go_num, by omega, Nat.le_refl _, hL2, HN5⟩
        · have gp : (py == par) = false := by simp [hp]
          have HN5 : Hid (wr.ownsRow w.heap.size 3 1 (.slice a2 L.length c2) L.length (intsZ L) ∧ Below w.heap.size w wr ∧ aheadP els n = L ++ aheadOf els k par) := ⟨HN.out.1, HN.out.2.1, by rw [HN.out.2.2, HS.out, if_neg hp]; rfl⟩
          clear hp HS HN
          go_wp2
          go_roundg k
          case measure => omega
          case rel => exact ⟨k, _, L, rfl, by go_num, by omega, Nat.le_refl _, by omega, HN5⟩
theorem aheadOf_len (i : Nat) (par : Int) : (aheadOf els i par).length ≤ els.length := by
  unfold aheadOf
  rw [List.length_reverse, List.length_map]
  refine Nat.le_trans (List.length_filter_le _ _) ?_
  exact List.length_take_le' _ _
theorem aheadP_len : (aheadP els n).length ≤ els.length := by
  unfold aheadP
  split
  · exact aheadOf_len els _ _
  · simp
theorem pplaceOf_any (h : TRd w b a c els) : Calls Tryz.prog 228 #[.pointer (some ⟨b, 1, none⟩), .int .i64 n] w fun e w' => PNum w (((aheadP els n).length : Int) + 1) e w' := by
  have HT : Hid (TRd w b a c els) := h
  have hfew := h.few
  have hl := aheadP_len els n
  clear h
  go_enter Tryz.func228, Tryz.ntmps228
  go_wp2_with fail
  refine (pahead_any w b a c els n HT.out).mono ?_
  rintro e w1 ⟨a2, c2, rfl, _, _, _, hB⟩
  obtain ⟨k, hk⟩ : ∃ k, (aheadP els n).length = k := ⟨_, rfl⟩
  have HE : Hid (PNum w (((aheadP els n).length : Int) + 1) (.returned (.int .i64 ((k : Int) + 1))) w1) := ⟨by rw [hk], hB⟩
  rw [hk] at hl ⊢
  clear hB hk
  go_wp2
  go_ret
  exact HE.out
end
end Go.Proofs.YtblfffbmklkhmaaGreat
