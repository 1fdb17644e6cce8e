/- Own work. -/
import Derived.Test.YtblfffbmklkhmaaGreatAw17
import Derived.Test.YtblfffbmklkhmaaGreatAw14
import Derived.Test.YtblfffbmklkhmaaGreatAw10
import Derived.Test.YtblfffbmklkhmaaGreatAw7
import Derived.Deep.RegionHeld3
namespace Go.Proofs.YtblfffbmklkhmaaGreat
open Go.RowKit
def qryErr (T : Tree) (n : Int) (s : ByteArray) : Int := match tFind T n with | none => 5 | some _ => match propP s with | none => 4 | some _ => 0
/-- What Query tells. -/
def qryVal (T : Tree) (M : Nat → Mk) (rs : List PRu) (n : Int) (s : ByteArray) : Int := if qryErr T n s = 0 then (styleV (viewT T M) rs n).getD ((propP s).getD 0) 0 else 0
/-- The program's document: a predicate that its calls keep. -/
structure DocOK (DS : World → Value → Tree → Nat → (Nat → Mk) → List PRu → (Nat → Prop) → Prop) : Prop where
  ptr : ∀ {w px T made M rs F}, DS w px T made M rs F → ∃ a, px = .pointer (some a)
  tw : ∀ {w px T made M rs F}, DS w px T made M rs F → TW T made
  mark : ∀ {w px T made M M' rs F}, DS w px T made M rs F → (∀ k l, (k, l) ∈ T → M k = M' k) → DS w px T made M' rs F
  keep : ∀ {w w' px T made M rs F}, DS w px T made M rs F → (∀ k, F k → k < w.heap.size → w'.heap[k]? = w.heap[k]?) → w.heap.size ≤ w'.heap.size → DS w' px T made M rs F
  here : ∀ {w px T made M rs F}, DS w px T made M rs F → DS w px T made M rs (fun k => F k ∧ k < w.heap.size)
  new : ∀ (w : World) (s root : ByteArray), s.size ≤ maxLen → Calls Tryz.prog 24 #[.string s, .string root] w fun e w' =>
    Below w.heap.size w w' ∧ ((newErr s root ≠ 0 ∧ e = .returned (.tuple #[.pointer none, .int .i64 (newErr s root)])) ∨ (newErr s root = 0 ∧ ∃ px, e = .returned (.tuple #[px, .int .i64 0]) ∧ DS w' px [(0, [])] 1 (fun _ => newMk root) (sheetOf s) (fun k => w.heap.size ≤ k)))
  ins : ∀ (w : World) (px : Value) (T : Tree) (made : Nat) (M : Nat → Mk) (rs : List PRu) (F : Nat → Prop) (par at' : Int) (kind : ByteArray), DS w px T made M rs F → made ≤ 4611686018427387904 → Calls Tryz.prog 36 #[px, .int .i64 par, .int .i64 at', .string kind] w fun e w' =>
    ∃ y T' made' n, e = .returned (.tuple #[.int .i64 n, .int .i64 y]) ∧ TIns T made par at' kind y T' made' n ∧ DS w' px T' made' (if y = 0 then setM M made (newMk kind) else M) rs (More F w) ∧ Fr w w' F
  rem : ∀ (w : World) (px : Value) (T : Tree) (made : Nat) (M : Nat → Mk) (rs : List PRu) (F : Nat → Prop) (n : Int), DS w px T made M rs F → Calls Tryz.prog 116 #[px, .int .i64 n] w fun e w' =>
    ∃ y T', e = .returned (.int .i64 y) ∧ TRem T n y T' ∧ DS w' px T' made M rs (More F w) ∧ Fr w w' F
  mov : ∀ (w : World) (px : Value) (T : Tree) (made : Nat) (M : Nat → Mk) (rs : List PRu) (F : Nat → Prop) (n m at' : Int), DS w px T made M rs F → Calls Tryz.prog 119 #[px, .int .i64 n, .int .i64 m, .int .i64 at'] w fun e w' =>
    ∃ y T', e = .returned (.int .i64 y) ∧ TMov T n m at' y T' ∧ DS w' px T' made M rs (More F w) ∧ Fr w w' F
  cls : ∀ (w : World) (px : Value) (T : Tree) (made : Nat) (M : Nat → Mk) (rs : List PRu) (F : Nat → Prop) (n : Int) (s : ByteArray) (on : Bool), DS w px T made M rs F → Calls Tryz.prog 46 #[px, .int .i64 n, .string s, .bool on] w fun e w' =>
    ∃ y, e = .returned (.int .i64 y) ∧ y = clsErr T n s ∧ DS w' px T made (if y = 0 then setM M n.toNat (clsMk (M n.toNat) s on) else M) rs (More F w) ∧ Fr w w' F
  nam : ∀ (w : World) (px : Value) (T : Tree) (made : Nat) (M : Nat → Mk) (rs : List PRu) (F : Nat → Prop) (n : Int) (s : ByteArray), DS w px T made M rs F → Calls Tryz.prog 21 #[px, .int .i64 n, .string s] w fun e w' =>
    ∃ y, e = .returned (.int .i64 y) ∧ y = namErr T n s ∧ DS w' px T made (if y = 0 then setM M n.toNat (namMk (M n.toNat) s) else M) rs (More F w) ∧ Fr w w' F
  sht : ∀ (w : World) (px : Value) (T : Tree) (made : Nat) (M : Nat → Mk) (rs : List PRu) (F : Nat → Prop) (s : ByteArray), s.size ≤ maxLen → DS w px T made M rs F → Calls Tryz.prog 28 #[px, .string s] w fun e w' =>
    ∃ y, e = .returned (.int .i64 y) ∧ y = (chk s).1 ∧ DS w' px T made M (if y = 0 then sheetOf s else rs) (More F w) ∧ Fr w w' F
  qry : ∀ (w : World) (px : Value) (T : Tree) (made : Nat) (M : Nat → Mk) (rs : List PRu) (F : Nat → Prop) (n : Int) (s : ByteArray), DS w px T made M rs F → Calls Tryz.prog 37 #[px, .int .i64 n, .string s] w fun e w' =>
    e = .returned (.tuple #[.int .i64 (qryVal T M rs n s), .int .i64 (qryErr T n s)]) ∧ DS w' px T made M rs (More F w) ∧ Fr w w' F
structure PNd where
  num : Nat
  par : Int
  kind : ByteArray
  name : ByteArray
  c0 : Bool
  c1 : Bool
  c2 : Bool
  c3 : Bool
  kids : List Nat
def GN.pl (n : GN) : PNd := ⟨n.num, n.par, n.kind, n.name, n.c0, n.c1, n.c2, n.c3, n.kids⟩
def treeS (S : List PNd) : Tree := S.map fun x => (x.num, x.kids)
def clS (b : Nat) (x : PNd) (i : Nat) : Bool := (decide (i = b % 26) && x.c0) || (decide (i = (1 + b) % 26) && x.c1) || (decide (i = (2 + b) % 26) && x.c2) || (decide (i = (3 + b) % 26) && x.c3)
def mkS (b : Nat) (x : PNd) : Mk := ⟨bt x.kind 0, clS b x, if x.name.size = 0 then 0 else bt x.name 0⟩
def mOf (b : Nat) (S : List PNd) (k : Nat) : Mk := match S.find? fun x => decide (x.num = k) with | some x => mkS b x | none => ⟨0, fun _ => false, 0⟩
structure PW (S : List PNd) (made : Nat) : Prop where
  tw : TW (treeS S) made
  par : ∀ x ∈ S, x.par = tPar (treeS S) x.num
  few : S.length ≤ 24
theorem mem_treeS {S : List PNd} {x : PNd} (h : x ∈ S) : (x.num, x.kids) ∈ treeS S := List.mem_map.2 ⟨x, h, rfl⟩
theorem of_treeS {S : List PNd} {k : Nat} {l : List Nat} (h : (k, l) ∈ treeS S) : ∃ x ∈ S, x.num = k ∧ x.kids = l := by
  obtain ⟨x, hx, he⟩ := List.mem_map.1 h
  injection he with h1 h2
  exact ⟨x, hx, h1, h2⟩
section
variable {S : List PNd} {made : Nat} {b : Nat}
theorem PW.nums (h : PW S made) : (S.map PNd.num).Nodup := by
  have := h.tw.nums
  unfold treeS at this
  rw [List.map_map] at this
  exact this
theorem pnd_find (hn : (S.map PNd.num).Nodup) {x : PNd} (hx : x ∈ S) : (S.find? fun y => decide (y.num = x.num)) = some x := by
  induction S with
  | nil => cases hx
  | cons z l ih =>
    rw [List.map_cons, List.nodup_cons] at hn
    rw [List.find?_cons]
    rcases List.mem_cons.1 hx with rfl | h1
    · simp
    · have : ¬ z.num = x.num := fun e => hn.1 (List.mem_map.2 ⟨x, h1, e.symm⟩)
      simp only [this, decide_false]
      exact ih hn.2 h1
theorem mOf_at (hn : (S.map PNd.num).Nodup) {x : PNd} (hx : x ∈ S) : mOf b S x.num = mkS b x := by
  unfold mOf
  rw [pnd_find hn hx]
theorem treeS_len : (treeS S).length = S.length := by unfold treeS; simp
theorem treeS_find (h : PW S made) {x : PNd} (hx : x ∈ S) : tFind (treeS S) x.num = some x.kids := tFind_mem h.tw.nums (mem_treeS hx)
/-- One node is turned, its number stays. -/
def updS (S : List PNd) (k : Nat) (f : PNd → PNd) : List PNd := S.map fun x => if x.num = k then f x else x
theorem updS_len (k : Nat) (f : PNd → PNd) : (updS S k f).length = S.length := by unfold updS; simp
theorem mem_updS {k : Nat} {f : PNd → PNd} {y : PNd} : y ∈ updS S k f ↔ ∃ x ∈ S, y = if x.num = k then f x else x := by
  unfold updS
  rw [List.mem_map]
  exact ⟨fun ⟨x, hx, he⟩ => ⟨x, hx, he.symm⟩, fun ⟨x, hx, he⟩ => ⟨x, hx, he.symm⟩⟩
def insS (S : List PNd) (made : Nat) (p at' : Nat) (kind : ByteArray) : List PNd := updS S p (fun x => { x with kids := insL x.kids at' made }) ++ [⟨made, p, kind, ⟨#[]⟩, false, false, false, false, []⟩]
theorem insS_tree (p at' : Nat) (kind : ByteArray) : treeS (insS S made p at' kind) = tIns (treeS S) p at' made := by
  unfold treeS insS tIns tSet updS
  rw [List.map_append, List.map_map, List.map_map]
  congr 1
  apply List.map_congr_left
  intro x _
  show ((if x.num = p then { x with kids := insL x.kids at' made } else x).num, (if x.num = p then { x with kids := insL x.kids at' made } else x).kids) = if x.num = p then (x.num, insL x.kids at' made) else (x.num, x.kids)
  split <;> rfl
theorem PW.ins (h : PW S made) {p : PNd} (hp : p ∈ S) (at' : Nat) (kind : ByteArray) (hfew : S.length < 24) : PW (insS S made p.num at' kind) (made + 1) := by
  have htw : TW (treeS (insS S made p.num at' kind)) (made + 1) := by rw [insS_tree]; exact h.tw.ins ⟨p.kids, mem_treeS hp⟩
  refine ⟨htw, fun y hy => ?_, by unfold insS; rw [List.length_append, updS_len]; simp; omega⟩
  have key : ∀ (q : PNd), q ∈ S → ∀ k ∈ q.kids, tPar (treeS (insS S made p.num at' kind)) k = q.num := fun q hq k hk => by
    have hm : (q.num, if q.num = p.num then insL q.kids at' made else q.kids) ∈ treeS (insS S made p.num at' kind) := by
      rw [insS_tree]
      exact mem_tIns.2 (Or.inl ⟨(q.num, q.kids), mem_treeS hq, rfl, rfl⟩)
    refine htw.parent hm ?_
    show k ∈ if q.num = p.num then insL q.kids at' made else q.kids
    split
    · exact mem_insL.2 (Or.inr hk)
    · exact hk
  unfold insS at hy
  rw [List.mem_append, mem_updS, List.mem_singleton] at hy
  rcases hy with ⟨x, hx, rfl⟩ | rfl
  · have e1 : (if x.num = p.num then { x with kids := insL x.kids at' made } else x).num = x.num := by split <;> rfl
    have e2 : (if x.num = p.num then { x with kids := insL x.kids at' made } else x).par = x.par := by split <;> rfl
    rw [e1, e2, h.par x hx]
    by_cases h0 : x.num = 0
    · rw [h0]
      exact (show tPar (treeS S) 0 = tPar (treeS (insS S made p.num at' kind)) 0 from h.tw.root_par.trans htw.root_par.symm)
    · obtain ⟨q, hq, hm, hpq⟩ := h.tw.up (mem_treeS hx) h0
      obtain ⟨z, hz, h1, h2⟩ := of_treeS (k := q.1) (l := q.2) hq
      rw [hpq, ← h1]
      exact (key z hz x.num (by rw [h2]; exact hm)).symm
  · show (p.num : Int) = tPar _ made
    have hm : (p.num, insL p.kids at' made) ∈ treeS (insS S made p.num at' kind) := by
      rw [insS_tree]
      exact mem_tIns.2 (Or.inl ⟨(p.num, p.kids), mem_treeS hp, rfl, by simp⟩)
    exact (htw.parent hm (mem_insL.2 (Or.inl rfl))).symm
theorem insS_marks (h : PW S made) {p : PNd} (hp : p ∈ S) (at' : Nat) (kind : ByteArray) (hfew : S.length < 24) : ∀ k l, (k, l) ∈ treeS (insS S made p.num at' kind) → setM (mOf b S) made (newMk kind) k = mOf b (insS S made p.num at' kind) k := by
  intro k l hkl
  have hP := h.ins hp at' kind hfew
  obtain ⟨y, hy, rfl, _⟩ := of_treeS hkl
  rw [mOf_at hP.nums hy]
  unfold insS at hy
  rw [List.mem_append, mem_updS, List.mem_singleton] at hy
  rcases hy with ⟨x, hx, rfl⟩ | rfl
  · have e1 : (if x.num = p.num then { x with kids := insL x.kids at' made } else x).num = x.num := by split <;> rfl
    have e2 : mkS b (if x.num = p.num then { x with kids := insL x.kids at' made } else x) = mkS b x := by split <;> rfl
    have hlt := h.tw.lt _ (mem_treeS hx)
    rw [e1, e2]
    unfold setM
    rw [if_neg (by show ¬ x.num = made; have : x.num < made := hlt; omega), mOf_at h.nums hx]
  · unfold setM
    rw [if_pos rfl]
    unfold newMk mkS
    congr 1
    funext i
    simp [clS]
theorem marks_same {S' : List PNd} (hn : (S.map PNd.num).Nodup) (hn' : (S'.map PNd.num).Nodup) (h : ∀ y ∈ S', ∃ x ∈ S, x.num = y.num ∧ mkS b y = mkS b x) : ∀ k l, (k, l) ∈ treeS S' → mOf b S k = mOf b S' k := by
  intro k l hkl
  obtain ⟨y, hy, rfl, _⟩ := of_treeS hkl
  obtain ⟨x, hx, h1, h2⟩ := h y hy
  rw [mOf_at hn' hy, h2, ← h1, mOf_at hn hx]
noncomputable def remS (S : List PNd) (a : Nat) : List PNd := updS (S.filter fun x => !tUnderB (treeS S) a x.num) (tPar (treeS S) a).toNat (fun x => { x with kids := noneOf a x.kids })
theorem upd_tree (k : Nat) (f : List Nat → List Nat) : treeS (updS S k fun x => { x with kids := f x.kids }) = tSet k f (treeS S) := by
  unfold treeS updS tSet
  rw [List.map_map, List.map_map]
  apply List.map_congr_left
  intro x _
  show ((if x.num = k then { x with kids := f x.kids } else x).num, (if x.num = k then { x with kids := f x.kids } else x).kids) = if x.num = k then (x.num, f x.kids) else (x.num, x.kids)
  split <;> rfl
theorem remS_tree (a : Nat) : treeS (remS S a) = tRem (treeS S) a := by
  unfold remS tRem
  rw [upd_tree]
  congr 1
  unfold treeS
  rw [List.filter_map]
  rfl
theorem mem_remS {a : Nat} {y : PNd} (hy : y ∈ remS S a) : ∃ x ∈ S, ¬ tUnder (treeS S) a x.num ∧ y.num = x.num ∧ y.par = x.par ∧ (∀ b, mkS b y = mkS b x) ∧ (∀ k, k ∈ x.kids → k ≠ a → k ∈ y.kids) := by
  unfold remS at hy
  rw [mem_updS] at hy
  obtain ⟨x, hx, rfl⟩ := hy
  rw [List.mem_filter] at hx
  have hu : ¬ tUnder (treeS S) a x.num := fun h => by
    have := tUnderB_iff.2 h
    rw [this] at hx
    exact absurd hx.2 (by simp)
  refine ⟨x, hx.1, hu, ?_, ?_, fun b => ?_, fun k hk hka => ?_⟩
  · split <;> rfl
  · split <;> rfl
  · split <;> rfl
  · split
    · exact mem_noneOf.2 ⟨hk, hka⟩
    · exact hk
theorem remS_mem {a : Nat} {x : PNd} (hx : x ∈ S) (hu : ¬ tUnder (treeS S) a x.num) : ∃ y ∈ remS S a, y.num = x.num ∧ ∀ k, k ∈ x.kids → k ≠ a → k ∈ y.kids := by
  refine ⟨if x.num = (tPar (treeS S) a).toNat then { x with kids := noneOf a x.kids } else x, ?_, by split <;> rfl, fun k hk hka => ?_⟩
  · unfold remS
    rw [mem_updS]
    refine ⟨x, List.mem_filter.2 ⟨hx, ?_⟩, rfl⟩
    cases hb : tUnderB (treeS S) a x.num with
    | false => rfl
    | true => exact absurd (tUnderB_iff.1 hb) hu
  · split
    · exact mem_noneOf.2 ⟨hk, hka⟩
    · exact hk
theorem PW.rem (h : PW S made) {a : PNd} (ha : a ∈ S) (h0 : a.num ≠ 0) : PW (remS S a.num) made := by
  have htw : TW (treeS (remS S a.num)) made := by rw [remS_tree]; exact h.tw.rem (mem_treeS ha) h0
  refine ⟨htw, fun y hy => ?_, ?_⟩
  · obtain ⟨x, hx, hu, h1, h2, _, _⟩ := mem_remS hy
    rw [h1, h2, h.par x hx]
    by_cases hx0 : x.num = 0
    · rw [hx0]
      exact (show tPar (treeS S) 0 = tPar (treeS (remS S a.num)) 0 from h.tw.root_par.trans htw.root_par.symm)
    · obtain ⟨q, hq, hm, hpq⟩ := h.tw.up (mem_treeS hx) hx0
      obtain ⟨z, hz, e1, e2⟩ := of_treeS (k := q.1) (l := q.2) hq
      have hzu : ¬ tUnder (treeS S) a.num z.num := fun hzu => hu ((h.tw.under_kid hq hm a.num).2 (Or.inr (by rw [← e1]; exact hzu)))
      have hxa : x.num ≠ a.num := fun e => hu (by rw [e]; exact under_self _ _)
      obtain ⟨y2, hy2, f1, f2⟩ := remS_mem hz hzu
      have := htw.parent (mem_treeS hy2) (f2 x.num (by rw [e2]; exact hm) hxa)
      rw [hpq, ← e1, this, f1]
  · unfold remS
    rw [updS_len]
    exact Nat.le_trans (List.length_filter_le _ _) h.few
theorem remS_marks (h : PW S made) {a : PNd} (ha : a ∈ S) (h0 : a.num ≠ 0) : ∀ k l, (k, l) ∈ treeS (remS S a.num) → mOf b S k = mOf b (remS S a.num) k :=
  marks_same h.nums (h.rem ha h0).nums (fun y hy => by
    obtain ⟨x, hx, _, h1, _, h3, _⟩ := mem_remS hy
    exact ⟨x, hx, h1.symm, h3 b⟩)
def movS (S : List PNd) (a p at' : Nat) : List PNd := updS (updS (updS S (tPar (treeS S) a).toNat (fun x => { x with kids := noneOf a x.kids })) p (fun x => { x with kids := insL (noneOf a x.kids) at' a })) a (fun x => { x with par := p })
theorem par_tree (k : Nat) (p : Int) : treeS (updS S k fun x => { x with par := p }) = treeS S := by
  unfold treeS updS
  rw [List.map_map]
  apply List.map_congr_left
  intro x _
  show ((if x.num = k then { x with par := p } else x).num, (if x.num = k then { x with par := p } else x).kids) = (x.num, x.kids)
  split <;> rfl
theorem movS_tree (a p at' : Nat) : treeS (movS S a p at') = tMov (treeS S) a p at' := by
  unfold movS tMov
  rw [par_tree, upd_tree p (fun l => insL (noneOf a l) at' a), upd_tree _ (noneOf a)]
theorem mem_movS {a p at' : Nat} {y : PNd} (hy : y ∈ movS S a p at') : ∃ x ∈ S, y.num = x.num ∧ (x.num ≠ a → y.par = x.par) ∧ (x.num = a → y.par = p) ∧ (∀ b, mkS b y = mkS b x) := by
  unfold movS at hy
  rw [mem_updS] at hy
  obtain ⟨x1, hx1, rfl⟩ := hy
  rw [mem_updS] at hx1
  obtain ⟨x2, hx2, rfl⟩ := hx1
  rw [mem_updS] at hx2
  obtain ⟨x, hx, rfl⟩ := hx2
  refine ⟨x, hx, ?_, ?_, ?_, fun b => ?_⟩
  · (repeat' split) <;> rfl
  · intro hne
    (repeat' split) <;> first | rfl | (exfalso; rename_i h1; apply hne; revert h1; (repeat' split) <;> exact id) | (rename_i h1 _; exfalso; exact hne h1) | (rename_i h1 _ _; exfalso; exact hne h1)
  · intro he
    (repeat' split) <;> first | rfl | (exfalso; rename_i h1; apply h1; (repeat' split) <;> exact he) | (rename_i h1 _; exact absurd he h1) | (rename_i h1 _ _; exact absurd he h1)
  · (repeat' split) <;> rfl
theorem PW.mov (h : PW S made) {a p : PNd} (ha : a ∈ S) (h0 : a.num ≠ 0) (hp : p ∈ S) (hnu : ¬ tUnder (treeS S) a.num p.num) (at' : Nat) : PW (movS S a.num p.num at') made := by
  have htw : TW (treeS (movS S a.num p.num at')) made := by rw [movS_tree]; exact h.tw.mov (mem_treeS ha) h0 (mem_treeS hp) hnu
  obtain ⟨q, hq, hqm, hqp⟩ := h.tw.up (mem_treeS ha) h0
  have key : ∀ (z : Nat × List Nat), z ∈ treeS S → ∀ k ∈ z.2, k ≠ a.num → tPar (treeS (movS S a.num p.num at')) k = z.1 := fun z hz k hk hka => by
    have hm : (z.1, if z.1 = p.num then insL (noneOf a.num (if z.1 = q.1 then noneOf a.num z.2 else z.2)) at' a.num else if z.1 = q.1 then noneOf a.num z.2 else z.2) ∈ treeS (movS S a.num p.num at') := by
      rw [movS_tree]
      exact (mem_tMov hqp).2 ⟨z, hz, rfl, rfl⟩
    refine htw.parent hm ?_
    show k ∈ (if z.1 = p.num then insL (noneOf a.num (if z.1 = q.1 then noneOf a.num z.2 else z.2)) at' a.num else if z.1 = q.1 then noneOf a.num z.2 else z.2)
    have h1 : k ∈ (if z.1 = q.1 then noneOf a.num z.2 else z.2) := by
      split
      · exact mem_noneOf.2 ⟨hk, hka⟩
      · exact hk
    split
    · exact mem_insL.2 (Or.inr (mem_noneOf.2 ⟨h1, hka⟩))
    · exact h1
  refine ⟨htw, fun y hy => ?_, by unfold movS; rw [updS_len, updS_len, updS_len]; exact h.few⟩
  obtain ⟨x, hx, h1, h2, h3, _⟩ := mem_movS hy
  rw [h1]
  by_cases hxa : x.num = a.num
  · rw [h3 hxa, hxa]
    have hm : (p.num, insL (noneOf a.num (if p.num = q.1 then noneOf a.num p.kids else p.kids)) at' a.num) ∈ treeS (movS S a.num p.num at') := by
      rw [movS_tree]
      exact (mem_tMov hqp).2 ⟨(p.num, p.kids), mem_treeS hp, rfl, by simp⟩
    exact (htw.parent hm (mem_insL.2 (Or.inl rfl))).symm
  · rw [h2 hxa, h.par x hx]
    by_cases hx0 : x.num = 0
    · rw [hx0]
      exact (show tPar (treeS S) 0 = tPar (treeS (movS S a.num p.num at')) 0 from h.tw.root_par.trans htw.root_par.symm)
    · obtain ⟨z, hz, hm, hpz⟩ := h.tw.up (mem_treeS hx) hx0
      rw [hpz]
      exact (key z hz x.num hm hxa).symm
theorem movS_marks (h : PW S made) {a p : PNd} (ha : a ∈ S) (h0 : a.num ≠ 0) (hp : p ∈ S) (hnu : ¬ tUnder (treeS S) a.num p.num) (at' : Nat) : ∀ k l, (k, l) ∈ treeS (movS S a.num p.num at') → mOf b S k = mOf b (movS S a.num p.num at') k :=
  marks_same h.nums (h.mov ha h0 hp hnu at').nums (fun y hy => by
    obtain ⟨x, hx, h1, _, _, h3⟩ := mem_movS hy
    exact ⟨x, hx, h1.symm, h3 b⟩)
end
end Go.Proofs.YtblfffbmklkhmaaGreat

namespace Go.Proofs.YtblfffbmklkhmaaGreat
open Go.RowKit
theorem Fr.comp {a w w1 : World} {G S : Nat → Prop} (h : Fr a w G) (k : Fr w w1 S) (hs : ∀ j, S j → G j ∨ a.heap.size ≤ j) : Fr a w1 G :=
  ⟨k.os.trans h.os, k.tape.trans h.tape, k.output.trans h.output, Nat.le_trans h.size k.size, fun i hi hn => (k.block i (Nat.lt_of_lt_of_le hi h.size) (fun x => (hs i x).elim hn (fun y => by omega))).trans (h.block i hi hn)⟩
section
variable {PS : World → Value → Tree → Nat → (Nat → Prop) → Prop} {w0 : World} {G : Nat → Prop} {w : World} {b : Nat} {Tx : Tree} {mx : Nat} {Ty : Tree} {my : Nat} {px : Value} {d : Nat} {vm vy vs : Value} {cnt : Int} {held : Bool} {lm ly : List Nat}
end
end Go.Proofs.YtblfffbmklkhmaaGreat

namespace Go.Proofs.YtblfffbmklkhmaaGreat
open Go.RowKit
/-- A grove with its document: both lie in sets of their own. -/
structure GD (DS : World → Value → Tree → Nat → (Nat → Mk) → List PRu → (Nat → Prop) → Prop) (w : World) (g : Nat) (px vl : Value) (made b : Nat) (ns : List GN) (rs : List PRu) (Fg Fx : Nat → Prop) : Prop where
  gr : GR w g px vl made b ns
  pw : PW (ns.map GN.pl) made
  ds : DS w px (treeS (ns.map GN.pl)) made (mOf b (ns.map GN.pl)) rs Fx
  inb : Fg g
  inn : ∀ n ∈ ns, Fg n.b
  inl : ∀ j, vl.ownBlock = some j → Fg j
  ink : ∀ n ∈ ns, ∀ j, n.ks.ownBlock = some j → Fg j
  gx : ∀ k, Fg k → ¬ Fx k
  here : ∀ k, Fg k ∨ Fx k → k < w.heap.size
/-- The same, since a world w0, within G. -/
def GQ (DS : World → Value → Tree → Nat → (Nat → Mk) → List PRu → (Nat → Prop) → Prop) (w0 : World) (G : Nat → Prop) (w : World) (g : Nat) (px : Value) (made b : Nat) (S : List PNd) (rs : List PRu) : Prop :=
  ∃ vl ns Fg Fx, S = ns.map GN.pl ∧ GD DS w g px vl made b ns rs Fg Fx ∧ (∀ k, Fg k ∨ Fx k → G k ∨ w0.heap.size ≤ k) ∧ Fr w0 w G
section
variable {DS : World → Value → Tree → Nat → (Nat → Mk) → List PRu → (Nat → Prop) → Prop} {w w' : World} {g : Nat} {px vl : Value} {made b : Nat} {ns : List GN} {rs : List PRu} {Fg Fx : Nat → Prop}
theorem GD.gt (h : GD DS w g px vl made b ns rs Fg Fx) : GT ns (treeS (ns.map GN.pl)) made := by
  have e : treeS (ns.map GN.pl) = ns.map fun n => (n.num, n.kids) := by unfold treeS; rw [List.map_map]; rfl
  refine ⟨e, h.pw.tw, fun n hn => ?_, by have := h.pw.few; simpa using this⟩
  exact h.pw.par n.pl (List.mem_map.2 ⟨n, hn, rfl⟩)
/-- All that belongs to it is as it was. -/
theorem GR.keep (h : GR w g px vl made b ns) (hk : ∀ k, k < w.heap.size → (k = g ∨ (∃ n ∈ ns, k = n.b) ∨ vl.ownBlock = some k ∨ ∃ n ∈ ns, n.ks.ownBlock = some k) → w'.heap[k]? = w.heap[k]?) : GR w' g px vl made b ns :=
  ⟨(hk g h.lt (Or.inl rfl)).trans h.blk, own_keep h.row (fun k hv hl => hk k hl (Or.inr (Or.inr (Or.inl hv)))), fun n hn => (hk n.b (Array.getElem?_eq_some_iff.1 (h.nd n hn)).1 (Or.inr (Or.inl ⟨n, hn, rfl⟩))).trans (h.nd n hn), fun n hn => own_keep (h.kid n hn) (fun k hv hl => hk k hl (Or.inr (Or.inr (Or.inr ⟨n, hn, hv⟩))))⟩
theorem GD.mine (h : GD DS w g px vl made b ns rs Fg Fx) {k : Nat} (hk : k = g ∨ (∃ n ∈ ns, k = n.b) ∨ vl.ownBlock = some k ∨ ∃ n ∈ ns, n.ks.ownBlock = some k) : Fg k := by
  rcases hk with rfl | ⟨n, hn, rfl⟩ | hk | ⟨n, hn, hk⟩
  · exact h.inb
  · exact h.inn n hn
  · exact h.inl k hk
  · exact h.ink n hn k hk
theorem GD.below (hP : DocOK DS) (h : GD DS w g px vl made b ns rs Fg Fx) (hB : Below w.heap.size w w') : GD DS w' g px vl made b ns rs Fg Fx :=
  ⟨h.gr.below hB, h.pw, hP.keep h.ds (fun k _ hl => hB.block k hl) hB.size, h.inb, h.inn, h.inl, h.ink, h.gx, fun k hk => Nat.lt_of_lt_of_le (h.here k hk) hB.size⟩
/-- The document has turned: the grove is as it was. -/
theorem GD.doc (h : GD DS w g px vl made b ns rs Fg Fx) (hf : Fr w w' Fx) : GR w' g px vl made b ns :=
  h.gr.keep (fun k hl hk => hf.block k hl (h.gx k (h.mine hk)))
theorem GD.gq (h : GD DS w g px vl made b ns rs Fg Fx) : GQ DS w (fun k => Fg k ∨ Fx k) w g px made b (ns.map GN.pl) rs := ⟨vl, ns, Fg, Fx, rfl, h, fun _ hk => Or.inl hk, Fr.refl w _⟩
theorem GD.len (h : GD DS w g px vl made b ns rs Fg Fx) : 0 < ns.length ∧ ns.length ≤ 24 := by
  obtain ⟨l, hl⟩ := h.pw.tw.root
  obtain ⟨x, hx, _, _⟩ := of_treeS hl
  have h1 := List.length_pos_of_mem hx
  have h2 := h.pw.few
  simp at h1 h2
  exact ⟨h1, h2⟩
/-- Nothing else than the grove's and the document's memory has been turned: another grove is as it was. -/
theorem GD.apart (hP : DocOK DS) (h : GD DS w g px vl made b ns rs Fg Fx) {G : Nat → Prop} (hf : Fr w w' G) (hd : ∀ k, Fg k ∨ Fx k → ¬ G k) : GD DS w' g px vl made b ns rs Fg Fx :=
  ⟨h.gr.keep (fun k hl hk => hf.block k hl (hd k (Or.inl (h.mine hk)))), h.pw, hP.keep h.ds (fun k hk hl => hf.block k hl (hd k (Or.inr hk))) hf.size, h.inb, h.inn, h.inl, h.ink, h.gx, fun k hk => Nat.lt_of_lt_of_le (h.here k hk) hf.size⟩
def updG (ns : List GN) (k : Nat) (f : GN → GN) : List GN := ns.map fun n => if n.num = k then f n else n
theorem updG_ptr (k : Nat) {f : GN → GN} (hb : ∀ x, (f x).b = x.b) : (updG ns k f).map GN.ptr = ns.map GN.ptr := by
  unfold updG
  rw [List.map_map]
  apply List.map_congr_left
  intro x _
  show GN.ptr (if x.num = k then f x else x) = x.ptr
  split
  · show Value.pointer (some ⟨(f x).b, 0, none⟩) = _; rw [hb]
  · rfl
theorem updG_pl (k : Nat) {f : GN → GN} {f' : PNd → PNd} (hf : ∀ x, (f x).pl = f' x.pl) : (updG ns k f).map GN.pl = updS (ns.map GN.pl) k f' := by
  unfold updG updS
  rw [List.map_map, List.map_map]
  apply List.map_congr_left
  intro x _
  show GN.pl (if x.num = k then f x else x) = if x.num = k then f' x.pl else x.pl
  split
  · exact hf x
  · rfl
theorem updG_len (k : Nat) (f : GN → GN) : (updG ns k f).length = ns.length := by unfold updG; simp
theorem GR.put (h : GR w g px vl made b ns) (hnn : (ns.map GN.num).Nodup) {n : GN} (hn : n ∈ ns) {f : GN → GN} (hb : ∀ x, (f x).b = x.b) (hblk : w'.heap[n.b]? = some (f n).blk) (hoth : ∀ k, k < w.heap.size → k ≠ n.b → w'.heap[k]? = w.heap[k]?)
    (hks : w'.ownsRow 0 3 1 (f n).ks (f n).kids.length (ints (f n).kids)) : GR w' g px vl made b (updG ns n.num f) := by
  have hnb := h.nd n hn
  have hg : g ≠ n.b := fun e => by
    have h1 := h.blk
    rw [e, hnb] at h1
    injection h1 with h1
    injection h1 with _ h2 _
    exact absurd h2 (by decide)
  have keepk : ∀ {e : TypeId} {v : Value} {m : Nat} {xs : List Value}, w.ownsRow 0 e 1 v m xs → e ≠ 42 → w'.ownsRow 0 e 1 v m xs := fun ho he => own_keep ho (fun k hv hl => hoth k hl (fun ek => by
    rw [ek] at hv
    exact own_ne_type ho hnb (Ne.symm he) hv))
  refine ⟨(hoth g h.lt hg).trans h.blk, ?_, fun x hx => ?_, fun x hx => ?_⟩
  · rw [updG_ptr _ hb, updG_len]
    exact keepk h.row (by decide)
  · obtain ⟨y, hy, rfl⟩ := List.mem_map.1 hx
    by_cases he : y.num = n.num
    · have := gn_inj hnn hy hn he
      subst this
      rw [if_pos rfl, hb]
      exact hblk
    · rw [if_neg he]
      have hyb := h.nd y hy
      refine (hoth y.b (Array.getElem?_eq_some_iff.1 hyb).1 (fun e => ?_)).trans hyb
      rw [e, hnb] at hyb
      unfold GN.blk at hyb
      simp at hyb
      exact he (by have := hyb.1; omega)
  · obtain ⟨y, hy, rfl⟩ := List.mem_map.1 hx
    by_cases he : y.num = n.num
    · have := gn_inj hnn hy hn he
      subst this
      rw [if_pos rfl]
      exact hks
    · rw [if_neg he]
      exact keepk (h.kid y hy) (by decide)
end
end Go.Proofs.YtblfffbmklkhmaaGreat
