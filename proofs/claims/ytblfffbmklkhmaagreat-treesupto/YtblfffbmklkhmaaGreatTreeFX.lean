/- Own work. -/
import Derived.Test.YtblfffbmklkhmaaGreatTreeAE
namespace Go.Proofs.YtblfffbmklkhmaaGreat
open Go.RowKit

/-- What a Children answers: the list is new, and no part of the document. -/
def PChiPost (PS : World → Value → Tree → Nat → (Nat → Prop) → Prop) (w : World) (px : Value) (T : Tree) (made : Nat) (F : Nat → Prop) (n : Int) (e : Ending) (w' : World) : Prop :=
  ∃ (a : Option Addr) (len c : Nat) (y : Int) (F' : Nat → Prop), e = .returned (.tuple #[.slice a len c, .int .i64 y]) ∧ PS w' px T made F' ∧ (∀ k, F' k → More F w k) ∧ Fr w w' F ∧
    ((tFind T n = none ∧ y = 5 ∧ len = 0) ∨ (∃ l, tFind T n = some l ∧ y = 0 ∧ len = l.length ∧ w'.ownsRow w.heap.size 3 1 (.slice a len c) len (ints l) ∧ ∀ j, (Value.slice a len c).ownBlock = some j → ¬ F' j))

/-- The program's document: a predicate that its calls keep as the document's do. -/
structure ProgOK (PS : World → Value → Tree → Nat → (Nat → Prop) → Prop) : Prop where
  ptr : ∀ {w px T made F}, PS w px T made F → ∃ a, px = .pointer (some a)
  keep : ∀ {w w' px T made F}, PS w px T made F → (∀ k, F k → k < w.heap.size → w'.heap[k]? = w.heap[k]?) → w.heap.size ≤ w'.heap.size → PS w' px T made F
  here : ∀ {w px T made F}, PS w px T made F → PS w px T made (fun k => F k ∧ k < w.heap.size)
  new : ∀ (w : World) (s root : ByteArray), s.size ≤ maxLen → Calls Tryz.prog 24 #[.string s, .string root] w fun e w' =>
    Below w.heap.size w w' ∧ ((newErr s root ≠ 0 ∧ e = .returned (.tuple #[.pointer none, .int .i64 (newErr s root)])) ∨ (newErr s root = 0 ∧ ∃ px, e = .returned (.tuple #[px, .int .i64 0]) ∧ PS w' px [(0, [])] 1 (fun k => w.heap.size ≤ k)))
  ins : ∀ (w : World) (px : Value) (T : Tree) (made : Nat) (F : Nat → Prop) (par at' : Int) (kind : ByteArray), PS w px T made F → TW T made → made ≤ 1099511627776 → Calls Tryz.prog 36 #[px, .int .i64 par, .int .i64 at', .string kind] w fun e w' =>
    ∃ y T' made' n, e = .returned (.tuple #[.int .i64 n, .int .i64 y]) ∧ TIns T made par at' kind y T' made' n ∧ PS w' px T' made' (More F w) ∧ Fr w w' F
  rem : ∀ (w : World) (px : Value) (T : Tree) (made : Nat) (F : Nat → Prop) (n : Int), PS w px T made F → TW T made → Calls Tryz.prog 116 #[px, .int .i64 n] w fun e w' =>
    ∃ y T', e = .returned (.int .i64 y) ∧ TRem T n y T' ∧ PS w' px T' made (More F w) ∧ Fr w w' F
  mov : ∀ (w : World) (px : Value) (T : Tree) (made : Nat) (F : Nat → Prop) (n m at' : Int), PS w px T made F → TW T made → Calls Tryz.prog 119 #[px, .int .i64 n, .int .i64 m, .int .i64 at'] w fun e w' =>
    ∃ y T', e = .returned (.int .i64 y) ∧ TMov T n m at' y T' ∧ PS w' px T' made (More F w) ∧ Fr w w' F
  chi : ∀ (w : World) (px : Value) (T : Tree) (made : Nat) (F : Nat → Prop) (n : Int), PS w px T made F → TW T made → Calls Tryz.prog 91 #[px, .int .i64 n] w fun e w' => PChiPost PS w px T made F n e w'

/-- Both sides' Insert is one. -/
theorem TIns.one {T : Tree} {made : Nat} {par at' : Int} {kind : ByteArray} {y y' : Int} {U U' : Tree} {m m' : Nat} {n n' : Int} (h : TIns T made par at' kind y U m n) (h' : TIns T made par at' kind y' U' m' n') : y = y' ∧ U = U' ∧ m = m' ∧ n = n' := by
  have hy : y = y' := h.1.trans h'.1.symm
  subst hy
  refine ⟨rfl, ?_⟩
  rcases h.2 with ⟨h1, h2, h3, h4⟩ | ⟨h1, h2, h3, p, k, hp, hk, _, h4⟩ <;> rcases h'.2 with ⟨g1, g2, g3, g4⟩ | ⟨g1, g2, g3, p', k', hp', hk', _, g4⟩
  · exact ⟨h3.trans g3.symm, h4.trans g4.symm, h2.trans g2.symm⟩
  · exact absurd g1 h1
  · exact absurd h1 g1
  · have e1 : p = p' := by omega
    have e2 : k = k' := by omega
    subst e1 e2
    exact ⟨h4.trans g4.symm, h3.trans g3.symm, h2.trans g2.symm⟩
theorem TRem.one {T : Tree} {n : Int} {y y' : Int} {U U' : Tree} (h : TRem T n y U) (h' : TRem T n y' U') : y = y' ∧ U = U' := by
  have hy : y = y' := h.1.trans h'.1.symm
  subst hy
  refine ⟨rfl, ?_⟩
  rcases h.2 with ⟨h1, h2⟩ | ⟨h1, a, ha, _, _, h2⟩ <;> rcases h'.2 with ⟨g1, g2⟩ | ⟨g1, a', ha', _, _, g2⟩
  · exact h2.trans g2.symm
  · exact absurd g1 h1
  · exact absurd h1 g1
  · have e1 : a = a' := by omega
    subst e1
    exact h2.trans g2.symm
theorem TMov.one {T : Tree} {n m at' : Int} {y y' : Int} {U U' : Tree} (h : TMov T n m at' y U) (h' : TMov T n m at' y' U') : y = y' ∧ U = U' := by
  have hy : y = y' := h.1.trans h'.1.symm
  subst hy
  refine ⟨rfl, ?_⟩
  rcases h.2 with ⟨h1, h2⟩ | ⟨h1, a, p, k, ha, hp, hk, _, _, _, _, h2⟩ <;> rcases h'.2 with ⟨g1, g2⟩ | ⟨g1, a', p', k', ha', hp', hk', _, _, _, _, g2⟩
  · exact h2.trans g2.symm
  · exact absurd g1 h1
  · exact absurd h1 g1
  · have e1 : a = a' := by omega
    have e2 : p = p' := by omega
    have e3 : k = k' := by omega
    subst e1 e2 e3
    exact h2.trans g2.symm
theorem TIns.tw {T : Tree} {made : Nat} {par at' : Int} {kind : ByteArray} {y : Int} {U : Tree} {m : Nat} {n : Int} (h : TIns T made par at' kind y U m n) (hw : TW T made) : TW U m ∧ m ≤ made + 1 := by
  rcases h.2 with ⟨_, _, rfl, rfl⟩ | ⟨_, _, rfl, p, k, _, _, ⟨l, hl, _⟩, rfl⟩
  · exact ⟨hw, Nat.le_succ _⟩
  · exact ⟨hw.ins ⟨l, hl⟩, Nat.le_refl _⟩
theorem TRem.tw {T : Tree} {made : Nat} {n : Int} {y : Int} {U : Tree} (h : TRem T n y U) (hw : TW T made) : TW U made := by
  rcases h.2 with ⟨_, rfl⟩ | ⟨_, a, _, h0, ⟨l, hl⟩, rfl⟩
  · exact hw
  · exact hw.rem hl h0
theorem TMov.tw {T : Tree} {made : Nat} {n m at' : Int} {y : Int} {U : Tree} (h : TMov T n m at' y U) (hw : TW T made) : TW U made := by
  rcases h.2 with ⟨_, rfl⟩ | ⟨_, a, p, k, _, _, _, h0, ⟨l, hl⟩, ⟨lp, hlp, _⟩, hu, rfl⟩
  · exact hw
  · exact hw.mov hl h0 hlp hu

/-- Numbers of a tree's elements, none twice. -/
def LT (T : Tree) (l : List Nat) : Prop := l.Nodup ∧ ∀ k ∈ l, ∃ c, (k, c) ∈ T
theorem lt_ls {els : List REl} {l : List Nat} : LT (absR els) l ↔ LS els l := by
  unfold LT LS absR
  constructor
  · rintro ⟨h1, h2⟩
    refine ⟨h1, fun k hk => ?_⟩
    obtain ⟨c, hc⟩ := h2 k hk
    obtain ⟨e, he, h3⟩ := List.mem_map.1 hc
    injection h3 with h3 _
    exact ⟨e, he, h3⟩
  · rintro ⟨h1, h2⟩
    refine ⟨h1, fun k hk => ?_⟩
    obtain ⟨e, he, rfl⟩ := h2 k hk
    exact ⟨e.kids, List.mem_map.2 ⟨e, he, rfl⟩⟩

theorem RS.here {w : World} {d : Nat} {T : Tree} {made : Nat} {F : Nat → Prop} (h : RS w d T made F) : RS w d T made (fun k => F k ∧ k < w.heap.size) := by
  obtain ⟨els, hp, vT, has, vL, h1, h2, h3⟩ := h
  refine ⟨els, hp, vT, has, vL, h1, h2, fun k hk => ⟨h3 k hk, ?_⟩⟩
  rcases hk with rfl | ⟨e, he, rfl⟩ | hk | ⟨e, he, hk⟩
  · exact (Array.getElem?_eq_some_iff.1 h1.doc).1
  · exact (Array.getElem?_eq_some_iff.1 (h1.el e he)).1
  · exact (h1.row.lt k hk).2
  · exact ((h1.kid e he).lt k hk).2
/-- With the blocks that have been made since, and are there. -/
def Grew (F : Nat → Prop) (w w' : World) (k : Nat) : Prop := More F w k ∧ k < w'.heap.size
theorem own_keep {w w' : World} {e : TypeId} {v : Value} {n : Nat} {xs : List Value} (h : w.ownsRow 0 e 1 v n xs) (hk : ∀ k, v.ownBlock = some k → k < w.heap.size → w'.heap[k]? = w.heap[k]?) : w'.ownsRow 0 e 1 v n xs := by
  refine ⟨h.1, ?_⟩
  rcases h.2 with hn | ⟨g, cap, cur, hv, hb, hg, rest⟩
  · exact Or.inl hn
  · exact Or.inr ⟨g, cap, cur, hv, hb, (hk g (by rw [hv]; rfl) (Array.getElem?_eq_some_iff.1 hg).1).trans hg, rest⟩

/-- A pair: the program's document and the reference's hold trees; each lies in its own memory. -/
structure PJ (PS : World → Value → Tree → Nat → (Nat → Prop) → Prop) (w : World) (b : Nat) (Tx : Tree) (mx : Nat) (Ty : Tree) (my : Nat) (px : Value) (d : Nat) (vm vy vs : Value) (cnt : Int) (held : Bool) (lm ly : List Nat) (Fp Fx Fy : Nat → Prop) : Prop where
  pb : PB w b px d vm vy cnt vs held
  ps : PS w px Tx mx Fx
  rs : RS w d Ty my Fy
  must : w.ownsRow 0 3 1 vm lm.length (ints lm)
  may : w.ownsRow 0 3 1 vy ly.length (ints ly)
  inb : Fp b
  inm : ∀ j, vm.ownBlock = some j → Fp j
  iny : ∀ j, vy.ownBlock = some j → Fp j
  px : ∀ k, Fp k → ¬ Fx k
  py : ∀ k, Fp k → ¬ Fy k
  xy : ∀ k, Fx k → ¬ Fy k
  here : ∀ k, Fp k ∨ Fx k ∨ Fy k → k < w.heap.size

section
variable {PS : World → Value → Tree → Nat → (Nat → Prop) → Prop} {w : World} {b : Nat} {Tx : Tree} {mx : Nat} {Ty : Tree} {my : Nat} {px : Value} {d : Nat} {vm vy vs : Value} {cnt : Int} {held : Bool} {lm ly : List Nat} {Fp Fx Fy : Nat → Prop}

theorem PJ.prog (hP : ProgOK PS) (h : PJ PS w b Tx mx Ty my px d vm vy vs cnt held lm ly Fp Fx Fy) {w1 : World} {T1 : Tree} {m1 : Nat} (hs : PS w1 px T1 m1 (More Fx w)) (hf : Fr w w1 Fx) : PJ PS w1 b T1 m1 Ty my px d vm vy vs cnt held lm ly Fp (Grew Fx w w1) Fy := by
  have kp : ∀ k, Fp k → k < w.heap.size → w1.heap[k]? = w.heap[k]? := fun k hk hl => hf.block k hl (h.px k hk)
  refine ⟨(kp b h.inb (h.here b (Or.inl h.inb))).trans h.pb, hP.here hs, h.rs.keep (fun k hk hl => hf.block k hl (fun x => h.xy k x hk)), own_keep h.must (fun k hk hl => kp k (h.inm k hk) hl), own_keep h.may (fun k hk hl => kp k (h.iny k hk) hl), h.inb, h.inm, h.iny, fun k hk hx => ?_, h.py, fun k hx hk => ?_, fun k hk => ?_⟩
  · rcases hx.1 with hx | hx
    · exact h.px k hk hx
    · have := h.here k (Or.inl hk); omega
  · rcases hx.1 with hx | hx
    · exact h.xy k hx hk
    · have := h.here k (Or.inr (Or.inr hk)); omega
  · have := hf.size
    rcases hk with hk | hk | hk
    · have := h.here k (Or.inl hk); omega
    · exact hk.2
    · have := h.here k (Or.inr (Or.inr hk)); omega
theorem PJ.ref (hP : ProgOK PS) (h : PJ PS w b Tx mx Ty my px d vm vy vs cnt held lm ly Fp Fx Fy) {w1 : World} {T1 : Tree} {m1 : Nat} (hs : RS w1 d T1 m1 (More Fy w)) (hf : Fr w w1 Fy) : PJ PS w1 b Tx mx T1 m1 px d vm vy vs cnt held lm ly Fp Fx (Grew Fy w w1) := by
  have kp : ∀ k, Fp k → k < w.heap.size → w1.heap[k]? = w.heap[k]? := fun k hk hl => hf.block k hl (h.py k hk)
  refine ⟨(kp b h.inb (h.here b (Or.inl h.inb))).trans h.pb, hP.keep h.ps (fun k hk hl => hf.block k hl (h.xy k hk)) hf.size, hs.here, own_keep h.must (fun k hk hl => kp k (h.inm k hk) hl), own_keep h.may (fun k hk hl => kp k (h.iny k hk) hl), h.inb, h.inm, h.iny, h.px, fun k hk hx => ?_, fun k hk hx => ?_, fun k hk => ?_⟩
  · rcases hx.1 with hx | hx
    · exact h.py k hk hx
    · have := h.here k (Or.inl hk); omega
  · rcases hx.1 with hx | hx
    · exact h.xy k hk hx
    · have := h.here k (Or.inr (Or.inl hk)); omega
  · have := hf.size
    rcases hk with hk | hk | hk
    · have := h.here k (Or.inl hk); omega
    · have := h.here k (Or.inr (Or.inl hk)); omega
    · exact hk.2
theorem PJ.pair (hP : ProgOK PS) (h : PJ PS w b Tx mx Ty my px d vm vy vs cnt held lm ly Fp Fx Fy) {w1 : World} (hf : Fr w w1 Fp) {vm' vy' vs' : Value} {cnt' : Int} {held' : Bool} {lm' ly' : List Nat} (hb : PB w1 b px d vm' vy' cnt' vs' held')
    (hm : w1.ownsRow 0 3 1 vm' lm'.length (ints lm')) (hy : w1.ownsRow 0 3 1 vy' ly'.length (ints ly')) (im : ∀ j, vm'.ownBlock = some j → Fp j ∨ w.heap.size ≤ j) (iy : ∀ j, vy'.ownBlock = some j → Fp j ∨ w.heap.size ≤ j) : PJ PS w1 b Tx mx Ty my px d vm' vy' vs' cnt' held' lm' ly' (Grew Fp w w1) Fx Fy := by
  have hsz := hf.size
  refine ⟨hb, hP.keep h.ps (fun k hk hl => hf.block k hl (fun x => h.px k x hk)) hf.size, h.rs.keep (fun k hk hl => hf.block k hl (fun x => h.py k x hk)), hm, hy, ⟨Or.inl h.inb, ?_⟩, fun j hj => ⟨im j hj, (hm.lt j hj).2⟩, fun j hj => ⟨iy j hj, (hy.lt j hj).2⟩, fun k hk hx => ?_, fun k hk hx => ?_, h.xy, fun k hk => ?_⟩
  · have := h.here b (Or.inl h.inb); omega
  · rcases hk.1 with hk | hk
    · exact h.px k hk hx
    · have := h.here k (Or.inr (Or.inl hx)); omega
  · rcases hk.1 with hk | hk
    · exact h.py k hk hx
    · have := h.here k (Or.inr (Or.inr hx)); omega
  · rcases hk with hk | hk | hk
    · exact hk.2
    · have := h.here k (Or.inr (Or.inl hk)); omega
    · have := h.here k (Or.inr (Or.inr hk)); omega
/-- What is not the pair's has been changed: the pair is as it was. -/
theorem PJ.keep (hP : ProgOK PS) (h : PJ PS w b Tx mx Ty my px d vm vy vs cnt held lm ly Fp Fx Fy) {w1 : World} (hsz : w.heap.size ≤ w1.heap.size) (hk : ∀ k, Fp k ∨ Fx k ∨ Fy k → w1.heap[k]? = w.heap[k]?) : PJ PS w1 b Tx mx Ty my px d vm vy vs cnt held lm ly Fp Fx Fy :=
  ⟨(hk b (Or.inl h.inb)).trans h.pb, hP.keep h.ps (fun k hx _ => hk k (Or.inr (Or.inl hx))) hsz, h.rs.keep (fun k hx _ => hk k (Or.inr (Or.inr hx))), own_keep h.must (fun k hx _ => hk k (Or.inl (h.inm k hx))), own_keep h.may (fun k hx _ => hk k (Or.inl (h.iny k hx))), h.inb, h.inm, h.iny, h.px, h.py, h.xy, fun k hx => Nat.lt_of_lt_of_le (h.here k hx) hsz⟩
end

end Go.Proofs.YtblfffbmklkhmaaGreat
