/- The document's answer: what its Read keeps. Own work. -/
import Derived.Test.YtblfffbmklkhmaaGreatRefChain
import Derived.Test.YtblfffbmklkhmaaGreatRefDecls
import Derived.Test.YtblfffbmklkhmaaGreatRead
import Derived.Deep.RegionLaw
namespace Go.Proofs.YtblfffbmklkhmaaGreat
open Go.RowKit

theorem Tryz.info166 : (Tryz.prog.info? 166).map (fun i => (i.zero, i.size, i.bytes)) = some (some (.slice none 0 0), 1, 24) := by kernel_rfl
theorem Tryz.info164 : (Tryz.prog.info? 164).map (fun i => (i.zero, i.size, i.bytes)) = some (some (.agg #[.int .i64 0, .slice none 0 0, .slice none 0 0]), 3, 56) := by kernel_rfl

theorem step_append_mine {P : Program} {ops : Array Oper} {o : Oper} {a : Act} {w : World} {K : Act → World → Prop} {Q : Exit → Act → World → Prop} {E : Prop}
    (hg : o.guard = none) (s x : Operand) (t : TypeId) (hop : o.op = Op.call { callee := Callee.builtin Builtin.append, args := #[s, x], argTypes := #[t, t] })
    (base : Nat) (e : TypeId) (i : TypeInfo) (z : Value) (size bytes : Nat) (h1 : P.underlying t = some (.slice e)) (h2 : P.info? e = some i) (h3 : i.zero = some z) (h4 : i.size = size) (h5 : i.bytes = bytes) (h6 : z.cells.size = size) (h7 : 0 < size)
    (v : Value) (n : Nat) (xs : List Value) (hs : a.eval s = v) (hown : w.ownsRow base e size v n xs)
    (ad : Addr) (m c : Nat) (news : List Value) (hx : a.eval x = .slice (some ad) m c) (hn : news.length = m * size) (hc : ∀ j u, news[j]? = some u → w.cell? (ad.add j) = some u) (h1c : ∀ u ∈ news, u.oneCell' = true)
    (b1 : n + m ≤ maxLen) (b2 : (n + m) * bytes ≤ 140737488355328) (hb : base ≤ w.heap.size)
    (hK : ∀ v' w', w'.ownsRow base e size v' (n + m) (xs ++ news) → w.grownBy w' v.ownBlock → K (a.put o.dst v') w') :
    if Region.wanted o (yielded ops a.tmps) = true then Oper.wp P o a w K Q else E := by
  have hw : Region.wanted o (yielded ops a.tmps) = true := by simp [Region.wanted, hg]
  rw [if_pos hw]
  obtain ⟨v', w', hrun, r1, r2, _⟩ := run_append_own (P := P) w base t o.type e i z size bytes h1 h2 h3 h4 h5 h6 h7 v n xs hown ad m c news hn hc h1c b1 b2 hb
  unfold Oper.wp
  simp only [execOp, hop, resolve, invoke, builtin, Sem.run_bind, Sem.run_pure, Result.andThen_ok, List.map_toArray, List.map_cons, List.map_nil, hs, hx, hrun]
  exact hK v' w' r1 r2

/-- The cells hold selectors of these texts. -/
def RSels (w : World) (s : ByteArray) (base : Nat) : List Value → List (List (Nat × Nat)) → Prop
  | xs, [] => xs = []
  | xs, segs :: ss => ∃ (a : Option Addr) (c : Nat) (ps ys : List Value), xs = .slice a segs.length c :: ys ∧ w.ownsRow base 206 2 (.slice a segs.length c) segs.length ps ∧ (Txs s ps segs ∧ Sgs s ps segs) ∧ RSels w s base ys ss
theorem RSels.keep {w w' : World} {s : ByteArray} {base : Nat} (hk : Keeps w w' base 206) : ∀ {xs : List Value} {ss : List (List (Nat × Nat))}, RSels w s base xs ss → RSels w' s base xs ss
  | _, [], h => h
  | _, _ :: _, ⟨a, c, ps, ys, h1, h2, h3, h4⟩ => ⟨a, c, ps, ys, h1, hk.owns h2, h3, RSels.keep hk h4⟩
theorem RSels.mono {w : World} {s : ByteArray} {base base' : Nat} (hb : base' ≤ base) : ∀ {xs : List Value} {ss : List (List (Nat × Nat))}, RSels w s base xs ss → RSels w s base' xs ss
  | _, [], h => h
  | _, _ :: _, ⟨a, c, ps, ys, h1, h2, h3, h4⟩ => ⟨a, c, ps, ys, h1, own_mono h2 hb, h3, RSels.mono hb h4⟩
theorem RSels.snoc {w : World} {s : ByteArray} {base : Nat} (a : Option Addr) (c : Nat) (segs : List (Nat × Nat)) (ps : List Value) (ho : w.ownsRow base 206 2 (.slice a segs.length c) segs.length ps) (hk : Txs s ps segs ∧ Sgs s ps segs) :
    ∀ {xs : List Value} {ss : List (List (Nat × Nat))}, RSels w s base xs ss → RSels w s base (xs ++ [.slice a segs.length c]) (ss ++ [segs])
  | _, [], h => by simp only [RSels] at h; subst h; exact ⟨a, c, ps, [], rfl, ho, hk, rfl⟩
  | _, _ :: _, ⟨a', c', ps', ys, h1, h2, h3, h4⟩ => ⟨a', c', ps', _, by rw [h1]; rfl, h2, h3, RSels.snoc a c segs ps ho hk h4⟩

/-- The cells hold rules with these selectors. -/
def RRuls (w : World) (s : ByteArray) (base : Nat) : List Value → List (List (List (Nat × Nat))) → Prop
  | xs, [] => xs = []
  | xs, ss :: rs => ∃ (lv : Int) (a : Option Addr) (c : Nat) (vD : Value) (ps ys : List Value), xs = .int .i64 lv :: .slice a ss.length c :: vD :: ys ∧ w.ownsRow base 166 1 (.slice a ss.length c) ss.length ps ∧ RSels w s base ps ss ∧ RRuls w s base ys rs
theorem RRuls.keep {w w' : World} {s : ByteArray} {base : Nat} (hk : Keeps w w' base 206) (hk' : Keeps w w' base 166) : ∀ {xs : List Value} {rs : List (List (List (Nat × Nat)))}, RRuls w s base xs rs → RRuls w' s base xs rs
  | _, [], h => h
  | _, _ :: _, ⟨lv, a, c, vD, ps, ys, h1, h2, h3, h4⟩ => ⟨lv, a, c, vD, ps, ys, h1, hk'.owns h2, h3.keep hk, RRuls.keep hk hk' h4⟩
theorem RRuls.mono {w : World} {s : ByteArray} {base base' : Nat} (hb : base' ≤ base) : ∀ {xs : List Value} {rs : List (List (List (Nat × Nat)))}, RRuls w s base xs rs → RRuls w s base' xs rs
  | _, [], h => h
  | _, _ :: _, ⟨lv, a, c, vD, ps, ys, h1, h2, h3, h4⟩ => ⟨lv, a, c, vD, ps, ys, h1, own_mono h2 hb, h3.mono hb, RRuls.mono hb h4⟩
theorem RRuls.snoc {w : World} {s : ByteArray} {base : Nat} (lv : Int) (a : Option Addr) (c : Nat) (vD : Value) (ss : List (List (Nat × Nat))) (ps : List Value) (ho : w.ownsRow base 166 1 (.slice a ss.length c) ss.length ps) (hk : RSels w s base ps ss) :
    ∀ {xs : List Value} {rs : List (List (List (Nat × Nat)))}, RRuls w s base xs rs → RRuls w s base (xs ++ [.int .i64 lv, .slice a ss.length c, vD]) (rs ++ [ss])
  | _, [], h => by simp only [RRuls] at h; subst h; exact ⟨lv, a, c, vD, ps, [], rfl, ho, hk, rfl⟩
  | _, _ :: _, ⟨lv', a1, c1, vD', ps', ys, h1, h2, h3, h4⟩ => ⟨lv', a1, c1, vD', ps', _, by rw [h1]; rfl, h2, h3, RRuls.snoc lv a c vD ss ps ho hk h4⟩

def RSelsPre (s : ByteArray) : Nat → Nat → List (List (Nat × Nat)) → Prop
  | i, j, [] => i = j
  | i, j, segs :: ss => ∃ l, SegsAt s i l segs ∧ i ≤ l ∧ bt s l = 44 ∧ (∀ k, i ≤ k → k < l → bt s k ≠ 44) ∧ RSelsPre s (l + 1) j ss
theorem RSelsPre.snoc {s : ByteArray} {j l : Nat} {segs : List (Nat × Nat)} (h1 : SegsAt s j l segs) (h2 : j ≤ l) (h3 : bt s l = 44) (h4 : ∀ k, j ≤ k → k < l → bt s k ≠ 44) : ∀ {ss : List (List (Nat × Nat))} {i : Nat}, RSelsPre s i j ss → RSelsPre s i (l + 1) (ss ++ [segs])
  | [], _, h => by simp only [RSelsPre] at h; subst h; exact ⟨l, h1, h2, h3, h4, rfl⟩
  | _ :: _, _, ⟨l', a, b, c, d, e⟩ => ⟨l', a, b, c, d, RSelsPre.snoc h1 h2 h3 h4 e⟩
def RSelsAt (s : ByteArray) (i j : Nat) (ss : List (List (Nat × Nat))) : Prop :=
  ∃ pre l segs, ss = pre ++ [segs] ∧ RSelsPre s i l pre ∧ SegsAt s l j segs ∧ l ≤ j ∧ ∀ k, l ≤ k → k < j → bt s k ≠ 44
def RRuleAt (s : ByteArray) (i j : Nat) (ss : List (List (Nat × Nat))) : Prop :=
  ∃ p q, LayerAt s i p ∧ RSelsAt s p q ss ∧ bt s q = 123 ∧ (∀ k, p ≤ k → k < q → bt s k ≠ 123) ∧ q + 1 < j ∧ bt s (j - 1) = 125 ∧ ∀ k, q ≤ k → k < j - 1 → bt s k ≠ 125
def RRulsAt (s : ByteArray) : Nat → Nat → List (List (List (Nat × Nat))) → Prop
  | i, j, [] => i = j
  | i, j, ss :: rs => ∃ l, RRuleAt s i l ss ∧ i < l ∧ RRulsAt s l j rs
theorem RRulsAt.snoc {s : ByteArray} {j l : Nat} {ss : List (List (Nat × Nat))} (hc : RRuleAt s j l ss) (hl : j < l) : ∀ {rs : List (List (List (Nat × Nat)))} {i : Nat}, RRulsAt s i j rs → RRulsAt s i l (rs ++ [ss])
  | [], _, h => by simp only [RRulsAt] at h; subst h; exact ⟨l, hc, hl, rfl⟩
  | _ :: _, _, ⟨l', a, b, c⟩ => ⟨l', a, b, RRulsAt.snoc hc hl c⟩

/-- The cells hold rules of these layers and declarations. -/
def RDecs (w : World) (base : Nat) : List Value → List (Int × List RDecl) → Prop
  | xs, [] => xs = []
  | xs, (ly, dl) :: r => ∃ (vS : Value) (a : Option Addr) (c : Nat) (ys : List Value), xs = .int .i64 ly :: vS :: .slice a dl.length c :: ys ∧ w.ownsRow base 229 3 (.slice a dl.length c) dl.length (flatD dl) ∧ RDecs w base ys r
theorem RDecs.keep {w w' : World} {base : Nat} (hk : Keeps w w' base 229) : ∀ {xs : List Value} {is : List (Int × List RDecl)}, RDecs w base xs is → RDecs w' base xs is
  | _, [], h => h
  | _, (_, _) :: _, ⟨vS, a, c, ys, h1, h2, h3⟩ => ⟨vS, a, c, ys, h1, hk.owns h2, RDecs.keep hk h3⟩
theorem RDecs.mono {w : World} {base base' : Nat} (hb : base' ≤ base) : ∀ {xs : List Value} {is : List (Int × List RDecl)}, RDecs w base xs is → RDecs w base' xs is
  | _, [], h => h
  | _, (_, _) :: _, ⟨vS, a, c, ys, h1, h2, h3⟩ => ⟨vS, a, c, ys, h1, own_mono h2 hb, RDecs.mono hb h3⟩
theorem RDecs.snoc {w : World} {base : Nat} (ly : Int) (vS : Value) (a : Option Addr) (c : Nat) (dl : List RDecl) (ho : w.ownsRow base 229 3 (.slice a dl.length c) dl.length (flatD dl)) :
    ∀ {xs : List Value} {is : List (Int × List RDecl)}, RDecs w base xs is → RDecs w base (xs ++ [.int .i64 ly, vS, .slice a dl.length c]) (is ++ [(ly, dl)])
  | _, [], h => by simp only [RDecs] at h; subst h; exact ⟨vS, a, c, [], rfl, ho, rfl⟩
  | _, (_, _) :: _, ⟨vS', a1, c1, ys, h1, h2, h3⟩ => ⟨vS', a1, c1, _, by rw [h1]; rfl, h2, RDecs.snoc ly vS a c dl ho h3⟩
/-- The layer of a rule that begins at i. -/
def layOf (s : ByteArray) (i : Nat) : Int := if bt s i = 64 then (bt s (i + 1) : Int) - 48 else 10
def RInfAt (s : ByteArray) (i j : Nat) (ly : Int) (dl : List RDecl) : Prop :=
  ∃ p q, LayerAt s i p ∧ bt s q = 123 ∧ (∀ k, p ≤ k → k < q → bt s k ≠ 123) ∧ p < q ∧ q + 1 < j ∧ bt s (j - 1) = 125 ∧ (∀ k, q ≤ k → k < j - 1 → bt s k ≠ 125) ∧ ly = layOf s i ∧ DeclsAll (s.extract (q + 1) (j - 1)) dl
def RInfsAt (s : ByteArray) : Nat → Nat → List (Int × List RDecl) → Prop
  | i, j, [] => i = j
  | i, j, (ly, dl) :: r => ∃ l, RInfAt s i l ly dl ∧ i < l ∧ RInfsAt s l j r
theorem RInfsAt.snoc {s : ByteArray} {j l : Nat} {ly : Int} {dl : List RDecl} (hc : RInfAt s j l ly dl) (hl : j < l) : ∀ {is : List (Int × List RDecl)} {i : Nat}, RInfsAt s i j is → RInfsAt s i l (is ++ [(ly, dl)])
  | [], _, h => by simp only [RInfsAt] at h; subst h; exact ⟨l, hc, hl, rfl⟩
  | (_, _) :: _, _, ⟨l', a, b, c⟩ => ⟨l', a, b, RInfsAt.snoc hc hl c⟩
/-- The rules' layers and declarations, in memory and in the text up to f. -/
def RInfo (w : World) (s : ByteArray) (base f : Nat) (xs : List Value) : Prop := ∃ is, RDecs w base xs is ∧ RInfsAt s 0 f is
theorem RInfo.keep {w w' : World} {s : ByteArray} {base f : Nat} {xs : List Value} (h : RInfo w s base f xs) (hk : Keeps w w' base 229) : RInfo w' s base f xs := by
  obtain ⟨is, h1, h2⟩ := h
  exact ⟨is, h1.keep hk, h2⟩
theorem RInfo.mono {w : World} {s : ByteArray} {base base' f : Nat} {xs : List Value} (h : RInfo w s base f xs) (hb : base' ≤ base) : RInfo w s base' f xs := by
  obtain ⟨is, h1, h2⟩ := h
  exact ⟨is, h1.mono hb, h2⟩

/-- The rule that is being read: its block is the first behind the world in which its round began. -/
structure In (wr wq : World) (b : Nat) (vL : Value) (hm : Int) (lv : Int) (vS vD : Value) (k : Nat) (ys : List Value) : Prop where
  sh : Sh wq b vL hm
  gb : wr.grownBy wq (some b)
  rb : wq.heap[wr.heap.size]? = some (.cells #[.int .i64 lv, vS, vD] 164 (0, 0))
  own : wq.ownsRow (wr.heap.size + 1) 166 1 vS k ys
  lt : b < wr.heap.size

section
variable {wr wq : World} {b : Nat} {vL : Value} {hm lv : Int} {vS vD : Value} {k : Nat} {ys : List Value}

theorem In.blt (h : In wr wq b vL hm lv vS vD k ys) : wr.heap.size < wq.heap.size := (Array.getElem?_eq_some_iff.1 h.rb).1
theorem In.cells (h : In wr wq b vL hm lv vS vD k ys) : wq.cell? ⟨wr.heap.size, 0, none⟩ = some (.int .i64 lv) ∧ wq.cell? ⟨wr.heap.size, 1, none⟩ = some vS ∧ wq.cell? ⟨wr.heap.size, 2, none⟩ = some vD ∧ ∀ j, wq.frozen? ⟨wr.heap.size, j, none⟩ = false :=
  ⟨cell_of_blk h.rb rfl, cell_of_blk h.rb rfl, cell_of_blk h.rb rfl, fun _ => frozen_of_blk h.rb⟩
theorem In.setO (h : In wr wq b vL hm lv vS vD k ys) (o : Nat) (u : Value) {lv' : Int} {vS' vD' : Value} {k' : Nat} {ys' : List Value} (hu : (#[Value.int .i64 lv, vS, vD] : Array Value).setIfInBounds o u = #[.int .i64 lv', vS', vD']) (ho : wq.ownsRow (wr.heap.size + 1) 166 1 vS' k' ys') :
    In wr (wq.setCell ⟨wr.heap.size, o, none⟩ u) b vL hm lv' vS' vD' k' ys' := by
  have hl := h.lt
  refine ⟨(Below.heap_setCell _ _ _ _ (by show b ≠ wr.heap.size; omega)).trans h.sh, gb_setNew h.gb (Nat.le_refl _) _, ?_, ownsRow_setCell_below ho (by show wr.heap.size < wr.heap.size + 1; omega) _, hl⟩
  rw [heap_setCell_row h.rb, hu]
theorem In.call (h : In wr wq b vL hm lv vS vD k ys) {w2 : World} {hm' : Int} (hs : Sh w2 b vL hm') (hg : wq.grownBy w2 (some b)) : In wr w2 b vL hm' lv vS vD k ys := by
  have hl := h.lt
  refine ⟨hs, gb_trans h.gb hg, (hg.block _ h.blt (fun e => by injection e with e; omega)).trans h.rb, h.own.kept hg ?_, hl⟩
  cases hv : vS.ownBlock with
  | none => exact Or.inl rfl
  | some g => right; intro e; injection e with e; have := (h.own.lt g hv).1; omega
theorem In.alloc (h : In wr wq b vL hm lv vS vD k ys) (o : Obj) : In wr (wq.alloc o) b vL hm lv vS vD k ys :=
  ⟨(Below.heap_alloc wq o b h.sh.lt).trans h.sh, gb_alloc h.gb o, (Below.heap_alloc wq o _ h.blt).trans h.rb, h.own.alloc o, h.lt⟩
theorem In.app (h : In wr wq b vL hm lv vS vD k ys) {w3 : World} (hg : wq.grownBy w3 vS.ownBlock) {vS' : Value} {k' : Nat} {ys' : List Value} (ho : w3.ownsRow (wr.heap.size + 1) 166 1 vS' k' ys') : In wr (w3.setCell ⟨wr.heap.size, 1, none⟩ vS') b vL hm lv vS' vD k' ys' := by
  have hl := h.lt
  have hne : ∀ j, j ≤ wr.heap.size → some j ≠ vS.ownBlock := by
    intro j hj e
    have := (h.own.lt j e.symm).1
    omega
  have hrb : w3.heap[wr.heap.size]? = some (.cells #[.int .i64 lv, vS, vD] 164 (0, 0)) := (hg.block _ h.blt (hne _ (Nat.le_refl _))).trans h.rb
  refine ⟨(Below.heap_setCell _ _ _ _ (by show b ≠ wr.heap.size; omega)).trans ((hg.block b h.sh.lt (hne b (by omega))).trans h.sh), gb_setNew ?_ (Nat.le_refl _) _, ?_, ownsRow_setCell_below ho (by show wr.heap.size < wr.heap.size + 1; omega) _, hl⟩
  · exact ⟨hg.os.trans h.gb.os, hg.tape.trans h.gb.tape, hg.output.trans h.gb.output, Nat.le_trans h.gb.size hg.size,
      fun j hj hn => (hg.block j (Nat.lt_of_lt_of_le hj h.gb.size) (hne j (by omega))).trans (h.gb.block j hj hn)⟩
  · rw [heap_setCell_row hrb]; rfl
theorem In.appBlk (h : In wr wq b vL hm lv vS vD k ys) {w3 : World} (hg : wq.grownBy w3 vS.ownBlock) : w3.heap[wr.heap.size]? = some (.cells #[.int .i64 lv, vS, vD] 164 (0, 0)) :=
  (hg.block _ h.blt (fun e => by have := (h.own.lt _ e.symm).1; omega)).trans h.rb
theorem In.below (h : In wr wq b vL hm lv vS vD k ys) {w2 : World} (hb : Below wq.heap.size wq w2) : In wr w2 b vL hm lv vS vD k ys := by
  have hg : wq.grownBy w2 (some b) := ⟨hb.os, hb.tape, hb.output, hb.size, fun j hj _ => hb.block j hj⟩
  exact h.call ((hb.block b h.sh.lt).trans h.sh) hg
end

theorem keeps_gb {w w' : World} {b base : Nat} (h : w.grownBy w' (some b)) (hb : b < base) (e : TypeId) : Keeps w w' base e := fun g _ hg hh =>
  (h.block g (Array.getElem?_eq_some_iff.1 hh).1 (fun e => by injection e with e; omega)).trans hh
theorem keeps_below {w w' : World} (h : Below w.heap.size w w') (base : Nat) (e : TypeId) : Keeps w w' base e := fun g _ _ hh => (h.block g (Array.getElem?_eq_some_iff.1 hh).1).trans hh

structure RI (wr : World) (b : Nat) (s : ByteArray) (p q nr : Nat) (M : Int) (f : Nat) (wq : World) (hm : Int) (vL : Value) (lv : Int) (vS : Value) (ss : List (List (Nat × Nat))) (ys : List Value) : Prop where
  inn : In wr wq b vL hm lv vS (.slice none 0 0) ss.length ys
  sels : RSels wq s (wr.heap.size + 1) ys ss
  few : ss.length ≤ f - p
  lo : p ≤ f
  hi : f ≤ q + 1
  go : f < q → RSelsPre s p f ss ∧ Noted hm f ∧ Acc s 2 ⟨nr, 1, hm⟩ f M
  done : ¬ f < q → f = q + 1 ∧ RSelsAt s p q ss ∧ Noted hm q ∧ ∃ nc, Acc s 3 ⟨nr, nc, hm⟩ q M

structure RO (w : World) (b : Nat) (s : ByteArray) (M : Int) (f : Nat) (wr : World) (hm : Int) (vL : Value) (rs : List (List (List (Nat × Nat)))) (xs : List Value) : Prop where
  sh : Sh wr b vL hm
  bel : Below w.heap.size w wr
  own : wr.ownsRow (w.heap.size + 1) 164 3 vL rs.length xs
  ruls : RRuls wr s (w.heap.size + 1) xs rs
  info : RInfo wr s (w.heap.size + 1) f xs
  few : rs.length ≤ f
  noted : Noted hm f
  le : f ≤ s.size
  text : RRulsAt s 0 f rs
  acc : ∃ nc, Acc s 0 ⟨rs.length, nc, hm⟩ f M

theorem V_fst (s : ByteArray) (m : Int) (k : Cn) (i : Nat) : (V s m k i).1 = -1 ∨ 0 ≤ (V s m k i).1 := by
  unfold V
  generalize s.size - i = f
  induction f generalizing m k i with
  | zero => simp only [Vf]; split <;> simp
  | succ f ih =>
    simp only [Vf]
    split
    · right; simp
    · exact ih _ _ _

theorem bt_extract {s : ByteArray} {a e k : Nat} (he : e ≤ s.size) (hk : a + k < e) : bt (s.extract a e) k = bt s (a + k) := by
  have h1 : k < (s.extract a e).size := by rw [ByteArray.size_extract]; omega
  rw [bt_at _ _ h1, bt_at _ _ (by omega)]
  rw [ByteArray.getElem_extract]

/-- The text between the braces. -/
theorem dok_of {s : ByteArray} {M : Int} {k : Cn} {q r : Nat} (h : Acc s 9 k (q + 1) M) (hno : ∀ j, q + 1 ≤ j → j < r → bt s j ≠ 125) (hr : r ≤ s.size) (hqr : q + 1 ≤ r) (h125 : r < s.size → bt s r = 125) : DOK (s.extract (q + 1) r) := by
  intro d hd hb
  rw [ByteArray.size_extract] at hd
  have hd' : q + 1 + d < r := by omega
  obtain ⟨m, m1, m2, m3, m4⟩ := decl_run h hno hr d (by omega)
  have hm : m = 9 ∨ m = 10 := by
    by_cases e : d = 0
    · exact Or.inl (m3 e)
    · rcases hb with hb | hb
      · exact absurd hb e
      · right
        apply m4 (by omega)
        rw [bt_extract hr (by omega)] at hb
        rw [show q + 1 + d - 1 = q + 1 + (d - 1) from by omega]
        exact hb
  obtain ⟨t1, t2, t3, t4, t5, t6⟩ := decl_three hm m2 (hno _ (by omega) hd')
  have hr3 : q + 1 + d + 2 < r := by
    apply Nat.lt_of_not_le
    intro hle
    have hc : r = q + 1 + d + 1 ∨ r = q + 1 + d + 2 := by omega
    have := h125 (by omega)
    rcases hc with rfl | rfl
    · exact t3 this
    · exact t5 this
  refine ⟨by rw [ByteArray.size_extract]; omega, ?_, ?_, ?_⟩
  · rw [bt_extract hr (by omega)]; exact t1
  · rw [bt_extract hr (by omega)]; exact t2
  · rw [bt_extract hr (by omega)]; exact t4

end Go.Proofs.YtblfffbmklkhmaaGreat
