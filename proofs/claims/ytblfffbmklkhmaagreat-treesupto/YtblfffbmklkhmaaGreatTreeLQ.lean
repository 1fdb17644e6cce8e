/- Own work. -/
import Derived.Test.YtblfffbmklkhmaaGreatTreeGK
import Derived.Test.YtblfffbmklkhmaaGreatLawPlays
namespace Go.Proofs.YtblfffbmklkhmaaGreat
open Go.RowKit

structure DRec where
  b : Nat
  made : Nat
  G : Nat → Prop

/-- The blocks of the world itself and of the lists that came out. -/
def Mine (B : Nat) (vD vI vM : Value) (es : List Ent) (k : Nat) : Prop := k = B ∨ vD.ownBlock = some k ∨ vI.ownBlock = some k ∨ vM.ownBlock = some k ∨ ∃ e ∈ es, e.v.ownBlock = some k

structure GW (PS : World → Value → Tree → Nat → (Nat → Prop) → Prop) (base : Nat) (w : World) (B : Nat) (vD vI vM : Value) (nx : Nat) (ps : List DRec) (es : List Ent) : Prop where
  wb : WB w B vD vI vM nx
  rowD : w.ownsRow 0 112 1 vD ps.length (ps.map fun p => .pointer (some ⟨p.b, 0, none⟩))
  rowI : w.ownsRow 0 40 1 vI es.length (es.map Ent.v)
  rowM : w.ownsRow 0 3 1 vM es.length (es.map fun e => .int .i64 e.m)
  full : ∀ e ∈ es, Full w e.v e.n (.int .i64 e.m) ∧ e.n ≤ 1099511627776
  ent : ∀ e ∈ es, ∀ j, e.v.ownBlock = some j → j < w.heap.size ∧ j ≠ B ∧ vD.ownBlock ≠ some j ∧ vI.ownBlock ≠ some j ∧ vM.ownBlock ≠ some j
  pd : ∀ i (hi : i < ps.length), PD PS w ps[i].b ps[i].made ps[i].G
  sep : ∀ i j (hi : i < ps.length) (hj : j < ps.length), i ≠ j → ∀ k, ps[i].G k → ¬ ps[j].G k
  out : ∀ i (hi : i < ps.length) k, Mine B vD vI vM es k → ¬ ps[i].G k
  cnt : es.length = 4 * nx
  baseM : ∀ k, Mine B vD vI vM es k → base ≤ k
  baseG : ∀ i (hi : i < ps.length) k, ps[i].G k → base ≤ k
  baseW : base ≤ w.heap.size

section
variable {PS : World → Value → Tree → Nat → (Nat → Prop) → Prop} {base : Nat} {w : World} {B : Nat} {vD vI vM : Value} {nx : Nat} {ps : List DRec} {es : List Ent}

theorem GW.ltM (h : GW PS base w B vD vI vM nx ps es) : ∀ k, Mine B vD vI vM es k → k < w.heap.size := by
  rintro k (rfl | hk | hk | hk | ⟨e, he, hk⟩)
  · exact (Array.getElem?_eq_some_iff.1 h.wb.blk).1
  · exact (h.rowD.lt k hk).2
  · exact (h.rowI.lt k hk).2
  · exact (h.rowM.lt k hk).2
  · exact (h.ent e he k hk).1

/-- One document has turned: all else is as it was. -/
theorem GW.turn (hP : ProgOK PS) (h : GW PS base w B vD vI vM nx ps es) {i : Nat} (hi : i < ps.length) {w' : World} (hsz : w.heap.size ≤ w'.heap.size) (hfr : ∀ k, k < w.heap.size → ¬ ps[i].G k → w'.heap[k]? = w.heap[k]?) {made' : Nat} {G' : Nat → Prop}
    (hpd : PD PS w' ps[i].b made' G') (hG : ∀ k, G' k → ps[i].G k ∨ w.heap.size ≤ k) : GW PS base w' B vD vI vM nx (ps.set i ⟨ps[i].b, made', G'⟩) es := by
  have hm : ∀ k, Mine B vD vI vM es k → w'.heap[k]? = w.heap[k]? := fun k hk => hfr k (h.ltM k hk) (h.out i hi k hk)
  have hlen : (ps.set i ⟨ps[i].b, made', G'⟩).length = ps.length := List.length_set
  have hold : ∀ j (hj : j < ps.length), j ≠ i → ∀ k, ps[j].G k → w'.heap[k]? = w.heap[k]? := fun j hj hn k hk => hfr k ((h.pd j hj).lt k hk) (fun x => h.sep j i hj hi hn k hk x)
  have hget : ∀ j (hj : j < (ps.set i ⟨ps[i].b, made', G'⟩).length), (ps.set i ⟨ps[i].b, made', G'⟩)[j] = if i = j then ⟨ps[i].b, made', G'⟩ else ps[j]'(by rw [hlen] at hj; exact hj) := fun j hj => List.getElem_set hj
  have hGn : ∀ j (hj : j < ps.length), j ≠ i → ∀ k, G' k → ¬ ps[j].G k := fun j hj hn k hk hx => by
    rcases hG k hk with hk | hk
    · exact h.sep j i hj hi hn k hx hk
    · have := (h.pd j hj).lt k hx
      omega
  refine ⟨(hm B (Or.inl rfl)).trans h.wb, ?_, own_keep h.rowI (fun k hk _ => hm k (Or.inr (Or.inr (Or.inl hk)))), own_keep h.rowM (fun k hk _ => hm k (Or.inr (Or.inr (Or.inr (Or.inl hk))))), fun e he => ⟨(h.full e he).1.blk (fun g hg _ => hm g (Or.inr (Or.inr (Or.inr (Or.inr ⟨e, he, hg⟩))))), (h.full e he).2⟩, fun e he j hj => ?_, fun j hj => ?_, fun j l hj hl hn k hk => ?_, fun j hj k hk => ?_, h.cnt, h.baseM, fun j hj k hk => ?_, Nat.le_trans h.baseW hsz⟩
  · have hmap : (ps.set i ⟨ps[i].b, made', G'⟩).map (fun p => Value.pointer (some ⟨p.b, 0, none⟩)) = ps.map fun p => Value.pointer (some ⟨p.b, 0, none⟩) := by
      rw [List.map_set]
      have : (ps.map fun p => Value.pointer (some ⟨p.b, 0, none⟩))[i]? = some (Value.pointer (some ⟨ps[i].b, 0, none⟩)) := by rw [List.getElem?_map, List.getElem?_eq_getElem hi]; rfl
      apply List.ext_getElem?
      intro j
      rw [List.getElem?_set]
      by_cases e : i = j
      · subst e
        rw [if_pos rfl, this, if_pos (by simpa using hi)]
      · rw [if_neg e]
    rw [hlen, hmap]
    exact own_keep h.rowD (fun k hk _ => hm k (Or.inr (Or.inl hk)))
  · obtain ⟨h1, h2⟩ := h.ent e he j hj
    exact ⟨Nat.lt_of_lt_of_le h1 hsz, h2⟩
  · rw [hget j hj]
    split
    · exact hpd
    · rename_i hn
      rw [hlen] at hj
      exact (h.pd j hj).keep hP hsz (hold j hj (fun e => hn e.symm))
  · rw [hget j hj] at hk
    rw [hget l hl]
    rw [hlen] at hj hl
    split at hk <;> split
    · rename_i h1 h2
      exact absurd (h1.symm.trans h2) hn
    · rename_i h1 h2
      exact hGn l hl (fun e => h2 e.symm) k hk
    · rename_i h1 h2
      exact fun hx => hGn j hj (fun e => h1 e.symm) k hx hk
    · exact h.sep j l hj hl hn k hk
  · rw [hget j hj]
    rw [hlen] at hj
    split
    · intro hx
      rcases hG k hx with hx | hx
      · exact h.out i hi k hk hx
      · have := h.ltM k hk
        omega
    · exact h.out j hj k hk
  · rw [hget j hj] at hk
    rw [hlen] at hj
    split at hk
    · rcases hG k hk with hk | hk
      · exact h.baseG i hi k hk
      · have := h.baseW
        omega
    · exact h.baseG j hj k hk

/-- Nothing of it has been changed. -/
theorem GW.keep (hP : ProgOK PS) (h : GW PS base w B vD vI vM nx ps es) {w' : World} (hB : Below w.heap.size w w') : GW PS base w' B vD vI vM nx ps es := by
  have hm : ∀ k, Mine B vD vI vM es k → w'.heap[k]? = w.heap[k]? := fun k hk => hB.block k (h.ltM k hk)
  exact ⟨(hm B (Or.inl rfl)).trans h.wb, own_keep h.rowD (fun k hk _ => hm k (Or.inr (Or.inl hk))), own_keep h.rowI (fun k hk _ => hm k (Or.inr (Or.inr (Or.inl hk)))), own_keep h.rowM (fun k hk _ => hm k (Or.inr (Or.inr (Or.inr (Or.inl hk))))), fun e he => ⟨(h.full e he).1.blk (fun g hg _ => hm g (Or.inr (Or.inr (Or.inr (Or.inr ⟨e, he, hg⟩))))), (h.full e he).2⟩, fun e he j hj => ⟨Nat.lt_of_lt_of_le (h.ent e he j hj).1 hB.size, (h.ent e he j hj).2⟩, fun i hi => (h.pd i hi).keep hP hB.size (fun k hk => hB.block k ((h.pd i hi).lt k hk)), h.sep, h.out, h.cnt, h.baseM, h.baseG, Nat.le_trans h.baseW hB.size⟩

/-- One list more. -/
theorem GW.own (hP : ProgOK PS) (h : GW PS base w B vD vI vM nx ps es) {v : Value} {n : Nat} {xs : List Value} (hrow : w.ownsRow 0 3 1 v n xs) (hn : n ≤ 24) (hv : ∀ j, v.ownBlock = some j → base ≤ j ∧ ¬ Mine B vD vI vM es j ∧ ∀ i (hi : i < ps.length), ¬ ps[i].G j) {e : Ending} {w' : World}
    (hp : OwnPost w B vD vI vM nx v n es.length es.length (es.map Ent.v) (es.map fun e => .int .i64 e.m) e w') : ∃ vI' vM' es', GW PS base w' B vD vI' vM' (nx + 1) ps es' := by
  obtain ⟨_, vI', vM', v1, v2, v3, wb', rI', rM', f0, f1, f2, f3, fr, nb, nI, nM, nx3⟩ := hp
  let mk : Int := -((nx : Int) + 1)
  have hBl : B < w.heap.size := (Array.getElem?_eq_some_iff.1 h.wb.blk).1
  have hw := fr.size
  have same : ∀ k, k < w.heap.size → k ≠ B → v.ownBlock ≠ some k → vI.ownBlock ≠ some k → vM.ownBlock ≠ some k → w'.heap[k]? = w.heap[k]? := fun k hk h1 h2 h3 h4 => fr.block k hk (fun x => x.elim h1 (fun x => x.elim h2 (fun x => x.elim h3 h4)))
  have hDn : ∀ k, vD.ownBlock = some k → w'.heap[k]? = w.heap[k]? := by
    intro k hk
    refine same k (h.rowD.lt k hk).2 (fun e => own_ne_type h.rowD h.wb.blk (by decide) (e ▸ hk)) (fun e => (hv k e).2.1 (Or.inr (Or.inl hk))) (fun e => ?_) (fun e => ?_)
    · rcases h.rowI.2 with ⟨h1, _⟩ | ⟨g, _, cur, h1, _, hg, _⟩
      · rw [h1] at e; simp [Value.ownBlock] at e
      · rw [h1] at e
        simp [Value.ownBlock] at e
        subst e
        exact own_ne_type h.rowD hg (by decide) hk
    · rcases h.rowM.2 with ⟨h1, _⟩ | ⟨g, _, cur, h1, _, hg, _⟩
      · rw [h1] at e; simp [Value.ownBlock] at e
      · rw [h1] at e
        simp [Value.ownBlock] at e
        subst e
        exact own_ne_type h.rowD hg (by decide) hk
  have hEn : ∀ x ∈ es, ∀ k, x.v.ownBlock = some k → w'.heap[k]? = w.heap[k]? := fun x hx k hk =>
    same k (h.ent x hx k hk).1 (h.ent x hx k hk).2.1 (fun e => (hv k e).2.1 (Or.inr (Or.inr (Or.inr (Or.inr ⟨x, hx, hk⟩))))) (h.ent x hx k hk).2.2.2.1 (h.ent x hx k hk).2.2.2.2
  have hGn : ∀ i (hi : i < ps.length) k, ps[i].G k → w'.heap[k]? = w.heap[k]? := fun i hi k hk =>
    same k ((h.pd i hi).lt k hk) (fun e => h.out i hi k (Or.inl e) hk) (fun e => (hv k e).2.2 i hi hk) (fun e => h.out i hi k (Or.inr (Or.inr (Or.inl e))) hk) (fun e => h.out i hi k (Or.inr (Or.inr (Or.inr (Or.inl e)))) hk)
  let es' : List Ent := es ++ [⟨v, n, mk⟩, ⟨v1, n + 1, mk⟩, ⟨v2, n + 2, mk⟩, ⟨v3, n + 3, mk⟩]
  have hin : ∀ x ∈ es', x ∈ es ∨ x = ⟨v, n, mk⟩ ∨ x = ⟨v1, n + 1, mk⟩ ∨ x = ⟨v2, n + 2, mk⟩ ∨ x = ⟨v3, n + 3, mk⟩ := fun x hx => by
    rcases List.mem_append.1 hx with hx | hx
    · exact Or.inl hx
    · simp only [List.mem_cons, List.not_mem_nil, or_false] at hx
      exact Or.inr hx
  -- where a new list lies
  have hnew : ∀ x ∈ es', x ∈ es ∨ ∀ j, x.v.ownBlock = some j → (v.ownBlock = some j ∨ w.heap.size ≤ j) ∧ j < w'.heap.size ∧ vI'.ownBlock ≠ some j ∧ vM'.ownBlock ≠ some j := fun x hx => by
    rcases hin x hx with hx | rfl | rfl | rfl | rfl
    · exact Or.inl hx
    · refine Or.inr fun j hj => ⟨Or.inl hj, Nat.lt_of_lt_of_le (hrow.lt j hj).2 hw, fun e => ?_, fun e => ?_⟩
      · rcases nI j e with e | e
        · exact (hv j hj).2.1 (Or.inr (Or.inr (Or.inl e)))
        · have := (hrow.lt j hj).2; omega
      · rcases nM j e with e | e
        · exact (hv j hj).2.1 (Or.inr (Or.inr (Or.inr (Or.inl e))))
        · have := (hrow.lt j hj).2; omega
    · exact Or.inr fun j hj => ⟨nb v1 (Or.inl rfl) j hj, f1.lt (by omega) j hj, nx3 v1 (Or.inl rfl) j hj⟩
    · exact Or.inr fun j hj => ⟨nb v2 (Or.inr (Or.inl rfl)) j hj, f2.lt (by omega) j hj, nx3 v2 (Or.inr (Or.inl rfl)) j hj⟩
    · exact Or.inr fun j hj => ⟨nb v3 (Or.inr (Or.inr rfl)) j hj, f3.lt (by omega) j hj, nx3 v3 (Or.inr (Or.inr rfl)) j hj⟩
  have hmine : ∀ k, Mine B vD vI' vM' es' k → Mine B vD vI vM es k ∨ v.ownBlock = some k ∨ w.heap.size ≤ k := by
    rintro k (hk | hk | hk | hk | ⟨x, hx, hk⟩)
    · exact Or.inl (Or.inl hk)
    · exact Or.inl (Or.inr (Or.inl hk))
    · exact (nI k hk).elim (fun x => Or.inl (Or.inr (Or.inr (Or.inl x)))) (fun x => Or.inr (Or.inr x))
    · exact (nM k hk).elim (fun x => Or.inl (Or.inr (Or.inr (Or.inr (Or.inl x))))) (fun x => Or.inr (Or.inr x))
    · rcases hnew x hx with hx | hx
      · exact Or.inl (Or.inr (Or.inr (Or.inr (Or.inr ⟨x, hx, hk⟩))))
      · exact Or.inr (hx k hk).1
  refine ⟨vI', vM', es', wb', own_keep h.rowD (fun k hk _ => hDn k hk), ?_, ?_, fun x hx => ?_, fun x hx j hj => ?_, fun i hi => (h.pd i hi).keep hP hw (hGn i hi), h.sep, fun i hi k hk hx => ?_, ?_, fun k hk => ?_, h.baseG, Nat.le_trans h.baseW hw⟩
  · have h1 : es'.length = es.length + 4 := by simp [es']
    have h2 : es'.map Ent.v = es.map Ent.v ++ [v, v1, v2, v3] := by simp [es']
    rw [h1, h2]
    exact rI'
  · have h1 : es'.length = es.length + 4 := by simp [es']
    have h2 : (es'.map fun e => Value.int .i64 e.m) = (es.map fun e => Value.int .i64 e.m) ++ List.replicate 4 (.int .i64 mk) := by simp [es', List.replicate]
    rw [h1, h2]
    exact rM'
  · rcases hin x hx with hx | rfl | rfl | rfl | rfl
    · exact ⟨(h.full x hx).1.blk (fun g hg _ => hEn x hx g hg), (h.full x hx).2⟩
    · exact ⟨f0, by show n ≤ _; omega⟩
    · exact ⟨f1, by show n + 1 ≤ _; omega⟩
    · exact ⟨f2, by show n + 2 ≤ _; omega⟩
    · exact ⟨f3, by show n + 3 ≤ _; omega⟩
  · rcases hnew x hx with hx | hx
    · obtain ⟨h1, h2, h3, h4, h5⟩ := h.ent x hx j hj
      refine ⟨Nat.lt_of_lt_of_le h1 hw, h2, h3, fun e => ?_, fun e => ?_⟩
      · exact (nI j e).elim h4 (fun x => by omega)
      · exact (nM j e).elim h5 (fun x => by omega)
    · obtain ⟨h1, h2, h3, h4⟩ := hx j hj
      refine ⟨h2, fun e => ?_, fun e => ?_, h3, h4⟩
      · rcases h1 with h1 | h1
        · exact (hv j h1).2.1 (Or.inl e)
        · omega
      · rcases h1 with h1 | h1
        · exact (hv j h1).2.1 (Or.inr (Or.inl e))
        · have := (h.rowD.lt j e).2
          omega
  · rcases hmine k hk with hk | hk | hk
    · exact h.out i hi k hk hx
    · exact (hv k hk).2.2 i hi hx
    · have := (h.pd i hi).lt k hx
      omega
  · have := h.cnt
    show (es ++ _).length = _
    simp
    omega
  · rcases hmine k hk with hk | hk | hk
    · exact h.baseM k hk
    · exact (hv k hk).1
    · have := h.baseW
      omega
end

end Go.Proofs.YtblfffbmklkhmaaGreat

namespace Go.Proofs.YtblfffbmklkhmaaGreat
open Go.RowKit

section
variable {PS : World → Value → Tree → Nat → (Nat → Prop) → Prop} {w : World} {b : Nat} {Tx : Tree} {mx : Nat} {Ty : Tree} {my : Nat} {px : Value} {d : Nat} {vm vy vs : Value} {cnt : Int} {held : Bool} {lm ly : List Nat} {Fp Fx Fy : Nat → Prop}
theorem PJ.progF (hP : ProgOK PS) (h : PJ PS w b Tx mx Ty my px d vm vy vs cnt held lm ly Fp Fx Fy) {w1 : World} {T1 : Tree} {m1 : Nat} {F' : Nat → Prop} (hs : PS w1 px T1 m1 F') (hF : ∀ k, F' k → More Fx w k) (hf : Fr w w1 Fx) : PJ PS w1 b T1 m1 Ty my px d vm vy vs cnt held lm ly Fp (fun k => F' k ∧ k < w1.heap.size) Fy := by
  have kp : ∀ k, Fp k → k < w.heap.size → w1.heap[k]? = w.heap[k]? := fun k hk hl => hf.block k hl (h.px k hk)
  refine ⟨(kp b h.inb (h.here b (Or.inl h.inb))).trans h.pb, hP.here hs, h.rs.keep (fun k hk hl => hf.block k hl (fun x => h.xy k x hk)), own_keep h.must (fun k hk hl => kp k (h.inm k hk) hl), own_keep h.may (fun k hk hl => kp k (h.iny k hk) hl), h.inb, h.inm, h.iny, fun k hk hx => ?_, h.py, fun k hx hk => ?_, fun k hk => ?_⟩
  · rcases hF k hx.1 with hx | hx
    · exact h.px k hk hx
    · have := h.here k (Or.inl hk); omega
  · rcases hF k hx.1 with hx | hx
    · exact h.xy k hx hk
    · have := h.here k (Or.inr (Or.inr hk)); omega
  · have := hf.size
    rcases hk with hk | hk | hk
    · have := h.here k (Or.inl hk); omega
    · exact hk.2
    · have := h.here k (Or.inr (Or.inr hk)); omega
end

/-- Behind the program's Children: the document lies where it lay, and in new blocks that are not the list's. -/
def ChG (G : Nat → Prop) (w w1 : World) (v : Value) (k : Nat) : Prop := (G k ∨ w.heap.size ≤ k) ∧ k < w1.heap.size ∧ v.ownBlock ≠ some k

def KidPost (PS : World → Value → Tree → Nat → (Nat → Prop) → Prop) (base : Nat) (w : World) (B : Nat) (vD : Value) (nx : Nat) (ps : List DRec) (i : Nat) (p : DRec) (e : Ending) (w' : World) : Prop :=
  e = .returned (.bool true) ∧ Below base w w' ∧ ∃ vI' vM' nx' G' es', nx' ≤ nx + 1 ∧ GW PS base w' B vD vI' vM' nx' (ps.set i ⟨p.b, p.made, G'⟩) es'

theorem Fr.toBelow {w w' : World} {S : Nat → Prop} {base : Nat} (h : Fr w w' S) (hb : base ≤ w.heap.size) (hs : ∀ k, S k → base ≤ k) : Below base w w' := by
  refine ⟨h.os, h.tape, h.output, h.size, fun k hk => h.block k (by omega) (fun x => by have := hs k x; omega)⟩

set_option maxRecDepth 100000 in
set_option maxHeartbeats 8000000 in
theorem gchildren_any {PS : World → Value → Tree → Nat → (Nat → Prop) → Prop} (hP : ProgOK PS) (base : Nat) (w : World) (B : Nat) (vD vI vM : Value) (nx : Nat) (ps : List DRec) (es : List Ent) (h : GW PS base w B vD vI vM nx ps es) (i : Nat) (hi : i < ps.length) (hnx : nx ≤ 274877906944) (n : Int) :
    Calls Tryz.prog 59 #[.pointer (some ⟨B, 0, none⟩), .pointer (some ⟨ps[i].b, 0, none⟩), .int .i64 n] w fun e w' => KidPost PS base w B vD nx ps i ps[i] e w' := by
  have hpd := h.pd i hi
  have HGW : Hid (GW PS base w B vD vI vM nx ps es) := h
  have HBG : Hid (∀ k, ps[i].G k → base ≤ k) := h.baseG i hi
  clear h
  have HT : Hid (∀ (w' : World), w.heap.size ≤ w'.heap.size → (∀ k, k < w.heap.size → ¬ ps[i].G k → w'.heap[k]? = w.heap[k]?) → ∀ G', PD PS w' ps[i].b ps[i].made G' → (∀ k, G' k → ps[i].G k ∨ w.heap.size ≤ k) → GW PS base w' B vD vI vM nx (ps.set i ⟨ps[i].b, ps[i].made, G'⟩) es) := fun w' h1 h2 G' h3 h4 => HGW.out.turn hP hi h1 h2 h3 h4
  generalize ps[i] = p at hpd HT HBG ⊢
  obtain ⟨T, pa, d, vm, vy, vs, cnt, held, lm, ly, Fp, Fx, Fy, h1, h2, h3, h4, h5, h6⟩ := hpd
  have HJ : Hid (PJ PS w p.b T p.made T p.made (.pointer (some pa)) d vm vy vs cnt held lm ly Fp Fx Fy) := h1
  have HA : Hid ((∀ k, Fp k ∨ Fx k ∨ Fy k → p.G k) ∧ (∀ k, p.G k → k < w.heap.size) ∧ TW T p.made ∧ LT T lm ∧ LT T ly) := ⟨h2, h3, h4, h5, h6⟩
  have HP : Hid (ProgOK PS) := hP
  have b0 : w.cell? ⟨p.b, 0, none⟩ = some (.pointer (some pa)) := cell_of_blk h1.pb.blk rfl
  clear h1 h2 h3 h4 h5 h6 hP
  have HPD : Hid (∀ (w1 : World) (F' : Nat → Prop) (v : Value), PS w1 (.pointer (some pa)) T p.made F' → (∀ k, F' k → More Fx w k) → Fr w w1 Fx → (∀ j, v.ownBlock = some j → w.heap.size ≤ j ∧ ¬ F' j) → PD PS w1 p.b p.made (ChG p.G w w1 v)) := fun w1 F' v hs hF hf hv => by
    refine ⟨T, pa, d, vm, vy, vs, cnt, held, lm, ly, Fp, _, Fy, HJ.out.progF HP.out hs hF hf, fun k hk => ?_, fun k hk => hk.2.1, HA.out.2.2⟩
    have hz := hf.size
    rcases hk with hk | hk | hk
    · have hl := HJ.out.here k (Or.inl hk)
      exact ⟨Or.inl (HA.out.1 k (Or.inl hk)), by omega, fun e => by have := (hv k e).1; omega⟩
    · exact ⟨(hF k hk.1).imp (fun x => HA.out.1 k (Or.inr (Or.inl x))) id, hk.2, fun e => (hv k e).2 hk.1⟩
    · have hl := HJ.out.here k (Or.inr (Or.inr hk))
      exact ⟨Or.inl (HA.out.1 k (Or.inr (Or.inr hk))), by omega, fun e => by have := (hv k e).1; omega⟩
  have HRS : Hid (∀ w1, Fr w w1 Fx → RS w1 d T p.made Fy ∧ PB w1 p.b (.pointer (some pa)) d vm vy cnt vs held) := fun w1 hf => ⟨HJ.out.rs.keep (fun k hk hl => hf.block k hl (fun x => HJ.out.xy k x hk)), (hf.block p.b (HJ.out.here _ (Or.inl HJ.out.inb)) (fun x => HJ.out.px _ HJ.out.inb x)).trans HJ.out.pb⟩
  go_enter Tryz.func59, Tryz.ntmps59
  go_wp2_with fail
  refine (HP.out.chi w (.pointer (some pa)) T p.made Fx n HJ.out.ps HA.out.2.2.1).mono ?_
  rintro e w1 ⟨a, len, c, y, F', rfl, hs, hF, hf, hcase⟩
  have HFx : Hid (∀ k, Fx k → p.G k) := fun k hk => HA.out.1 k (Or.inr (Or.inl hk))
  have HB1 : Hid (Below base w w1) := hf.toBelow HGW.out.baseW (fun k hk => HBG.out k (HFx.out k hk))
  have HF1 : Hid (w.heap.size ≤ w1.heap.size ∧ (∀ k, k < w.heap.size → ¬ p.G k → w1.heap[k]? = w.heap[k]?)) := ⟨hf.size, fun k hk hn => hf.block k hk (fun x => hn (HFx.out k x))⟩
  obtain ⟨hrs, hpb⟩ := HRS.out w1 hf
  have b1 : w1.cell? ⟨p.b, 1, none⟩ = some (.pointer (some ⟨d, 0, none⟩)) := cell_of_blk hpb.blk rfl
  obtain ⟨els, hp, vT, has, vL, hR, hTA, _⟩ := hrs
  subst hTA
  have HR : Hid (RD w1 d els p.made hp vT has vL) := hR
  clear hR hpb b0
  rcases hcase with ⟨hnone, rfl, rfl⟩ | ⟨l, hsome, rfl, rfl, hown, hnF⟩
  · have HE : Hid (KidPost PS base w B vD nx ps i p (.returned (.bool true)) w1) := by
      refine ⟨rfl, HB1.out, vI, vM, nx, _, es, Nat.le_succ _, HT.out w1 HF1.out.1 HF1.out.2 _ (HPD.out w1 F' (.slice none 0 0) hs hF hf (fun j hj => by simp [Value.ownBlock] at hj)) (fun k hk => hk.1)⟩
    have hfn : findR els n = none := by
      cases hf2 : findR els n with
      | none => rfl
      | some x => rw [find_nums hf2] at hnone; cases hnone
    clear hs hF hf hnone
    go_wp2_with fail
    refine (find_any _ d els p.made hp vT has vL n HR.out).mono ?_
    rintro e w2 ⟨rfl, rfl⟩
    rw [hfn]
    clear hfn
    have he : ptrOf none = .pointer none := rfl
    rw [he]
    clear he
    go_wp2_with fail
    refine (errs_same _ 5).mono ?_
    rintro e w5 ⟨rfl, rfl⟩
    go_wp2
    go_ret
    exact HE.out
  · obtain ⟨x, hfx, rfl⟩ : ∃ x, findR els n = some x ∧ x.kids = l := by
      cases hf2 : findR els n with
      | none => rw [find_nums_none hf2] at hsome; cases hsome
      | some x =>
        rw [find_nums hf2] at hsome
        injection hsome with hsome
        exact ⟨x, rfl, hsome⟩
    obtain ⟨hxm, _⟩ := find_mem hfx
    have hk24 := HR.out.kfew x hxm
    have hkid := HR.out.kid x hxm
    have e4 : w1.cell? ⟨x.blk, 4, none⟩ = some x.ks := (el_cells (HR.out.el x hxm)).2
    have HV : Hid (∀ j, (Value.slice a x.kids.length c).ownBlock = some j → w.heap.size ≤ j ∧ ¬ ChG p.G w w1 (.slice a x.kids.length c) j) := fun j hj => ⟨(hown.lt j hj).1, fun hx => hx.2.2 hj⟩
    have HGW1 : Hid (GW PS base w1 B vD vI vM nx (ps.set i ⟨p.b, p.made, ChG p.G w w1 (.slice a x.kids.length c)⟩) es) := HT.out w1 HF1.out.1 HF1.out.2 _ (HPD.out w1 F' (.slice a x.kids.length c) hs hF hf (fun j hj => ⟨(hown.lt j hj).1, hnF j hj⟩)) (fun k hk => hk.1)
    have HOW : Hid (w1.ownsRow 0 3 1 (.slice a x.kids.length c) x.kids.length (ints x.kids)) := own_mono hown (Nat.zero_le _)
    have HVG : Hid (∀ j, (Value.slice a x.kids.length c).ownBlock = some j → base ≤ j ∧ ¬ Mine B vD vI vM es j ∧ ∀ i' (hi' : i' < (ps.set i ⟨p.b, p.made, ChG p.G w w1 (.slice a x.kids.length c)⟩).length), ¬ (ps.set i ⟨p.b, p.made, ChG p.G w w1 (.slice a x.kids.length c)⟩)[i'].G j) := by
      intro j hj
      obtain ⟨hj1, hj2⟩ := HV.out j hj
      refine ⟨Nat.le_trans HGW.out.baseW hj1, fun hm => by have := HGW.out.ltM j hm; omega, fun i' hi' => ?_⟩
      rw [List.getElem_set]
      split
      · exact hj2
      · rw [List.length_set] at hi'
        exact fun hx => by have := (HGW.out.pd i' hi').lt j hx; omega
    obtain ⟨ak, ck, hks⟩ := own_shape hkid
    have HKID : Hid (w1.ownsRow 0 3 1 (.slice ak x.kids.length ck) x.kids.length (ints x.kids)) := by rw [← hks]; exact hkid
    rw [hks] at e4
    clear hs hF hf hown hnF hkid hks hsome
    go_wp2_with fail
    refine (find_any _ d els p.made hp vT has vL n HR.out).mono ?_
    rintro e w2 ⟨rfl, rfl⟩
    obtain ⟨w1, rfl⟩ : ∃ w1, w1 = w2 := ⟨_, rfl⟩
    rw [hfx]
    have he : ptrOf (some x) = .pointer (some ⟨x.blk, 0, none⟩) := rfl
    rw [he]
    clear he hfx hxm b1
    go_wp2_with fail
    refine (same_any _ a ak c ck x.kids HOW.out HKID.out hk24).mono ?_
    rintro e w2 ⟨rfl, hdr⟩
    have HGW2 : Hid (GW PS base w2 B vD vI vM nx (ps.set i ⟨p.b, p.made, ChG p.G w w1 (.slice a x.kids.length c)⟩) es) := HGW1.out.keep HP.out hdr.below
    have HOW2 : Hid (w2.ownsRow 0 3 1 (.slice a x.kids.length c) x.kids.length (ints x.kids)) := own_below HOW.out hdr.below
    have HB2 : Hid (Below base w w2) := HB1.out.trans (hdr.below.mono (by have := HB1.out.size; have := HGW.out.baseW; omega))
    clear hdr e4
    have hcnt := HGW2.out.cnt
    go_wp2_with fail
    refine (own_any w2 B vD vI vM nx a c x.kids.length (ints x.kids) es.length es.length (es.map Ent.v) (es.map fun e => .int .i64 e.m) ⟨HGW2.out.wb, HOW2.out, HGW2.out.rowI, HGW2.out.rowM, Fr.refl _ _, fun j hj hm => (HVG.out j hj).2.1 (Or.inr (Or.inr (Or.inr (Or.inl hm))))⟩ hk24 (by omega) (by omega) (by omega)).mono ?_
    intro e w3 hpost
    obtain ⟨vI', vM', es', hg3⟩ := HGW2.out.own HP.out HOW2.out hk24 HVG.out hpost
    have HB3 : Hid (Below base w w3) := by
      obtain ⟨_, _, _, _, _, _, _, _, _, _, _, _, _, fr, _⟩ := hpost
      refine HB2.out.trans (fr.toBelow (by have := HB2.out.size; have := HGW.out.baseW; omega) ?_)
      rintro k (hk | hk | hk | hk)
      · exact HGW.out.baseM k (Or.inl hk)
      · exact (HVG.out k hk).1
      · exact HGW.out.baseM k (Or.inr (Or.inr (Or.inl hk)))
      · exact HGW.out.baseM k (Or.inr (Or.inr (Or.inr (Or.inl hk))))
    have HE : Hid (KidPost PS base w B vD nx ps i p (.returned (.bool true)) w3) := ⟨rfl, HB3.out, vI', vM', nx + 1, _, es', Nat.le_refl _, hg3⟩
    obtain ⟨rfl, _⟩ := hpost
    clear hg3 hcnt
    go_wp2_with fail
    refine (errs_same _ 0).mono ?_
    rintro e w5 ⟨rfl, rfl⟩
    go_wp2
    go_ret
    exact HE.out

end Go.Proofs.YtblfffbmklkhmaaGreat

namespace Go.Proofs.YtblfffbmklkhmaaGreat
open Go.RowKit

theorem Tryz.info112 : (Tryz.prog.info? 112).map (fun i => (i.zero, i.size, i.bytes)) = some (some (.pointer none), 1, 8) := by kernel_rfl

section
variable {PS : World → Value → Tree → Nat → (Nat → Prop) → Prop} {base : Nat} {w : World} {B : Nat} {vD vI vM : Value} {nx : Nat} {ps : List DRec} {es : List Ent}

/-- One document more. -/
theorem GW.add (hP : ProgOK PS) (h : GW PS base w B vD vI vM nx ps es) {W w3 : World} (hW : Below w.heap.size w W) (hg : W.grownBy w3 vD.ownBlock) (p : DRec) {vD' : Value}
    (ho : w3.ownsRow 0 112 1 vD' (ps.length + 1) ((ps.map fun p => .pointer (some ⟨p.b, 0, none⟩)) ++ [.pointer (some ⟨p.b, 0, none⟩)])) (hb : ∀ j, vD'.ownBlock = some j → vD.ownBlock = some j ∨ W.heap.size ≤ j)
    (hpd : PD PS W p.b p.made p.G) (hG : ∀ k, p.G k → base ≤ k ∧ ¬ Mine B vD vI vM es k ∧ ∀ i (hi : i < ps.length), ¬ ps[i].G k) : GW PS base (w3.setCell ⟨B, 0, none⟩ vD') B vD' vI vM nx (ps ++ [p]) es := by
  have hBl : B < w.heap.size := h.ltM B (Or.inl rfl)
  have hWz := hW.size
  have hgz := hg.size
  have hz4 : (w3.setCell ⟨B, 0, none⟩ vD').heap.size = w3.heap.size := by simp
  have hB3 : w3.heap[B]? = some (.cells #[vD, vI, vM, .int .i64 nx] 67 (0, 0)) := ((hg.block B (by omega) (fun e => own_ne_type h.rowD h.wb.blk (by decide) e.symm)).trans (hW.block B hBl)).trans h.wb.blk
  have same : ∀ k, k < W.heap.size → k ≠ B → vD.ownBlock ≠ some k → (w3.setCell ⟨B, 0, none⟩ vD').heap[k]? = W.heap[k]? := fun k hk h1 h2 => (Below.heap_setCell _ _ _ _ h1).trans (hg.block k hk (fun e => h2 e.symm))
  have same' : ∀ k, k < w.heap.size → k ≠ B → vD.ownBlock ≠ some k → (w3.setCell ⟨B, 0, none⟩ vD').heap[k]? = w.heap[k]? := fun k hk h1 h2 => (same k (by omega) h1 h2).trans (hW.block k hk)
  have notD : ∀ {t : TypeId} {v : Value} {n : Nat} {xs : List Value}, t ≠ 112 → w.ownsRow 0 t 1 v n xs → ∀ k, v.ownBlock = some k → vD.ownBlock ≠ some k := by
    intro t v n xs ht hr k hk hd
    rcases hr.2 with ⟨h1, _⟩ | ⟨g, _, cur, h1, _, hg', _⟩
    · rw [h1] at hk; simp [Value.ownBlock] at hk
    · rw [h1] at hk
      simp [Value.ownBlock] at hk
      subst hk
      exact own_ne_type h.rowD hg' ht hd
  have hGi : ∀ i (hi : i < ps.length) k, ps[i].G k → (w3.setCell ⟨B, 0, none⟩ vD').heap[k]? = w.heap[k]? := fun i hi k hk => same' k ((h.pd i hi).lt k hk) (fun e => h.out i hi k (Or.inl e) hk) (fun e => h.out i hi k (Or.inr (Or.inl e)) hk)
  have hmine : ∀ k, Mine B vD' vI vM es k → Mine B vD vI vM es k ∨ W.heap.size ≤ k := by
    rintro k (hk | hk | hk | hk | hk)
    · exact Or.inl (Or.inl hk)
    · exact (hb k hk).imp (fun x => Or.inr (Or.inl x)) id
    · exact Or.inl (Or.inr (Or.inr (Or.inl hk)))
    · exact Or.inl (Or.inr (Or.inr (Or.inr (Or.inl hk))))
    · exact Or.inl (Or.inr (Or.inr (Or.inr (Or.inr hk))))
  have hlen : (ps ++ [p]).length = ps.length + 1 := by simp
  have hget : ∀ j (hj : j < (ps ++ [p]).length), (∃ hj' : j < ps.length, (ps ++ [p])[j] = ps[j]) ∨ (j = ps.length ∧ (ps ++ [p])[j] = p) := fun j hj => by
    by_cases e : j < ps.length
    · exact Or.inl ⟨e, List.getElem_append_left e⟩
    · have e2 : j = ps.length := by omega
      subst e2
      exact Or.inr ⟨rfl, by simp⟩
  refine ⟨?_, ?_, own_keep h.rowI (fun k hk hl => same' k hl (fun e => own_ne_type h.rowI h.wb.blk (by decide) (e ▸ hk)) (notD (by decide) h.rowI k hk)), own_keep h.rowM (fun k hk hl => same' k hl (fun e => own_ne_type h.rowM h.wb.blk (by decide) (e ▸ hk)) (notD (by decide) h.rowM k hk)), fun e he => ⟨(h.full e he).1.blk (fun g hg' hl => same' g hl (h.ent e he g hg').2.1 (h.ent e he g hg').2.2.1), (h.full e he).2⟩, fun e he j hj => ?_, fun j hj => ?_, fun j l hj hl hn k hk => ?_, fun j hj k hk => ?_, h.cnt, fun k hk => ?_, fun j hj k hk => ?_, by have := h.baseW; omega⟩
  · show (World.setCell _ _ _).heap[B]? = _
    rw [heap_setCell_row hB3]; rfl
  · rw [hlen, List.map_append]
    exact own_set ho (own_ne_type ho hB3 (by decide)) _
  · obtain ⟨h1, h2, h3, h4⟩ := h.ent e he j hj
    exact ⟨by omega, h2, fun x => (hb j x).elim h3 (fun y => by omega), h4⟩
  · rcases hget j hj with ⟨hj', he⟩ | ⟨_, he⟩
    · rw [he]
      exact (h.pd j hj').keep hP (by omega) (hGi j hj')
    · rw [he]
      exact hpd.keep hP (by omega) (fun k hk => same k (hpd.lt k hk) (fun e => (hG k hk).2.1 (Or.inl e)) (fun e => (hG k hk).2.1 (Or.inr (Or.inl e))))
  · rcases hget j hj with ⟨hj', he⟩ | ⟨hj', he⟩ <;> rcases hget l hl with ⟨hl', he2⟩ | ⟨hl', he2⟩
    · rw [he] at hk
      rw [he2]
      exact h.sep j l hj' hl' hn k hk
    · rw [he] at hk
      rw [he2]
      exact fun hx => (hG k hx).2.2 j hj' hk
    · rw [he] at hk
      rw [he2]
      exact (hG k hk).2.2 l hl'
    · omega
  · intro hx
    rcases hget j hj with ⟨hj', he⟩ | ⟨hj', he⟩
    · rw [he] at hx
      rcases hmine k hk with hk | hk
      · exact h.out j hj' k hk hx
      · have := (h.pd j hj').lt k hx
        omega
    · rw [he] at hx
      rcases hmine k hk with hk | hk
      · exact (hG k hx).2.1 hk
      · have := hpd.lt k hx
        omega
  · rcases hmine k hk with hk | hk
    · exact h.baseM k hk
    · have := h.baseW
      omega
  · rcases hget j hj with ⟨hj', he⟩ | ⟨hj', he⟩
    · rw [he] at hk
      exact h.baseG j hj' k hk
    · rw [he] at hk
      exact (hG k hk).1
end

abbrev pairBlk (pa : Addr) (d m1 m2 : Nat) : Obj := .cells #[.pointer (some pa), .pointer (some ⟨d, 0, none⟩), .slice (some ⟨m1, 0, none⟩) 1 1, .slice (some ⟨m2, 0, none⟩) 1 1, .int .i64 1, .slice none 0 0, .bool false] 124
theorem lt_root : LT [(0, [])] [0] := ⟨by simp, fun k hk => by rw [List.mem_singleton] at hk; rw [hk]; exact ⟨[], by simp⟩⟩
theorem new_row (w : World) (x : Value) (t : TypeId) : (w.alloc (.cells #[x] t)).ownsRow 0 t 1 (.slice (some ⟨w.heap.size, 0, none⟩) 1 1) 1 [x] :=
  ⟨rfl, Or.inr ⟨w.heap.size, 1, #[x], rfl, Nat.zero_le _, heap_alloc_new w _, Nat.le_refl _, by unfold maxLen; omega, rfl, rfl⟩⟩

/-- A pair that has just been made. -/
theorem pd_new {PS : World → Value → Tree → Nat → (Nat → Prop) → Prop} (hP : ProgOK PS) {w w1 w2 : World} {pa : Addr} {d : Nat} (h1 : PS w1 (.pointer (some pa)) [(0, [])] 1 (fun k => w.heap.size ≤ k)) (hz : w.heap.size ≤ w1.heap.size) (h2 : RS w2 d [(0, [])] 1 (fun k => w1.heap.size ≤ k)) (hB : Below w1.heap.size w1 w2) :
    PD PS (((w2.alloc (.cells #[.int .i64 0] 3)).alloc (.cells #[.int .i64 0] 3)).alloc (pairBlk pa d w2.heap.size (w2.heap.size + 1))) (w2.heap.size + 2) 1 (fun k => w.heap.size ≤ k ∧ k < w2.heap.size + 3) := by
  have hz2 := hB.size
  have hx := hP.keep (w' := w2) (hP.here h1) (fun k hk hl => hB.block k hl) hz2
  have hz3 : (((w2.alloc (.cells #[.int .i64 0] 3)).alloc (.cells #[.int .i64 0] 3)).alloc (pairBlk pa d w2.heap.size (w2.heap.size + 1))).heap.size = w2.heap.size + 3 := by simp
  have old : ∀ k, k < w2.heap.size → (((w2.alloc (.cells #[.int .i64 0] 3)).alloc (.cells #[.int .i64 0] 3)).alloc (pairBlk pa d w2.heap.size (w2.heap.size + 1))).heap[k]? = w2.heap[k]? := fun k hk => by
    rw [Below.heap_alloc _ _ _ (by simp; omega), Below.heap_alloc _ _ _ (by simp; omega), Below.heap_alloc _ _ _ hk]
  have e1 : (w2.alloc (.cells #[.int .i64 0] 3)).heap.size = w2.heap.size + 1 := by simp
  have e2 : ((w2.alloc (.cells #[.int .i64 0] 3)).alloc (.cells #[.int .i64 0] 3)).heap.size = w2.heap.size + 2 := by simp
  refine ⟨[(0, [])], pa, d, .slice (some ⟨w2.heap.size, 0, none⟩) 1 1, .slice (some ⟨w2.heap.size + 1, 0, none⟩) 1 1, .slice none 0 0, 1, false, [0], [0], fun k => w2.heap.size ≤ k ∧ k < w2.heap.size + 3, fun k => w.heap.size ≤ k ∧ k < w1.heap.size, fun k => w1.heap.size ≤ k ∧ k < w2.heap.size, ⟨?_, ?_, ?_, ?_, ?_, ?_, ?_, ?_, ?_, ?_, ?_, ?_⟩, ?_, ?_, tw_root, lt_root, lt_root⟩
  · show (World.alloc _ _).heap[w2.heap.size + 2]? = _
    rw [← e2]
    exact heap_alloc_new _ _
  · exact hP.keep hx (fun k hk hl => old k hl) (by rw [hz3]; omega)
  · exact h2.here.keep (fun k hk hl => old k hl)
  · exact ((new_row w2 _ _).alloc _).alloc _
  · have := (new_row (w2.alloc (.cells #[.int .i64 0] 3)) (.int .i64 0) 3).alloc (pairBlk pa d w2.heap.size (w2.heap.size + 1))
    rw [e1] at this
    exact this
  · exact ⟨by omega, by omega⟩
  · intro j hj
    simp [Value.ownBlock] at hj
    subst hj
    exact ⟨by omega, by omega⟩
  · intro j hj
    simp [Value.ownBlock] at hj
    subst hj
    exact ⟨by omega, by omega⟩
  · intro k hk hx
    omega
  · intro k hk hx
    omega
  · intro k hk hx
    omega
  · intro k hk
    rw [hz3]
    omega
  · intro k hk
    show w.heap.size ≤ k ∧ k < w2.heap.size + 3
    omega
  · intro k hk
    rw [hz3]
    exact hk.2

def MadePost (PS : World → Value → Tree → Nat → (Nat → Prop) → Prop) (base : Nat) (w : World) (B : Nat) (vI vM : Value) (nx : Nat) (ps : List DRec) (es : List Ent) (e : Ending) (w' : World) : Prop :=
  e = .returned (.bool true) ∧ Below base w w' ∧ ∃ vD' ps', GW PS base w' B vD' vI vM nx ps' es ∧ (ps' = ps ∨ ∃ b G, ps' = ps ++ [⟨b, 1, G⟩])

set_option maxRecDepth 100000 in
set_option maxHeartbeats 8000000 in
theorem gmade_any {PS : World → Value → Tree → Nat → (Nat → Prop) → Prop} (hP : ProgOK PS) (base : Nat) (w : World) (B : Nat) (vD vI vM : Value) (nx : Nat) (ps : List DRec) (es : List Ent) (h : GW PS base w B vD vI vM nx ps es) (hps : ps.length ≤ 1099511627776) (kd at' X Y Z : Int) (S Tt : ByteArray) (on : Bool) (hS : S.size ≤ maxLen) :
    Calls Tryz.prog 57 #[.pointer (some ⟨B, 0, none⟩), .agg #[.int .i64 kd, .int .i64 at', .int .i64 X, .int .i64 Y, .int .i64 Z, .string S, .string Tt, .bool on]] w fun e w' => MadePost PS base w B vI vM nx ps es e w' := by
  obtain ⟨i0, hi, iz0, iz1, iz2⟩ := info_parts Tryz.info112
  have HGW : Hid (GW PS base w B vD vI vM nx ps es) := h
  have HP : Hid (ProgOK PS) := hP
  clear h hP
  go_enter Tryz.func57, Tryz.ntmps57
  go_wp2_with fail
  refine (HP.out.new _ S Tt hS).mono ?_
  rintro e w1 ⟨hB1, hcase⟩
  have hz1 := hB1.size
  have o5 : w1.cell? ⟨w.heap.size, 5, none⟩ = some (.string S) := (hB1.cell (p := ⟨w.heap.size, 5, none⟩) (by simp)).trans (cell_of_blk (heap_alloc_new w _) rfl)
  have o6 : w1.cell? ⟨w.heap.size, 6, none⟩ = some (.string Tt) := (hB1.cell (p := ⟨w.heap.size, 6, none⟩) (by simp)).trans (cell_of_blk (heap_alloc_new w _) rfl)
  rcases hcase with ⟨hne, rfl⟩ | ⟨hne, px, rfl, hps1⟩
  · go_wp2_with fail
    refine (tnew_any _ S Tt hS).mono ?_
    rintro e w2 ⟨hB2, hcase2⟩
    rcases hcase2 with ⟨_, rfl⟩ | ⟨hne2, _⟩
    · have HE : Hid (MadePost PS base w B vI vM nx ps es (.returned (.bool true)) w2) := by
        have hB : Below w.heap.size w w2 := (((Below.refl _ _).alloc (Nat.le_refl _) _).trans (hB1.mono (by simp))).trans (hB2.mono (by simp at hz1; omega))
        exact ⟨rfl, hB.mono HGW.out.baseW, vD, ps, HGW.out.keep HP.out hB, Or.inl rfl⟩
      clear hne hB1 hB2 hz1 o5 o6
      generalize newErr S Tt = y
      go_wp2_with fail
      refine (num_any _ y).mono ?_
      rintro e w5 ⟨rfl, rfl⟩
      go_wp2_with fail
      refine (num_any _ y).mono ?_
      rintro e w5 ⟨rfl, rfl⟩
      go_wp2
      go_ret
      exact HE.out
    · exact absurd hne2 hne
  · obtain ⟨pa, rfl⟩ := HP.out.ptr hps1
    have HPS : Hid (PS w1 (.pointer (some pa)) [(0, [])] 1 (fun k => (w.alloc (opBlk kd at' X Y Z S Tt on)).heap.size ≤ k)) := hps1
    clear hps1
    go_wp2_with fail
    refine (tnew_any _ S Tt hS).mono ?_
    rintro e w2 ⟨hB2, hcase2⟩
    rcases hcase2 with ⟨hne2, _⟩ | ⟨_, d, rfl, hd, hrs⟩
    · exact absurd hne hne2
    · have hB : Below w.heap.size w w2 := (((Below.refl _ _).alloc (Nat.le_refl _) _).trans (hB1.mono (by simp))).trans (hB2.mono (by simp at hz1; omega))
      have HG2 : Hid (GW PS base w2 B vD vI vM nx ps es) := HGW.out.keep HP.out hB
      have HPD : Hid (PD PS (((w2.alloc (.cells #[.int .i64 0] 3)).alloc (.cells #[.int .i64 0] 3)).alloc (pairBlk pa d w2.heap.size (w2.heap.size + 1))) (w2.heap.size + 2) 1 (fun k => (w.alloc (opBlk kd at' X Y Z S Tt on)).heap.size ≤ k ∧ k < w2.heap.size + 3)) := pd_new HP.out HPS.out hz1 hrs hB2
      have HBB : Hid (Below w.heap.size w w2) := hB
      have hsz2 : w.heap.size + 1 ≤ w2.heap.size := by have := hB2.size; simp at hz1; omega
      have c0 : w2.cell? ⟨B, 0, none⟩ = some vD := cell_of_blk HG2.out.wb.blk rfl
      obtain ⟨aD, cD, hvD⟩ := own_shape HG2.out.rowD
      subst hvD
      clear hne hB1 hB2 hz1 o5 o6 hB hrs hd HPS
      go_wp2_with fail
      refine (num_any _ 0).mono ?_
      rintro e w5 ⟨rfl, rfl⟩
      obtain ⟨w2, rfl⟩ : ∃ w2, w2 = w5 := ⟨_, rfl⟩
      go_wp2_with fail
      refine (num_any _ 0).mono ?_
      rintro e w5 ⟨rfl, rfl⟩
      obtain ⟨w2, rfl⟩ : ∃ w2, w2 = w5 := ⟨_, rfl⟩
      go_wp2_with (at_builtin; refine wpList_append_kept _ rfl (.tmp 43) (.tmp 50) 64 rfl 0 112 i0 (.pointer none) 1 8 Tryz.underlying64 hi iz0 iz1 iz2 rfl (by decide) _ _ _ rfl ((((HG2.out.rowD.alloc _).alloc _).alloc _).alloc _) ⟨w2.heap.size + 3, 0, none⟩ 1 1 [.pointer (some ⟨w2.heap.size + 2, 0, none⟩)] rfl rfl ?c1 ?c2 ?c3 ?c4 ?c5 ?_)
      case c1 => exact new_cells (((w2.alloc _).alloc _).alloc _) _ (by simp) _ _ _ rfl
      case c2 => intro u hu; rw [List.mem_singleton] at hu; rw [hu]; rfl
      case c3 => unfold maxLen; omega
      case c4 => omega
      case c5 => exact Nat.zero_le _
      intro v3 w3 own3 hg3 HB3
      have HN : Hid (GW PS base (w3.setCell ⟨B, 0, none⟩ v3) B v3 vI vM nx (ps ++ [⟨w2.heap.size + 2, 1, fun k => (w.alloc (opBlk kd at' X Y Z S Tt on)).heap.size ≤ k ∧ k < w2.heap.size + 3⟩]) es) := by
        have hbw := HG2.out.baseW
        refine HG2.out.add HP.out (((((Below.refl _ _).alloc (Nat.le_refl _) _).alloc (by simp) _).alloc (by simp; omega) _).alloc (by simp; omega) _) hg3 ⟨w2.heap.size + 2, 1, fun k => (w.alloc (opBlk kd at' X Y Z S Tt on)).heap.size ≤ k ∧ k < w2.heap.size + 3⟩ own3 (fun j hj => (HB3.out j hj).imp id (fun x => by simp; omega)) (HPD.out.keep HP.out (by simp) (fun k hk => Below.heap_alloc _ _ _ (HPD.out.lt k hk))) (fun k hk => ?_)
        have hk1 : w.heap.size + 1 ≤ k := by have := hk.1; simp at this; omega
        exact ⟨by have := HGW.out.baseW; omega, fun hm => by have := HGW.out.ltM k hm; omega, fun i hi hx => by have := (HGW.out.pd i hi).lt k hx; omega⟩
      have hwb3 := HN.out.wb
      have hB3 : w3.heap[B]? = some (.cells #[.slice aD ps.length cD, vI, vM, .int .i64 nx] 67 (0, 0)) := (hg3.block B (by have := HG2.out.ltM B (Or.inl rfl); simp; omega) (fun e => own_ne_type HG2.out.rowD HG2.out.wb.blk (by decide) e.symm)).trans ((((Below.refl _ _).alloc (Nat.le_refl _) _).alloc (by simp) _).alloc (by simp; omega) _ |>.alloc (by simp; omega) _ |>.block B (HG2.out.ltM B (Or.inl rfl)) |>.trans HG2.out.wb.blk)
      have HE : Hid (MadePost PS base w B vI vM nx ps es (.returned (.bool true)) (w3.setCell ⟨B, 0, none⟩ v3)) := by
        refine ⟨rfl, ?_, _, _, HN.out, Or.inr ⟨_, _, rfl⟩⟩
        have hbw := HGW.out.baseW
        have hb2 : Below base w w2 := HBB.out.mono hbw
        have hW : Below base w ((((w2.alloc (.cells #[.int .i64 0] 3)).alloc (.cells #[.int .i64 0] 3)).alloc (pairBlk pa d w2.heap.size (w2.heap.size + 1))).alloc (.cells #[.pointer (some ⟨w2.heap.size + 2, 0, none⟩)] 112)) := (((hb2.alloc (by omega) _).alloc (by simp; omega) _).alloc (by simp; omega) _).alloc (by simp; omega) _
        exact (hW.grown hg3 (by simp; omega) (fun k hk => HGW.out.baseM k (Or.inr (Or.inl hk)))).setCell (HGW.out.baseM B (Or.inl rfl)) _
      have e0 : w3.cell? ⟨B, 0, none⟩ = some (.slice aD ps.length cD) := cell_of_blk hB3 rfl
      have ez : ∀ k, w3.frozen? ⟨B, k, none⟩ = false := fun _ => frozen_of_blk hB3
      obtain ⟨a3, c3, hv3⟩ := own_shape own3
      subst hv3
      clear own3 hg3 HB3 HN hwb3 hB3 c0 HPD HG2
      go_wp2
      go_ret
      exact HE.out

end Go.Proofs.YtblfffbmklkhmaaGreat

namespace Go.Proofs.YtblfffbmklkhmaaGreat
open Go.RowKit

def pickN (k : Int) (n : Nat) : Nat := if k < 0 ∨ (n : Int) ≤ k then 0 else k.toNat
theorem pickN_lt {k : Int} {n : Nat} (h : 0 < n) : pickN k n < n := by
  unfold pickN
  split <;> omega

set_option maxHeartbeats 1000000 in
theorem pick_any (w : World) (k : Int) (n : Nat) : Calls Tryz.prog 58 #[.int .i64 k, .int .i64 n] w fun e w' => e = .returned (.int .i64 (pickN k n)) ∧ w' = w := by
  by_cases h1 : k < 0
  · have HE : Hid (pickN k n = 0) := by unfold Hid pickN; rw [if_pos (Or.inl h1)]
    go_enter Tryz.func58, Tryz.ntmps58
    go_wp2
    go_ret
    rw [HE.out]
    exact ⟨rfl, rfl⟩
  · have hd1 : decide (k < 0) = false := by simpa using h1
    by_cases h2 : (n : Int) ≤ k
    · have HE : Hid (pickN k n = 0) := by unfold Hid pickN; rw [if_pos (Or.inr h2)]
      clear h1
      go_enter Tryz.func58, Tryz.ntmps58
      go_wp2
      go_ret
      rw [HE.out]
      exact ⟨rfl, rfl⟩
    · have hd2 : decide ((n : Int) ≤ k) = false := by simpa using h2
      have HE : Hid (((pickN k n : Nat) : Int) = k) := by unfold Hid pickN; rw [if_neg (fun h => h.elim h1 h2)]; omega
      clear h1 h2
      go_enter Tryz.func58, Tryz.ntmps58
      go_wp2
      go_ret
      rw [HE.out]
      exact ⟨rfl, rfl⟩

def StepG (PS : World → Value → Tree → Nat → (Nat → Prop) → Prop) (base : Nat) (w : World) (B nx np M : Nat) (e : Ending) (w' : World) : Prop :=
  e = .returned (.bool true) ∧ Below base w w' ∧ ∃ vD' vI' vM' nx' ps' es', GW PS base w' B vD' vI' vM' nx' ps' es' ∧ nx' ≤ nx + 1 ∧ ps'.length ≤ np + 1 ∧ ∀ p ∈ ps', p.made ≤ M + 1

theorem set_made {ps : List DRec} {i : Nat} {p : DRec} {M : Nat} (h : ∀ q ∈ ps, q.made ≤ M) (hp : p.made ≤ M + 1) : ∀ q ∈ ps.set i p, q.made ≤ M + 1 := by
  intro q hq
  rcases List.mem_or_eq_of_mem_set hq with hq | rfl
  · exact Nat.le_succ_of_le (h q hq)
  · exact hp

section
variable {PS : World → Value → Tree → Nat → (Nat → Prop) → Prop}

set_option maxRecDepth 100000 in
set_option maxHeartbeats 4000000 in
theorem gstep_new (hP : ProgOK PS) (base : Nat) (w : World) (B : Nat) (vD vI vM : Value) (nx : Nat) (ps : List DRec) (es : List Ent) (h : GW PS base w B vD vI vM nx ps es) (M : Nat) (hM : ∀ p ∈ ps, p.made ≤ M) (hps : ps.length ≤ 1099511627776) (at' X Y Z : Int) (S Tt : ByteArray) (on : Bool) (hS : S.size ≤ maxLen) :
    Calls Tryz.prog 33 #[.pointer (some ⟨B, 0, none⟩), .agg #[.int .i64 3, .int .i64 at', .int .i64 X, .int .i64 Y, .int .i64 Z, .string S, .string Tt, .bool on]] w fun e w' => StepG PS base w B nx ps.length M e w' := by
  have HGW : Hid (GW PS base (w.alloc (opBlk 3 at' X Y Z S Tt on)) B vD vI vM nx ps es) := h.keep hP ((Below.refl _ _).alloc (Nat.le_refl _) _)
  have HB : Hid (Below base w (w.alloc (opBlk 3 at' X Y Z S Tt on))) := (Below.refl _ _).alloc h.baseW _
  have HP : Hid (ProgOK PS) := hP
  have HM : Hid (∀ p ∈ ps, p.made ≤ M) := hM
  clear h hP hM
  go_enter Tryz.func33, Tryz.ntmps33
  go_wp2_with fail
  refine (gmade_any HP.out base _ B vD vI vM nx ps es HGW.out hps 3 at' X Y Z S Tt on hS).mono ?_
  rintro e w1 ⟨rfl, hb, vD', ps', hg, hcase⟩
  have HE : Hid (StepG PS base w B nx ps.length M (.returned (.bool true)) w1) := by
    refine ⟨rfl, HB.out.trans hb, vD', vI, vM, nx, ps', es, hg, Nat.le_succ _, ?_, ?_⟩
    · rcases hcase with rfl | ⟨b, G, rfl⟩
      · exact Nat.le_succ _
      · simp
    · rcases hcase with rfl | ⟨b, G, rfl⟩
      · exact fun p hp => Nat.le_succ_of_le (HM.out p hp)
      · intro p hp
        rcases List.mem_append.1 hp with hp | hp
        · exact Nat.le_succ_of_le (HM.out p hp)
        · rw [List.mem_singleton] at hp
          rw [hp]
          exact Nat.le_add_left 1 M
  clear hb hg hcase
  go_wp2
  go_ret
  exact HE.out

set_option maxRecDepth 100000 in
set_option maxHeartbeats 4000000 in
theorem gstep_doc (hP : ProgOK PS) (base : Nat) (w : World) (B : Nat) (vD vI vM : Value) (nx : Nat) (ps : List DRec) (es : List Ent) (h : GW PS base w B vD vI vM nx ps es) (M : Nat) (hM : ∀ p ∈ ps, p.made ≤ M) (hM2 : M ≤ 1099511627776) (hps : ps.length ≤ 1099511627776) (hnx : nx ≤ 274877906944) (kd at' X Y Z : Int) (S Tt : ByteArray) (on : Bool) (hk : kd = 4 ∨ kd = 5 ∨ kd = 6 ∨ kd = 7) :
    Calls Tryz.prog 33 #[.pointer (some ⟨B, 0, none⟩), .agg #[.int .i64 kd, .int .i64 at', .int .i64 X, .int .i64 Y, .int .i64 Z, .string S, .string Tt, .bool on]] w fun e w' => StepG PS base w B nx ps.length M e w' := by
  have HGW : Hid (GW PS base (w.alloc (opBlk kd at' X Y Z S Tt on)) B vD vI vM nx ps es) := h.keep hP ((Below.refl _ _).alloc (Nat.le_refl _) _)
  have HB : Hid (Below base w (w.alloc (opBlk kd at' X Y Z S Tt on))) := (Below.refl _ _).alloc h.baseW _
  have HP : Hid (ProgOK PS) := hP
  have HM : Hid (∀ p ∈ ps, p.made ≤ M) := hM
  have HK : Hid (kd = 4 ∨ kd = 5 ∨ kd = 6 ∨ kd = 7) := hk
  have d0 : (w.alloc (opBlk kd at' X Y Z S Tt on)).cell? ⟨w.heap.size, 0, none⟩ = some (.int .i64 kd) := cell_of_blk (heap_alloc_new w _) rfl
  have d1 : (w.alloc (opBlk kd at' X Y Z S Tt on)).cell? ⟨w.heap.size, 1, none⟩ = some (.int .i64 at') := cell_of_blk (heap_alloc_new w _) rfl
  have k1 : (kd == 1) = false := by rcases hk with rfl | rfl | rfl | rfl <;> rfl
  have k2 : (kd == 2) = false := by rcases hk with rfl | rfl | rfl | rfl <;> rfl
  have k3 : (kd == 3) = false := by rcases hk with rfl | rfl | rfl | rfl <;> rfl
  have kl : decide (kd < 1) = false := by rcases hk with rfl | rfl | rfl | rfl <;> rfl
  have kg : decide (kd > 15) = false := by rcases hk with rfl | rfl | rfl | rfl <;> rfl
  have kg' : decide (15 < kd) = false := by rcases hk with rfl | rfl | rfl | rfl <;> rfl
  have ku : decide (kd < 12) = true := by rcases hk with rfl | rfl | rfl | rfl <;> rfl
  have kq : (kd == 11) = false := by rcases hk with rfl | rfl | rfl | rfl <;> rfl
  clear h hP hM hk
  obtain ⟨aD, cD, hvD⟩ := own_shape HGW.out.rowD
  subst hvD
  have c0 : (w.alloc (opBlk kd at' X Y Z S Tt on)).cell? ⟨B, 0, none⟩ = some (.slice aD ps.length cD) := cell_of_blk HGW.out.wb.blk rfl
  by_cases h0 : ps.length = 0
  · have g0 : ((ps.length : Int) == 0) = true := by simp [h0]
    have HE : Hid (StepG PS base w B nx ps.length M (.returned (.bool true)) (w.alloc (opBlk kd at' X Y Z S Tt on))) := ⟨rfl, HB.out, _, _, _, _, _, _, HGW.out, Nat.le_succ _, Nat.le_succ _, fun p hp => Nat.le_succ_of_le (HM.out p hp)⟩
    clear h0
    go_enter Tryz.func33, Tryz.ntmps33
    go_wp2
    go_ret
    exact HE.out
  · have g0 : ((ps.length : Int) == 0) = false := by rw [beq_eq_false_iff_ne]; omega
    have HJ : Hid (pickN at' ps.length < ps.length) := pickN_lt (by omega)
    have HPK : Hid (∀ k, Calls Tryz.prog 58 #[.int .i64 at', .int .i64 (ps.length : Int)] ((w.alloc (opBlk kd at' X Y Z S Tt on)).drewN k) fun e w' => e = .returned (.int .i64 (pickN at' ps.length : Nat)) ∧ w' = (w.alloc (opBlk kd at' X Y Z S Tt on)).drewN k) := fun k => pick_any _ _ _
    obtain ⟨gD, hgD, hgl, hcD⟩ := own_cells HGW.out.rowD (by omega)
    subst hgD
    clear h0
    obtain ⟨j, hj⟩ : ∃ j, pickN at' ps.length = j := ⟨_, rfl⟩
    rw [hj] at HJ HPK
    clear hj
    have q := hcD j (.pointer (some ⟨(ps[j]'HJ.out).b, 0, none⟩)) (by rw [List.getElem?_map, List.getElem?_eq_getElem HJ.out]; rfl)
    have hjl : (j : Int) < (ps.length : Int) := by have := HJ.out; omega
    clear hcD
    go_enter Tryz.func33, Tryz.ntmps33
    go_upto_region 14 with fail
    go_quiet ((go_at_call 58; exact Calls.quiet_of_same (HPK.out _)))
    have hbd : Below (w.alloc (opBlk kd at' X Y Z S Tt on)).heap.size (w.alloc (opBlk kd at' X Y Z S Tt on)) ((w.alloc (opBlk kd at' X Y Z S Tt on)).drewN nq) := below_drewN _ _
    have HGQ : Hid (GW PS base ((w.alloc (opBlk kd at' X Y Z S Tt on)).drewN nq) B (.slice (some ⟨gD, 0, none⟩) ps.length cD) vI vM nx ps es) := HGW.out.keep HP.out hbd
    have HBQ : Hid (Below base w ((w.alloc (opBlk kd at' X Y Z S Tt on)).drewN nq)) := HB.out.trans (hbd.mono HGW.out.baseW)
    have HOP : Hid (((w.alloc (opBlk kd at' X Y Z S Tt on)).drewN nq).heap[w.heap.size]? = some (opBlk kd at' X Y Z S Tt on)) := (hbd.block w.heap.size (by simp)).trans (heap_alloc_new w _)
    generalize (w.alloc (opBlk kd at' X Y Z S Tt on)).drewN nq = wq at HGQ HBQ HOP ⊢
    clear hbd HPK HGW HB d0 d1 c0 q
    have d0 : wq.cell? ⟨w.heap.size, 0, none⟩ = some (.int .i64 kd) := cell_of_blk HOP.out rfl
    have d1 : wq.cell? ⟨w.heap.size, 1, none⟩ = some (.int .i64 at') := cell_of_blk HOP.out rfl
    have d2 : wq.cell? ⟨w.heap.size, 2, none⟩ = some (.int .i64 X) := cell_of_blk HOP.out rfl
    have d3 : wq.cell? ⟨w.heap.size, 3, none⟩ = some (.int .i64 Y) := cell_of_blk HOP.out rfl
    have d4 : wq.cell? ⟨w.heap.size, 4, none⟩ = some (.int .i64 Z) := cell_of_blk HOP.out rfl
    have d5 : wq.cell? ⟨w.heap.size, 5, none⟩ = some (.string S) := cell_of_blk HOP.out rfl
    have d6 : wq.cell? ⟨w.heap.size, 6, none⟩ = some (.string Tt) := cell_of_blk HOP.out rfl
    have d7 : wq.cell? ⟨w.heap.size, 7, none⟩ = some (.bool on) := cell_of_blk HOP.out rfl
    by_cases h7 : kd = 7
    · have k7 : (kd == 7) = true := by simp [h7]
      clear h7
      go_wp2_with fail
      refine (gchildren_any HP.out base wq B _ vI vM nx ps es HGQ.out j HJ.out hnx X).mono ?_
      rintro e w1 ⟨rfl, hb, vI', vM', nx', G', es', hn', hg⟩
      have HE : Hid (StepG PS base w B nx ps.length M (.returned (.bool true)) w1) := by
        refine ⟨rfl, HBQ.out.trans hb, _, _, _, _, _, _, hg, hn', ?_, ?_⟩
        · rw [List.length_set]; exact Nat.le_succ _
        · refine set_made HM.out ?_
          show (ps[j]'HJ.out).made ≤ M + 1
          exact Nat.le_succ_of_le (HM.out _ (List.getElem_mem HJ.out))
      clear hb hg hn'
      go_wp2
      go_ret
      exact HE.out
    · have k7 : (kd == 7) = false := by simp [h7]
      have HK2 : Hid (kd = 4 ∨ kd = 5 ∨ kd = 6) := by rcases HK.out with h | h | h | h <;> simp_all
      have hmd : (ps[j]'HJ.out).made ≤ 1099511627776 := Nat.le_trans (HM.out _ (List.getElem_mem HJ.out)) hM2
      clear h7
      go_wp2_with fail
      refine (pturned_any HP.out wq _ _ _ (HGQ.out.pd j HJ.out) hmd kd at' X Y Z S Tt on HK2.out).mono ?_
      rintro e w1 ⟨rfl, made', hm', hpd, hfr⟩
      have HE : Hid (StepG PS base w B nx ps.length M (.returned (.bool true)) w1) := by
        refine ⟨rfl, HBQ.out.trans (hfr.toBelow HGQ.out.baseW (HGQ.out.baseG j HJ.out)), _, _, _, _, _, _, HGQ.out.turn HP.out HJ.out hfr.size (fun k hk hn => hfr.block k hk hn) hpd (fun k hk => hk.1), Nat.le_succ _, ?_, ?_⟩
        · rw [List.length_set]; exact Nat.le_succ _
        · exact set_made HM.out (by have := HM.out _ (List.getElem_mem HJ.out); show made' ≤ M + 1; omega)
      clear hm' hpd hfr
      go_wp2
      go_ret
      exact HE.out
end

end Go.Proofs.YtblfffbmklkhmaaGreat

namespace Go.Proofs.YtblfffbmklkhmaaGreat
open Go.RowKit

theorem PD.told {PS : World → Value → Tree → Nat → (Nat → Prop) → Prop} {w : World} {b made : Nat} {G : Nat → Prop} (h : PD PS w b made G) : ∃ d : Nat, w.cell? ⟨b, 1, none⟩ = some (.pointer (some ⟨d, 0, none⟩)) ∧ w.cell? ⟨d, 2, none⟩ = some (.int .i64 made) := by
  obtain ⟨T, pa, d, vm, vy, vs, cnt, held, lm, ly, Fp, Fx, Fy, h1, _⟩ := h
  obtain ⟨els, hp, vT, has, vL, hR, _⟩ := h1.rs
  exact ⟨d, cell_of_blk h1.pb.blk rfl, cell_of_blk hR.doc rfl⟩

section
variable {PS : World → Value → Tree → Nat → (Nat → Prop) → Prop}

set_option maxRecDepth 100000 in
set_option maxHeartbeats 4000000 in
theorem glast_any (hP : ProgOK PS) (base : Nat) (w : World) (B : Nat) (vD vI vM : Value) (nx : Nat) (ps : List DRec) (es : List Ent) (h : GW PS base w B vD vI vM nx ps es) (i : Nat) (hi : i < ps.length) (hnx : nx ≤ 274877906944) (n : Int) :
    Calls Tryz.prog 64 #[.pointer (some ⟨B, 0, none⟩), .pointer (some ⟨ps[i].b, 0, none⟩), .int .i64 n, .int .i64 7] w fun e w' => KidPost PS base w B vD nx ps i ps[i] e w' := by
  have HGW : Hid (GW PS base w B vD vI vM nx ps es) := h
  have HP : Hid (ProgOK PS) := hP
  clear h hP
  go_enter Tryz.func64, Tryz.ntmps64
  go_wp2_with fail
  refine wp_loop_rounds 1 ?_
  rw [rounds_succ]
  go_wp2_with fail
  refine (gchildren_any HP.out base w B vD vI vM nx ps es HGW.out i hi hnx n).mono ?_
  intro e w1 hp
  have HE : Hid (KidPost PS base w B vD nx ps i ps[i] e w1) := hp
  obtain ⟨rfl, _⟩ := hp
  go_wp2_with fail
  refine wp_loop_rounds 1 ?_
  rw [rounds_succ]
  go_wp2
  go_ret
  exact HE.out

/-- In the midst of the end. -/
def EI (PS : World → Value → Tree → Nat → (Nat → Prop) → Prop) (base : Nat) (w : World) (B : Nat) (vD : Value) (np M : Nat) (bs : List (Nat × Nat)) (wr : World) (c : Nat) : Prop :=
  Below base w wr ∧ ∃ vI vM nx ps es, GW PS base wr B vD vI vM nx ps es ∧ ps.length = np ∧ (∀ p ∈ ps, p.made ≤ M) ∧ nx ≤ c ∧ ps.map (fun p => (p.b, p.made)) = bs

set_option maxRecDepth 100000 in
set_option maxHeartbeats 4000000 in
theorem gends_any (hP : ProgOK PS) (base : Nat) (w : World) (B : Nat) (aD : Option Addr) (cD np M : Nat) (bs : List (Nat × Nat)) (c : Nat) (h : EI PS base w B (.slice aD np cD) np M bs w c) (hnp : np ≤ 131072) (hM : M ≤ 200000) (hc : c ≤ 131072) :
    Calls Tryz.prog 34 #[.pointer (some ⟨B, 0, none⟩), .int .i64 7] w fun e w' => e = .returned (.bool true) ∧ ∃ c', EI PS base w B (.slice aD np cD) np M bs w' c' ∧ c' ≤ 68719476736 := by
  have HP : Hid (ProgOK PS) := hP
  have H0 : Hid (EI PS base w B (.slice aD np cD) np M bs w (c + 0 * 262144)) := by simpa [Hid] using h
  clear h hP
  go_enter Tryz.func34, Tryz.ntmps34
  go_wp2_with fail
  go_loopg [5] np (fun gk iv wr => ∃ i : Nat, iv = .int .i64 i ∧ i ≤ np ∧ np - i ≤ gk ∧ Hid (EI PS base w B (.slice aD np cD) np M bs wr (c + i * 262144)))
  case atStart => exact ⟨0, rfl, Nat.zero_le _, by omega, H0⟩
  case round =>
    obtain ⟨i, rfl, hil, hgk, HI⟩ := hrel
    have c0 : wr.cell? ⟨B, 0, none⟩ = some (.slice aD np cD) := by
      obtain ⟨_, vI, vM, nx, ps, es, hg, _⟩ := HI.out
      exact cell_of_blk hg.wb.blk rfl
    by_cases hlt : i < np
    · have hd : decide ((i : Int) < (np : Int)) = true := by simp; omega
      obtain ⟨b, m, HBM, hm⟩ : ∃ b m, Hid (bs[i]? = some (b, m)) ∧ m ≤ M := by
        obtain ⟨_, vI, vM, nx, ps, es, hg, hl, hma, _, hbs⟩ := HI.out
        have hi : i < ps.length := by omega
        refine ⟨ps[i].b, ps[i].made, ?_, hma _ (List.getElem_mem hi)⟩
        unfold Hid
        rw [← hbs, List.getElem?_map, List.getElem?_eq_getElem hi]
        rfl
      obtain ⟨gD, hgD, q⟩ : ∃ gD, aD = some ⟨gD, 0, none⟩ ∧ wr.cell? ⟨gD, i, none⟩ = some (.pointer (some ⟨b, 0, none⟩)) := by
        obtain ⟨_, vI, vM, nx, ps, es, hg, hl, hma, _, hbs⟩ := HI.out
        have hi : i < ps.length := by omega
        have hb : ps[i].b = b := by
          have h1 := HBM.out
          rw [← hbs, List.getElem?_map, List.getElem?_eq_getElem hi] at h1
          simp at h1
          exact h1.1
        have hrow := hg.rowD
        rw [hl] at hrow
        obtain ⟨g, hg1, _, hc⟩ := own_cells hrow (by omega)
        refine ⟨g, hg1, hc i _ ?_⟩
        rw [List.getElem?_map, List.getElem?_eq_getElem hi, ← hb]
        rfl
      subst hgD
      have HI0 : Hid (EI PS base w B (.slice (some ⟨gD, 0, none⟩) np cD) np M bs wr (c + i * 262144 + 0)) := HI
      clear HI
      go_wp2_with fail
      clear c0 q
      go_loopg [8] (m + 1) (fun gk2 jv wq => ∃ n : Nat, jv = .int .i64 n ∧ n ≤ m + 1 ∧ m + 1 - n ≤ gk2 ∧ Hid (EI PS base w B (.slice (some ⟨gD, 0, none⟩) np cD) np M bs wq (c + i * 262144 + n)))
      case atStart => exact ⟨0, rfl, Nat.zero_le _, by omega, HI0⟩
      case round =>
        obtain ⟨n, rfl, hnl, hgk2, HJ⟩ := hrel
        obtain ⟨hbe, vI, vM, nx, ps, es, hg, hl, hma, hnx, hbs⟩ := HJ.out
        have hi : i < ps.length := by omega
        have HG : Hid (GW PS base wr B (.slice (some ⟨gD, 0, none⟩) np cD) vI vM nx ps es) := hg
        have HBE : Hid (Below base w wr) := hbe
        have hbm : ps[i].b = b ∧ ps[i].made = m := by
          have h1 := HBM.out
          rw [← hbs, List.getElem?_map, List.getElem?_eq_getElem hi] at h1
          simpa using h1
        obtain ⟨hb, hmm⟩ := hbm
        have HMA : Hid (∀ p ∈ ps, p.made ≤ M) := hma
        have HBS : Hid (ps.map (fun p => (p.b, p.made)) = bs) := hbs
        have HL : Hid (ps.length = np) := hl
        obtain ⟨d, q1, q2⟩ := (hg.pd i hi).told
        rw [hb] at q1
        rw [hmm] at q2
        clear hg hbe hma hbs hl HJ
        by_cases hnm : n ≤ m
        · have hd2 : decide ((n : Int) ≤ (m : Int)) = true := by simp; omega
          go_wp2_with fail
          have hcall := glast_any HP.out base wr B (.slice (some ⟨gD, 0, none⟩) np cD) vI vM nx ps es HG.out i hi (by omega) (n : Int)
          rw [hb] at hcall
          refine hcall.mono ?_
          rintro e w1 ⟨rfl, hb1, vI', vM', nx', G', es', hn', hg'⟩
          have HI1 : Hid (EI PS base w B (.slice (some ⟨gD, 0, none⟩) np cD) np M bs w1 (c + i * 262144 + (n + 1))) := by
            refine ⟨HBE.out.trans hb1, vI', vM', nx', _, es', hg', by rw [List.length_set]; exact HL.out, fun p hp => ?_, by omega, ?_⟩
            · rcases List.mem_or_eq_of_mem_set hp with hp | rfl
              · exact HMA.out p hp
              · show ps[i].made ≤ M
                exact HMA.out _ (List.getElem_mem hi)
            · rw [← HBS.out]
              apply List.ext_getElem?
              intro t
              rw [List.getElem?_map, List.getElem?_map, List.getElem?_set]
              by_cases ht : i = t
              · subst ht
                rw [if_pos rfl, if_pos hi, List.getElem?_eq_getElem hi]
                rfl
              · rw [if_neg ht]
          clear hb1 hg' hcall
          go_wp2
          go_roundg (m + 1 - (n + 1))
          case measure => omega
          case rel => exact ⟨n + 1, by go_num, by omega, Nat.le_refl _, HI1⟩
        · have hd2 : decide ((n : Int) ≤ (m : Int)) = false := by simp; omega
          have HI1 : Hid (EI PS base w B (.slice (some ⟨gD, 0, none⟩) np cD) np M bs wr (c + (i + 1) * 262144)) := ⟨HBE.out, vI, vM, nx, ps, es, HG.out, HL.out, HMA.out, by omega, HBS.out⟩
          go_wp2
          go_roundg (np - (i + 1))
          case measure => omega
          case rel => exact ⟨i + 1, by go_num, by omega, Nat.le_refl _, HI1⟩
    · have hd : decide ((i : Int) < (np : Int)) = false := by simp; omega
      go_wp2
      go_ret
      exact ⟨rfl, _, HI.out, by omega⟩
end

end Go.Proofs.YtblfffbmklkhmaaGreat

namespace Go.Proofs.YtblfffbmklkhmaaGreat
open Go.RowKit

theorem gw_start {PS : World → Value → Tree → Nat → (Nat → Prop) → Prop} (w : World) : GW PS w.heap.size (w.alloc (.cells #[.slice none 0 0, .slice none 0 0, .slice none 0 0, .int .i64 0] 67)) w.heap.size (.slice none 0 0) (.slice none 0 0) (.slice none 0 0) 0 [] [] := by
  refine ⟨heap_alloc_new w _, World.ownsRow_nil _ _ _ _, World.ownsRow_nil _ _ _ _, World.ownsRow_nil _ _ _ _, fun e he => (by cases he), fun e he => (by cases he), fun i hi => absurd hi (Nat.not_lt_zero i), fun i j hi => absurd hi (Nat.not_lt_zero i), fun i hi => absurd hi (Nat.not_lt_zero i), rfl, ?_, fun i hi => absurd hi (Nat.not_lt_zero i), by simp⟩
  rintro k (rfl | hk | hk | hk | ⟨e, he, _⟩)
  · exact Nat.le_refl _
  · simp [Value.ownBlock] at hk
  · simp [Value.ownBlock] at hk
  · simp [Value.ownBlock] at hk
  · cases he

/-- In the midst of the script: behind i steps. -/
def PI (PS : World → Value → Tree → Nat → (Nat → Prop) → Prop) (w wr : World) (i : Nat) : Prop :=
  Below w.heap.size w wr ∧ ∃ vD vI vM nx ps es, GW PS w.heap.size wr w.heap.size vD vI vM nx ps es ∧ nx ≤ i ∧ ps.length ≤ i ∧ ∀ p ∈ ps, p.made ≤ i + 1

theorem PI.step {PS : World → Value → Tree → Nat → (Nat → Prop) → Prop} {w wr : World} {i nx np : Nat} {e : Ending} {w' : World} (hb : Below w.heap.size w wr) (hn : nx ≤ i) (hp : np ≤ i) (h : StepG PS w.heap.size wr w.heap.size nx np (i + 1) e w') : PI PS w w' (i + 1) := by
  obtain ⟨_, hb2, vD', vI', vM', nx', ps', es', hg, h1, h2, h3⟩ := h
  exact ⟨hb.trans hb2, vD', vI', vM', nx', ps', es', hg, by omega, by omega, h3⟩
theorem PI.skip {PS : World → Value → Tree → Nat → (Nat → Prop) → Prop} {w wr : World} {i : Nat} (h : PI PS w wr i) : PI PS w wr (i + 1) := by
  obtain ⟨hb, vD, vI, vM, nx, ps, es, hg, h1, h2, h3⟩ := h
  exact ⟨hb, vD, vI, vM, nx, ps, es, hg, by omega, by omega, fun p hp => Nat.le_succ_of_le (h3 p hp)⟩

section
variable {PS : World → Value → Tree → Nat → (Nat → Prop) → Prop}
theorem gstep_any (hP : ProgOK PS) (w wr : World) (i : Nat) (h : PI PS w wr i) (hi : i ≤ 131072) (kd at' X Y Z : Int) (S Tt : ByteArray) (on : Bool) (hS : S.size ≤ maxLen) (hk1 : 3 ≤ kd) (hk2 : kd ≤ 7) :
    Calls Tryz.prog 33 #[.pointer (some ⟨w.heap.size, 0, none⟩), .agg #[.int .i64 kd, .int .i64 at', .int .i64 X, .int .i64 Y, .int .i64 Z, .string S, .string Tt, .bool on]] wr fun e w' => e = .returned (.bool true) ∧ PI PS w w' (i + 1) := by
  obtain ⟨hb, vD, vI, vM, nx, ps, es, hg, h1, h2, h3⟩ := h
  by_cases hk : kd = 3
  · subst hk
    exact (gstep_new hP w.heap.size wr w.heap.size vD vI vM nx ps es hg (i + 1) h3 (by omega) at' X Y Z S Tt on hS).mono fun e w' hp => ⟨hp.1, PI.step hb h1 h2 hp⟩
  · exact (gstep_doc hP w.heap.size wr w.heap.size vD vI vM nx ps es hg (i + 1) h3 (by omega) (by omega) (by omega) kd at' X Y Z S Tt on (by omega)).mono fun e w' hp => ⟨hp.1, PI.step hb h1 h2 hp⟩

theorem gend_any (hP : ProgOK PS) (w wr : World) (n : Nat) (h : PI PS w wr n) (hn : n ≤ 131072) :
    Calls Tryz.prog 34 #[.pointer (some ⟨w.heap.size, 0, none⟩), .int .i64 7] wr fun e w' => e = .returned (.bool true) ∧ Hid (Below w.heap.size w w' ∧ ∃ vD vI vM nx es, LK w' w.heap.size vD vI vM nx es ∧ es.length ≤ 1099511627776) := by
  obtain ⟨hb, vD, vI, vM, nx, ps, es, hg, h1, h2, h3⟩ := h
  obtain ⟨aD, cD, rfl⟩ := own_shape hg.rowD
  refine (gends_any hP w.heap.size wr w.heap.size aD cD ps.length (n + 1) (ps.map fun p => (p.b, p.made)) nx ⟨Below.refl _ _, vI, vM, nx, ps, es, hg, rfl, h3, Nat.le_refl _, rfl⟩ (by omega) (by omega) (by omega)).mono ?_
  rintro e w' ⟨he, c', ⟨hb2, vI', vM', nx', ps', es', hg', _, _, hc, _⟩, hc'⟩
  refine ⟨he, hb.trans hb2, _, vI', vM', nx', es', ⟨hg'.wb, hg'.rowI, hg'.rowM, hg'.full⟩, ?_⟩
  have := hg'.cnt
  omega

set_option maxRecDepth 100000 in
set_option maxHeartbeats 2000000 in
theorem plays_trees (hP : ProgOK PS) (w : World) (b off len cap : Nat) (K A X Y Z : Nat → Int) (S T : Nat → ByteArray) (O : Nat → Bool) (h : Scr w b off len K A X Y Z S T O) (hm : len ≤ 131072) :
    Calls Tryz.prog 15 #[.slice (some ⟨b, off, none⟩) len cap, .int .i64 3, .int .i64 7] w fun e w' => StepPost w e w' := by
  have hblt := h.lt
  have HS : Hid (Scr w b off len K A X Y Z S T O) := h
  have HP : Hid (ProgOK PS) := hP
  clear h hP
  have H0 : Hid (PI PS w (w.alloc (.cells #[.slice none 0 0, .slice none 0 0, .slice none 0 0, .int .i64 0] 67)) 0) := ⟨(Below.refl _ _).alloc (Nat.le_refl _) _, _, _, _, _, _, _, gw_start w, Nat.le_refl _, Nat.le_refl _, fun p hp => by cases hp⟩
  go_enter Tryz.func15, Tryz.ntmps15
  go_wp2_with fail
  go_loopg [8] len (fun gk iv wr => ∃ i : Nat, iv = .int .i64 i ∧ i ≤ len ∧ len - i ≤ gk ∧ Hid (PI PS w wr i))
  case atStart => exact ⟨0, rfl, Nat.zero_le _, by omega, H0⟩
  case round =>
    obtain ⟨i, rfl, hi, hgk, HI⟩ := hrel
    have hB := HI.out.1
    by_cases hlt : i < len
    · have hd : decide ((i : Int) < (len : Int)) = true := by simp; omega
      have q0 := (hB.cell (p := ⟨b, off + i * 8, none⟩) hblt).trans (HS.out.c0 i hlt)
      have q1 := (hB.cell (p := ⟨b, off + i * 8 + 1, none⟩) hblt).trans (HS.out.c1 i hlt)
      have q2 := (hB.cell (p := ⟨b, off + i * 8 + 2, none⟩) hblt).trans (HS.out.c2 i hlt)
      have q3 := (hB.cell (p := ⟨b, off + i * 8 + 3, none⟩) hblt).trans (HS.out.c3 i hlt)
      have q4 := (hB.cell (p := ⟨b, off + i * 8 + 4, none⟩) hblt).trans (HS.out.c4 i hlt)
      have q5 := (hB.cell (p := ⟨b, off + i * 8 + 5, none⟩) hblt).trans (HS.out.c5 i hlt)
      have q6 := (hB.cell (p := ⟨b, off + i * 8 + 6, none⟩) hblt).trans (HS.out.c6 i hlt)
      have q7 := (hB.cell (p := ⟨b, off + i * 8 + 7, none⟩) hblt).trans (HS.out.c7 i hlt)
      have hsm := HS.out.small i hlt
      generalize K i = k0 at q0
      generalize A i = k1 at q1
      generalize X i = k2 at q2
      generalize Y i = k3 at q3
      generalize Z i = k4 at q4
      generalize S i = s at q5 hsm
      generalize T i = t at q6
      generalize O i = o at q7
      have HSM : Hid (s.size ≤ maxLen) := hsm
      clear hsm
      by_cases hk1 : 3 ≤ k0
      · have hd1 : decide (3 ≤ k0) = true := by simpa using hk1
        by_cases hk2 : k0 ≤ 7
        · have hd2 : decide (k0 ≤ 7) = true := by simpa using hk2
          have HK : Hid (3 ≤ k0 ∧ k0 ≤ 7) := ⟨hk1, hk2⟩
          clear hk1 hk2
          go_wp2_with fail
          refine (gstep_any HP.out w wr i HI.out (by omega) k0 k1 k2 k3 k4 s t o HSM.out HK.out.1 HK.out.2).mono ?_
          rintro e w2 ⟨rfl, hpi⟩
          have HI2 : Hid (PI PS w w2 (i + 1)) := hpi
          clear q0 q1 q2 q3 q4 q5 q6 q7 hpi hB HI
          go_wp2
          go_roundg (len - (i + 1))
          case measure => omega
          case rel => exact ⟨i + 1, by go_num, by omega, Nat.le_refl _, HI2⟩
        · have hd2 : decide (k0 ≤ 7) = false := by simpa using hk2
          have HI2 : Hid (PI PS w wr (i + 1)) := HI.out.skip
          clear hk1 hk2
          go_wp2
          go_roundg (len - (i + 1))
          case measure => omega
          case rel => exact ⟨i + 1, by go_num, by omega, Nat.le_refl _, HI2⟩
      · have hd1 : decide (3 ≤ k0) = false := by simpa using hk1
        have HI2 : Hid (PI PS w wr (i + 1)) := HI.out.skip
        clear hk1
        go_wp2
        go_roundg (len - (i + 1))
        case measure => omega
        case rel => exact ⟨i + 1, by go_num, by omega, Nat.le_refl _, HI2⟩
    · have hd : decide ((i : Int) < (len : Int)) = false := by simp; omega
      clear hB
      go_wp2_with fail
      refine (gend_any HP.out w wr i HI.out (by omega)).mono ?_
      rintro e w2 ⟨rfl, HE⟩
      obtain ⟨hbe, vD, vI, vM, nx, es, hlk, hel⟩ := HE.out
      have HLK : Hid (LK w2 w.heap.size vD vI vM nx es ∧ es.length ≤ 1099511627776) := ⟨hlk, hel⟩
      have HBE : Hid (Below w.heap.size w w2) := hbe
      clear hbe hlk hel HE HI
      go_wp2_with fail
      refine (looks_full w2 w.heap.size vD vI vM nx es HLK.out.1 HLK.out.2).mono ?_
      rintro e w3 ⟨rfl, hdr⟩
      have HB3 : Hid (Below w.heap.size w w3) := HBE.out.trans (hdr.below.mono HBE.out.size)
      clear hdr
      go_wp2_with fail
      go_ret
      exact ⟨rfl, HB3.out⟩

set_option maxHeartbeats 1000000 in
theorem trees_any (hP : ProgOK PS) (w : World) (b off len cap : Nat) (K A X Y Z : Nat → Int) (S T : Nat → ByteArray) (O : Nat → Bool) (h : Scr w b off len K A X Y Z S T O) (hm : len ≤ 131072) :
    Calls Tryz.prog 5 #[.slice (some ⟨b, off, none⟩) len cap] w fun e w' => StepPost w e w' := by
  have HS : Hid (Scr w b off len K A X Y Z S T O) := h
  have HP : Hid (ProgOK PS) := hP
  clear h hP
  go_enter Tryz.func5, Tryz.ntmps5
  go_wp2_with fail
  refine (plays_trees HP.out _ b off len cap K A X Y Z S T O HS.out hm).mono ?_
  rintro e w1 ⟨rfl, hb⟩
  go_wp2_with fail
  go_ret
  exact ⟨rfl, hb⟩
end

set_option maxHeartbeats 1000000 in
theorem trees_empty (w : World) (ao : Option Addr) (cap : Nat) :
    Calls Tryz.prog 5 #[.slice ao 0 cap] w fun e w' => StepPost w e w' := by
  go_enter Tryz.func5, Tryz.ntmps5
  go_wp2_with fail
  refine (plays_empty _ ao cap 3 7).mono ?_
  rintro e w1 ⟨rfl, hb⟩
  go_wp2_with fail
  go_ret
  exact ⟨rfl, hb⟩

end Go.Proofs.YtblfffbmklkhmaaGreat
