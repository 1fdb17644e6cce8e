/- Own work. -/
import Derived.Test.YtblfffbmklkhmaaGreatAw6
import Derived.Deep.DeepCutAuto
import Derived.Deep.QuietTactic
namespace Go.Proofs.YtblfffbmklkhmaaGreat
open Go.RowKit
theorem run_append_kept {P : Program} (w : World) (base : Nat) (t ty e : TypeId) (i : TypeInfo) (z : Value) (size bytes : Nat) (ht : P.underlying t = some (.slice e)) (hi : P.info? e = some i) (hz : i.zero = some z)
    (hsize : i.size = size) (hby : i.bytes = bytes) (hzs : z.cells.size = size) (hsz : 0 < size) (v : Value) (n : Nat) (xs : List Value) (hown : w.ownsRow base e size v n xs)
    (a : Addr) (m c : Nat) (news : List Value) (hl : news.length = m * size) (hnews : ∀ j u, news[j]? = some u → w.cell? (a.add j) = some u) (h1 : ∀ u ∈ news, u.oneCell' = true)
    (h63 : n + m ≤ maxLen) (hbytes : (n + m) * bytes ≤ 140737488355328) (hbase : base ≤ w.heap.size) :
    ∃ v' w', (Builtin.append_ #[t, t] ty #[v, .slice (some a) m c]).run P w = .ok v' w' ∧ w'.ownsRow base e size v' (n + m) (xs ++ news) ∧ w.grownBy w' v.ownBlock ∧ ∀ j, v'.ownBlock = some j → v.ownBlock = some j ∨ w.heap.size ≤ j := by
  obtain ⟨v', w', hr, h2, h3, _⟩ := run_append_own (P := P) w base t ty e i z size bytes ht hi hz hsize hby hzs hsz v n xs hown a m c news hl hnews h1 h63 hbytes hbase
  refine ⟨v', w', hr, h2, h3, ?_⟩
  rcases hown.2 with ⟨rfl, rfl⟩ | ⟨g, cap, cur, rfl, hbg, hg, hnc, hcm, hcs, htake⟩
  · have hx : xs = [] := List.eq_nil_of_length_eq_zero (by simpa using hown.1)
    subst hx
    obtain ⟨v2, w2, hr2, h22, _, _⟩ := run_append_own (P := P) w w.heap.size t ty e i z size bytes ht hi hz hsize hby hzs hsz (.slice none 0 0) 0 [] (World.ownsRow_nil _ _ _ _) a m c news hl hnews h1 h63 hbytes (Nat.le_refl _)
    rw [hr] at hr2
    injection hr2 with e1 e2
    subst e1 e2
    exact fun j hj => Or.inr (h22.lt j hj).1
  · subst hsize hby
    by_cases hroom : n + m ≤ cap
    · have hfit : n * i.size + news.length ≤ cur.size := by rw [hl, hcs, ← Nat.add_mul]; exact Nat.mul_le_mul_right _ hroom
      have hr2 := run_append_room (P := P) w t ty e i ht hi g n cap cur hg a m c news hl hnews h1 hroom hfit
      rw [hr] at hr2
      injection hr2 with e1 _
      subst e1
      exact fun j hj => Or.inl (by simpa [Value.ownBlock] using hj)
    · have holds : ∀ j u, xs[j]? = some u → w.cell? ((⟨g, 0, none⟩ : Addr).add j) = some u := hown.cells (g := g) rfl
      have h63' : ((n + m : Nat) : Int) ≤ 9223372036854775807 := by unfold maxLen at h63; omega
      have hr2 := run_append_grow (P := P) w t ty e i z ht hi hz ⟨g, 0, none⟩ n cap xs hown.1 holds a m c news hl hnews (by omega) h63' (growslice_fits (by omega) hbytes)
      rw [hr] at hr2
      injection hr2 with e1 _
      subst e1
      refine fun j hj => Or.inr ?_
      simp [Value.ownBlock] at hj
      omega
theorem wpList_append_kept {P : Program} (w : World) {ops : Array Oper} {rest : List Oper} {o : Oper} {a : Act} {Q : Exit → Act → World → Prop} (hgd : o.guard = none) (s x : Operand) (t : TypeId)
    (ho : o.op = .call { callee := .builtin .append, args := #[s, x], argTypes := #[t, t] })
    (base : Nat) (e : TypeId) (i : TypeInfo) (z : Value) (size bytes : Nat) (ht : P.underlying t = some (.slice e)) (hi : P.info? e = some i) (hz : i.zero = some z)
    (hsize : i.size = size) (hby : i.bytes = bytes) (hzs : z.cells.size = size) (hsz : 0 < size)
    (v : Value) (n : Nat) (xs : List Value) (hs : a.eval s = v) (hown : w.ownsRow base e size v n xs)
    (ad : Addr) (m c : Nat) (news : List Value) (hx : a.eval x = .slice (some ad) m c) (hl : news.length = m * size) (hnews : ∀ j u, news[j]? = some u → w.cell? (ad.add j) = some u) (h1 : ∀ u ∈ news, u.oneCell' = true)
    (h63 : n + m ≤ maxLen) (hbytes : (n + m) * bytes ≤ 140737488355328) (hbase : base ≤ w.heap.size)
    (h : ∀ v' w', w'.ownsRow base e size v' (n + m) (xs ++ news) → w.grownBy w' v.ownBlock → Hid (∀ j, v'.ownBlock = some j → v.ownBlock = some j ∨ w.heap.size ≤ j) → wpList P ops Q rest (a.put o.dst v') w') : wpList P ops Q (o :: rest) a w := by
  refine wpList_plain hgd fun K hK => ?_
  obtain ⟨v', w', hrun, r1, r2, r3⟩ := run_append_kept (P := P) w base t o.type e i z size bytes ht hi hz hsize hby hzs hsz v n xs hown ad m c news hl hnews h1 h63 hbytes hbase
  unfold Oper.wp
  simp only [execOp, ho, resolve, invoke, builtin, Sem.run_bind, Sem.run_pure, Result.andThen_ok, List.map_toArray, List.map_cons, List.map_nil, hs, hx, hrun]
  exact hK _ _ (h v' w' r1 r2 r3)
end Go.Proofs.YtblfffbmklkhmaaGreat

namespace Go.Proofs.YtblfffbmklkhmaaGreat
open Go.RowKit
/-- All but the blocks of S is as it was. -/
structure Fr (w w' : World) (S : Nat → Prop) : Prop where
  os : w'.os = w.os
  tape : w'.tape = w.tape
  output : w'.output = w.output
  size : w.heap.size ≤ w'.heap.size
  block : ∀ k, k < w.heap.size → ¬ S k → w'.heap[k]? = w.heap[k]?
theorem Fr.refl (w : World) (S : Nat → Prop) : Fr w w S := ⟨rfl, rfl, rfl, Nat.le_refl _, fun _ _ _ => rfl⟩
theorem Fr.trans {a b c : World} {S : Nat → Prop} (h : Fr a b S) (k : Fr b c S) : Fr a c S :=
  ⟨k.os.trans h.os, k.tape.trans h.tape, k.output.trans h.output, Nat.le_trans h.size k.size, fun i hi hn => (k.block i (Nat.lt_of_lt_of_le hi h.size) hn).trans (h.block i hi hn)⟩
theorem Fr.below {a w w' : World} {S : Nat → Prop} (h : Fr a w S) (hb : Below w.heap.size w w') : Fr a w' S :=
  ⟨hb.os.trans h.os, hb.tape.trans h.tape, hb.output.trans h.output, Nat.le_trans h.size hb.size, fun i hi hn => (hb.block i (Nat.lt_of_lt_of_le hi h.size)).trans (h.block i hi hn)⟩
theorem Fr.set {a w : World} {S : Nat → Prop} (h : Fr a w S) {p : Addr} (hp : S p.block ∨ a.heap.size ≤ p.block) (u : Value) : Fr a (w.setCell p u) S :=
  ⟨h.os, h.tape, h.output, by simpa [World.setCell] using h.size, fun k hk hn => (Below.heap_setCell _ _ _ _ (fun e => hp.elim (fun x => hn (by rw [e]; exact x)) (fun x => by omega))).trans (h.block k hk hn)⟩
theorem Fr.alloc {a w : World} {S : Nat → Prop} (h : Fr a w S) (o : Obj) : Fr a (w.alloc o) S :=
  ⟨h.os, h.tape, h.output, by simpa using Nat.le_succ_of_le h.size, fun k hk hn => (Below.heap_alloc w o k (Nat.lt_of_lt_of_le hk h.size)).trans (h.block k hk hn)⟩
theorem Fr.gb {a w w' : World} {S : Nat → Prop} (h : Fr a w S) {r : Option Nat} (hg : w.grownBy w' r) (hr : ∀ k, r = some k → S k ∨ a.heap.size ≤ k) : Fr a w' S :=
  ⟨hg.os.trans h.os, hg.tape.trans h.tape, hg.output.trans h.output, Nat.le_trans h.size hg.size, fun k hk hn => (hg.block k (Nat.lt_of_lt_of_le hk h.size) (fun e => (hr k e.symm).elim (fun x => hn x) (fun x => by omega))).trans (h.block k hk hn)⟩
theorem own_ne_type {w : World} {base : Nat} {e : TypeId} {size : Nat} {v : Value} {n : Nat} {xs : List Value} (h : w.ownsRow base e size v n xs) {b : Nat} {cs : Array Value} {t : TypeId} {z : Nat × Nat} (hb : w.heap[b]? = some (.cells cs t z)) (hne : t ≠ e) : v.ownBlock ≠ some b := by
  intro eq
  rcases h.2 with ⟨rfl, _⟩ | ⟨g, cap, cur, rfl, _, hg, _⟩
  · simp [Value.ownBlock] at eq
  · simp [Value.ownBlock] at eq
    subst eq
    rw [hb] at hg
    injection hg with hg
    injection hg with _ h2 _
    exact hne h2
theorem own_set {w : World} {base : Nat} {e : TypeId} {size : Nat} {v : Value} {n : Nat} {xs : List Value} (h : w.ownsRow base e size v n xs) {p : Addr} (hp : v.ownBlock ≠ some p.block) (u : Value) : (w.setCell p u).ownsRow base e size v n xs := by
  refine ⟨h.1, ?_⟩
  rcases h.2 with hn | ⟨g, cap, cur, rfl, hb, hg, rest⟩
  · exact Or.inl hn
  · refine Or.inr ⟨g, cap, cur, rfl, hb, ?_, rest⟩
    rw [Below.heap_setCell _ _ _ _ (fun e => hp (by simp [Value.ownBlock, e]))]
    exact hg
theorem own_below {w w' : World} {base : Nat} {e : TypeId} {size : Nat} {v : Value} {n : Nat} {xs : List Value} (h : w.ownsRow base e size v n xs) (hb : Below w.heap.size w w') : w'.ownsRow base e size v n xs := (keeps_below hb base e).owns h
section
variable {w : World} {d : Nat} {made : Nat} {hp : Option Addr} {vT : Value} {has : Bool} {vL : Value}
end
end Go.Proofs.YtblfffbmklkhmaaGreat

namespace Go.Proofs.YtblfffbmklkhmaaGreat
open Go.RowKit
def newErr (s root : ByteArray) : Int := if (chk s).1 ≠ 0 then (chk s).1 else if isLetter root = false then 4 else 0
theorem own_one {w : World} {g : Nat} {t : TypeId} {v : Value} (hg : w.heap[g]? = some (.cells #[v] t (0, 0))) : w.ownsRow 0 t 1 (.slice (some ⟨g, 0, none⟩) 1 1) 1 [v] := by
  refine ⟨rfl, Or.inr ⟨g, 1, #[v], rfl, Nat.zero_le _, hg, Nat.le_refl _, by unfold maxLen; omega, rfl, rfl⟩⟩
end Go.Proofs.YtblfffbmklkhmaaGreat

namespace Go.Proofs.YtblfffbmklkhmaaGreat
open Go.RowKit
theorem nodup_len : ∀ {l m : List Nat}, l.Nodup → (∀ k ∈ l, k ∈ m) → l.length ≤ m.length
  | [], _, _, _ => Nat.zero_le _
  | x :: l, m, h, hs => by
    have hx : x ∈ m := hs x (List.mem_cons_self ..)
    have h2 := List.nodup_cons.1 h
    have : l.length ≤ (m.erase x).length := nodup_len h2.2 (fun k hk => by
      refine (List.mem_erase_of_ne (fun e => ?_)).2 (hs k (List.mem_cons_of_mem _ hk))
      subst e
      exact h2.1 hk)
    rw [List.length_erase_of_mem hx] at this
    have := List.length_pos_of_mem hx
    simp only [List.length_cons]
    omega
end Go.Proofs.YtblfffbmklkhmaaGreat

namespace Go.Proofs.YtblfffbmklkhmaaGreat
open Go.RowKit
theorem below_drewN (w : World) : ∀ n, Below w.heap.size w (w.drewN n)
  | 0 => Below.refl _ _
  | n + 1 => (below_drewN w n).drew
end Go.Proofs.YtblfffbmklkhmaaGreat

namespace Go.Proofs.YtblfffbmklkhmaaGreat
open Go.RowKit
def Drew (w w' : World) : Prop := ∃ k, w' = w.drewN k
theorem Drew.below {w w' : World} (h : Drew w w') : Below w.heap.size w w' := by
  obtain ⟨k, rfl⟩ := h
  exact below_drewN w k
end Go.Proofs.YtblfffbmklkhmaaGreat

namespace Go.Proofs.YtblfffbmklkhmaaGreat
abbrev Tree := List (Nat × List Nat)
def tHas (e : Nat × List Nat) (n : Int) : Bool := e.2.any fun k => decide ((k : Int) = n)
def tFind (T : Tree) (n : Int) : Option (List Nat) := (T.find? fun e => decide ((e.1 : Int) = n)).map (·.2)
def tPar (T : Tree) (n : Int) : Int := match T.find? fun e => tHas e n with | some e => e.1 | none => -1
def tUp (T : Tree) : Nat → Int → Int
  | 0, n => n
  | k + 1, n => tUp T k (tPar T n)
def tUnder (T : Tree) (a n : Int) : Prop := 0 ≤ a ∧ ∃ k, tUp T k n = a
open Classical in
noncomputable def tUnderB (T : Tree) (a n : Int) : Bool := decide (tUnder T a n)
/-- Other children for one number. -/
def tSet (p : Nat) (f : List Nat → List Nat) (T : Tree) : Tree := T.map fun e => if e.1 = p then (e.1, f e.2) else e
def tIns (T : Tree) (p k n : Nat) : Tree := tSet p (fun l => insL l k n) T ++ [(n, [])]
noncomputable def tRem (T : Tree) (a : Nat) : Tree := tSet (tPar T a).toNat (noneOf a) (T.filter fun e => !tUnderB T a e.1)
def tMov (T : Tree) (a p k : Nat) : Tree := tSet p (fun l => insL (noneOf a l) k a) (tSet (tPar T a).toNat (noneOf a) T)
theorem tUnderB_iff {T : Tree} {a n : Int} : tUnderB T a n = true ↔ tUnder T a n := by simp [tUnderB]
/-- A tree as P5 to P7 have it. -/
structure TW (T : Tree) (made : Nat) : Prop where
  nums : (T.map Prod.fst).Nodup
  lt : ∀ e ∈ T, e.1 < made
  root : ∃ l, (0, l) ∈ T
  top : ∀ e ∈ T, 0 ∉ e.2
  kin : ∀ e ∈ T, ∀ k ∈ e.2, ∃ l, (k, l) ∈ T
  kdup : ∀ e ∈ T, e.2.Nodup
  one : ∀ e ∈ T, ∀ f ∈ T, ∀ k, k ∈ e.2 → k ∈ f.2 → e = f
  par : ∀ e ∈ T, e.1 ≠ 0 → ∃ f ∈ T, e.1 ∈ f.2
  rank : ∃ rk : Nat → Nat, ∀ e ∈ T, ∀ k ∈ e.2, rk e.1 < rk k
theorem num_inj {T : Tree} (h : (T.map Prod.fst).Nodup) {e f : Nat × List Nat} (he : e ∈ T) (hf : f ∈ T) (hn : e.1 = f.1) : e = f := by
  induction T with
  | nil => cases he
  | cons x T ih =>
    rw [List.map_cons, List.nodup_cons] at h
    rcases List.mem_cons.1 he with he1 | he1 <;> rcases List.mem_cons.1 hf with hf1 | hf1
    · rw [he1, hf1]
    · rw [he1] at hn
      exact absurd (List.mem_map.2 ⟨f, hf1, hn.symm⟩) h.1
    · rw [hf1] at hn
      exact absurd (List.mem_map.2 ⟨e, he1, hn⟩) h.1
    · exact ih h.2 he1 hf1
theorem tHas_iff {e : Nat × List Nat} {n : Int} : tHas e n = true ↔ ∃ k ∈ e.2, (k : Int) = n := by simp [tHas]
theorem tHas_nat {e : Nat × List Nat} {n : Nat} : tHas e n = true ↔ n ∈ e.2 := by
  rw [tHas_iff]
  constructor
  · rintro ⟨k, hk, h⟩
    rw [show n = k from by omega]
    exact hk
  · intro h
    exact ⟨n, h, rfl⟩
theorem TW.parent {T : Tree} {made : Nat} (h : TW T made) {e : Nat × List Nat} (he : e ∈ T) {k : Nat} (hk : k ∈ e.2) : tPar T k = e.1 := by
  unfold tPar
  cases hf : T.find? fun e => tHas e (k : Int) with
  | none =>
    rw [List.find?_eq_none] at hf
    exact absurd (tHas_nat.2 hk) (hf e he)
  | some f =>
    have h1 : k ∈ f.2 := tHas_nat.1 (List.find?_some (p := fun e => tHas e (k : Int)) hf)
    have h2 := h.one e he f (List.mem_of_find?_eq_some hf) k hk h1
    subst h2
    rfl
theorem tPar_cases (T : Tree) (n : Int) : tPar T n = -1 ∧ (∀ e ∈ T, tHas e n = false) ∨ ∃ e ∈ T, tHas e n = true ∧ tPar T n = e.1 := by
  unfold tPar
  cases h : T.find? fun e => tHas e n with
  | none =>
    rw [List.find?_eq_none] at h
    exact Or.inl ⟨rfl, fun e he => by simpa using h e he⟩
  | some e => exact Or.inr ⟨e, List.mem_of_find?_eq_some h, List.find?_some (p := fun e => tHas e n) h, rfl⟩
theorem TW.len {T : Tree} {made : Nat} (h : TW T made) {e : Nat × List Nat} (he : e ∈ T) : e.2.length < T.length := by
  obtain ⟨rk, hr⟩ := h.rank
  have hs : (e.1 :: e.2).Nodup := List.nodup_cons.2 ⟨fun hx => by have := hr e he _ hx; omega, h.kdup e he⟩
  have := nodup_len hs (m := T.map Prod.fst) (fun k hk => by
    rcases List.mem_cons.1 hk with rfl | hk
    · exact List.mem_map.2 ⟨e, he, rfl⟩
    · obtain ⟨l, hl⟩ := h.kin e he k hk
      exact List.mem_map.2 ⟨_, hl, rfl⟩)
  simp at this
  omega
theorem mem_insL {l : List Nat} {k n x : Nat} : x ∈ insL l k n ↔ x = n ∨ x ∈ l := by
  unfold insL
  rw [List.mem_append, List.mem_append, List.mem_singleton]
  constructor
  · rintro ((h | h) | h)
    · exact Or.inr (List.mem_of_mem_take h)
    · exact Or.inl h
    · exact Or.inr (List.mem_of_mem_drop h)
  · rintro (h | h)
    · exact Or.inl (Or.inr h)
    · rw [← List.take_append_drop k l, List.mem_append] at h
      exact h.elim (fun x => Or.inl (Or.inl x)) Or.inr
theorem nodup_insL {l : List Nat} {k n : Nat} (h : l.Nodup) (hn : n ∉ l) : (insL l k n).Nodup := by
  have h2 : (l.take k ++ l.drop k).Nodup := by rw [List.take_append_drop]; exact h
  rw [List.nodup_append] at h2
  unfold insL
  rw [List.nodup_append, List.nodup_append]
  refine ⟨⟨h2.1, by simp, fun a ha b hb => ?_⟩, h2.2.1, fun a ha b hb => ?_⟩
  · rw [List.mem_singleton] at hb
    rw [hb]
    exact fun e => hn (e ▸ List.mem_of_mem_take ha)
  · rcases List.mem_append.1 ha with ha | ha
    · exact h2.2.2 a ha b hb
    · rw [List.mem_singleton] at ha
      rw [ha]
      exact fun e => hn (e ▸ List.mem_of_mem_drop hb)
theorem mem_noneOf {l : List Nat} {a x : Nat} : x ∈ noneOf a l ↔ x ∈ l ∧ x ≠ a := by
  unfold noneOf
  rw [List.mem_filter, decide_eq_true_eq]
  exact ⟨fun ⟨h1, h2⟩ => ⟨h1, fun e => h2 (by omega)⟩, fun ⟨h1, h2⟩ => ⟨h1, fun e => h2 (by omega)⟩⟩
theorem nodup_noneOf {l : List Nat} {a : Int} (h : l.Nodup) : (noneOf a l).Nodup := h.filter _
theorem mem_tSet {p : Nat} {f : List Nat → List Nat} {T : Tree} {e : Nat × List Nat} : e ∈ tSet p f T ↔ ∃ x ∈ T, e.1 = x.1 ∧ e.2 = if x.1 = p then f x.2 else x.2 := by
  unfold tSet
  rw [List.mem_map]
  constructor
  · rintro ⟨x, hx, rfl⟩
    refine ⟨x, hx, ?_⟩
    split <;> exact ⟨rfl, rfl⟩
  · rintro ⟨x, hx, h1, h2⟩
    refine ⟨x, hx, ?_⟩
    split at h2
    · rename_i h
      rw [if_pos h, ← h1, ← h2]
    · rename_i h
      rw [if_neg h]
      exact (Prod.ext h1 h2).symm
theorem tSet_nums (p : Nat) (f : List Nat → List Nat) (T : Tree) : (tSet p f T).map Prod.fst = T.map Prod.fst := by
  unfold tSet
  rw [List.map_map]
  refine List.map_congr_left fun e _ => ?_
  show (if e.1 = p then (e.1, f e.2) else e).1 = e.1
  split <;> rfl
theorem tSet_len (p : Nat) (f : List Nat → List Nat) (T : Tree) : (tSet p f T).length = T.length := by simp [tSet]
end Go.Proofs.YtblfffbmklkhmaaGreat

namespace Go.Proofs.YtblfffbmklkhmaaGreat
theorem TW.klt {T : Tree} {made : Nat} (h : TW T made) {x : Nat × List Nat} (hx : x ∈ T) {k : Nat} (hk : k ∈ x.2) : k < made := by
  obtain ⟨l, hl⟩ := h.kin x hx k hk
  exact h.lt _ hl
theorem mem_tIns {T : Tree} {p k n : Nat} {e : Nat × List Nat} : e ∈ tIns T p k n ↔ (∃ x ∈ T, e.1 = x.1 ∧ e.2 = if x.1 = p then insL x.2 k n else x.2) ∨ e = (n, []) := by
  unfold tIns
  rw [List.mem_append, mem_tSet, List.mem_singleton]
theorem TW.ins {T : Tree} {made p k : Nat} (h : TW T made) (hp : ∃ l, (p, l) ∈ T) : TW (tIns T p k made) (made + 1) := by
  obtain ⟨l0, hl0⟩ := h.root
  have h0 : 0 < made := h.lt _ hl0
  obtain ⟨lp, hlp⟩ := hp
  have old : ∀ x ∈ T, ∀ y, y ∈ (if x.1 = p then insL x.2 k made else x.2) ↔ (y = made ∧ x.1 = p) ∨ y ∈ x.2 := by
    intro x hx y
    split
    · rename_i hxp
      rw [mem_insL]
      exact ⟨fun h => h.imp (fun e => ⟨e, hxp⟩) id, fun h => h.imp (fun e => e.1) id⟩
    · rename_i hxp
      exact ⟨Or.inr, fun h => h.elim (fun e => absurd e.2 hxp) id⟩
  have img : ∀ x ∈ T, (x.1, if x.1 = p then insL x.2 k made else x.2) ∈ tIns T p k made := fun x hx => mem_tIns.2 (Or.inl ⟨x, hx, rfl, rfl⟩)
  refine ⟨?_, ?_, ⟨_, img _ hl0⟩, ?_, ?_, ?_, ?_, ?_, ?_⟩
  · unfold tIns
    rw [List.map_append, tSet_nums, List.nodup_append]
    refine ⟨h.nums, by simp, fun a ha b hb => ?_⟩
    simp only [List.map_cons, List.map_nil, List.mem_singleton] at hb
    obtain ⟨x, hx, rfl⟩ := List.mem_map.1 ha
    have := h.lt x hx
    omega
  · intro e he
    rcases mem_tIns.1 he with ⟨x, hx, h1, _⟩ | rfl
    · have := h.lt x hx
      omega
    · exact Nat.lt_succ_self _
  · intro e he h1
    rcases mem_tIns.1 he with ⟨x, hx, _, h2⟩ | rfl
    · rw [h2, old x hx] at h1
      rcases h1 with ⟨h3, _⟩ | h3
      · omega
      · exact h.top x hx h3
    · cases h1
  · intro e he y hy
    rcases mem_tIns.1 he with ⟨x, hx, _, h2⟩ | rfl
    · rw [h2, old x hx] at hy
      rcases hy with ⟨rfl, _⟩ | hy
      · exact ⟨[], mem_tIns.2 (Or.inr rfl)⟩
      · obtain ⟨l, hl⟩ := h.kin x hx y hy
        exact ⟨_, img _ hl⟩
    · cases hy
  · intro e he
    rcases mem_tIns.1 he with ⟨x, hx, _, h2⟩ | rfl
    · rw [h2]
      split
      · exact nodup_insL (h.kdup x hx) (fun hm => by have := h.klt hx hm; omega)
      · exact h.kdup x hx
    · exact List.nodup_nil
  · intro e he f hf y hy1 hy2
    rcases mem_tIns.1 he with ⟨x, hx, a1, a2⟩ | rfl
    · rcases mem_tIns.1 hf with ⟨z, hz, b1, b2⟩ | rfl
      · have hxz : x = z := by
          rw [a2, old x hx] at hy1
          rw [b2, old z hz] at hy2
          rcases hy1 with ⟨c1, c2⟩ | hy1 <;> rcases hy2 with ⟨d1, d2⟩ | hy2
          · exact num_inj h.nums hx hz (c2.trans d2.symm)
          · have := h.klt hz hy2; omega
          · have := h.klt hx hy1; omega
          · exact h.one x hx z hz y hy1 hy2
        subst hxz
        exact Prod.ext (a1.trans b1.symm) (a2.trans b2.symm)
      · cases hy2
    · cases hy1
  · intro e he hne
    rcases mem_tIns.1 he with ⟨x, hx, a1, _⟩ | rfl
    · rw [a1] at hne ⊢
      obtain ⟨f, hf, hm⟩ := h.par x hx hne
      exact ⟨_, img f hf, (old f hf _).2 (Or.inr hm)⟩
    · exact ⟨_, img _ hlp, (old _ hlp _).2 (Or.inl ⟨rfl, rfl⟩)⟩
  · obtain ⟨rk, hr⟩ := h.rank
    refine ⟨fun n => if n = made then rk p + 1 else rk n, fun e he y hy => ?_⟩
    rcases mem_tIns.1 he with ⟨x, hx, a1, a2⟩ | rfl
    · rw [a2, old x hx] at hy
      have hxm := h.lt x hx
      rw [a1]
      show (if x.1 = made then _ else _) < (if y = made then _ else _)
      rw [if_neg (by omega)]
      rcases hy with ⟨c1, c2⟩ | hy
      · rw [if_pos c1, c2]; omega
      · have := h.klt hx hy
        rw [if_neg (by omega)]
        exact hr x hx y hy
    · cases hy
theorem tUp_add (T : Tree) (n : Int) : ∀ (t k : Nat), tUp T (t + k) n = tUp T k (tUp T t n)
  | 0, k => by rw [Nat.zero_add]; rfl
  | t + 1, k => by
    rw [show t + 1 + k = (t + k) + 1 from by omega]
    exact tUp_add T (tPar T n) t k
theorem tPar_neg (T : Tree) {n : Int} (hn : n < 0) : tPar T n = -1 := by
  rcases tPar_cases T n with h | ⟨e, _, h, _⟩
  · exact h.1
  · obtain ⟨k, _, hk⟩ := tHas_iff.1 h
    omega
theorem tUp_neg (T : Tree) {n : Int} (hn : n < 0) : ∀ k, tUp T k n < 0
  | 0 => hn
  | k + 1 => by
    show tUp T k (tPar T n) < 0
    rw [tPar_neg T hn]
    exact tUp_neg T (by omega) k
/-- A child is under what its parent is under, and under itself. -/
theorem TW.under_kid {T : Tree} {made : Nat} (h : TW T made) {e : Nat × List Nat} (he : e ∈ T) {k : Nat} (hk : k ∈ e.2) (a : Nat) : tUnder T a k ↔ k = a ∨ tUnder T a e.1 := by
  have hp := h.parent he hk
  constructor
  · rintro ⟨h0, t, ht⟩
    cases t with
    | zero => exact Or.inl (by have : (k : Int) = a := ht; omega)
    | succ t =>
      refine Or.inr ⟨h0, t, ?_⟩
      rw [← hp]
      exact ht
  · rintro (rfl | ⟨h0, t, ht⟩)
    · exact ⟨by omega, 0, rfl⟩
    · refine ⟨h0, t + 1, ?_⟩
      show tUp T t (tPar T k) = a
      rw [hp]
      exact ht
theorem under_self (T : Tree) (a : Nat) : tUnder T a a := ⟨by omega, 0, rfl⟩
/-- What is above stands lower in every rank. -/
theorem TW.under_rank {T : Tree} {made : Nat} (h : TW T made) {rk : Nat → Nat} (hr : ∀ e ∈ T, ∀ k ∈ e.2, rk e.1 < rk k) {a : Nat} : ∀ (t n : Nat), tUp T t n = a → rk a ≤ rk n
  | 0, n, ht => by
    have : (n : Int) = a := ht
    rw [show n = a from by omega]
    exact Nat.le_refl _
  | t + 1, n, ht => by
    have ht' : tUp T t (tPar T n) = a := ht
    rcases tPar_cases T n with ⟨h1, _⟩ | ⟨e, he, h1, h2⟩
    · rw [h1] at ht'
      have := tUp_neg T (n := -1) (by omega) t
      omega
    · rw [h2] at ht'
      have := TW.under_rank h hr t e.1 ht'
      have := hr e he n (tHas_nat.1 h1)
      omega
end Go.Proofs.YtblfffbmklkhmaaGreat

namespace Go.Proofs.YtblfffbmklkhmaaGreat
/-- The parent of an element that is not the root. -/
theorem TW.up {T : Tree} {made : Nat} (h : TW T made) {a : Nat} {la : List Nat} (ha : (a, la) ∈ T) (h0 : a ≠ 0) : ∃ q ∈ T, a ∈ q.2 ∧ tPar T a = q.1 := by
  obtain ⟨q, hq, hm⟩ := h.par _ ha h0
  exact ⟨q, hq, hm, h.parent hq hm⟩
theorem TW.root_par {T : Tree} {made : Nat} (h : TW T made) : tPar T 0 = -1 := by
  rcases tPar_cases T 0 with h1 | ⟨e, he, h1, _⟩
  · exact h1.1
  · exact absurd (tHas_nat.1 h1) (h.top e he)
theorem TW.root_not {T : Tree} {made : Nat} (h : TW T made) {a : Nat} (h0 : a ≠ 0) : ¬ tUnder T a (0 : Nat) := by
  rintro ⟨_, t, ht⟩
  cases t with
  | zero => have : ((0 : Nat) : Int) = a := ht; omega
  | succ t =>
    have ht' : tUp T t (tPar T 0) = a := ht
    rw [h.root_par] at ht'
    have := tUp_neg T (n := -1) (by omega) t
    omega
theorem TW.less {T : Tree} {made : Nat} (h : TW T made) {a : Nat} {q : Nat × List Nat} (hq : q ∈ T) (hm : a ∈ q.2) {x : Nat × List Nat} (hx : x ∈ T) (y : Nat) : y ∈ (if x.1 = q.1 then noneOf a x.2 else x.2) ↔ y ∈ x.2 ∧ y ≠ a := by
  split
  · exact mem_noneOf
  · rename_i hn
    refine ⟨fun hy => ⟨hy, fun e => ?_⟩, fun hy => hy.1⟩
    subst e
    exact hn (by rw [h.one x hx q hq y hy hm])
theorem mem_tRem {T : Tree} {a : Nat} {q : Nat × List Nat} (hp : tPar T a = q.1) {e : Nat × List Nat} : e ∈ tRem T a ↔ ∃ x ∈ T, ¬ tUnder T a x.1 ∧ e.1 = x.1 ∧ e.2 = if x.1 = q.1 then noneOf a x.2 else x.2 := by
  unfold tRem
  rw [hp, Int.toNat_natCast, mem_tSet]
  constructor
  · rintro ⟨x, hx, h1⟩
    rw [List.mem_filter] at hx
    refine ⟨x, hx.1, fun hu => ?_, h1⟩
    rw [tUnderB_iff.2 hu] at hx
    simp at hx
  · rintro ⟨x, hx, hu, h1⟩
    refine ⟨x, List.mem_filter.2 ⟨hx, ?_⟩, h1⟩
    cases hb : tUnderB T a x.1 with
    | false => rfl
    | true => exact absurd (tUnderB_iff.1 hb) hu
theorem TW.rem {T : Tree} {made a : Nat} {la : List Nat} (h : TW T made) (ha : (a, la) ∈ T) (h0 : a ≠ 0) : TW (tRem T a) made := by
  obtain ⟨q, hq, hm, hp⟩ := h.up ha h0
  have old := fun {x : Nat × List Nat} (hx : x ∈ T) (y : Nat) => h.less hq hm hx y
  have img : ∀ x ∈ T, ¬ tUnder T a x.1 → (x.1, if x.1 = q.1 then noneOf a x.2 else x.2) ∈ tRem T a := fun x hx hu => (mem_tRem hp).2 ⟨x, hx, hu, rfl, rfl⟩
  refine ⟨?_, ?_, ?_, ?_, ?_, ?_, ?_, ?_, ?_⟩
  · unfold tRem
    rw [tSet_nums]
    exact h.nums.sublist (List.filter_sublist.map _)
  · intro e he
    obtain ⟨x, hx, _, h1, _⟩ := (mem_tRem hp).1 he
    rw [h1]
    exact h.lt x hx
  · obtain ⟨l0, hl0⟩ := h.root
    exact ⟨_, img _ hl0 (h.root_not h0)⟩
  · intro e he hy
    obtain ⟨x, hx, _, _, h2⟩ := (mem_tRem hp).1 he
    rw [h2, old hx] at hy
    exact h.top x hx hy.1
  · intro e he y hy
    obtain ⟨x, hx, hu, _, h2⟩ := (mem_tRem hp).1 he
    rw [h2, old hx] at hy
    obtain ⟨l, hl⟩ := h.kin x hx y hy.1
    exact ⟨_, img _ hl (fun hx2 => ((h.under_kid hx hy.1 a).1 hx2).elim hy.2 hu)⟩
  · intro e he
    obtain ⟨x, hx, _, _, h2⟩ := (mem_tRem hp).1 he
    rw [h2]
    split
    · exact nodup_noneOf (h.kdup x hx)
    · exact h.kdup x hx
  · intro e he f hf y hy1 hy2
    obtain ⟨x, hx, _, a1, a2⟩ := (mem_tRem hp).1 he
    obtain ⟨z, hz, _, b1, b2⟩ := (mem_tRem hp).1 hf
    rw [a2, old hx] at hy1
    rw [b2, old hz] at hy2
    have := h.one x hx z hz y hy1.1 hy2.1
    subst this
    exact Prod.ext (a1.trans b1.symm) (a2.trans b2.symm)
  · intro e he hne
    obtain ⟨x, hx, hu, a1, _⟩ := (mem_tRem hp).1 he
    rw [a1] at hne ⊢
    obtain ⟨f, hf, hmf⟩ := h.par x hx hne
    refine ⟨_, img f hf (fun hx2 => hu ((h.under_kid hf hmf a).2 (Or.inr hx2))), (old hf _).2 ⟨hmf, fun e => hu ?_⟩⟩
    rw [e]
    exact under_self T a
  · obtain ⟨rk, hr⟩ := h.rank
    refine ⟨rk, fun e he y hy => ?_⟩
    obtain ⟨x, hx, _, a1, a2⟩ := (mem_tRem hp).1 he
    rw [a2, old hx] at hy
    rw [a1]
    exact hr x hx y hy.1
theorem mem_tMov {T : Tree} {a p k : Nat} {q : Nat × List Nat} (hp : tPar T a = q.1) {e : Nat × List Nat} :
    e ∈ tMov T a p k ↔ ∃ x ∈ T, e.1 = x.1 ∧ e.2 = if x.1 = p then insL (noneOf a (if x.1 = q.1 then noneOf a x.2 else x.2)) k a else if x.1 = q.1 then noneOf a x.2 else x.2 := by
  unfold tMov
  rw [hp, Int.toNat_natCast, mem_tSet]
  constructor
  · rintro ⟨x, hx, h1, h2⟩
    obtain ⟨y, hy, h3, h4⟩ := mem_tSet.1 hx
    refine ⟨y, hy, h1.trans h3, ?_⟩
    rw [h2, h3, h4]
  · rintro ⟨x, hx, h1, h2⟩
    exact ⟨(x.1, if x.1 = q.1 then noneOf a x.2 else x.2), mem_tSet.2 ⟨x, hx, rfl, rfl⟩, h1, h2⟩
theorem TW.mov {T : Tree} {made a p k : Nat} {la lp : List Nat} (h : TW T made) (ha : (a, la) ∈ T) (h0 : a ≠ 0) (hpp : (p, lp) ∈ T) (hnu : ¬ tUnder T a p) : TW (tMov T a p k) made := by
  obtain ⟨q, hq, hm, hp⟩ := h.up ha h0
  have old : ∀ x ∈ T, ∀ y, y ∈ (if x.1 = p then insL (noneOf a (if x.1 = q.1 then noneOf a x.2 else x.2)) k a else if x.1 = q.1 then noneOf a x.2 else x.2) ↔ (y = a ∧ x.1 = p) ∨ (y ∈ x.2 ∧ y ≠ a) := by
    intro x hx y
    have h1 := h.less hq hm hx y
    by_cases hxp : x.1 = p
    · rw [if_pos hxp, mem_insL, mem_noneOf, h1]
      exact ⟨fun h => h.imp (fun e => ⟨e, hxp⟩) (fun e => e.1), fun h => h.imp (fun e => e.1) (fun e => ⟨e, e.2⟩)⟩
    · rw [if_neg hxp, h1]
      exact ⟨Or.inr, fun h => h.elim (fun e => absurd e.2 hxp) id⟩
  have img : ∀ x ∈ T, (x.1, if x.1 = p then insL (noneOf a (if x.1 = q.1 then noneOf a x.2 else x.2)) k a else if x.1 = q.1 then noneOf a x.2 else x.2) ∈ tMov T a p k := fun x hx => (mem_tMov hp).2 ⟨x, hx, rfl, rfl⟩
  refine ⟨?_, ?_, ?_, ?_, ?_, ?_, ?_, ?_, ?_⟩
  · unfold tMov
    rw [tSet_nums, tSet_nums]
    exact h.nums
  · intro e he
    obtain ⟨x, hx, h1, _⟩ := (mem_tMov hp).1 he
    rw [h1]
    exact h.lt x hx
  · obtain ⟨l0, hl0⟩ := h.root
    exact ⟨_, img _ hl0⟩
  · intro e he hy
    obtain ⟨x, hx, _, h2⟩ := (mem_tMov hp).1 he
    rw [h2, old x hx] at hy
    rcases hy with hy | hy
    · exact h0 hy.1.symm
    · exact h.top x hx hy.1
  · intro e he y hy
    obtain ⟨x, hx, _, h2⟩ := (mem_tMov hp).1 he
    rw [h2, old x hx] at hy
    rcases hy with ⟨rfl, _⟩ | hy
    · exact ⟨_, img _ ha⟩
    · obtain ⟨l, hl⟩ := h.kin x hx y hy.1
      exact ⟨_, img _ hl⟩
  · intro e he
    obtain ⟨x, hx, _, h2⟩ := (mem_tMov hp).1 he
    have hd : (if x.1 = q.1 then noneOf a x.2 else x.2).Nodup := by
      split
      · exact nodup_noneOf (h.kdup x hx)
      · exact h.kdup x hx
    rw [h2]
    split
    · exact nodup_insL (nodup_noneOf hd) (fun hx2 => (mem_noneOf.1 hx2).2 rfl)
    · exact hd
  · intro e he f hf y hy1 hy2
    obtain ⟨x, hx, a1, a2⟩ := (mem_tMov hp).1 he
    obtain ⟨z, hz, b1, b2⟩ := (mem_tMov hp).1 hf
    have hxz : x = z := by
      rw [a2, old x hx] at hy1
      rw [b2, old z hz] at hy2
      rcases hy1 with ⟨c1, c2⟩ | ⟨c1, c2⟩ <;> rcases hy2 with ⟨d1, d2⟩ | ⟨d1, d2⟩
      · exact num_inj h.nums hx hz (c2.trans d2.symm)
      · exact absurd c1 d2
      · exact absurd d1 c2
      · exact h.one x hx z hz y c1 d1
    subst hxz
    exact Prod.ext (a1.trans b1.symm) (a2.trans b2.symm)
  · intro e he hne
    obtain ⟨x, hx, a1, _⟩ := (mem_tMov hp).1 he
    rw [a1] at hne ⊢
    by_cases hxa : x.1 = a
    · exact ⟨_, img _ hpp, (old _ hpp _).2 (Or.inl ⟨hxa, rfl⟩)⟩
    · obtain ⟨f, hf, hmf⟩ := h.par x hx hne
      exact ⟨_, img f hf, (old f hf _).2 (Or.inr ⟨hmf, hxa⟩)⟩
  · obtain ⟨rk, hr⟩ := h.rank
    refine ⟨fun n => if tUnderB T a n = true then rk n + (rk p + 1) else rk n, fun e he y hy => ?_⟩
    obtain ⟨x, hx, a1, a2⟩ := (mem_tMov hp).1 he
    rw [a2, old x hx] at hy
    rw [a1]
    show (if tUnderB T a x.1 = true then _ else _) < (if tUnderB T a y = true then _ else _)
    rcases hy with ⟨rfl, c2⟩ | ⟨c1, c2⟩
    · rw [c2, if_neg (fun hb => hnu (tUnderB_iff.1 hb)), if_pos (tUnderB_iff.2 (under_self T y))]
      omega
    · have hk := h.under_kid hx c1 a
      have hlt := hr x hx y c1
      by_cases hu : tUnder T a x.1
      · rw [if_pos (tUnderB_iff.2 hu), if_pos (tUnderB_iff.2 (hk.2 (Or.inr hu)))]
        omega
      · rw [if_neg (fun hb => hu (tUnderB_iff.1 hb)), if_neg (fun hb => (hk.1 (tUnderB_iff.1 hb)).elim c2 hu)]
        exact hlt
end Go.Proofs.YtblfffbmklkhmaaGreat

namespace Go.Proofs.YtblfffbmklkhmaaGreat
open Go.RowKit
theorem Fr.mono {w w' : World} {S S' : Nat → Prop} (h : Fr w w' S) (hs : ∀ k, S k → S' k) : Fr w w' S' := ⟨h.os, h.tape, h.output, h.size, fun k hk hn => h.block k hk (fun x => hn (hs k x))⟩
/-- With the blocks that have been made since. -/
def More (F : Nat → Prop) (w : World) (k : Nat) : Prop := F k ∨ w.heap.size ≤ k
def tInsErr (T : Tree) (par at' : Int) (kind : ByteArray) : Int :=
  match tFind T par with
  | none => 5
  | some l => if at' < 0 ∨ (l.length : Int) < at' then 8 else if isLetter kind = false then 4 else if 24 ≤ T.length then 9 else 0
/-- What an Insert answers, and what it leaves. -/
def TIns (T : Tree) (made : Nat) (par at' : Int) (kind : ByteArray) (y : Int) (T' : Tree) (made' : Nat) (n : Int) : Prop :=
  y = tInsErr T par at' kind ∧ ((y ≠ 0 ∧ n = 0 ∧ T' = T ∧ made' = made) ∨ (y = 0 ∧ n = made ∧ made' = made + 1 ∧ ∃ p k : Nat, par = p ∧ at' = k ∧ (∃ l, (p, l) ∈ T ∧ k ≤ l.length) ∧ T' = tIns T p k made))
end Go.Proofs.YtblfffbmklkhmaaGreat
