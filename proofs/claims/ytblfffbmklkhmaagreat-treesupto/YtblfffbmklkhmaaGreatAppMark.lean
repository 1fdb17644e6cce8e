/- An append of one value, again and again: what read so still reads so. Own work. -/
import Derived.Test.YtblfffbmklkhmaaGreatAppMine
namespace Go.Proofs.YtblfffbmklkhmaaGreat
open Go.RowKit

/-- What reads u still reads u. -/
def Stays (u : Value) (w w' : World) : Prop := ∀ p, w.cell? p = some u → w'.cell? p = some u
theorem Stays.trans {u : Value} {a b c : World} (h : Stays u a b) (k : Stays u b c) : Stays u a c := fun p hp => k p (h p hp)
theorem stays_blocks {u : Value} {w w' : World} (h : ∀ k, k < w.heap.size → w'.heap[k]? = w.heap[k]?) : Stays u w w' := by
  intro p hp
  have hlt : p.block < w.heap.size := by
    unfold World.cell? at hp
    cases hb : w.heap[p.block]? with
    | none => rw [hb] at hp; simp at hp
    | some o => exact (Array.getElem?_eq_some_iff.1 hb).1
  unfold World.cell? at hp ⊢
  rw [h _ hlt]
  exact hp

theorem run_append_marks {P : Program} (w : World) (base : Nat) (t ty e : TypeId) (i : TypeInfo) (z : Value) (bytes : Nat) (ht : P.underlying t = some (.slice e)) (hi : P.info? e = some i) (hz : i.zero = some z)
    (hsize : i.size = 1) (hby : i.bytes = bytes) (hzs : z.cells.size = 1) (v : Value) (n : Nat) (xs : List Value) (hown : w.ownsRow base e 1 v n xs)
    (a : Addr) (m c : Nat) (u : Value) (hnews : ∀ j, j < m → w.cell? (a.add j) = some u) (h1 : u.oneCell' = true)
    (h63 : n + m ≤ maxLen) (hbytes : (n + m) * bytes ≤ 140737488355328) (hbase : base ≤ w.heap.size) :
    ∃ v' w', (Builtin.append_ #[t, t] ty #[v, .slice (some a) m c]).run P w = .ok v' w' ∧ w'.ownsRow base e 1 v' (n + m) (xs ++ List.replicate m u) ∧ w.grownBy w' v.ownBlock ∧ (∀ j, v'.ownBlock = some j → v.ownBlock = some j ∨ w.heap.size ≤ j) ∧ w'.ownsRow base e 1 v n xs ∧ Stays u w w' := by
  have hl : (List.replicate m u).length = m * 1 := by simp
  have hnews' : ∀ j x, (List.replicate m u)[j]? = some x → w.cell? (a.add j) = some x := fun j x hx => by
    obtain ⟨hj, rfl⟩ := List.getElem?_eq_some_iff.1 hx
    simp only [List.getElem_replicate]
    exact hnews j (by simpa using hj)
  have h1' : ∀ x ∈ List.replicate m u, x.oneCell' = true := fun x hx => by rw [(List.mem_replicate.1 hx).2]; exact h1
  obtain ⟨v', w', hr, h2, h3, h4⟩ := run_append_kept (P := P) w base t ty e i z 1 bytes ht hi hz hsize hby hzs (by decide) v n xs hown a m c (List.replicate m u) hl hnews' h1' h63 hbytes hbase
  refine ⟨v', w', hr, h2, h3, h4, ?_⟩
  rcases hown.2 with ⟨rfl, rfl⟩ | ⟨g, cap, cur, rfl, hbg, hg, hnc, hcm, hcs, htake⟩
  · have hx : xs = [] := List.eq_nil_of_length_eq_zero (by simpa using hown.1)
    subst hx
    exact ⟨World.ownsRow_nil _ _ _ _, stays_blocks fun k hk => h3.block k hk (by simp [Value.ownBlock])⟩
  · by_cases hroom : n + m ≤ cap
    · rw [Nat.mul_one] at hcs htake
      have hfit : n * i.size + (List.replicate m u).length ≤ cur.size := by rw [hsize]; simp; omega
      have hr2 := run_append_room (P := P) w t ty e i ht hi g n cap cur hg a m c (List.replicate m u) (by rw [hsize]; exact hl) hnews' h1' hroom hfit
      rw [hr, hsize, Nat.mul_one] at hr2
      injection hr2 with e1 e2
      subst e1 e2
      have hn : g < w.heap.size := (Array.getElem?_eq_some_iff.1 hg).1
      have hcl : cur.toList.length = cap := by simpa using hcs
      have hblk : (w.setRow g (cur.toList.take n ++ List.replicate m u ++ cur.toList.drop (n + (List.replicate m u).length)).toArray).heap[g]? = some (.cells (cur.toList.take n ++ List.replicate m u ++ cur.toList.drop (n + (List.replicate m u).length)).toArray e (0, 0)) := by
        simp [World.setRow, Array.getElem?_modify, hg]
      refine ⟨⟨hown.1, Or.inr ⟨g, cap, _, rfl, hbg, hblk, hnc, hcm, ?_, ?_⟩⟩, ?_⟩
      · simp only [List.size_toArray, List.length_append, List.length_take, List.length_replicate, List.length_drop, hcl, Nat.mul_one]
        omega
      · rw [Nat.mul_one, ← htake]
        simp only [List.append_assoc]
        rw [List.take_append_of_le_length (by simp only [List.length_take, hcl]; omega), List.take_take, Nat.min_self]
      · intro p hp
        by_cases hpg : p.block = g
        · unfold World.cell? at hp ⊢
          rw [hpg] at hp ⊢
          rw [hg] at hp
          rw [hblk]
          simp only at hp ⊢
          split at hp
          · cases hp
          · rename_i hsp
            rw [if_neg hsp]
            obtain ⟨ho, hou⟩ := Array.getElem?_eq_some_iff.1 hp
            rw [List.getElem?_toArray]
            by_cases h5 : p.off < n
            · rw [List.append_assoc, List.getElem?_append_left (by simp only [List.length_take, hcl]; omega), List.getElem?_take_of_lt h5]
              simpa using hp
            · by_cases h6 : p.off < n + m
              · rw [List.append_assoc, List.getElem?_append_right (by simp only [List.length_take, hcl]; omega)]
                rw [List.getElem?_append_left (by simp only [List.length_take, hcl, List.length_replicate]; omega), List.getElem?_replicate, if_pos (by simp only [List.length_take, hcl]; omega)]
              · rw [List.getElem?_append_right (by simp only [List.length_append, List.length_take, List.length_replicate, hcl]; omega), List.getElem?_drop]
                have : n + (List.replicate m u).length + (p.off - (List.take n cur.toList ++ List.replicate m u).length) = p.off := by
                  simp only [List.length_append, List.length_take, List.length_replicate, hcl]
                  omega
                rw [this]
                simpa using hp
        · have hb : (w.setRow g (cur.toList.take n ++ List.replicate m u ++ cur.toList.drop (n + (List.replicate m u).length)).toArray).heap[p.block]? = w.heap[p.block]? := by
            simp only [World.setRow, Array.getElem?_modify]
            rw [if_neg (fun h => hpg h.symm)]
          unfold World.cell? at hp ⊢
          rw [hb]
          exact hp
    · have holds : ∀ j x, xs[j]? = some x → w.cell? ((⟨g, 0, none⟩ : Addr).add j) = some x := hown.cells (g := g) rfl
      have h63' : ((n + m : Nat) : Int) ≤ 9223372036854775807 := by unfold maxLen at h63; omega
      subst hby
      have hr2 := run_append_grow (P := P) w t ty e i z ht hi hz ⟨g, 0, none⟩ n cap xs (by rw [hsize]; exact hown.1) holds a m c (List.replicate m u) (by rw [hsize]; exact hl) hnews' (by omega) h63' (growslice_fits (by omega) hbytes)
      rw [hr] at hr2
      injection hr2 with _ e2
      subst e2
      have hbk : ∀ (o : Obj) k, k < w.heap.size → (w.drew.alloc o).heap[k]? = w.heap[k]? := fun o k hk => Below.heap_alloc w.drew o k hk
      exact ⟨⟨hown.1, Or.inr ⟨g, cap, cur, rfl, hbg, (hbk _ g (Array.getElem?_eq_some_iff.1 hg).1).trans hg, hnc, hcm, hcs, htake⟩⟩, stays_blocks (hbk _)⟩

theorem wpList_append_marks {P : Program} (w : World) {ops : Array Oper} {rest : List Oper} {o : Oper} {a : Act} {Q : Exit → Act → World → Prop} (hgd : o.guard = none) (s x : Operand) (t : TypeId)
    (ho : o.op = .call { callee := .builtin .append, args := #[s, x], argTypes := #[t, t] })
    (base : Nat) (e : TypeId) (i : TypeInfo) (z : Value) (bytes : Nat) (ht : P.underlying t = some (.slice e)) (hi : P.info? e = some i) (hz : i.zero = some z)
    (hsize : i.size = 1) (hby : i.bytes = bytes) (hzs : z.cells.size = 1)
    (v : Value) (n : Nat) (xs : List Value) (hs : a.eval s = v) (hown : w.ownsRow base e 1 v n xs)
    (ad : Addr) (m c : Nat) (u : Value) (hx : a.eval x = .slice (some ad) m c) (hnews : ∀ j, j < m → w.cell? (ad.add j) = some u) (h1 : u.oneCell' = true)
    (h63 : n + m ≤ maxLen) (hbytes : (n + m) * bytes ≤ 140737488355328) (hbase : base ≤ w.heap.size)
    (h : ∀ v' w', w'.ownsRow base e 1 v' (n + m) (xs ++ List.replicate m u) → w.grownBy w' v.ownBlock → Hid (∀ j, v'.ownBlock = some j → v.ownBlock = some j ∨ w.heap.size ≤ j) → w'.ownsRow base e 1 v n xs → Hid (Stays u w w') → wpList P ops Q rest (a.put o.dst v') w') : wpList P ops Q (o :: rest) a w := by
  refine wpList_plain hgd fun K hK => ?_
  obtain ⟨v', w', hrun, r1, r2, r3, r4, r5⟩ := run_append_marks (P := P) w base t o.type e i z bytes ht hi hz hsize hby hzs v n xs hown ad m c u hnews h1 h63 hbytes hbase
  unfold Oper.wp
  simp only [execOp, ho, resolve, invoke, builtin, Sem.run_bind, Sem.run_pure, Result.andThen_ok, List.map_toArray, List.map_cons, List.map_nil, hs, hx, hrun]
  exact hK _ _ (h v' w' r1 r2 r3 r4 r5)

end Go.Proofs.YtblfffbmklkhmaaGreat
