/- Own work. -/
import Derived.Test.YtblfffbmklkhmaaGreatAw7
import Derived.Deep.MidRow
import Derived.Deep.WholeRow
import Derived.Great.BuildSlice
namespace Go.Proofs.YtblfffbmklkhmaaGreat
open Go.RowKit
theorem tFind_some {T : Tree} {n : Int} {l : List Nat} (h : tFind T n = some l) : ∃ k : Nat, n = k ∧ (k, l) ∈ T := by
  unfold tFind at h
  cases hf : T.find? fun e => decide ((e.1 : Int) = n) with
  | none => rw [hf] at h; cases h
  | some e =>
    rw [hf] at h
    have h1 : (e.1 : Int) = n := by simpa using List.find?_some hf
    have h2 : e.2 = l := by simpa using h
    exact ⟨e.1, h1.symm, h2 ▸ List.mem_of_find?_eq_some hf⟩
open Classical in
noncomputable def tRemErr (T : Tree) (n : Int) : Int := match tFind T n with | none => 5 | some _ => if tPar T n < 0 then 6 else 0
def TRem (T : Tree) (n : Int) (y : Int) (T' : Tree) : Prop :=
  y = tRemErr T n ∧ ((y ≠ 0 ∧ T' = T) ∨ (y = 0 ∧ ∃ a : Nat, n = a ∧ a ≠ 0 ∧ (∃ l, (a, l) ∈ T) ∧ T' = tRem T a))
noncomputable def tMovErr (T : Tree) (n m at' : Int) : Int :=
  match tFind T n, tFind T m with
  | some _, some l => if tPar T n < 0 then 6 else if tUnderB T n m = true then 7 else if at' < 0 ∨ ((noneOf n l).length : Int) < at' then 8 else 0
  | _, _ => 5
def TMov (T : Tree) (n m at' : Int) (y : Int) (T' : Tree) : Prop :=
  y = tMovErr T n m at' ∧ ((y ≠ 0 ∧ T' = T) ∨ (y = 0 ∧ ∃ a p k : Nat, n = a ∧ m = p ∧ at' = k ∧ a ≠ 0 ∧ (∃ l, (a, l) ∈ T) ∧ (∃ l, (p, l) ∈ T ∧ k ≤ (noneOf a l).length) ∧ ¬ tUnder T a p ∧ T' = tMov T a p k))
theorem noneOf_twice (a : Int) (l : List Nat) : noneOf a (noneOf a l) = noneOf a l := by
  unfold noneOf
  rw [List.filter_filter]
  congr 1
  funext k
  simp
theorem tw_root : TW [(0, [])] 1 := by
  refine ⟨by simp, ?_, ⟨[], by simp⟩, ?_, ?_, ?_, ?_, ?_, ⟨fun _ => 0, ?_⟩⟩ <;> intro e he <;> (rw [List.mem_singleton] at he; subst he) <;> simp
end Go.Proofs.YtblfffbmklkhmaaGreat

namespace Go.Proofs.YtblfffbmklkhmaaGreat
/-- An element of the program's list: its number, its parent's, the other cells. -/
structure PEl where
  num : Nat
  par : Int
  rest : List Value
def kidsP (els : List PEl) (n : Int) : List Nat := (els.filter fun e => decide (e.par = n)).map PEl.num
theorem kidsP_append (A B : List PEl) (n : Int) : kidsP (A ++ B) n = kidsP A n ++ kidsP B n := by simp [kidsP]
theorem kidsP_one (x : PEl) (n : Int) : kidsP [x] n = if x.par = n then [x.num] else [] := by
  by_cases h : x.par = n <;> simp [kidsP, h]
theorem mem_kidsP {els : List PEl} {n : Int} {k : Nat} : k ∈ kidsP els n ↔ ∃ e ∈ els, e.par = n ∧ e.num = k := by
  unfold kidsP
  rw [List.mem_map]
  constructor
  · rintro ⟨e, he, h⟩
    rw [List.mem_filter] at he
    exact ⟨e, he.1, by simpa using he.2, h⟩
  · rintro ⟨e, he, h1, h2⟩
    exact ⟨e, List.mem_filter.2 ⟨he, by simpa using h1⟩, h2⟩
/-- The list stands for the tree. -/
structure PT (els : List PEl) (T : Tree) : Prop where
  nums : (els.map PEl.num).Nodup
  to' : ∀ e ∈ els, ∃ l, (e.num, l) ∈ T
  of' : ∀ n l, (n, l) ∈ T → ∃ e ∈ els, e.num = n
  kids : ∀ n l, (n, l) ∈ T → l = kidsP els n
  root : ∀ e ∈ els, e.num = 0 → e.par = -1
theorem pel_inj {els : List PEl} (h : (els.map PEl.num).Nodup) {e f : PEl} (he : e ∈ els) (hf : f ∈ els) (hn : e.num = f.num) : e = f := by
  induction els with
  | nil => cases he
  | cons x T ih =>
    rw [List.map_cons, List.nodup_cons] at h
    rcases List.mem_cons.1 he with he1 | he1 <;> rcases List.mem_cons.1 hf with hf1 | hf1
    · rw [he1, hf1]
    · rw [he1] at hn
      exact absurd (List.mem_map.2 ⟨f, hf1, hn.symm⟩) h.1
    · rw [hf1] at hn
      exact absurd (List.mem_map.2 ⟨e, he1, hn⟩) h.1
    · exact ih h.2 he1 hf1
section
variable {els : List PEl} {T : Tree} {made : Nat}
theorem PT.par (h : PT els T) (hw : TW T made) {e : PEl} (he : e ∈ els) : e.par = tPar T e.num := by
  by_cases h0 : e.num = 0
  · rw [h.root e he h0, h0]
    exact hw.root_par.symm
  · obtain ⟨l, hl⟩ := h.to' e he
    obtain ⟨q, hq, hm, hp⟩ := hw.up hl h0
    rw [hp]
    rw [h.kids q.1 q.2 hq, mem_kidsP] at hm
    obtain ⟨f, hf, h1, h2⟩ := hm
    rw [← pel_inj h.nums hf he h2]
    exact h1
theorem PT.len (h : PT els T) (hw : TW T made) : els.length = T.length := by
  have h1 := nodup_len h.nums (m := T.map Prod.fst) (fun k hk => by
    obtain ⟨e, he, rfl⟩ := List.mem_map.1 hk
    obtain ⟨l, hl⟩ := h.to' e he
    exact List.mem_map.2 ⟨_, hl, rfl⟩)
  have h2 := nodup_len hw.nums (m := els.map PEl.num) (fun k hk => by
    obtain ⟨x, hx, rfl⟩ := List.mem_map.1 hk
    obtain ⟨e, he, h3⟩ := h.of' x.1 x.2 hx
    exact List.mem_map.2 ⟨e, he, h3⟩)
  simp at h1 h2
  omega
/-- The element of a number. -/
def findP (els : List PEl) (n : Int) : Option PEl := els.find? fun e => decide ((e.num : Int) = n)
theorem findP_some {n : Int} {e : PEl} (h : findP els n = some e) : e ∈ els ∧ (e.num : Int) = n := ⟨List.mem_of_find?_eq_some h, by simpa using List.find?_some h⟩
theorem findP_none {n : Int} (h : findP els n = none) {e : PEl} (he : e ∈ els) : (e.num : Int) ≠ n := by
  unfold findP at h
  rw [List.find?_eq_none] at h
  simpa using h e he
theorem PT.find_none (h : PT els T) {n : Int} (hf : findP els n = none) : tFind T n = none := by
  cases ht : tFind T n with
  | none => rfl
  | some l =>
    obtain ⟨k, rfl, hk⟩ := tFind_some ht
    obtain ⟨e, he, h1⟩ := h.of' k l hk
    exact absurd (by rw [h1]) (findP_none hf he)
theorem tFind_mem {T : Tree} (hn : (T.map Prod.fst).Nodup) {k : Nat} {l : List Nat} (h : (k, l) ∈ T) : tFind T k = some l := by
  unfold tFind
  cases hf : T.find? fun e => decide ((e.1 : Int) = (k : Int)) with
  | none =>
    rw [List.find?_eq_none] at hf
    exact absurd (by simp) (hf _ h)
  | some e =>
    have h1 : (e.1 : Int) = (k : Int) := by simpa using List.find?_some hf
    have h2 := num_inj hn (List.mem_of_find?_eq_some hf) h (by show e.1 = k; omega)
    rw [h2]
    rfl
theorem PT.find_some (h : PT els T) (hw : TW T made) {n : Int} {e : PEl} (hf : findP els n = some e) : tFind T n = some (kidsP els n) ∧ (e.num, kidsP els n) ∈ T ∧ n = e.num := by
  obtain ⟨he, rfl⟩ := findP_some hf
  obtain ⟨l, hl⟩ := h.to' e he
  have := h.kids _ _ hl
  subst this
  exact ⟨tFind_mem hw.nums hl, hl, rfl⟩
/-- The number of the parent, as the program asks it. -/
def parP (els : List PEl) (n : Int) : Int := match findP els n with | none => -1 | some e => e.par
theorem PT.parP (h : PT els T) (hw : TW T made) (n : Int) : parP els n = tPar T n := by
  unfold Go.Proofs.YtblfffbmklkhmaaGreat.parP
  cases hf : findP els n with
  | some e =>
    obtain ⟨he, rfl⟩ := findP_some hf
    exact h.par hw he
  | none =>
    rcases tPar_cases T n with h1 | ⟨e, he, h1, _⟩
    · exact h1.1.symm
    · obtain ⟨k, hk, rfl⟩ := tHas_iff.1 h1
      obtain ⟨l, hl⟩ := hw.kin e he k hk
      obtain ⟨f, hf2, h2⟩ := h.of' k l hl
      exact absurd (by rw [h2]) (findP_none hf hf2)
/-- The way up is no longer than the list. -/
theorem TW.chain (hw : TW T made) {rk : Nat → Nat} (hr : ∀ e ∈ T, ∀ k ∈ e.2, rk e.1 < rk k) {a : Int} (ha : 0 ≤ a) : ∀ (k n : Nat), (∃ c, (n, c) ∈ T) → tUp T k n = a → ∃ l : List Nat, l.length = k + 1 ∧ l.Nodup ∧ (∀ x ∈ l, ∃ c, (x, c) ∈ T) ∧ ∀ x ∈ l, rk x ≤ rk n
  | 0, n, hn, _ => ⟨[n], rfl, by simp, fun x hx => by rw [List.mem_singleton] at hx; rw [hx]; exact hn, fun x hx => by rw [List.mem_singleton] at hx; rw [hx]; exact Nat.le_refl _⟩
  | k + 1, n, hn, h => by
    have h' : tUp T k (tPar T n) = a := h
    rcases tPar_cases T n with ⟨h1, _⟩ | ⟨e, he, h1, h2⟩
    · rw [h1] at h'
      have := tUp_neg T (n := -1) (by omega) k
      omega
    · rw [h2] at h'
      obtain ⟨l, hl, hd, hin, hle⟩ := TW.chain hw hr ha k e.1 ⟨e.2, he⟩ h'
      have hlt := hr e he n (tHas_nat.1 h1)
      refine ⟨n :: l, by simp [hl], List.nodup_cons.2 ⟨fun hx => by have := hle n hx; omega, hd⟩, fun x hx => ?_, fun x hx => ?_⟩
      · rcases List.mem_cons.1 hx with rfl | hx
        · exact hn
        · exact hin x hx
      · rcases List.mem_cons.1 hx with rfl | hx
        · exact Nat.le_refl _
        · have := hle x hx; omega
theorem TW.short (hw : TW T made) {a : Int} (ha : 0 ≤ a) {n : Nat} (hn : ∃ c, (n, c) ∈ T) : tUnder T a n ↔ ∃ k, k < T.length ∧ tUp T k n = a := by
  obtain ⟨rk, hr⟩ := hw.rank
  constructor
  · rintro ⟨_, k, hk⟩
    obtain ⟨l, hl, hd, hin, _⟩ := hw.chain hr ha k n hn hk
    have := nodup_len hd (m := T.map Prod.fst) (fun x hx => by
      obtain ⟨c, hc⟩ := hin x hx
      exact List.mem_map.2 ⟨_, hc, rfl⟩)
    simp at this
    exact ⟨k, by omega, hk⟩
  · rintro ⟨k, _, hk⟩
    exact ⟨ha, k, hk⟩
/-- Put in at a place. -/
def withP (els : List PEl) (place : Nat) (x : PEl) : List PEl := els.take place ++ [x] ++ els.drop place
theorem kids_with (place : Nat) (x : PEl) (n : Int) : kidsP (withP els place x) n = if x.par = n then insL (kidsP els n) (kidsP (els.take place) n).length x.num else kidsP els n := by
  unfold withP
  rw [kidsP_append, kidsP_append, kidsP_one]
  have hsp : kidsP els n = kidsP (els.take place) n ++ kidsP (els.drop place) n := by rw [← kidsP_append, List.take_append_drop]
  by_cases h : x.par = n
  · rw [if_pos h, if_pos h, hsp]
    unfold insL
    rw [List.take_left', List.drop_left'] <;> rfl
  · rw [if_neg h, if_neg h, hsp, List.append_nil]
theorem mem_withP {place : Nat} {x e : PEl} : e ∈ withP els place x ↔ e = x ∨ e ∈ els := by
  unfold withP
  rw [List.mem_append, List.mem_append, List.mem_singleton]
  constructor
  · rintro ((h | h) | h)
    · exact Or.inr (List.mem_of_mem_take h)
    · exact Or.inl h
    · exact Or.inr (List.mem_of_mem_drop h)
  · rintro (h | h)
    · exact Or.inl (Or.inr h)
    · rw [← List.take_append_drop place els, List.mem_append] at h
      exact h.elim (fun x => Or.inl (Or.inl x)) Or.inr
theorem nums_with (place : Nat) (x : PEl) (h : (els.map PEl.num).Nodup) (hx : ∀ e ∈ els, e.num ≠ x.num) : ((withP els place x).map PEl.num).Nodup := by
  have : (withP els place x).map PEl.num = insL (els.map PEl.num) place x.num := by
    unfold withP insL
    rw [List.map_append, List.map_append, List.map_take, List.map_drop]
    rfl
  rw [this]
  exact nodup_insL h (fun hm => by
    obtain ⟨e, he, h1⟩ := List.mem_map.1 hm
    exact hx e he h1)
theorem PT.ins (h : PT els T) (hw : TW T made) {p k place : Nat} (hp : ∃ l, (p, l) ∈ T) (rest : List Value) (hk : (kidsP (els.take place) p).length = k) : PT (withP els place ⟨made, p, rest⟩) (tIns T p k made) := by
  obtain ⟨l0, hl0⟩ := hw.root
  have h0 : 0 < made := hw.lt _ hl0
  have hlt : ∀ e ∈ els, e.num < made := fun e he => by
    obtain ⟨l, hl⟩ := h.to' e he
    exact hw.lt _ hl
  refine ⟨nums_with _ _ h.nums (fun e he => by have := hlt e he; show e.num ≠ made; omega), fun e he => ?_, fun n l hl => ?_, fun n l hl => ?_, fun e he h1 => ?_⟩
  · rcases mem_withP.1 he with rfl | he
    · exact ⟨[], mem_tIns.2 (Or.inr rfl)⟩
    · obtain ⟨l, hl⟩ := h.to' e he
      exact ⟨if e.num = p then insL l k made else l, mem_tIns.2 (Or.inl ⟨(e.num, l), hl, rfl, rfl⟩)⟩
  · rcases mem_tIns.1 hl with ⟨x, hx, h1, _⟩ | h1
    · obtain ⟨e, he, h2⟩ := h.of' x.1 x.2 hx
      exact ⟨e, mem_withP.2 (Or.inr he), h2.trans h1.symm⟩
    · injection h1 with h1 _
      exact ⟨_, mem_withP.2 (Or.inl rfl), h1.symm⟩
  · rw [kids_with]
    rcases mem_tIns.1 hl with ⟨x, hx, h1, h2⟩ | h1
    · have h1' : n = x.1 := h1
      have h2' : l = if x.1 = p then insL x.2 k made else x.2 := h2
      have hk2 := h.kids x.1 x.2 hx
      subst h1'
      rw [h2']
      by_cases hxp : x.1 = p
      · rw [if_pos hxp, if_pos (by show (p : Int) = _; rw [hxp]), ← hk2, hxp, hk]
      · rw [if_neg hxp, if_neg (by show ¬ (p : Int) = _; omega), ← hk2]
    · injection h1 with h1 h2
      subst h1 h2
      obtain ⟨lp, hlp⟩ := hp
      have hpm := hw.lt _ hlp
      rw [if_neg (by show ¬ (p : Int) = _; have : p < n := hpm; omega)]
      symm
      rw [List.eq_nil_iff_forall_not_mem]
      intro x hx
      rw [mem_kidsP] at hx
      obtain ⟨e, he, h1, _⟩ := hx
      rw [h.par hw he] at h1
      rcases tPar_cases T e.num with ⟨h2, _⟩ | ⟨f, hf, _, h2⟩
      · omega
      · have := hw.lt f hf; omega
  · rcases mem_withP.1 he with rfl | he
    · have : made = 0 := h1; omega
    · exact h.root e he h1
theorem kidsP_filter (p : PEl → Bool) (n : Int) : kidsP (els.filter p) n = (els.filter fun e => p e && decide (e.par = n)).map PEl.num := by
  unfold kidsP
  rw [List.filter_filter]
  congr 1
  refine List.filter_congr fun e _ => ?_
  rw [Bool.and_comm]
theorem noneOf_kids (a : Nat) (n : Int) : noneOf a (kidsP els n) = (els.filter fun e => decide (e.num ≠ a) && decide (e.par = n)).map PEl.num := by
  unfold noneOf kidsP
  rw [List.filter_map, List.filter_filter]
  congr 1
  refine List.filter_congr fun e _ => ?_
  show (decide (¬ ((e.num : Nat) : Int) = a) && _) = _
  congr 1
  by_cases h : e.num = a
  · simp [h]
  · simp [h]; omega
theorem PT.rem (h : PT els T) (hw : TW T made) {a : Nat} {la : List Nat} (ha : (a, la) ∈ T) (h0 : a ≠ 0) : PT (els.filter fun e => !tUnderB T a e.num) (tRem T a) := by
  obtain ⟨q, hq, hm, hp⟩ := hw.up ha h0
  have hu : ∀ (e : PEl), (!tUnderB T a e.num) = true ↔ ¬ tUnder T a e.num := fun e => by
    rw [← tUnderB_iff]
    cases tUnderB T a e.num <;> simp
  refine ⟨h.nums.sublist (List.filter_sublist.map _), fun e he => ?_, fun n l hl => ?_, fun n l hl => ?_, fun e he => h.root e (List.mem_filter.1 he).1⟩
  · rw [List.mem_filter, hu] at he
    obtain ⟨l, hl⟩ := h.to' e he.1
    exact ⟨if e.num = q.1 then noneOf a l else l, (mem_tRem hp).2 ⟨(e.num, l), hl, he.2, rfl, rfl⟩⟩
  · obtain ⟨x, hx, hxu, h1, _⟩ := (mem_tRem hp).1 hl
    obtain ⟨e, he, h2⟩ := h.of' x.1 x.2 hx
    refine ⟨e, List.mem_filter.2 ⟨he, (hu e).2 ?_⟩, h2.trans h1.symm⟩
    rw [h2]
    exact hxu
  · obtain ⟨x, hx, hxu, h1, h2⟩ := (mem_tRem hp).1 hl
    have h1' : n = x.1 := h1
    have h2' : l = if x.1 = q.1 then noneOf a x.2 else x.2 := h2
    subst h1'
    have hk2 := h.kids x.1 x.2 hx
    have key : ∀ e ∈ els, e.par = (x.1 : Int) → ((!tUnderB T a e.num) = true ↔ e.num ≠ a) := by
      intro e he hep
      rw [hu]
      have hme : e.num ∈ x.2 := by rw [hk2]; exact mem_kidsP.2 ⟨e, he, hep, rfl⟩
      rw [hw.under_kid hx hme a]
      exact ⟨fun h1 h2 => h1 (Or.inl h2), fun h1 h2 => h2.elim h1 hxu⟩
    have hfil : kidsP (els.filter fun e => !tUnderB T a e.num) x.1 = noneOf a (kidsP els x.1) := by
      rw [kidsP_filter, noneOf_kids]
      congr 1
      refine List.filter_congr fun e he => ?_
      by_cases hep : e.par = (x.1 : Int)
      · have := key e he hep
        by_cases hea : e.num = a
        · have h3 : (!tUnderB T a e.num) = false := by
            cases hb : (!tUnderB T a e.num) with
            | false => rfl
            | true => exact absurd hea (this.1 hb)
          rw [h3]
          simp [hea]
        · rw [this.2 hea]
          simp [hea]
      · simp [hep]
    rw [hfil, h2', ← hk2]
    split
    · rfl
    · rename_i hn
      symm
      unfold noneOf
      rw [List.filter_eq_self]
      intro y hy
      rw [decide_eq_true_eq]
      intro e
      have hya : y = a := by omega
      subst hya
      have := hw.one x hx q hq y hy hm
      rw [this] at hn
      exact hn rfl
/-- Taken out at a place. -/
theorem PT.without (h : PT els T) {place : Nat} {e : PEl} (he : els[place]? = some e) : els.eraseIdx place = els.filter fun x => decide (x.num ≠ e.num) := by
  have hlt : place < els.length := (List.getElem?_eq_some_iff.1 he).1
  have hpe : els[place] = e := (List.getElem?_eq_some_iff.1 he).2
  have hsp : els = els.take place ++ e :: els.drop (place + 1) := by
    rw [← hpe, ← List.drop_eq_getElem_cons hlt, List.take_append_drop]
  have hn := h.nums
  rw [List.eraseIdx_eq_take_drop_succ]
  conv => rhs; rw [hsp]
  rw [hsp] at hn
  rw [List.map_append, List.map_cons, List.nodup_append] at hn
  rw [List.filter_append, List.filter_cons]
  have h1 : (els.take place).filter (fun x => decide (x.num ≠ e.num)) = els.take place := by
    rw [List.filter_eq_self]
    intro x hx
    rw [decide_eq_true_eq]
    exact hn.2.2 x.num (List.mem_map.2 ⟨x, hx, rfl⟩) e.num (by simp)
  have h2 : (els.drop (place + 1)).filter (fun x => decide (x.num ≠ e.num)) = els.drop (place + 1) := by
    rw [List.filter_eq_self]
    intro x hx
    rw [decide_eq_true_eq]
    intro h3
    have h4 := hn.2.1
    rw [List.nodup_cons] at h4
    exact h4.1 (List.mem_map.2 ⟨x, hx, h3⟩)
  rw [h1, h2]
  simp
theorem kids_without (a : Nat) (n : Int) : kidsP (els.filter fun x => decide (x.num ≠ a)) n = noneOf a (kidsP els n) := by
  rw [kidsP_filter, noneOf_kids]
theorem PT.mov (h : PT els T) (hw : TW T made) {a p k place : Nat} {la : List Nat} (ha : (a, la) ∈ T) (h0 : a ≠ 0) (rest : List Value) (hk : (kidsP ((els.filter fun x => decide (x.num ≠ a)).take place) p).length = k) :
    PT (withP (els.filter fun x => decide (x.num ≠ a)) place ⟨a, p, rest⟩) (tMov T a p k) := by
  obtain ⟨q, hq, hm, hp⟩ := hw.up ha h0
  have hin : ∀ e : PEl, e ∈ (els.filter fun x => decide (x.num ≠ a)) ↔ e ∈ els ∧ e.num ≠ a := fun e => by rw [List.mem_filter, decide_eq_true_eq]
  refine ⟨nums_with _ _ (h.nums.sublist (List.filter_sublist.map _)) (fun e he => ((hin e).1 he).2), fun e he => ?_, fun n l hl => ?_, fun n l hl => ?_, fun e he h1 => ?_⟩
  · rcases mem_withP.1 he with rfl | he
    · exact ⟨if a = p then insL (noneOf a (if a = q.1 then noneOf a la else la)) k a else if a = q.1 then noneOf a la else la, (mem_tMov hp).2 ⟨(a, la), ha, rfl, rfl⟩⟩
    · obtain ⟨l, hl⟩ := h.to' e ((hin e).1 he).1
      exact ⟨if e.num = p then insL (noneOf a (if e.num = q.1 then noneOf a l else l)) k a else if e.num = q.1 then noneOf a l else l, (mem_tMov hp).2 ⟨(e.num, l), hl, rfl, rfl⟩⟩
  · obtain ⟨x, hx, h1, _⟩ := (mem_tMov hp).1 hl
    have h1' : n = x.1 := h1
    by_cases hxa : x.1 = a
    · exact ⟨_, mem_withP.2 (Or.inl rfl), by rw [h1', hxa]⟩
    · obtain ⟨e, he, h2⟩ := h.of' x.1 x.2 hx
      exact ⟨e, mem_withP.2 (Or.inr ((hin e).2 ⟨he, by omega⟩)), h2.trans h1'.symm⟩
  · obtain ⟨x, hx, h1, h2⟩ := (mem_tMov hp).1 hl
    have h1' : n = x.1 := h1
    subst h1'
    have hk2 := h.kids x.1 x.2 hx
    have hno : ∀ l', (if x.1 = q.1 then noneOf a x.2 else x.2) = l' → l' = noneOf a x.2 := by
      intro l' h3
      rw [← h3]
      split
      · rfl
      · rename_i hn
        symm
        unfold noneOf
        rw [List.filter_eq_self]
        intro y hy
        rw [decide_eq_true_eq]
        intro e
        have hya : y = a := by omega
        subst hya
        have := hw.one x hx q hq y hy hm
        rw [this] at hn
        exact hn rfl
    have hno2 := hno _ rfl
    have h2' : l = if x.1 = p then insL (noneOf a (if x.1 = q.1 then noneOf a x.2 else x.2)) k a else if x.1 = q.1 then noneOf a x.2 else x.2 := h2
    rw [hno2] at h2'
    rw [kids_with, kids_without, ← hk2, h2', noneOf_twice]
    by_cases hxp : x.1 = p
    · rw [if_pos hxp, if_pos (by show (p : Int) = _; rw [hxp]), hxp, hk]
    · rw [if_neg hxp, if_neg (by show ¬ (p : Int) = _; omega)]
  · rcases mem_withP.1 he with rfl | he
    · exact absurd h1 h0
    · exact h.root e ((hin e).1 he).1 h1
end
end Go.Proofs.YtblfffbmklkhmaaGreat

namespace Go.Proofs.YtblfffbmklkhmaaGreat
open Go.RowKit
section
variable {P : Program} {ops : Array Oper} {rest : List Oper} {o : Oper} {a : Act} {w : World} {Q : Exit → Act → World → Prop}
theorem wpList_store_new (hgd : o.guard = none) (ty : TypeId) (x y : Operand) (ho : o.op = .store ty x y) (c c' : Array Value) (t : TypeId) (hx : a.eval x = .pointer (some ⟨w.heap.size, 0, none⟩)) (hy : a.eval y = .agg c')
    (hi : (P.info? ty).map (·.size) = some c'.size) (hs : c.size = c'.size) (h1 : c'.all (·.oneCell') = true) (h : wpList P ops Q rest (a.put o.dst undef) (w.alloc (.cells c' t))) : wpList P ops Q (o :: rest) a (w.alloc (.cells c t)) := by
  refine wpList_store_row hgd ty x y ho w.heap.size c' hx hy t c (heap_alloc_last w _) hi hs h1 ?_
  rw [World.setRow_alloc_new]
  exact h
theorem fill_one {s : Nat} (hs : 0 < s) (c z : Array Value) (h1 : c.size = s) (h2 : z.size = s) : Instr.fill (fun i => some (i * s, s)) z [(0, .agg c)] = some c := by
  have h := Great.fill_whole hs [Value.agg c] z (fun v hv => by rw [List.mem_singleton] at hv; rw [hv]; exact h1) (by simp [h2])
  have e1 : (([Value.agg c].zipIdx 0).map fun x => (x.2, x.1)) = [(0, Value.agg c)] := rfl
  rw [e1] at h
  rw [h]
  simp [Value.cells]
theorem wpList_buildOne (hg : o.guard = none) (t e : TypeId) (x : Operand) (ho : o.op = .buildSlice t 1 #[(0, x)]) (c : Array Value) (hx : a.eval x = .agg c) (ie : TypeInfo) (z : Value)
    (hu : P.underlying t = some (.slice e)) (hie : P.info? e = some ie) (hz : ie.zero = some z) (hs : ie.size = c.size) (hpos : 0 < c.size) (hsm : c.size ≤ 1000)
    (h : wpList P ops Q rest (a.put o.dst (.slice (some ⟨w.heap.size, 0, none⟩) 1 1)) (w.alloc (.cells c e))) : wpList P ops Q (o :: rest) a w := by
  refine wpList_buildSlice hg t e 1 _ ho c ie z hu hie hz (by omega) (by omega) ?_ h
  rw [hs]
  have e1 : (#[((0 : Nat), x)].map fun (p : Nat × Operand) => (p.1, a.eval p.2)).toList = [(0, Value.agg c)] := by simp [hx]
  show Instr.fill _ _ (#[((0 : Nat), x)].map fun (p : Nat × Operand) => (p.1, a.eval p.2)).toList = some c
  rw [e1]
  exact fill_one hpos c _ rfl (by simp)
end
def PEl.cells (e : PEl) : List Value := .int .i64 e.num :: .int .i64 e.par :: e.rest
def PEl.ok (e : PEl) : Prop := e.rest.length = 29 ∧ ∀ v ∈ e.rest, v.oneCell' = true
theorem PEl.ok.len {e : PEl} (h : e.ok) : e.cells.length = 31 := by
  unfold PEl.cells
  rw [List.length_cons, List.length_cons, h.1]
theorem PEl.ok.one {e : PEl} (h : e.ok) : ∀ v ∈ e.cells, v.oneCell' = true := by
  intro v hv
  unfold PEl.cells at hv
  rcases List.mem_cons.1 hv with rfl | hv
  · rfl
  rcases List.mem_cons.1 hv with rfl | hv
  · rfl
  · exact h.2 v hv
def flatP (els : List PEl) : List Value := els.flatMap PEl.cells
theorem flat_len {els : List PEl} (h : ∀ e ∈ els, e.ok) : (flatP els).length = els.length * 31 := by
  induction els with
  | nil => rfl
  | cons x l ih =>
    have h1 := (h x List.mem_cons_self).len
    have h2 := ih (fun e he => h e (List.mem_cons_of_mem _ he))
    unfold flatP at h2 ⊢
    rw [List.flatMap_cons, List.length_append, h1, h2, List.length_cons]
    omega
theorem flat_at {els : List PEl} (h : ∀ e ∈ els, e.ok) {i j : Nat} (hi : i < els.length) (hj : j < 31) : (flatP els)[i * 31 + j]? = els[i].cells[j]? := by
  induction els generalizing i with
  | nil => simp at hi
  | cons x l ih =>
    have h1 := (h x List.mem_cons_self).len
    unfold flatP
    rw [List.flatMap_cons]
    cases i with
    | zero =>
      rw [List.getElem?_append_left (by omega)]
      simp
    | succ i =>
      rw [List.getElem?_append_right (by omega), h1, show (i + 1) * 31 + j - 31 = i * 31 + j from by omega]
      have := ih (fun e he => h e (List.mem_cons_of_mem _ he)) (i := i) (by simpa using hi)
      unfold flatP at this
      rw [this]
      simp
/-- The list of elements in memory. -/
structure PL (w : World) (v : Value) (els : List PEl) : Prop where
  row : w.ownsRow 0 134 31 v els.length (flatP els)
  ok : ∀ e ∈ els, e.ok
theorem PL.shape {w : World} {v : Value} {els : List PEl} (h : PL w v els) : ∃ a c, v = .slice a els.length c := own_shape h.row
theorem PL.at' {w : World} {a : Option Addr} {c : Nat} {els : List PEl} (h : PL w (.slice a els.length c) els) {i : Nat} (hi : i < els.length) :
    ∃ g, a = some ⟨g, 0, none⟩ ∧ g < w.heap.size ∧ w.rangeAt g (i * 31) els[i].cells := by
  obtain ⟨g, hg, hgl, hc⟩ := own_cells h.row (by omega)
  refine ⟨g, hg, hgl, fun j v hv => hc _ _ ?_⟩
  have hl := (h.ok els[i] (List.getElem_mem hi)).len
  have hj : j < 31 := by
    have := (List.getElem?_eq_some_iff.1 hv).1
    omega
  rw [flat_at h.ok hi hj]
  exact hv
theorem range_below {w wr : World} {base : Nat} (hB : Below base w wr) {g o : Nat} (hg : g < base) {cs : List Value} (h : w.rangeAt g o cs) : wr.rangeAt g o cs :=
  fun j v hv => (hB.cell (p := ⟨g, o + j, none⟩) hg).trans (h j v hv)
theorem Tryz.size134 : (Tryz.prog.info? 134).map (·.size) = some 31 := by kernel_rfl
/-- One element's cells at a place. -/
structure ElAt (w : World) (g o : Nat) (cs : List Value) (num : Nat) (par : Int) : Prop where
  rng : w.rangeAt g o cs
  len : cs.length = 31
  one : ∀ v ∈ cs, v.oneCell' = true
  c0 : cs[0]? = some (.int .i64 num)
  c1 : cs[1]? = some (.int .i64 par)
theorem ElAt.size {w : World} {g o : Nat} {cs : List Value} {num : Nat} {par : Int} (h : ElAt w g o cs num par) : (Tryz.prog.info? 134).map (·.size) = some cs.length := by rw [h.len]; exact Tryz.size134
theorem ElAt.size' {w : World} {g o : Nat} {cs : List Value} {num : Nat} {par : Int} (h : ElAt w g o cs num par) : (Tryz.prog.info? 134).map (·.size) = some cs.toArray.size := by rw [List.size_toArray]; exact h.size
theorem ElAt.same {w : World} {g o : Nat} {cs : List Value} {num : Nat} {par : Int} (h : ElAt w g o cs num par) : 31 = cs.toArray.size := by rw [List.size_toArray, h.len]
theorem ElAt.all {w : World} {g o : Nat} {cs : List Value} {num : Nat} {par : Int} (h : ElAt w g o cs num par) : cs.toArray.all (·.oneCell') = true := all_oneCell_toArray h.one
def PFindPost (w : World) (els : List PEl) (n : Int) (e : Ending) (w' : World) : Prop :=
  Below w.heap.size w w' ∧ ((findP els n = none ∧ e = .returned (.tuple #[.int .i64 0, .bool false])) ∨ ∃ (i : Nat) (x : PEl), els[i]? = some x ∧ findP els n = some x ∧ e = .returned (.tuple #[.int .i64 i, .bool true]))
theorem findP_at {els : List PEl} {n : Int} {i : Nat} (hi : i < els.length) (hno : ∀ j (hj : j < els.length), j < i → ((els[j].num : Int) = n) → False) (h : (els[i].num : Int) = n) : findP els n = some els[i] := by
  unfold findP
  rw [List.find?_eq_some_iff_getElem]
  refine ⟨by simpa using h, i, hi, rfl, fun j hj => ?_⟩
  have := hno j (by omega) hj
  simpa using this
theorem findP_no {els : List PEl} {n : Int} (hno : ∀ j (hj : j < els.length), ((els[j].num : Int) = n) → False) : findP els n = none := by
  unfold findP
  rw [List.find?_eq_none]
  intro e he
  obtain ⟨j, hj, rfl⟩ := List.getElem_of_mem he
  simpa using hno j hj
set_option maxRecDepth 100000 in
set_option maxHeartbeats 2000000 in
theorem pfind_any (w : World) (b : Nat) (v : Value) (els : List PEl) (n : Int) (hb : w.cell? ⟨b, 1, none⟩ = some v) (h : PL w v els) (hfew : els.length ≤ 24) :
    Calls Tryz.prog 72 #[.pointer (some ⟨b, 1, none⟩), .int .i64 n] w fun e w' => PFindPost w els n e w' := by
  obtain ⟨a, c, hv⟩ := h.shape
  subst hv
  have HP : Hid (PL w (.slice a els.length c) els) := h
  clear h
  go_enter Tryz.func72, Tryz.ntmps72
  go_wp2_with fail
  go_loopg [13] els.length (fun gk iv wr => ∃ i : Nat, iv = .int .i64 i ∧ i ≤ els.length ∧ els.length - i ≤ gk ∧ Hid (Below w.heap.size w wr ∧ ∀ j (hj : j < els.length), j < i → ((els[j].num : Int) = n) → False))
  case atStart => exact ⟨0, rfl, Nat.zero_le _, by omega, Below.refl _ _, fun j hj h => by omega⟩
  case round =>
    obtain ⟨i, rfl, hi, hgk, HN⟩ := hrel
    by_cases hlt : i < els.length
    · have hd : decide ((i : Int) < (els.length : Int)) = true := by simp; omega
      obtain ⟨g, hg, hgl, hr⟩ := HP.out.at' hlt
      subst hg
      obtain ⟨x, hx⟩ : ∃ x, els[i] = x := ⟨_, rfl⟩
      have HX : Hid (els[i]? = some x) := by unfold Hid; rw [List.getElem?_eq_getElem hlt, hx]
      have hxo : x.ok := hx ▸ HP.out.ok _ (List.getElem_mem hlt)
      have HF : Hid ((x.num : Int) = n → findP els n = some x) := fun h => by rw [← hx] at h ⊢; exact findP_at hlt HN.out.2 h
      have HNX : Hid (¬ (x.num : Int) = n → ∀ j (hj : j < els.length), j < i + 1 → ((els[j].num : Int) = n) → False) := fun hm j hj h1 h2 => by
        by_cases e : j = i
        · subst e
          rw [hx] at h2
          exact hm h2
        · exact HN.out.2 j hj (by omega) h2
      have HE : Hid (ElAt wr g (i * 31) x.cells x.num x.par) := by rw [← hx]; exact ⟨range_below HN.out.1 hgl hr, (HP.out.ok _ (List.getElem_mem hlt)).len, (HP.out.ok _ (List.getElem_mem hlt)).one, rfl, rfl⟩
      clear hx hr hxo
      generalize x.cells = cs at HE
      have c0 : cs[0]? = some (.int .i64 x.num) := HE.out.c0
      have HB2 : Hid (Below w.heap.size w (wr.alloc (.cells cs.toArray 134))) := HN.out.1.alloc HN.out.1.size _
      by_cases hn : (x.num : Int) = n
      · have gn : ((x.num : Int) == n) = true := by simp [hn]
        have HF2 : Hid (findP els n = some x) := HF.out hn
        clear hn
        go_wp2_with (first | (refine wpList_load_mid rfl 134 _ rfl g (i * 31) rfl cs _ HE.out.rng Tryz.underlying134 rfl HE.out.size ?_) | (refine wpList_store_new rfl 134 _ _ rfl _ cs.toArray 134 rfl rfl HE.out.size' HE.out.same HE.out.all ?_))
        go_ret2
        exact ⟨HB2.out, Or.inr ⟨i, x, HX.out, HF2.out, rfl⟩⟩
      · have gn : ((x.num : Int) == n) = false := by simp [hn]
        have HN2 := HNX.out hn
        have HN3 : Hid (Below w.heap.size w (wr.alloc (.cells cs.toArray 134)) ∧ ∀ j (hj : j < els.length), j < i + 1 → ((els[j].num : Int) = n) → False) := ⟨HB2.out, HN2⟩
        clear hn HN2
        go_wp2_with (first | (refine wpList_load_mid rfl 134 _ rfl g (i * 31) rfl cs _ HE.out.rng Tryz.underlying134 rfl HE.out.size ?_) | (refine wpList_store_new rfl 134 _ _ rfl _ cs.toArray 134 rfl rfl HE.out.size' HE.out.same HE.out.all ?_))
        go_roundg (els.length - (i + 1))
        case measure => omega
        case rel => exact ⟨i + 1, by go_num, by omega, Nat.le_refl _, HN3⟩
    · have hd : decide ((i : Int) < (els.length : Int)) = false := by simp; omega
      have HE2 : Hid (findP els n = none) := findP_no (fun j hj h => HN.out.2 j hj (by omega) h)
      go_wp2
      go_ret2
      exact ⟨HN.out.1, Or.inl ⟨HE2.out, rfl⟩⟩
end Go.Proofs.YtblfffbmklkhmaaGreat
