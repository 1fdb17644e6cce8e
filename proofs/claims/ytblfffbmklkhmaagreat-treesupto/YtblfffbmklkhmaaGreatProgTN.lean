/- Own work. -/
import Derived.Test.YtblfffbmklkhmaaGreatTreeAE
import Derived.Deep.MidRow
import Derived.Deep.WholeRow
import Derived.Great.BuildSlice
import Derived.Test.YtblfffbmklkhmaaGreatWeigh
namespace Go.Proofs.YtblfffbmklkhmaaGreat

/-- An element of the program's list: its number, its parent's, the other cells. -/
structure PEl where
  num : Nat
  par : Int
  rest : List Value

def kidsP (els : List PEl) (n : Int) : List Nat := (els.filter fun e => decide (e.par = n)).map PEl.num
theorem kidsP_append (A B : List PEl) (n : Int) : kidsP (A ++ B) n = kidsP A n ++ kidsP B n := by simp [kidsP]
theorem kidsP_one (x : PEl) (n : Int) : kidsP [x] n = if x.par = n then [x.num] else [] := by
  by_cases h : x.par = n <;> simp [kidsP, h]
theorem mem_kidsP {els : List PEl} {n : Int} {k : Nat} : k ∈ kidsP els n ↔ ∃ e ∈ els, e.par = n ∧ e.num = k := by
  unfold kidsP
  rw [List.mem_map]
  constructor
  · rintro ⟨e, he, h⟩
    rw [List.mem_filter] at he
    exact ⟨e, he.1, by simpa using he.2, h⟩
  · rintro ⟨e, he, h1, h2⟩
    exact ⟨e, List.mem_filter.2 ⟨he, by simpa using h1⟩, h2⟩

/-- The list stands for the tree. -/
structure PT (els : List PEl) (T : Tree) : Prop where
  nums : (els.map PEl.num).Nodup
  to' : ∀ e ∈ els, ∃ l, (e.num, l) ∈ T
  of' : ∀ n l, (n, l) ∈ T → ∃ e ∈ els, e.num = n
  kids : ∀ n l, (n, l) ∈ T → l = kidsP els n
  root : ∀ e ∈ els, e.num = 0 → e.par = -1

theorem pel_inj {els : List PEl} (h : (els.map PEl.num).Nodup) {e f : PEl} (he : e ∈ els) (hf : f ∈ els) (hn : e.num = f.num) : e = f := by
  induction els with
  | nil => cases he
  | cons x T ih =>
    rw [List.map_cons, List.nodup_cons] at h
    rcases List.mem_cons.1 he with he1 | he1 <;> rcases List.mem_cons.1 hf with hf1 | hf1
    · rw [he1, hf1]
    · rw [he1] at hn
      exact absurd (List.mem_map.2 ⟨f, hf1, hn.symm⟩) h.1
    · rw [hf1] at hn
      exact absurd (List.mem_map.2 ⟨e, he1, hn⟩) h.1
    · exact ih h.2 he1 hf1

section
variable {els : List PEl} {T : Tree} {made : Nat}

theorem PT.par (h : PT els T) (hw : TW T made) {e : PEl} (he : e ∈ els) : e.par = tPar T e.num := by
  by_cases h0 : e.num = 0
  · rw [h.root e he h0, h0]
    exact hw.root_par.symm
  · obtain ⟨l, hl⟩ := h.to' e he
    obtain ⟨q, hq, hm, hp⟩ := hw.up hl h0
    rw [hp]
    rw [h.kids q.1 q.2 hq, mem_kidsP] at hm
    obtain ⟨f, hf, h1, h2⟩ := hm
    rw [← pel_inj h.nums hf he h2]
    exact h1
theorem PT.len (h : PT els T) (hw : TW T made) : els.length = T.length := by
  have h1 := nodup_len h.nums (m := T.map Prod.fst) (fun k hk => by
    obtain ⟨e, he, rfl⟩ := List.mem_map.1 hk
    obtain ⟨l, hl⟩ := h.to' e he
    exact List.mem_map.2 ⟨_, hl, rfl⟩)
  have h2 := nodup_len hw.nums (m := els.map PEl.num) (fun k hk => by
    obtain ⟨x, hx, rfl⟩ := List.mem_map.1 hk
    obtain ⟨e, he, h3⟩ := h.of' x.1 x.2 hx
    exact List.mem_map.2 ⟨e, he, h3⟩)
  simp at h1 h2
  omega

/-- The element of a number. -/
def findP (els : List PEl) (n : Int) : Option PEl := els.find? fun e => decide ((e.num : Int) = n)
theorem findP_some {n : Int} {e : PEl} (h : findP els n = some e) : e ∈ els ∧ (e.num : Int) = n := ⟨List.mem_of_find?_eq_some h, by simpa using List.find?_some h⟩
theorem findP_none {n : Int} (h : findP els n = none) {e : PEl} (he : e ∈ els) : (e.num : Int) ≠ n := by
  unfold findP at h
  rw [List.find?_eq_none] at h
  simpa using h e he
theorem PT.find_none (h : PT els T) {n : Int} (hf : findP els n = none) : tFind T n = none := by
  cases ht : tFind T n with
  | none => rfl
  | some l =>
    obtain ⟨k, rfl, hk⟩ := tFind_some ht
    obtain ⟨e, he, h1⟩ := h.of' k l hk
    exact absurd (by rw [h1]) (findP_none hf he)
theorem tFind_mem {T : Tree} (hn : (T.map Prod.fst).Nodup) {k : Nat} {l : List Nat} (h : (k, l) ∈ T) : tFind T k = some l := by
  unfold tFind
  cases hf : T.find? fun e => decide ((e.1 : Int) = (k : Int)) with
  | none =>
    rw [List.find?_eq_none] at hf
    exact absurd (by simp) (hf _ h)
  | some e =>
    have h1 : (e.1 : Int) = (k : Int) := by simpa using List.find?_some hf
    have h2 := num_inj hn (List.mem_of_find?_eq_some hf) h (by show e.1 = k; omega)
    rw [h2]
    rfl
theorem PT.find_some (h : PT els T) (hw : TW T made) {n : Int} {e : PEl} (hf : findP els n = some e) : tFind T n = some (kidsP els n) ∧ (e.num, kidsP els n) ∈ T ∧ n = e.num := by
  obtain ⟨he, rfl⟩ := findP_some hf
  obtain ⟨l, hl⟩ := h.to' e he
  have := h.kids _ _ hl
  subst this
  exact ⟨tFind_mem hw.nums hl, hl, rfl⟩

/-- The number of the parent, as the program asks it. -/
def parP (els : List PEl) (n : Int) : Int := match findP els n with | none => -1 | some e => e.par
theorem PT.parP (h : PT els T) (hw : TW T made) (n : Int) : parP els n = tPar T n := by
  unfold Go.Proofs.YtblfffbmklkhmaaGreat.parP
  cases hf : findP els n with
  | some e =>
    obtain ⟨he, rfl⟩ := findP_some hf
    exact h.par hw he
  | none =>
    rcases tPar_cases T n with h1 | ⟨e, he, h1, _⟩
    · exact h1.1.symm
    · obtain ⟨k, hk, rfl⟩ := tHas_iff.1 h1
      obtain ⟨l, hl⟩ := hw.kin e he k hk
      obtain ⟨f, hf2, h2⟩ := h.of' k l hl
      exact absurd (by rw [h2]) (findP_none hf hf2)

/-- The way up is no longer than the list. -/
theorem TW.chain (hw : TW T made) {rk : Nat → Nat} (hr : ∀ e ∈ T, ∀ k ∈ e.2, rk e.1 < rk k) {a : Int} (ha : 0 ≤ a) : ∀ (k n : Nat), (∃ c, (n, c) ∈ T) → tUp T k n = a → ∃ l : List Nat, l.length = k + 1 ∧ l.Nodup ∧ (∀ x ∈ l, ∃ c, (x, c) ∈ T) ∧ ∀ x ∈ l, rk x ≤ rk n
  | 0, n, hn, _ => ⟨[n], rfl, by simp, fun x hx => by rw [List.mem_singleton] at hx; rw [hx]; exact hn, fun x hx => by rw [List.mem_singleton] at hx; rw [hx]; exact Nat.le_refl _⟩
  | k + 1, n, hn, h => by
    have h' : tUp T k (tPar T n) = a := h
    rcases tPar_cases T n with ⟨h1, _⟩ | ⟨e, he, h1, h2⟩
    · rw [h1] at h'
      have := tUp_neg T (n := -1) (by omega) k
      omega
    · rw [h2] at h'
      obtain ⟨l, hl, hd, hin, hle⟩ := TW.chain hw hr ha k e.1 ⟨e.2, he⟩ h'
      have hlt := hr e he n (tHas_nat.1 h1)
      refine ⟨n :: l, by simp [hl], List.nodup_cons.2 ⟨fun hx => by have := hle n hx; omega, hd⟩, fun x hx => ?_, fun x hx => ?_⟩
      · rcases List.mem_cons.1 hx with rfl | hx
        · exact hn
        · exact hin x hx
      · rcases List.mem_cons.1 hx with rfl | hx
        · exact Nat.le_refl _
        · have := hle x hx; omega
theorem TW.short (hw : TW T made) {a : Int} (ha : 0 ≤ a) {n : Nat} (hn : ∃ c, (n, c) ∈ T) : tUnder T a n ↔ ∃ k, k < T.length ∧ tUp T k n = a := by
  obtain ⟨rk, hr⟩ := hw.rank
  constructor
  · rintro ⟨_, k, hk⟩
    obtain ⟨l, hl, hd, hin, _⟩ := hw.chain hr ha k n hn hk
    have := nodup_len hd (m := T.map Prod.fst) (fun x hx => by
      obtain ⟨c, hc⟩ := hin x hx
      exact List.mem_map.2 ⟨_, hc, rfl⟩)
    simp at this
    exact ⟨k, by omega, hk⟩
  · rintro ⟨k, _, hk⟩
    exact ⟨ha, k, hk⟩

/-- Put in at a place. -/
def withP (els : List PEl) (place : Nat) (x : PEl) : List PEl := els.take place ++ [x] ++ els.drop place
theorem kids_with (place : Nat) (x : PEl) (n : Int) : kidsP (withP els place x) n = if x.par = n then insL (kidsP els n) (kidsP (els.take place) n).length x.num else kidsP els n := by
  unfold withP
  rw [kidsP_append, kidsP_append, kidsP_one]
  have hsp : kidsP els n = kidsP (els.take place) n ++ kidsP (els.drop place) n := by rw [← kidsP_append, List.take_append_drop]
  by_cases h : x.par = n
  · rw [if_pos h, if_pos h, hsp]
    unfold insL
    rw [List.take_left', List.drop_left'] <;> rfl
  · rw [if_neg h, if_neg h, hsp, List.append_nil]
theorem mem_withP {place : Nat} {x e : PEl} : e ∈ withP els place x ↔ e = x ∨ e ∈ els := by
  unfold withP
  rw [List.mem_append, List.mem_append, List.mem_singleton]
  constructor
  · rintro ((h | h) | h)
    · exact Or.inr (List.mem_of_mem_take h)
    · exact Or.inl h
    · exact Or.inr (List.mem_of_mem_drop h)
  · rintro (h | h)
    · exact Or.inl (Or.inr h)
    · rw [← List.take_append_drop place els, List.mem_append] at h
      exact h.elim (fun x => Or.inl (Or.inl x)) Or.inr
theorem nums_with (place : Nat) (x : PEl) (h : (els.map PEl.num).Nodup) (hx : ∀ e ∈ els, e.num ≠ x.num) : ((withP els place x).map PEl.num).Nodup := by
  have : (withP els place x).map PEl.num = insL (els.map PEl.num) place x.num := by
    unfold withP insL
    rw [List.map_append, List.map_append, List.map_take, List.map_drop]
    rfl
  rw [this]
  exact nodup_insL h (fun hm => by
    obtain ⟨e, he, h1⟩ := List.mem_map.1 hm
    exact hx e he h1)

theorem PT.ins (h : PT els T) (hw : TW T made) {p k place : Nat} (hp : ∃ l, (p, l) ∈ T) (rest : List Value) (hk : (kidsP (els.take place) p).length = k) : PT (withP els place ⟨made, p, rest⟩) (tIns T p k made) := by
  obtain ⟨l0, hl0⟩ := hw.root
  have h0 : 0 < made := hw.lt _ hl0
  have hlt : ∀ e ∈ els, e.num < made := fun e he => by
    obtain ⟨l, hl⟩ := h.to' e he
    exact hw.lt _ hl
  refine ⟨nums_with _ _ h.nums (fun e he => by have := hlt e he; show e.num ≠ made; omega), fun e he => ?_, fun n l hl => ?_, fun n l hl => ?_, fun e he h1 => ?_⟩
  · rcases mem_withP.1 he with rfl | he
    · exact ⟨[], mem_tIns.2 (Or.inr rfl)⟩
    · obtain ⟨l, hl⟩ := h.to' e he
      exact ⟨if e.num = p then insL l k made else l, mem_tIns.2 (Or.inl ⟨(e.num, l), hl, rfl, rfl⟩)⟩
  · rcases mem_tIns.1 hl with ⟨x, hx, h1, _⟩ | h1
    · obtain ⟨e, he, h2⟩ := h.of' x.1 x.2 hx
      exact ⟨e, mem_withP.2 (Or.inr he), h2.trans h1.symm⟩
    · injection h1 with h1 _
      exact ⟨_, mem_withP.2 (Or.inl rfl), h1.symm⟩
  · rw [kids_with]
    rcases mem_tIns.1 hl with ⟨x, hx, h1, h2⟩ | h1
    · have h1' : n = x.1 := h1
      have h2' : l = if x.1 = p then insL x.2 k made else x.2 := h2
      have hk2 := h.kids x.1 x.2 hx
      subst h1'
      rw [h2']
      by_cases hxp : x.1 = p
      · rw [if_pos hxp, if_pos (by show (p : Int) = _; rw [hxp]), ← hk2, hxp, hk]
      · rw [if_neg hxp, if_neg (by show ¬ (p : Int) = _; omega), ← hk2]
    · injection h1 with h1 h2
      subst h1 h2
      obtain ⟨lp, hlp⟩ := hp
      have hpm := hw.lt _ hlp
      rw [if_neg (by show ¬ (p : Int) = _; have : p < n := hpm; omega)]
      symm
      rw [List.eq_nil_iff_forall_not_mem]
      intro x hx
      rw [mem_kidsP] at hx
      obtain ⟨e, he, h1, _⟩ := hx
      rw [h.par hw he] at h1
      rcases tPar_cases T e.num with ⟨h2, _⟩ | ⟨f, hf, _, h2⟩
      · omega
      · have := hw.lt f hf; omega
  · rcases mem_withP.1 he with rfl | he
    · have : made = 0 := h1; omega
    · exact h.root e he h1

theorem kidsP_filter (p : PEl → Bool) (n : Int) : kidsP (els.filter p) n = (els.filter fun e => p e && decide (e.par = n)).map PEl.num := by
  unfold kidsP
  rw [List.filter_filter]
  congr 1
  refine List.filter_congr fun e _ => ?_
  rw [Bool.and_comm]
theorem noneOf_kids (a : Nat) (n : Int) : noneOf a (kidsP els n) = (els.filter fun e => decide (e.num ≠ a) && decide (e.par = n)).map PEl.num := by
  unfold noneOf kidsP
  rw [List.filter_map, List.filter_filter]
  congr 1
  refine List.filter_congr fun e _ => ?_
  show (decide (¬ ((e.num : Nat) : Int) = a) && _) = _
  congr 1
  by_cases h : e.num = a
  · simp [h]
  · simp [h]; omega

theorem PT.rem (h : PT els T) (hw : TW T made) {a : Nat} {la : List Nat} (ha : (a, la) ∈ T) (h0 : a ≠ 0) : PT (els.filter fun e => !tUnderB T a e.num) (tRem T a) := by
  obtain ⟨q, hq, hm, hp⟩ := hw.up ha h0
  have hu : ∀ (e : PEl), (!tUnderB T a e.num) = true ↔ ¬ tUnder T a e.num := fun e => by
    rw [← tUnderB_iff]
    cases tUnderB T a e.num <;> simp
  refine ⟨h.nums.sublist (List.filter_sublist.map _), fun e he => ?_, fun n l hl => ?_, fun n l hl => ?_, fun e he => h.root e (List.mem_filter.1 he).1⟩
  · rw [List.mem_filter, hu] at he
    obtain ⟨l, hl⟩ := h.to' e he.1
    exact ⟨if e.num = q.1 then noneOf a l else l, (mem_tRem hp).2 ⟨(e.num, l), hl, he.2, rfl, rfl⟩⟩
  · obtain ⟨x, hx, hxu, h1, _⟩ := (mem_tRem hp).1 hl
    obtain ⟨e, he, h2⟩ := h.of' x.1 x.2 hx
    refine ⟨e, List.mem_filter.2 ⟨he, (hu e).2 ?_⟩, h2.trans h1.symm⟩
    rw [h2]
    exact hxu
  · obtain ⟨x, hx, hxu, h1, h2⟩ := (mem_tRem hp).1 hl
    have h1' : n = x.1 := h1
    have h2' : l = if x.1 = q.1 then noneOf a x.2 else x.2 := h2
    subst h1'
    have hk2 := h.kids x.1 x.2 hx
    have key : ∀ e ∈ els, e.par = (x.1 : Int) → ((!tUnderB T a e.num) = true ↔ e.num ≠ a) := by
      intro e he hep
      rw [hu]
      have hme : e.num ∈ x.2 := by rw [hk2]; exact mem_kidsP.2 ⟨e, he, hep, rfl⟩
      rw [hw.under_kid hx hme a]
      exact ⟨fun h1 h2 => h1 (Or.inl h2), fun h1 h2 => h2.elim h1 hxu⟩
    have hfil : kidsP (els.filter fun e => !tUnderB T a e.num) x.1 = noneOf a (kidsP els x.1) := by
      rw [kidsP_filter, noneOf_kids]
      congr 1
      refine List.filter_congr fun e he => ?_
      by_cases hep : e.par = (x.1 : Int)
      · have := key e he hep
        by_cases hea : e.num = a
        · have h3 : (!tUnderB T a e.num) = false := by
            cases hb : (!tUnderB T a e.num) with
            | false => rfl
            | true => exact absurd hea (this.1 hb)
          rw [h3]
          simp [hea]
        · rw [this.2 hea]
          simp [hea]
      · simp [hep]
    rw [hfil, h2', ← hk2]
    split
    · rfl
    · rename_i hn
      symm
      unfold noneOf
      rw [List.filter_eq_self]
      intro y hy
      rw [decide_eq_true_eq]
      intro e
      have hya : y = a := by omega
      subst hya
      have := hw.one x hx q hq y hy hm
      rw [this] at hn
      exact hn rfl

/-- Taken out at a place. -/
theorem PT.without (h : PT els T) {place : Nat} {e : PEl} (he : els[place]? = some e) : els.eraseIdx place = els.filter fun x => decide (x.num ≠ e.num) := by
  have hlt : place < els.length := (List.getElem?_eq_some_iff.1 he).1
  have hpe : els[place] = e := (List.getElem?_eq_some_iff.1 he).2
  have hsp : els = els.take place ++ e :: els.drop (place + 1) := by
    rw [← hpe, ← List.drop_eq_getElem_cons hlt, List.take_append_drop]
  have hn := h.nums
  rw [List.eraseIdx_eq_take_drop_succ]
  conv => rhs; rw [hsp]
  rw [hsp] at hn
  rw [List.map_append, List.map_cons, List.nodup_append] at hn
  rw [List.filter_append, List.filter_cons]
  have h1 : (els.take place).filter (fun x => decide (x.num ≠ e.num)) = els.take place := by
    rw [List.filter_eq_self]
    intro x hx
    rw [decide_eq_true_eq]
    exact hn.2.2 x.num (List.mem_map.2 ⟨x, hx, rfl⟩) e.num (by simp)
  have h2 : (els.drop (place + 1)).filter (fun x => decide (x.num ≠ e.num)) = els.drop (place + 1) := by
    rw [List.filter_eq_self]
    intro x hx
    rw [decide_eq_true_eq]
    intro h3
    have h4 := hn.2.1
    rw [List.nodup_cons] at h4
    exact h4.1 (List.mem_map.2 ⟨x, hx, h3⟩)
  rw [h1, h2]
  simp
theorem kids_without (a : Nat) (n : Int) : kidsP (els.filter fun x => decide (x.num ≠ a)) n = noneOf a (kidsP els n) := by
  rw [kidsP_filter, noneOf_kids]

theorem PT.mov (h : PT els T) (hw : TW T made) {a p k place : Nat} {la : List Nat} (ha : (a, la) ∈ T) (h0 : a ≠ 0) (rest : List Value) (hk : (kidsP ((els.filter fun x => decide (x.num ≠ a)).take place) p).length = k) :
    PT (withP (els.filter fun x => decide (x.num ≠ a)) place ⟨a, p, rest⟩) (tMov T a p k) := by
  obtain ⟨q, hq, hm, hp⟩ := hw.up ha h0
  have hin : ∀ e : PEl, e ∈ (els.filter fun x => decide (x.num ≠ a)) ↔ e ∈ els ∧ e.num ≠ a := fun e => by rw [List.mem_filter, decide_eq_true_eq]
  refine ⟨nums_with _ _ (h.nums.sublist (List.filter_sublist.map _)) (fun e he => ((hin e).1 he).2), fun e he => ?_, fun n l hl => ?_, fun n l hl => ?_, fun e he h1 => ?_⟩
  · rcases mem_withP.1 he with rfl | he
    · exact ⟨if a = p then insL (noneOf a (if a = q.1 then noneOf a la else la)) k a else if a = q.1 then noneOf a la else la, (mem_tMov hp).2 ⟨(a, la), ha, rfl, rfl⟩⟩
    · obtain ⟨l, hl⟩ := h.to' e ((hin e).1 he).1
      exact ⟨if e.num = p then insL (noneOf a (if e.num = q.1 then noneOf a l else l)) k a else if e.num = q.1 then noneOf a l else l, (mem_tMov hp).2 ⟨(e.num, l), hl, rfl, rfl⟩⟩
  · obtain ⟨x, hx, h1, _⟩ := (mem_tMov hp).1 hl
    have h1' : n = x.1 := h1
    by_cases hxa : x.1 = a
    · exact ⟨_, mem_withP.2 (Or.inl rfl), by rw [h1', hxa]⟩
    · obtain ⟨e, he, h2⟩ := h.of' x.1 x.2 hx
      exact ⟨e, mem_withP.2 (Or.inr ((hin e).2 ⟨he, by omega⟩)), h2.trans h1'.symm⟩
  · obtain ⟨x, hx, h1, h2⟩ := (mem_tMov hp).1 hl
    have h1' : n = x.1 := h1
    subst h1'
    have hk2 := h.kids x.1 x.2 hx
    have hno : ∀ l', (if x.1 = q.1 then noneOf a x.2 else x.2) = l' → l' = noneOf a x.2 := by
      intro l' h3
      rw [← h3]
      split
      · rfl
      · rename_i hn
        symm
        unfold noneOf
        rw [List.filter_eq_self]
        intro y hy
        rw [decide_eq_true_eq]
        intro e
        have hya : y = a := by omega
        subst hya
        have := hw.one x hx q hq y hy hm
        rw [this] at hn
        exact hn rfl
    have hno2 := hno _ rfl
    have h2' : l = if x.1 = p then insL (noneOf a (if x.1 = q.1 then noneOf a x.2 else x.2)) k a else if x.1 = q.1 then noneOf a x.2 else x.2 := h2
    rw [hno2] at h2'
    rw [kids_with, kids_without, ← hk2, h2', noneOf_twice]
    by_cases hxp : x.1 = p
    · rw [if_pos hxp, if_pos (by show (p : Int) = _; rw [hxp]), hxp, hk]
    · rw [if_neg hxp, if_neg (by show ¬ (p : Int) = _; omega)]
  · rcases mem_withP.1 he with rfl | he
    · exact absurd h1 h0
    · exact h.root e ((hin e).1 he).1 h1
end

end Go.Proofs.YtblfffbmklkhmaaGreat

namespace Go.Proofs.YtblfffbmklkhmaaGreat
open Go.RowKit

section
variable {P : Program} {ops : Array Oper} {rest : List Oper} {o : Oper} {a : Act} {w : World} {Q : Exit → Act → World → Prop}
theorem wpList_store_new (hgd : o.guard = none) (ty : TypeId) (x y : Operand) (ho : o.op = .store ty x y) (c c' : Array Value) (t : TypeId) (hx : a.eval x = .pointer (some ⟨w.heap.size, 0, none⟩)) (hy : a.eval y = .agg c')
    (hi : (P.info? ty).map (·.size) = some c'.size) (hs : c.size = c'.size) (h1 : c'.all (·.oneCell') = true) (h : wpList P ops Q rest (a.put o.dst undef) (w.alloc (.cells c' t))) : wpList P ops Q (o :: rest) a (w.alloc (.cells c t)) := by
  refine wpList_store_row hgd ty x y ho w.heap.size c' hx hy t c (heap_alloc_last w _) hi hs h1 ?_
  rw [World.setRow_alloc_new]
  exact h
theorem wpList_load_new (hgd : o.guard = none) (ty : TypeId) (x : Operand) (ho : o.op = .load ty x) (c : Array Value) (t : TypeId) (hx : a.eval x = .pointer (some ⟨w.heap.size, 0, none⟩)) (d : TypeDesc)
    (hu : P.underlying ty = some d) (hd : (match d with | .struct _ | .array _ _ => true | _ => false) = true) (hi : (P.info? ty).map (·.size) = some c.size) (h : wpList P ops Q rest (a.put o.dst (.agg c)) (w.alloc (.cells c t))) : wpList P ops Q (o :: rest) a (w.alloc (.cells c t)) :=
  wpList_load_row hgd ty x ho w.heap.size hx t c (0, 0) d (heap_alloc_last w _) hu hd hi h
theorem fill_one {s : Nat} (hs : 0 < s) (c z : Array Value) (h1 : c.size = s) (h2 : z.size = s) : Instr.fill (fun i => some (i * s, s)) z [(0, .agg c)] = some c := by
  have h := Great.fill_whole hs [Value.agg c] z (fun v hv => by rw [List.mem_singleton] at hv; rw [hv]; exact h1) (by simp [h2])
  have e1 : (([Value.agg c].zipIdx 0).map fun x => (x.2, x.1)) = [(0, Value.agg c)] := rfl
  rw [e1] at h
  rw [h]
  simp [Value.cells]
theorem wpList_buildOne (hg : o.guard = none) (t e : TypeId) (x : Operand) (ho : o.op = .buildSlice t 1 #[(0, x)]) (c : Array Value) (hx : a.eval x = .agg c) (ie : TypeInfo) (z : Value)
    (hu : P.underlying t = some (.slice e)) (hie : P.info? e = some ie) (hz : ie.zero = some z) (hs : ie.size = c.size) (hpos : 0 < c.size) (hsm : c.size ≤ 1000)
    (h : wpList P ops Q rest (a.put o.dst (.slice (some ⟨w.heap.size, 0, none⟩) 1 1)) (w.alloc (.cells c e))) : wpList P ops Q (o :: rest) a w := by
  refine wpList_buildSlice hg t e 1 _ ho c ie z hu hie hz (by omega) (by omega) ?_ h
  rw [hs]
  have e1 : (#[((0 : Nat), x)].map fun (p : Nat × Operand) => (p.1, a.eval p.2)).toList = [(0, Value.agg c)] := by simp [hx]
  show Instr.fill _ _ (#[((0 : Nat), x)].map fun (p : Nat × Operand) => (p.1, a.eval p.2)).toList = some c
  rw [e1]
  exact fill_one hpos c _ rfl (by simp)
end

def PEl.cells (e : PEl) : List Value := .int .i64 e.num :: .int .i64 e.par :: e.rest
def PEl.ok (e : PEl) : Prop := e.rest.length = 29 ∧ ∀ v ∈ e.rest, v.oneCell' = true
theorem PEl.ok.len {e : PEl} (h : e.ok) : e.cells.length = 31 := by
  unfold PEl.cells
  rw [List.length_cons, List.length_cons, h.1]
theorem PEl.ok.one {e : PEl} (h : e.ok) : ∀ v ∈ e.cells, v.oneCell' = true := by
  intro v hv
  unfold PEl.cells at hv
  rcases List.mem_cons.1 hv with rfl | hv
  · rfl
  rcases List.mem_cons.1 hv with rfl | hv
  · rfl
  · exact h.2 v hv
def flatP (els : List PEl) : List Value := els.flatMap PEl.cells
theorem flat_len {els : List PEl} (h : ∀ e ∈ els, e.ok) : (flatP els).length = els.length * 31 := by
  induction els with
  | nil => rfl
  | cons x l ih =>
    have h1 := (h x List.mem_cons_self).len
    have h2 := ih (fun e he => h e (List.mem_cons_of_mem _ he))
    unfold flatP at h2 ⊢
    rw [List.flatMap_cons, List.length_append, h1, h2, List.length_cons]
    omega
theorem flat_at {els : List PEl} (h : ∀ e ∈ els, e.ok) {i j : Nat} (hi : i < els.length) (hj : j < 31) : (flatP els)[i * 31 + j]? = els[i].cells[j]? := by
  induction els generalizing i with
  | nil => simp at hi
  | cons x l ih =>
    have h1 := (h x List.mem_cons_self).len
    unfold flatP
    rw [List.flatMap_cons]
    cases i with
    | zero =>
      rw [List.getElem?_append_left (by omega)]
      simp
    | succ i =>
      rw [List.getElem?_append_right (by omega), h1, show (i + 1) * 31 + j - 31 = i * 31 + j from by omega]
      have := ih (fun e he => h e (List.mem_cons_of_mem _ he)) (i := i) (by simpa using hi)
      unfold flatP at this
      rw [this]
      simp

/-- The list of elements in memory. -/
structure PL (w : World) (v : Value) (els : List PEl) : Prop where
  row : w.ownsRow 0 134 31 v els.length (flatP els)
  ok : ∀ e ∈ els, e.ok
theorem PL.shape {w : World} {v : Value} {els : List PEl} (h : PL w v els) : ∃ a c, v = .slice a els.length c := own_shape h.row
theorem PL.at' {w : World} {a : Option Addr} {c : Nat} {els : List PEl} (h : PL w (.slice a els.length c) els) {i : Nat} (hi : i < els.length) :
    ∃ g, a = some ⟨g, 0, none⟩ ∧ g < w.heap.size ∧ w.rangeAt g (i * 31) els[i].cells := by
  obtain ⟨g, hg, hgl, hc⟩ := own_cells h.row (by omega)
  refine ⟨g, hg, hgl, fun j v hv => hc _ _ ?_⟩
  have hl := (h.ok els[i] (List.getElem_mem hi)).len
  have hj : j < 31 := by
    have := (List.getElem?_eq_some_iff.1 hv).1
    omega
  rw [flat_at h.ok hi hj]
  exact hv
theorem range_below {w wr : World} {base : Nat} (hB : Below base w wr) {g o : Nat} (hg : g < base) {cs : List Value} (h : w.rangeAt g o cs) : wr.rangeAt g o cs :=
  fun j v hv => (hB.cell (p := ⟨g, o + j, none⟩) hg).trans (h j v hv)
theorem Tryz.size134 : (Tryz.prog.info? 134).map (·.size) = some 31 := by kernel_rfl

/-- One element's cells at a place. -/
structure ElAt (w : World) (g o : Nat) (cs : List Value) (num : Nat) (par : Int) : Prop where
  rng : w.rangeAt g o cs
  len : cs.length = 31
  one : ∀ v ∈ cs, v.oneCell' = true
  c0 : cs[0]? = some (.int .i64 num)
  c1 : cs[1]? = some (.int .i64 par)
theorem ElAt.size {w : World} {g o : Nat} {cs : List Value} {num : Nat} {par : Int} (h : ElAt w g o cs num par) : (Tryz.prog.info? 134).map (·.size) = some cs.length := by rw [h.len]; exact Tryz.size134
theorem ElAt.size' {w : World} {g o : Nat} {cs : List Value} {num : Nat} {par : Int} (h : ElAt w g o cs num par) : (Tryz.prog.info? 134).map (·.size) = some cs.toArray.size := by rw [List.size_toArray]; exact h.size
theorem ElAt.same {w : World} {g o : Nat} {cs : List Value} {num : Nat} {par : Int} (h : ElAt w g o cs num par) : 31 = cs.toArray.size := by rw [List.size_toArray, h.len]
theorem ElAt.all {w : World} {g o : Nat} {cs : List Value} {num : Nat} {par : Int} (h : ElAt w g o cs num par) : cs.toArray.all (·.oneCell') = true := all_oneCell_toArray h.one

def PFindPost (w : World) (els : List PEl) (n : Int) (e : Ending) (w' : World) : Prop :=
  Below w.heap.size w w' ∧ ((findP els n = none ∧ e = .returned (.tuple #[.int .i64 0, .bool false])) ∨ ∃ (i : Nat) (x : PEl), els[i]? = some x ∧ findP els n = some x ∧ e = .returned (.tuple #[.int .i64 i, .bool true]))

theorem findP_at {els : List PEl} {n : Int} {i : Nat} (hi : i < els.length) (hno : ∀ j (hj : j < els.length), j < i → ((els[j].num : Int) = n) → False) (h : (els[i].num : Int) = n) : findP els n = some els[i] := by
  unfold findP
  rw [List.find?_eq_some_iff_getElem]
  refine ⟨by simpa using h, i, hi, rfl, fun j hj => ?_⟩
  have := hno j (by omega) hj
  simpa using this
theorem findP_no {els : List PEl} {n : Int} (hno : ∀ j (hj : j < els.length), ((els[j].num : Int) = n) → False) : findP els n = none := by
  unfold findP
  rw [List.find?_eq_none]
  intro e he
  obtain ⟨j, hj, rfl⟩ := List.getElem_of_mem he
  simpa using hno j hj

set_option maxRecDepth 100000 in
set_option maxHeartbeats 2000000 in
theorem pfind_any (w : World) (b : Nat) (v : Value) (els : List PEl) (n : Int) (hb : w.cell? ⟨b, 1, none⟩ = some v) (h : PL w v els) (hfew : els.length ≤ 24) :
    Calls Tryz.prog 72 #[.pointer (some ⟨b, 1, none⟩), .int .i64 n] w fun e w' => PFindPost w els n e w' := by
  obtain ⟨a, c, hv⟩ := h.shape
  subst hv
  have HP : Hid (PL w (.slice a els.length c) els) := h
  clear h
  go_enter Tryz.func72, Tryz.ntmps72
  go_wp2_with fail
  go_loopg [13] els.length (fun gk iv wr => ∃ i : Nat, iv = .int .i64 i ∧ i ≤ els.length ∧ els.length - i ≤ gk ∧ Hid (Below w.heap.size w wr ∧ ∀ j (hj : j < els.length), j < i → ((els[j].num : Int) = n) → False))
  case atStart => exact ⟨0, rfl, Nat.zero_le _, by omega, Below.refl _ _, fun j hj h => by omega⟩
  case round =>
    obtain ⟨i, rfl, hi, hgk, HN⟩ := hrel
    by_cases hlt : i < els.length
    · have hd : decide ((i : Int) < (els.length : Int)) = true := by simp; omega
      obtain ⟨g, hg, hgl, hr⟩ := HP.out.at' hlt
      subst hg
      obtain ⟨x, hx⟩ : ∃ x, els[i] = x := ⟨_, rfl⟩
      have HX : Hid (els[i]? = some x) := by unfold Hid; rw [List.getElem?_eq_getElem hlt, hx]
      have hxo : x.ok := hx ▸ HP.out.ok _ (List.getElem_mem hlt)
      have HF : Hid ((x.num : Int) = n → findP els n = some x) := fun h => by rw [← hx] at h ⊢; exact findP_at hlt HN.out.2 h
      have HNX : Hid (¬ (x.num : Int) = n → ∀ j (hj : j < els.length), j < i + 1 → ((els[j].num : Int) = n) → False) := fun hm j hj h1 h2 => by
        by_cases e : j = i
        · subst e
          rw [hx] at h2
          exact hm h2
        · exact HN.out.2 j hj (by omega) h2
      have HE : Hid (ElAt wr g (i * 31) x.cells x.num x.par) := by rw [← hx]; exact ⟨range_below HN.out.1 hgl hr, (HP.out.ok _ (List.getElem_mem hlt)).len, (HP.out.ok _ (List.getElem_mem hlt)).one, rfl, rfl⟩
      clear hx hr hxo
      generalize x.cells = cs at HE
      have c0 : cs[0]? = some (.int .i64 x.num) := HE.out.c0
      have HB2 : Hid (Below w.heap.size w (wr.alloc (.cells cs.toArray 134))) := HN.out.1.alloc HN.out.1.size _
      by_cases hn : (x.num : Int) = n
      · have gn : ((x.num : Int) == n) = true := by simp [hn]
        have HF2 : Hid (findP els n = some x) := HF.out hn
        clear hn
        go_wp2_with (first | (refine wpList_load_mid rfl 134 _ rfl g (i * 31) rfl cs _ HE.out.rng Tryz.underlying134 rfl HE.out.size ?_) | (refine wpList_store_new rfl 134 _ _ rfl _ cs.toArray 134 rfl rfl HE.out.size' HE.out.same HE.out.all ?_))
        go_ret2
        exact ⟨HB2.out, Or.inr ⟨i, x, HX.out, HF2.out, rfl⟩⟩
      · have gn : ((x.num : Int) == n) = false := by simp [hn]
        have HN2 := HNX.out hn
        have HN3 : Hid (Below w.heap.size w (wr.alloc (.cells cs.toArray 134)) ∧ ∀ j (hj : j < els.length), j < i + 1 → ((els[j].num : Int) = n) → False) := ⟨HB2.out, HN2⟩
        clear hn HN2
        go_wp2_with (first | (refine wpList_load_mid rfl 134 _ rfl g (i * 31) rfl cs _ HE.out.rng Tryz.underlying134 rfl HE.out.size ?_) | (refine wpList_store_new rfl 134 _ _ rfl _ cs.toArray 134 rfl rfl HE.out.size' HE.out.same HE.out.all ?_))
        go_roundg (els.length - (i + 1))
        case measure => omega
        case rel => exact ⟨i + 1, by go_num, by omega, Nat.le_refl _, HN3⟩
    · have hd : decide ((i : Int) < (els.length : Int)) = false := by simp; omega
      have HE2 : Hid (findP els n = none) := findP_no (fun j hj h => HN.out.2 j hj (by omega) h)
      go_wp2
      go_ret2
      exact ⟨HN.out.1, Or.inl ⟨HE2.out, rfl⟩⟩

end Go.Proofs.YtblfffbmklkhmaaGreat

namespace Go.Proofs.YtblfffbmklkhmaaGreat
open Go.RowKit

theorem PL.el {w : World} {a : Option Addr} {c : Nat} {els : List PEl} (h : PL w (.slice a els.length c) els) {i : Nat} (hi : i < els.length) : ∃ g, a = some ⟨g, 0, none⟩ ∧ g < w.heap.size ∧ ElAt w g (i * 31) els[i].cells els[i].num els[i].par := by
  obtain ⟨g, hg, hgl, hr⟩ := h.at' hi
  exact ⟨g, hg, hgl, hr, (h.ok _ (List.getElem_mem hi)).len, (h.ok _ (List.getElem_mem hi)).one, rfl, rfl⟩
theorem ElAt.below {w wr : World} {base g o : Nat} {cs : List Value} {num : Nat} {par : Int} (h : ElAt w g o cs num par) (hB : Below base w wr) (hg : g < base) : ElAt wr g o cs num par := ⟨range_below hB hg h.rng, h.len, h.one, h.c0, h.c1⟩
theorem ElAt.cell1 {w : World} {g o : Nat} {cs : List Value} {num : Nat} {par : Int} (h : ElAt w g o cs num par) : w.cell? ⟨g, o + 1, none⟩ = some (.int .i64 par) := h.rng 1 _ h.c1

theorem kids_take {els : List PEl} {i : Nat} (h : i < els.length) (n : Int) : kidsP (els.take (i + 1)) n = kidsP (els.take i) n ++ if els[i].par = n then [els[i].num] else [] := by
  rw [List.take_succ_eq_append_getElem h, kidsP_append, kidsP_one]
theorem kids_len (els : List PEl) (n : Int) : (kidsP els n).length ≤ els.length := by
  unfold kidsP
  rw [List.length_map]
  exact List.length_filter_le _ _

def PPlacePost (w : World) (els : List PEl) (par at' : Int) (e : Ending) (w' : World) : Prop :=
  Below w.heap.size w w' ∧ ((∃ place : Nat, e = .returned (.tuple #[.int .i64 place, .bool true]) ∧ place ≤ els.length ∧ ((kidsP (els.take place) par).length : Int) = at') ∨ (∃ n : Int, e = .returned (.tuple #[.int .i64 n, .bool false]) ∧ (at' < 0 ∨ ((kidsP els par).length : Int) < at')))

set_option maxRecDepth 100000 in
set_option maxHeartbeats 2000000 in
theorem pplace_any (w : World) (v : Value) (els : List PEl) (par at' : Int) (h : PL w v els) (hfew : els.length ≤ 24) :
    Calls Tryz.prog 111 #[v, .int .i64 par, .int .i64 at'] w fun e w' => PPlacePost w els par at' e w' := by
  obtain ⟨a, c, hv⟩ := h.shape
  subst hv
  have HP : Hid (PL w (.slice a els.length c) els) := h
  clear h
  go_enter Tryz.func111, Tryz.ntmps111
  go_wp2_with fail
  go_loopg [8, 13] els.length (fun gk av iv wr => ∃ i : Nat, iv = .int .i64 i ∧ i ≤ els.length ∧ els.length - i ≤ gk ∧ av = .int .i64 ((kidsP (els.take i) par).length : Nat) ∧ Hid (Below w.heap.size w wr ∧ (at' < 0 ∨ ((kidsP (els.take i) par).length : Int) ≤ at')))
  case atStart => exact ⟨0, rfl, Nat.zero_le _, by omega, rfl, Below.refl _ _, by simp [kidsP]; omega⟩
  case round =>
    obtain ⟨i, rfl, hi, hgk, rfl, HN⟩ := hrel
    have hkl : (kidsP (els.take i) par).length ≤ 24 := by
      have := kids_len (els.take i) par
      have : (els.take i).length ≤ els.length := List.length_take_le' _ _
      omega
    by_cases hlt : i < els.length
    · have hd : decide ((i : Int) < (els.length : Int)) = true := by simp; omega
      obtain ⟨g, hg, hgl, he⟩ := HP.out.el hlt
      subst hg
      have HKT : Hid (kidsP (els.take (i + 1)) par = kidsP (els.take i) par ++ if els[i].par = par then [els[i].num] else []) := kids_take hlt par
      have HE : Hid (ElAt wr g (i * 31) els[i].cells els[i].num els[i].par) := he.below HN.out.1 hgl
      have HK : Hid (∀ k, (kidsP (els.take i) par).length = k → (k : Int) = at' → ((kidsP (els.take i) par).length : Int) = at') := fun k h1 h2 => by rw [h1]; exact h2
      clear he
      generalize els[i] = x at HE HKT
      generalize x.cells = cs at HE
      have c1 : cs[1]? = some (.int .i64 x.par) := HE.out.c1
      have HB2 : Hid (Below w.heap.size w (wr.alloc (.cells cs.toArray 134))) := HN.out.1.alloc HN.out.1.size _
      by_cases hpar : x.par = par
      · have gp : (x.par != par) = false := by simp [hpar]
        have HKT2 : Hid (kidsP (els.take (i + 1)) par = kidsP (els.take i) par ++ [x.num]) := by unfold Hid; rw [HKT.out, if_pos hpar]
        clear hpar HKT
        by_cases hat : ((kidsP (els.take i) par).length : Int) = at'
        · have HAT : Hid (((kidsP (els.take i) par).length : Int) = at') := hat
          have ga : (((kidsP (els.take i) par).length : Int) == at') = true := by simp [hat]
          clear hat
          go_wp2_with (first | (refine wpList_load_mid rfl 134 _ rfl g (i * 31) rfl cs _ HE.out.rng Tryz.underlying134 rfl HE.out.size ?_) | (refine wpList_store_new rfl 134 _ _ rfl _ cs.toArray 134 rfl rfl HE.out.size' HE.out.same HE.out.all ?_))
          go_ret2
          exact ⟨HB2.out, Or.inl ⟨i, rfl, hi, HAT.out⟩⟩
        · have ga : (((kidsP (els.take i) par).length : Int) == at') = false := by rw [beq_eq_false_iff_ne]; exact hat
          have HN2 : Hid (Below w.heap.size w (wr.alloc (.cells cs.toArray 134)) ∧ (at' < 0 ∨ ((kidsP (els.take (i + 1)) par).length : Int) ≤ at')) := by
            refine ⟨HB2.out, ?_⟩
            rw [HKT2.out, List.length_append]
            have := HN.out.2
            simp
            omega
          have HK2 : Hid (((kidsP (els.take (i + 1)) par).length : Nat) = (kidsP (els.take i) par).length + 1) := by unfold Hid; rw [HKT2.out]; simp
          clear hat
          generalize (kidsP (els.take i) par).length = n0 at hkl ga HK2 ⊢
          go_wp2_with (first | (refine wpList_load_mid rfl 134 _ rfl g (i * 31) rfl cs _ HE.out.rng Tryz.underlying134 rfl HE.out.size ?_) | (refine wpList_store_new rfl 134 _ _ rfl _ cs.toArray 134 rfl rfl HE.out.size' HE.out.same HE.out.all ?_))
          go_roundg (els.length - (i + 1))
          case measure => omega
          case rel => exact ⟨i + 1, by go_num, by omega, Nat.le_refl _, by rw [HK2.out]; go_num, HN2⟩
      · have gp : (x.par != par) = true := by simp [hpar]
        have HKT2 : Hid (kidsP (els.take (i + 1)) par = kidsP (els.take i) par) := by unfold Hid; rw [HKT.out, if_neg hpar, List.append_nil]
        have HN2 : Hid (Below w.heap.size w (wr.alloc (.cells cs.toArray 134)) ∧ (at' < 0 ∨ ((kidsP (els.take (i + 1)) par).length : Int) ≤ at')) := ⟨HB2.out, by rw [HKT2.out]; exact HN.out.2⟩
        clear hpar HKT
        go_wp2_with (first | (refine wpList_load_mid rfl 134 _ rfl g (i * 31) rfl cs _ HE.out.rng Tryz.underlying134 rfl HE.out.size ?_) | (refine wpList_store_new rfl 134 _ _ rfl _ cs.toArray 134 rfl rfl HE.out.size' HE.out.same HE.out.all ?_))
        go_roundg (els.length - (i + 1))
        case measure => omega
        case rel => exact ⟨i + 1, by go_num, by omega, Nat.le_refl _, by rw [HKT2.out], HN2⟩
    · have hd : decide ((i : Int) < (els.length : Int)) = false := by simp; omega
      obtain rfl : i = els.length := by omega
      rw [List.take_length] at HN hkl ⊢
      by_cases hat : ((kidsP els par).length : Int) = at'
      · have HAT : Hid (((kidsP els par).length : Int) = at') := hat
        have ga : (((kidsP els par).length : Int) == at') = true := by simp [hat]
        clear hat
        go_wp2
        go_ret2
        refine ⟨HN.out.1, Or.inl ⟨els.length, rfl, Nat.le_refl _, ?_⟩⟩
        rw [List.take_length]
        exact HAT.out
      · have ga : (((kidsP els par).length : Int) == at') = false := by rw [beq_eq_false_iff_ne]; exact hat
        have HAT : Hid (¬ ((kidsP els par).length : Int) = at') := hat
        clear hat
        go_wp2
        go_ret2
        refine ⟨HN.out.1, Or.inr ⟨_, rfl, ?_⟩⟩
        have := HN.out.2
        have := HAT.out
        omega

set_option maxRecDepth 100000 in
set_option maxHeartbeats 2000000 in
theorem pparentOf_any (w : World) (b : Nat) (v : Value) (els : List PEl) (n : Int) (hb : w.cell? ⟨b, 1, none⟩ = some v) (h : PL w v els) (hfew : els.length ≤ 24) :
    Calls Tryz.prog 126 #[.pointer (some ⟨b, 1, none⟩), .int .i64 n] w fun e w' => e = .returned (.int .i64 (parP els n)) ∧ Below w.heap.size w w' := by
  obtain ⟨a, c, hv⟩ := h.shape
  subst hv
  have HP : Hid (PL w (.slice a els.length c) els) := h
  have hbl : b < w.heap.size := World.block_lt_of_cell? w _ hb
  clear h
  go_enter Tryz.func126, Tryz.ntmps126
  go_wp2_with fail
  refine (pfind_any w b _ els n hb HP.out hfew).mono ?_
  rintro e w1 ⟨hB, ⟨hf, rfl⟩ | ⟨i, x, hx, hf, rfl⟩⟩
  · have HE : Hid (parP els n = -1) := by unfold Hid parP; rw [hf]
    clear hf
    go_wp2
    go_ret
    rw [HE.out]
    exact ⟨rfl, hB⟩
  · have HE : Hid (parP els n = x.par) := by unfold Hid parP; rw [hf]
    have hi : i < els.length := (List.getElem?_eq_some_iff.1 hx).1
    have hxe : els[i] = x := (List.getElem?_eq_some_iff.1 hx).2
    obtain ⟨g, hg, hgl, he⟩ := HP.out.el hi
    subst hg
    have q1 := (he.below hB hgl).cell1
    rw [hxe] at q1
    have hb1 : w1.cell? ⟨b, 1, none⟩ = some (.slice (some ⟨g, 0, none⟩) els.length c) := (hB.cell (p := ⟨b, 1, none⟩) hbl).trans hb
    have hil : (i : Int) < (els.length : Int) := by omega
    clear hx hf hxe he
    go_wp2
    go_ret
    rw [HE.out]
    exact ⟨rfl, hB⟩

/-- The way up, as the program goes it. -/
def upP (els : List PEl) : Nat → Int → Int
  | 0, n => n
  | k + 1, n => parP els (upP els k n)
theorem PT.upP {els : List PEl} {T : Tree} {made : Nat} (h : PT els T) (hw : TW T made) (n : Int) : ∀ k, upP els k n = tUp T k n
  | 0 => rfl
  | k + 1 => by
    rw [tUp_add T n k 1]
    show Go.Proofs.YtblfffbmklkhmaaGreat.parP els (Go.Proofs.YtblfffbmklkhmaaGreat.upP els k n) = tPar T (tUp T k n)
    rw [PT.upP h hw n k, h.parP hw]

def PWithinPost (w : World) (els : List PEl) (n top : Int) (e : Ending) (w' : World) : Prop :=
  Below w.heap.size w w' ∧ ∃ r : Bool, e = .returned (.bool r) ∧ (r = true ↔ ∃ k, k < els.length ∧ upP els k n = top)

set_option maxRecDepth 100000 in
set_option maxHeartbeats 2000000 in
theorem pwithin_any (w : World) (b : Nat) (v : Value) (els : List PEl) (n top : Int) (hb : w.cell? ⟨b, 1, none⟩ = some v) (h : PL w v els) (hfew : els.length ≤ 24) :
    Calls Tryz.prog 120 #[.pointer (some ⟨b, 1, none⟩), .int .i64 n, .int .i64 top] w fun e w' => PWithinPost w els n top e w' := by
  obtain ⟨a, c, hv⟩ := h.shape
  subst hv
  have HP : Hid (PL w (.slice a els.length c) els) := h
  have hbl : b < w.heap.size := World.block_lt_of_cell? w _ hb
  have HB0 : Hid (w.cell? ⟨b, 1, none⟩ = some (.slice a els.length c)) := hb
  clear h
  go_enter Tryz.func120, Tryz.ntmps120
  go_wp2_with fail
  go_loopg [1, 12] els.length (fun gk nv iv wr => ∃ i : Nat, iv = .int .i64 i ∧ i ≤ els.length ∧ els.length - i ≤ gk ∧ nv = .int .i64 (upP els i n) ∧ Hid (Below w.heap.size w wr ∧ ∀ k, k < i → upP els k n ≠ top))
  case atStart => exact ⟨0, rfl, Nat.zero_le _, by omega, rfl, Below.refl _ _, fun k hk => by omega⟩
  case round =>
    obtain ⟨i, rfl, hi, hgk, rfl, HN⟩ := hrel
    by_cases hlt : i < els.length
    · have hd : decide ((i : Int) < (els.length : Int)) = true := by simp; omega
      by_cases ht : upP els i n = top
      · have HE : Hid (∃ k, k < els.length ∧ upP els k n = top) := ⟨i, hlt, ht⟩
        have gt : (upP els i n == top) = true := by simp [ht]
        clear ht
        go_wp2
        go_ret
        exact ⟨HN.out.1, true, rfl, fun _ => HE.out, fun _ => rfl⟩
      · have gt : (upP els i n == top) = false := by simp [ht]
        have HN2 : Hid (∀ k, k < i + 1 → upP els k n ≠ top) := fun k hk => by
          by_cases e : k = i
          · rw [e]; exact ht
          · exact HN.out.2 k (by omega)
        have HU : Hid (upP els (i + 1) n = parP els (upP els i n)) := rfl
        clear ht
        generalize upP els i n = m at gt HU ⊢
        have hbr : wr.cell? ⟨b, 1, none⟩ = some (.slice a els.length c) := (HN.out.1.cell (p := ⟨b, 1, none⟩) hbl).trans HB0.out
        have HPr : Hid (PL wr (.slice a els.length c) els) := ⟨own_below HP.out.row HN.out.1, HP.out.ok⟩
        go_wp2_with fail
        refine (pparentOf_any wr b _ els m hbr HPr.out hfew).mono ?_
        rintro e w1 ⟨rfl, hB⟩
        have HN3 : Hid (Below w.heap.size w w1 ∧ ∀ k, k < i + 1 → upP els k n ≠ top) := ⟨HN.out.1.trans (hB.mono HN.out.1.size), HN2.out⟩
        clear hB hbr
        go_wp2
        go_roundg (els.length - (i + 1))
        case measure => omega
        case rel => exact ⟨i + 1, by go_num, by omega, Nat.le_refl _, by rw [HU.out], HN3⟩
    · have hd : decide ((i : Int) < (els.length : Int)) = false := by simp; omega
      go_wp2
      go_ret
      refine ⟨HN.out.1, false, rfl, fun h => (by cases h), fun ⟨k, hk, hk2⟩ => absurd hk2 (HN.out.2 k (by omega))⟩

end Go.Proofs.YtblfffbmklkhmaaGreat

namespace Go.Proofs.YtblfffbmklkhmaaGreat
open Go.RowKit

/-! The marks of an element. -/
def kindP (e : PEl) : Int := match (e.rest[0]? : Option Value) with | some (.int .u8 k) => k | _ => 0
def classP (e : PEl) (i : Nat) : Bool := match (e.rest[1 + i]? : Option Value) with | some (.bool b) => b | _ => false
def nameP (e : PEl) : Int := match (e.rest[27]? : Option Value) with | some (.int .u8 k) => k | _ => 0
/-- The cells are of the right kinds. -/
structure Shp (e : PEl) : Prop where
  kind : ∃ k, e.rest[0]? = some (.int .u8 k)
  cls : ∀ i, i < 26 → ∃ b, e.rest[1 + i]? = some (.bool b)
  name : ∃ k, e.rest[27]? = some (.int .u8 k)
  shown : ∃ b, e.rest[28]? = some (.bool b)
theorem Shp.kd {e : PEl} (h : Shp e) : e.cells[2]? = some (.int .u8 (kindP e)) := by
  obtain ⟨k, hk⟩ := h.kind
  unfold kindP PEl.cells
  rw [hk]
  exact hk
theorem Shp.cl {e : PEl} (h : Shp e) {i : Nat} (hi : i < 26) : e.cells[3 + i]? = some (.bool (classP e i)) := by
  obtain ⟨b, hb⟩ := h.cls i hi
  unfold classP PEl.cells
  rw [hb, show 3 + i = (1 + i) + 1 + 1 from by omega, List.getElem?_cons_succ, List.getElem?_cons_succ]
  exact hb
theorem Shp.nm {e : PEl} (h : Shp e) : e.cells[29]? = some (.int .u8 (nameP e)) := by
  obtain ⟨k, hk⟩ := h.name
  unfold nameP PEl.cells
  rw [hk]
  exact hk
def shownP (e : PEl) : Bool := match (e.rest[28]? : Option Value) with | some (.bool b) => b | _ => false
theorem Shp.sh {e : PEl} (h : Shp e) : e.cells[30]? = some (.bool (shownP e)) := by
  obtain ⟨k, hk⟩ := h.shown
  unfold shownP PEl.cells
  rw [hk]
  exact hk

/-! The marks by numbers. -/
structure Mk where
  kd : Int
  cl : Nat → Bool
  nm : Int
/-- The elements bear the marks. -/
def Marks (els : List PEl) (M : Nat → Mk) : Prop := ∀ x ∈ els, kindP x = (M x.num).kd ∧ (∀ i, i < 26 → classP x i = (M x.num).cl i) ∧ nameP x = (M x.num).nm
def setM (M : Nat → Mk) (k : Nat) (m : Mk) : Nat → Mk := fun j => if j = k then m else M j
def newMk (kind : ByteArray) : Mk := ⟨bt kind 0, fun _ => false, 0⟩
def clsMk (m : Mk) (s : ByteArray) (on : Bool) : Mk := ⟨m.kd, fun i => if i + 97 = bt s 0 then on else m.cl i, m.nm⟩
def namMk (m : Mk) (s : ByteArray) : Mk := ⟨m.kd, m.cl, if s.size = 0 then 0 else bt s 0⟩
def MkO (els : List PEl) (M : Nat → Mk) : Prop := Marks els M ∧ ∀ x ∈ els, Shp x
theorem MkO.sub {els els' : List PEl} {M : Nat → Mk} (h : MkO els M) (hs : ∀ x ∈ els', x ∈ els) : MkO els' M := ⟨fun x hx => h.1 x (hs x hx), fun x hx => h.2 x (hs x hx)⟩
theorem MkO.ext {els : List PEl} {M M' : Nat → Mk} (h : MkO els M) (hm : ∀ x ∈ els, M x.num = M' x.num) : MkO els M' := ⟨fun x hx => by rw [← hm x hx]; exact h.1 x hx, h.2⟩
theorem MkO.more {els : List PEl} {M : Nat → Mk} (h : MkO els M) {x : PEl} {m : Mk} (place : Nat) (hx : Shp x) (hm : kindP x = m.kd ∧ (∀ i, i < 26 → classP x i = m.cl i) ∧ nameP x = m.nm) (hn : ∀ e ∈ els, e.num ≠ x.num) : MkO (withP els place x) (setM M x.num m) := by
  refine ⟨fun e he => ?_, fun e he => ?_⟩
  · unfold setM
    rcases mem_withP.1 he with rfl | he
    · rw [if_pos rfl]; exact hm
    · rw [if_neg (hn e he)]; exact h.1 e he
  · rcases mem_withP.1 he with rfl | he
    · exact hx
    · exact h.2 e he

/-! What the tree tells. -/
def hasTypeP (els : List PEl) (e l : Int) : Bool := match findP els e with | some x => kindP x == l | none => false
def hasClassP (els : List PEl) (e l : Int) : Bool := match findP els e with | some x => if 97 ≤ l ∧ l ≤ 122 then classP x (l - 97).toNat else false | none => false
def hasNameP (els : List PEl) (e l : Int) : Bool := match findP els e with | some x => nameP x == l | none => false
def aboveP (els : List PEl) : Nat → Int → List Int
  | 0, _ => []
  | k + 1, e => if parP els e = -1 then [] else parP els e :: aboveP els k (parP els e)
def aheadOf (els : List PEl) (i : Nat) (par : Int) : List Int := (((els.take i).filter fun y => decide (y.par = par)).map fun y => (y.num : Int)).reverse
def idxP (els : List PEl) (e : Int) : Nat := els.findIdx fun y => decide ((y.num : Int) = e)
def aheadP (els : List PEl) (e : Int) : List Int := match findP els e with | some x => aheadOf els (idxP els e) x.par | none => []
def lastP (els : List PEl) (e : Int) : Bool := match findP els e with | some x => (els.drop (idxP els e + 1)).all fun y => decide (¬ y.par = x.par) | none => false
def emptyP (els : List PEl) (e : Int) : Bool := (els.all fun y => decide (¬ y.par = e)) && (findP els e).isSome
theorem idx_of {els : List PEl} (hn : (els.map PEl.num).Nodup) {i : Nat} {x : PEl} (hx : els[i]? = some x) : idxP els x.num = i := by
  obtain ⟨hi, he⟩ := List.getElem?_eq_some_iff.1 hx
  unfold idxP
  rw [List.findIdx_eq hi]
  refine ⟨by rw [he]; simp, fun j hj => ?_⟩
  rw [decide_eq_false_iff_not]
  intro h
  refine List.pairwise_iff_getElem.1 hn j i (by simp; omega) (by simpa using hi) hj ?_
  simp only [List.getElem_map]
  rw [he]
  omega

/-! Matching. -/
def nthP (place step start : Int) : Bool := if step ≤ 0 ∨ place < start then place == start else (place - start) % step == 0
def simpP (els : List PEl) (p : PPt) (e : Int) : Bool :=
  if p.kd = 1 then hasTypeP els e p.lt else if p.kd = 2 then hasClassP els e p.lt else if p.kd = 3 then hasNameP els e p.lt
  else if p.kd = 4 then decide (((aheadP els e).length : Int) + 1 = 1) else if p.kd = 5 then lastP els e else if p.kd = 6 then emptyP els e
  else if p.kd = 7 then nthP (((aheadP els e).length : Int) + 1) p.st p.sr else false
def compP (els : List PEl) (c : PCp) (e : Int) : Bool := (c.ty == 0 || hasTypeP els e c.ty) && c.ps.all fun p => simpP els p e != p.nt
def signedP (els : List PEl) (sg e : Int) : List Int :=
  if sg = 32 then aboveP els els.length e else if sg = 62 then (aboveP els els.length e).take 1 else if sg = 126 then aheadP els e else if sg = 43 then (aheadP els e).take 1 else []
/-- The compounds from the last to the first. -/
def chainR (els : List PEl) : List PCp → Int → Bool
  | [], _ => false
  | [c], e => compP els c e
  | c :: d :: r, e => compP els c e && (signedP els c.sg e).any (chainR els (d :: r))
def matchP (els : List PEl) (cs : List PCp) (e : Int) : Bool := chainR els cs.reverse e

/-! Winners. -/
structure Clm where
  th : Bool
  im : Bool
  ly : Int
  wt : Int
  kd : Int
  nu : Int
  va : Int
def Clm.cells (c : Clm) : List Value := [.bool c.th, .bool c.im, .int .i64 c.ly, .int .i64 c.wt, .int .i64 c.kd, .int .i64 c.nu, .int .u8 c.va]
def Clm.none : Clm := ⟨false, false, 0, 0, 0, 0, 0⟩
def beatsP (c d : Clm) : Bool :=
  if d.th = false then true else if c.im ≠ d.im then c.im else if c.ly ≠ d.ly then decide (c.ly < d.ly) == c.im else decide (d.wt ≤ c.wt)
def placeOfP (p : Int) : Option Nat := if 65 ≤ p ∧ p < 71 then some (p - 65).toNat else if 88 ≤ p ∧ p < 91 then some (6 + (p - 88).toNat) else none
theorem placeOfP_lt {p : Int} {k : Nat} (h : placeOfP p = some k) : k < 9 := by
  unfold placeOfP at h
  split at h
  · injection h with h; omega
  · split at h
    · injection h with h; omega
    · cases h
def laterP (ly wt : Int) (d : PDc) : Clm := ⟨true, d.im, ly, wt, d.kd, d.nu, d.va⟩
def stepP (ly wt : Int) (W : List Clm) (d : PDc) : List Clm := match placeOfP d.pr with | some k => if beatsP (laterP ly wt d) (W.getD k Clm.none) then W.set k (laterP ly wt d) else W | none => W
def afterP (W : List Clm) (r : PRu) (wt : Int) : List Clm := r.ds.foldl (stepP r.ly wt) W
theorem stepP_len (ly wt : Int) (W : List Clm) (d : PDc) : (stepP ly wt W d).length = W.length := by
  unfold stepP
  split
  · split
    · rw [List.length_set]
    · rfl
  · rfl
/-- The greatest weight of the selectors that match, and whether one does. -/
def weighStep (els : List PEl) (e : Int) (a : Int × Bool) (cs : List PCp) : Int × Bool := if matchP els cs e then (max a.1 ((cws cs : Nat) : Int), true) else a
def weighP (els : List PEl) (e : Int) (ss : List (List PCp)) : Int × Bool := ss.foldl (weighStep els e) (0, false)
def ruleStep (els : List PEl) (e : Int) (W : List Clm) (r : PRu) : List Clm := if (weighP els e r.ss).2 then afterP W r (weighP els e r.ss).1 else W
def winnersP (els : List PEl) (rs : List PRu) (e : Int) : List Clm := rs.foldl (ruleStep els e) (List.replicate 9 Clm.none)

/-! Values. -/
def initP : List Int := [1, 2, 3, 4, 5, 6, 0, 0, 0]
def downP (p : Nat) : Bool := decide (p < 3 ∨ 6 ≤ p)
def nextP (W : List Clm) (p : Nat) : Option Nat := if (W.getD p Clm.none).kd = 5 then placeOfP (W.getD p Clm.none).va else Option.none
/-- Does one come back to the start? k rounds more, at the place that has been come to. -/
def backP (W : List Clm) (start : Nat) : Nat → Option Nat → Bool
  | 0, _ => false
  | k + 1, q => match q with | Option.none => false | some p => if p = start then true else backP W start k (nextP W p)
def directP (W : List Clm) (p : Nat) (comes : List Int) : Int :=
  if (W.getD p Clm.none).kd = 1 then (W.getD p Clm.none).nu else if (W.getD p Clm.none).kd = 2 then comes.getD p 0 else if (W.getD p Clm.none).kd = 3 then initP.getD p 0 else if downP p then comes.getD p 0 else initP.getD p 0
def valueF (W : List Clm) (comes : List Int) : Nat → Nat → Int
  | 0, p => comes.getD p 0
  | k + 1, p => if backP W p 3 (nextP W p) then comes.getD p 0 else match nextP W p with | Option.none => directP W p comes | some q => valueF W comes k q
def ofP (els : List PEl) (rs : List PRu) (e : Int) (comes : List Int) : List Int := (List.range 9).map fun p => valueF (winnersP els rs e) comes 9 p
/-- The style of an element: from the root down. -/
def styleP (els : List PEl) (rs : List PRu) (e : Int) : List Int := ofP els rs e ((aboveP els els.length e).foldr (fun x comes => ofP els rs x comes) initP)

end Go.Proofs.YtblfffbmklkhmaaGreat
