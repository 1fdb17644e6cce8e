/- Own work. -/
import Derived.Test.YtblfffbmklkhmaaGreatAw49
namespace Go.Proofs.YtblfffbmklkhmaaGreat
open Go.RowKit
def AgreeM (m m' : Mk) : Prop := m.kd = m'.kd ∧ (∀ i, i < 26 → m.cl i = m'.cl i) ∧ m.nm = m'.nm
/-- The children stand pairwise. -/
def Pw (new : List (Nat × Nat)) (la lb : List Nat) : Prop := la.length = lb.length ∧ ∀ (i a b : Nat), la[i]? = some a → lb[i]? = some b → (a, b) ∈ new
theorem nodup_at {l : List Nat} (h : l.Nodup) {i j x : Nat} (hi : l[i]? = some x) (hj : l[j]? = some x) : i = j := by
  induction l generalizing i j with
  | nil => simp at hi
  | cons y l ih =>
    rw [List.nodup_cons] at h
    cases i with
    | zero =>
      cases j with
      | zero => rfl
      | succ j =>
        have h1 : y = x := by simpa using hi
        have h2 : l[j]? = some x := by simpa using hj
        exact absurd (by rw [h1]; exact List.mem_of_getElem? h2) h.1
    | succ i =>
      cases j with
      | zero =>
        have h1 : y = x := by simpa using hj
        have h2 : l[i]? = some x := by simpa using hi
        exact absurd (by rw [h1]; exact List.mem_of_getElem? h2) h.1
      | succ j => rw [ih h.2 (i := i) (j := j) (by simpa using hi) (by simpa using hj)]
theorem Pw.more {new n2 : List (Nat × Nat)} {la lb : List Nat} (h : Pw new la lb) (hs : ∀ x ∈ new, x ∈ n2) : Pw n2 la lb := ⟨h.1, fun i a b h1 h2 => hs _ (h.2 i a b h1 h2)⟩
/-- Behind i children of an element fr, which has become un. -/
structure CInv (T : Tree) (Ms : Nat → Mk) (fr un : Nat) (T0 : Tree) (M0 : Nat → Mk) (m0 : Nat) (ps : List (Nat × Nat)) (i : Nat) (kids : List Nat) (T2 : Tree) (M2 : Nat → Mk) (made : Nat) (new : List (Nat × Nat)) : Prop where
  le : m0 ≤ made
  mem : (fr, un) ∈ new
  und : ∀ x ∈ new, x.1 = fr ∨ ∃ j c, j < i ∧ kids[j]? = some c ∧ tUnder T c x.1
  num : ∀ x ∈ new, (x.2 = un ∧ x.1 = fr) ∨ (m0 ≤ x.2 ∧ x.2 < made)
  nd : (new.map Prod.snd).Nodup
  fst : ((ps ++ new).map Prod.fst).Nodup
  len : T2.length = (ps ++ new).length
  inT : ∀ x ∈ new, ∃ l, (x.1, l) ∈ T
  old : ∀ k l, k ≠ un → (k, l) ∈ T0 → (k, l) ∈ T2
  all : ∀ e ∈ T2, (e ∈ T0 ∧ e.1 ≠ un) ∨ ∃ a, (a, e.1) ∈ new
  here : ∃ lb, (un, lb) ∈ T2 ∧ lb.length = i ∧ ∀ (j a b : Nat), j < i → kids[j]? = some a → lb[j]? = some b → (a, b) ∈ new
  done : ∀ x ∈ new, x.2 ≠ un → ∃ la lb, (x.1, la) ∈ T ∧ (x.2, lb) ∈ T2 ∧ Pw new la lb
  mrk : ∀ x ∈ new, AgreeM (M2 x.2) (Ms x.1)
  omk : ∀ k, k < m0 → k ≠ un → M2 k = M0 k
  tw : TW T2 made
  cnt : made = T2.length
/-- What is asked ahead. -/
structure CPre (T : Tree) (fr un : Nat) (T0 : Tree) (m0 : Nat) (ps : List (Nat × Nat)) (kids : List Nat) : Prop where
  frT : (fr, kids) ∈ T
  unT : (un, []) ∈ T0
  tw : TW T0 m0
  len : T0.length = ps.length + 1
  fst : (ps.map Prod.fst).Nodup
  inT : ∀ x ∈ ps, ∃ l, (x.1, l) ∈ T
  out : ∀ x ∈ ps, ¬ tUnder T fr x.1
  cnt : m0 = T0.length
section
variable {T : Tree} {made0 : Nat} {Ms : Nat → Mk} {fr un : Nat} {T0 : Tree} {M0 : Nat → Mk} {m0 : Nat} {ps : List (Nat × Nat)} {i : Nat} {kids : List Nat} {T2 : Tree} {M2 : Nat → Mk} {made : Nat} {new : List (Nat × Nat)}
theorem cinv_start (h : CPre T fr un T0 m0 ps kids) {M1 : Nat → Mk} (hm : AgreeM (M1 un) (Ms fr)) (ho : ∀ k, k ≠ un → M1 k = M0 k) : CInv T Ms fr un T0 M0 m0 ps 0 kids T0 M1 m0 [(fr, un)] := by
  have h1 : ∀ x ∈ [(fr, un)], x = (fr, un) := fun x hx => List.mem_singleton.1 hx
  refine ⟨Nat.le_refl _, by simp, fun x hx => ?_, fun x hx => ?_, by simp, ?_, ?_, fun x hx => ?_, fun k l _ hk => hk, fun e he => ?_, ⟨[], h.unT, rfl, fun j _ _ hj => by omega⟩, fun x hx hne => ?_, fun x hx => ?_, fun k _ hk => ho k hk, h.tw, h.cnt⟩
  · rw [h1 x hx]; exact Or.inl rfl
  · rw [h1 x hx]; exact Or.inl ⟨rfl, rfl⟩
  · rw [List.map_append, List.nodup_append]
    refine ⟨h.fst, by simp, fun a ha b hb => ?_⟩
    obtain ⟨x, hx, rfl⟩ := List.mem_map.1 ha
    have : b = fr := by simpa using hb
    rw [this]
    exact fun e => h.out x hx (by rw [e]; exact under_self T fr)
  · rw [List.length_append, h.len]; rfl
  · rw [h1 x hx]; exact ⟨kids, h.frT⟩
  · by_cases e1 : e.1 = un
    · exact Or.inr ⟨fr, by rw [e1]; simp⟩
    · exact Or.inl ⟨he, e1⟩
  · rw [h1 x hx] at hne; exact absurd rfl hne
  · rw [h1 x hx]; exact hm
theorem under_line {a b : Nat} {x : Int} (h1 : tUnder T a x) (h2 : tUnder T b x) : tUnder T a b ∨ tUnder T b a := by
  obtain ⟨_, i, hi⟩ := h1
  obtain ⟨_, j, hj⟩ := h2
  by_cases hij : i ≤ j
  · right
    refine ⟨by omega, j - i, ?_⟩
    have := tUp_add T x i (j - i)
    rw [show i + (j - i) = j from by omega, hi, hj] at this
    exact this.symm
  · left
    refine ⟨by omega, i - j, ?_⟩
    have := tUp_add T x j (i - j)
    rw [show j + (i - j) = i from by omega, hi, hj] at this
    exact this.symm
theorem not_up (hw : TW T made0) {q : Nat × List Nat} (hq : q ∈ T) {k : Nat} (hk : k ∈ q.2) : ¬ tUnder T k q.1 := by
  obtain ⟨rk, hr⟩ := hw.rank
  rintro ⟨_, t, ht⟩
  have h1 := hw.under_rank hr t q.1 ht
  have h2 := hr q hq k hk
  omega
theorem sib_apart (hw : TW T made0) {q : Nat × List Nat} (hq : q ∈ T) {a b : Nat} (ha : a ∈ q.2) (hb : b ∈ q.2) {x : Int} (h1 : tUnder T a x) (h2 : tUnder T b x) : a = b := by
  rcases under_line h1 h2 with h3 | h3
  · rcases (hw.under_kid hq hb a).1 h3 with h4 | h4
    · exact h4.symm
    · exact absurd h4 (not_up hw hq ha)
  · rcases (hw.under_kid hq ha b).1 h3 with h4 | h4
    · exact h4
    · exact absurd h4 (not_up hw hq hb)
/-- The next child is nowhere yet. -/
theorem CInv.fresh (hw : TW T made0) (hp : CPre T fr un T0 m0 ps kids) (h : CInv T Ms fr un T0 M0 m0 ps i kids T2 M2 made new) {c : Nat} (hc : kids[i]? = some c) : ∀ x ∈ ps ++ new, ¬ tUnder T c x.1 := by
  have hck : c ∈ kids := List.mem_of_getElem? hc
  intro x hx hu
  rcases List.mem_append.1 hx with hx | hx
  · refine hp.out x hx ?_
    have h1 : tUnder T fr c := (hw.under_kid hp.frT hck fr).2 (Or.inr (under_self T fr))
    exact under_trans h1 hu
  · rcases h.und x hx with h1 | ⟨j, d, hj, hd, h1⟩
    · rw [h1] at hu
      exact not_up hw hp.frT hck hu
    · have hdc := sib_apart hw hp.frT (List.mem_of_getElem? hd) hck h1 hu
      rw [hdc] at hd
      have := nodup_at (hw.kdup _ hp.frT) hd hc
      omega
/-- There is room for it. -/
theorem CInv.room (hw : TW T made0) (hp : CPre T fr un T0 m0 ps kids) (h : CInv T Ms fr un T0 M0 m0 ps i kids T2 M2 made new) {c : Nat} (hc : kids[i]? = some c) : T2.length < T.length := by
  obtain ⟨lc, hlc⟩ := hw.kin _ hp.frT c (List.mem_of_getElem? hc)
  have hf := h.fresh hw hp hc
  have h1 : (c :: (ps ++ new).map Prod.fst).Nodup := by
    rw [List.nodup_cons]
    refine ⟨fun hm => ?_, h.fst⟩
    obtain ⟨x, hx, he⟩ := List.mem_map.1 hm
    exact hf x hx (by rw [he]; exact under_self T c)
  have h2 := nodup_len h1 (m := T.map Prod.fst) (fun k hk => by
    rcases List.mem_cons.1 hk with rfl | hk
    · exact List.mem_map.2 ⟨_, hlc, rfl⟩
    · obtain ⟨x, hx, rfl⟩ := List.mem_map.1 hk
      rcases List.mem_append.1 hx with hx | hx
      · obtain ⟨l, hl⟩ := hp.inT x hx; exact List.mem_map.2 ⟨_, hl, rfl⟩
      · obtain ⟨l, hl⟩ := h.inT x hx; exact List.mem_map.2 ⟨_, hl, rfl⟩)
  rw [List.length_cons, List.length_map, List.length_map, ← h.len] at h2
  omega
/-- What is asked ahead of the next child's copy. -/
theorem CInv.pre (hw : TW T made0) (hp : CPre T fr un T0 m0 ps kids) (h : CInv T Ms fr un T0 M0 m0 ps i kids T2 M2 made new) {c : Nat} (hc : kids[i]? = some c) {lc : List Nat} (hlc : (c, lc) ∈ T) : CPre T c made (tIns T2 un i made) (made + 1) (ps ++ new) lc := by
  obtain ⟨lb, hlb, _⟩ := h.here
  refine ⟨hlc, mem_tIns.2 (Or.inr rfl), h.tw.ins ⟨lb, hlb⟩, ?_, h.fst, fun x hx => ?_, h.fresh hw hp hc, by unfold tIns; rw [List.length_append, tSet_len, ← h.cnt]; rfl⟩
  · unfold tIns
    rw [List.length_append, tSet_len, h.len]
    rfl
  · rcases List.mem_append.1 hx with hx | hx
    · exact hp.inT x hx
    · exact h.inT x hx
theorem insL_end (l : List Nat) (v : Nat) : insL l l.length v = l ++ [v] := by
  unfold insL
  rw [List.take_length, List.drop_length, List.append_nil]
theorem CInv.step (hw : TW T made0) (hp : CPre T fr un T0 m0 ps kids) (h : CInv T Ms fr un T0 M0 m0 ps i kids T2 M2 made new) {c : Nat} (hc : kids[i]? = some c) {lc : List Nat} (hlc : (c, lc) ∈ T) {mk0 : Mk} {T3 : Tree} {M3 : Nat → Mk} {made3 : Nat} {new3 : List (Nat × Nat)}
    (h3 : CInv T Ms c made (tIns T2 un i made) (setM M2 made mk0) (made + 1) (ps ++ new) lc.length lc T3 M3 made3 new3) : CInv T Ms fr un T0 M0 m0 ps (i + 1) kids T3 M3 made3 (new ++ new3) := by
  have hun : un < m0 := hp.tw.lt _ hp.unT
  have hle := h.le
  have hle3 := h3.le
  obtain ⟨lb, hlb, hlbl, hlbp⟩ := h.here
  have hnew : ∀ x ∈ new, x.2 < made := fun x hx => by
    rcases h.num x hx with ⟨h1, _⟩ | ⟨_, h1⟩ <;> omega
  have hnew3 : ∀ x ∈ new3, made ≤ x.2 ∧ x.2 < made3 := fun x hx => by
    rcases h3.num x hx with ⟨h1, _⟩ | ⟨h1, h2⟩ <;> omega
  have hkeep : ∀ k l, k ≠ un → (k, l) ∈ T2 → (k, l) ∈ T3 := fun k l hk hl => by
    have hkm : k < made := h.tw.lt _ hl
    refine h3.old k l (by omega) (mem_tIns.2 (Or.inl ⟨(k, l), hl, rfl, ?_⟩))
    show l = if k = un then insL l i made else l
    rw [if_neg hk]
  have hun3 : (un, lb ++ [made]) ∈ T3 := by
    refine h3.old un _ (by omega) (mem_tIns.2 (Or.inl ⟨(un, lb), hlb, rfl, ?_⟩))
    show lb ++ [made] = if un = un then insL lb i made else lb
    rw [if_pos rfl, ← hlbl, insL_end]
  refine ⟨by omega, List.mem_append_left _ h.mem, fun x hx => ?_, fun x hx => ?_, ?_, by rw [← List.append_assoc]; exact h3.fst, by rw [← List.append_assoc]; exact h3.len, fun x hx => ?_, fun k l hk hl => hkeep k l hk (h.old k l hk hl), fun e he => ?_, ⟨lb ++ [made], hun3, by rw [List.length_append, hlbl]; rfl, fun j a b hj ha hb => ?_⟩, fun x hx hne => ?_, fun x hx => ?_, fun k hk hne => ?_, h3.tw, h3.cnt⟩
  · rcases List.mem_append.1 hx with hx | hx
    · rcases h.und x hx with h1 | ⟨j, d, hj, hd, h1⟩
      · exact Or.inl h1
      · exact Or.inr ⟨j, d, by omega, hd, h1⟩
    · refine Or.inr ⟨i, c, by omega, hc, ?_⟩
      rcases h3.und x hx with h1 | ⟨j, d, hj, hd, h1⟩
      · rw [h1]; exact under_self T c
      · exact under_trans ((hw.under_kid hlc (List.mem_of_getElem? hd) c).2 (Or.inr (under_self T c))) h1
  · rcases List.mem_append.1 hx with hx | hx
    · rcases h.num x hx with h1 | h1
      · exact Or.inl h1
      · exact Or.inr ⟨h1.1, by omega⟩
    · have := hnew3 x hx
      exact Or.inr ⟨by omega, this.2⟩
  · rw [List.map_append, List.nodup_append]
    refine ⟨h.nd, h3.nd, fun a ha b hb e => ?_⟩
    obtain ⟨x, hx, rfl⟩ := List.mem_map.1 ha
    obtain ⟨y, hy, rfl⟩ := List.mem_map.1 hb
    have := hnew x hx
    have := (hnew3 y hy).1
    omega
  · rcases List.mem_append.1 hx with hx | hx
    · exact h.inT x hx
    · exact h3.inT x hx
  · rcases h3.all e he with ⟨h1, h2⟩ | ⟨a, h1⟩
    · rcases mem_tIns.1 h1 with ⟨x, hx, e1, e2⟩ | h1
      · by_cases hxu : x.1 = un
        · exact Or.inr ⟨fr, by rw [e1, hxu]; exact List.mem_append_left _ h.mem⟩
        · rw [if_neg hxu] at e2
          have : e = x := by rw [← Prod.eta e, ← Prod.eta x, e1, e2]
          subst this
          rcases h.all e hx with h4 | ⟨a, h4⟩
          · exact Or.inl h4
          · exact Or.inr ⟨a, List.mem_append_left _ h4⟩
      · rw [h1] at h2
        exact absurd rfl h2
    · exact Or.inr ⟨a, List.mem_append_right _ h1⟩
  · by_cases hji : j < i
    · rw [List.getElem?_append_left (by omega)] at hb
      exact List.mem_append_left _ (hlbp j a b hji ha hb)
    · have e1 : j = i := by omega
      subst e1
      rw [List.getElem?_append_right (by omega), hlbl, Nat.sub_self] at hb
      rw [hc] at ha
      injection ha with ha
      have hb' : some made = some b := hb
      injection hb' with hb'
      rw [← ha, ← hb']
      exact List.mem_append_right _ h3.mem
  · rcases List.mem_append.1 hx with hx | hx
    · obtain ⟨la, lb', h1, h2, h4⟩ := h.done x hx hne
      exact ⟨la, lb', h1, hkeep _ _ hne h2, h4.more (fun y hy => List.mem_append_left _ hy)⟩
    · by_cases hxm : x.2 = made
      · obtain ⟨lb3, h1, h2, h4⟩ := h3.here
        have hxc : x.1 = c := by
          rcases h3.num x hx with h5 | h5
          · exact h5.2
          · omega
        refine ⟨lc, lb3, by rw [hxc]; exact hlc, by rw [hxm]; exact h1, h2.symm, fun j a b ha hb => List.mem_append_right _ (h4 j a b ?_ ha hb)⟩
        exact (List.getElem?_eq_some_iff.1 ha).1
      · obtain ⟨la, lb', h1, h2, h4⟩ := h3.done x hx hxm
        exact ⟨la, lb', h1, h2, h4.more (fun y hy => List.mem_append_right _ hy)⟩
  · rcases List.mem_append.1 hx with hx | hx
    · have hlt := hnew x hx
      have e1 : M3 x.2 = setM M2 made mk0 x.2 := h3.omk x.2 (by omega) (by omega)
      have e2 : setM M2 made mk0 x.2 = M2 x.2 := by unfold setM; rw [if_neg (by omega)]
      rw [e1, e2]
      exact h.mrk x hx
    · exact h3.mrk x hx
  · have e1 : M3 k = setM M2 made mk0 k := h3.omk k (by omega) (by omega)
    have e2 : setM M2 made mk0 k = M2 k := by unfold setM; rw [if_neg (by omega)]
    rw [e1, e2]
    exact h.omk k hk hne
/-- The whole tree is copied. -/
theorem CInv.whole (hk : (0, kids) ∈ T) (h : CInv T Ms 0 0 [(0, [])] M0 1 [] kids.length kids T2 M2 made new) : ∃ ψ : Nat → Nat, HomT T2 T M2 Ms ψ ∧ ∀ x ∈ new, ψ x.2 = x.1 ∧ ∃ l, (x.2, l) ∈ T2 := by
  let ψ : Nat → Nat := fun b => match new.find? fun x => decide (x.2 = b) with | some x => x.1 | none => 0
  have hψ : ∀ x ∈ new, ψ x.2 = x.1 := fun x hx => by
    show (match new.find? fun y => decide (y.2 = x.2) with | some y => y.1 | none => 0) = x.1
    cases hf : new.find? fun y => decide (y.2 = x.2) with
    | none =>
      rw [List.find?_eq_none] at hf
      exact absurd (by simp) (hf x hx)
    | some y =>
      have h1 := List.mem_of_find?_eq_some hf
      have h2 : y.2 = x.2 := by simpa using List.find?_some hf
      obtain ⟨i, hi, hxi⟩ := List.getElem_of_mem hx
      obtain ⟨j, hj, hyj⟩ := List.getElem_of_mem h1
      have := nodup_at h.nd (i := j) (j := i) (x := x.2) (by rw [List.getElem?_map, List.getElem?_eq_getElem hj, hyj]; show some y.2 = _; rw [h2]) (by rw [List.getElem?_map, List.getElem?_eq_getElem hi, hxi]; rfl)
      subst this
      rw [← hxi, ← hyj]
  have hdone : ∀ x ∈ new, ∃ la lb, (x.1, la) ∈ T ∧ (x.2, lb) ∈ T2 ∧ Pw new la lb := fun x hx => by
    by_cases h0 : x.2 = 0
    · obtain ⟨lb, h1, h2, h3⟩ := h.here
      have hx0 : x.1 = 0 := by
        rcases h.num x hx with h5 | h5
        · exact h5.2
        · omega
      exact ⟨kids, lb, by rw [hx0]; exact hk, by rw [h0]; exact h1, h2.symm, fun j a b ha hb => h3 j a b (List.getElem?_eq_some_iff.1 ha).1 ha hb⟩
    · exact h.done x hx h0
  have hall : ∀ e ∈ T2, ∃ a, (a, e.1) ∈ new := fun e he => by
    rcases h.all e he with ⟨h1, h2⟩ | h1
    · rw [List.mem_singleton] at h1
      rw [h1] at h2
      exact absurd rfl h2
    · exact h1
  have hkid : ∀ e ∈ T2, (ψ e.1, e.2.map ψ) ∈ T := fun e he => by
    obtain ⟨a, ha⟩ := hall e he
    obtain ⟨la, lb, h1, h2, h3⟩ := hdone _ ha
    have he2 : e = (e.1, lb) := num_inj h.tw.nums he h2 rfl
    have he3 : e.2 = lb := by rw [he2]
    rw [hψ _ ha, he3]
    have : lb.map ψ = la := by
      apply List.ext_getElem?
      intro j
      rw [List.getElem?_map]
      cases hb : lb[j]? with
      | none =>
        rw [List.getElem?_eq_none_iff] at hb
        rw [List.getElem?_eq_none (by have := h3.1; omega)]
        rfl
      | some b =>
        have hj := (List.getElem?_eq_some_iff.1 hb).1
        have hja : j < la.length := by have := h3.1; omega
        have hm := h3.2 j la[j] b (List.getElem?_eq_getElem hja) hb
        rw [List.getElem?_eq_getElem hja]
        show some (ψ b) = _
        rw [hψ _ hm]
    rw [this]
    exact h1
  have hmk : ∀ e ∈ T2, AgreeM (M2 e.1) (Ms (ψ e.1)) := fun e he => by
    obtain ⟨a, ha⟩ := hall e he
    rw [hψ _ ha]
    exact h.mrk _ ha
  refine ⟨ψ, ⟨hψ _ h.mem, hkid, fun e he => (hmk e he).1, fun e he => (hmk e he).2.1, fun e he => (hmk e he).2.2⟩, fun x hx => ⟨hψ x hx, ?_⟩⟩
  obtain ⟨la, lb, _, h2, _⟩ := hdone x hx
  exact ⟨lb, h2⟩
end
end Go.Proofs.YtblfffbmklkhmaaGreat
