/- The two readings of one sheet are one. Plain mathematics; own work. -/
import Derived.Test.YtblfffbmklkhmaaGreatRefIn
namespace Go.Proofs.YtblfffbmklkhmaaGreat
open Go.RowKit

/-! What the texts of compounds, selectors, rules hold. -/
theorem good_plain {s : ByteArray} {i j : Nat} {kd : PPt} (h' : goodPart s i kd j) : Plain s i j := by
  have h := h'.2
  split at h
  · rename_i h33
    split at h
    · rename_i hl
      obtain ⟨_, rfl⟩ := h
      exact (Plain.one (plain_of (by omega))).cat (Plain.one (plain_L hl))
    · exact (Plain.one (plain_of (by omega))).cat h.2.2.2.2.2
  · exact h.2.2.2.2.2
theorem parts_plain {s : ByteArray} : ∀ {ks : List PPt} {i j : Nat}, PartsAt s i j ks → Plain s i j
  | [], _, _, h => by simp only [PartsAt] at h; subst h; intro k k1 k2; omega
  | _ :: _, _, _, ⟨_, _, h1, h2⟩ => (good_plain h1).cat (parts_plain h2)
theorem comp_plain {s : ByteArray} {i j ty : Nat} {ks : List PPt} (h : CompAt s i j ty ks) : Plain s i j := by
  rcases h with ⟨h1, _, h2⟩ | ⟨_, h1, _, h2⟩ | ⟨_, _, _, h2, _⟩
  · exact (Plain.one (plain_L h1)).cat (parts_plain h2)
  · exact (Plain.one (plain_of (by omega))).cat (parts_plain h2)
  · exact parts_plain h2
theorem plain_S {c : Nat} (h : plain c = true) : isS c = false := by simp only [plain, decide_eq_true_eq] at h; exact h.1
theorem plain_n {c : Nat} (h : plain c = true) : c ≠ 44 ∧ c ≠ 123 := by simp only [plain, decide_eq_true_eq] at h; exact h.2
theorem S_n {c : Nat} (h : isS c = true) : c ≠ 44 ∧ c ≠ 123 := by simp only [isS, decide_eq_true_eq] at h; omega

/-- Neither a comma nor a brace. -/
def NoCB (s : ByteArray) (i j : Nat) : Prop := ∀ k, i ≤ k → k < j → bt s k ≠ 44 ∧ bt s k ≠ 123
theorem Plain.ncb {s : ByteArray} {i j : Nat} (h : Plain s i j) : NoCB s i j := fun k k1 k2 => plain_n (h k k1 k2)
theorem selpre_ncb {s : ByteArray} : ∀ {cs : List PCp} {i0 i j : Nat}, SelPre s i0 i j cs → NoCB s i j
  | [], _, _, _, h => by simp only [SelPre] at h; subst h; intro k k1 k2; omega
  | _ :: _, _, i, j, ⟨l, h1, h2, _, h4, h5, _⟩ => fun k k1 k2 => by
    by_cases e : k < l
    · exact (comp_plain h1).ncb k k1 e
    · by_cases e2 : k = l
      · rw [e2]; exact S_n h4
      · exact selpre_ncb h5 k (by omega) k2
theorem sel_ncb {s : ByteArray} {i j : Nat} {cs : List PCp} (h : SelAt s i j cs) : NoCB s i j := by
  obtain ⟨pre, l, ty, ks, _, h2, h3, _⟩ := h
  intro k k1 k2
  by_cases e : k < l
  · exact selpre_ncb h2 k k1 e
  · exact (comp_plain h3).ncb k (by omega) k2
theorem selspre_no123 {s : ByteArray} : ∀ {ss : List (List PCp)} {i j : Nat}, SelsPre s i j ss → ∀ k, i ≤ k → k < j → bt s k ≠ 123
  | [], _, _, h => by simp only [SelsPre] at h; subst h; intro k k1 k2; omega
  | _ :: _, i, j, ⟨l, h1, h2, h3, h4⟩ => fun k k1 k2 => by
    by_cases e : k < l
    · exact (sel_ncb h1 k k1 e).2
    · by_cases e2 : k = l
      · rw [e2, h3]; omega
      · exact selspre_no123 h4 k (by omega) k2
theorem sels_no123 {s : ByteArray} {i j : Nat} {ss : List (List PCp)} (h : SelsAt s i j ss) : ∀ k, i ≤ k → k < j → bt s k ≠ 123 := by
  obtain ⟨pre, l, cs, _, h2, h3, _, _⟩ := h
  intro k k1 k2
  by_cases e : k < l
  · exact selspre_no123 h2 k k1 e
  · exact (sel_ncb h3 k (by omega) k2).2

/-! Piece by piece. -/
def CS (s : ByteArray) : List (Nat × Nat) → List PCp → Prop
  | [], [] => True
  | (p, q) :: r, x :: cs => (CompAt s p q x.ty x.ps ∧ p < q ∧ q ≤ s.size) ∧ CS s r cs
  | _, _ => False
def SS (s : ByteArray) : List (List (Nat × Nat)) → List (List PCp) → Prop
  | [], [] => True
  | a :: r, b :: cs => CS s a b ∧ SS s r cs
  | _, _ => False
def LRS (s : ByteArray) : List (List (List (Nat × Nat))) → List PRu → Prop
  | [], [] => True
  | a :: r, b :: cs => SS s a b.ss ∧ LRS s r cs
  | _, _ => False

theorem segs_le {s : ByteArray} : ∀ {segs : List (Nat × Nat)} {i j : Nat}, Segs s i j segs → i ≤ j
  | [], _, _, h => by simp only [Segs] at h; omega
  | (_, _) :: _, _, _, ⟨h1, _, h3, _, h5⟩ => by have := segs_le h5; omega

theorem link_sel {s : ByteArray} {l j ty : Nat} {ks : List PPt} {sg : Int} {i0 : Nat} (hc : CompAt s l j ty ks) (hlj : l < j) (hjs : j ≤ s.size) : ∀ {pre : List PCp} {i : Nat} {segs : List (Nat × Nat)}, SelPre s i0 i l pre → SegsAt s i j segs → CS s segs (pre ++ [⟨sg, ty, ks⟩])
  | [], i, segs, h, ⟨pre', p, e1, e2, e3, e4⟩ => by
    simp only [SelPre] at h
    subst h e1
    cases pre' with
    | nil => simp only [Segs] at e2; subst e2; exact ⟨⟨hc, hlj, hjs⟩, trivial⟩
    | cons x r =>
      obtain ⟨p', q'⟩ := x
      obtain ⟨rfl, f2, f3, f4, f5⟩ := e2
      have := segs_le f5
      have := plain_S (comp_plain hc q' f3 (by omega))
      rw [f4] at this
      cases this
  | _ :: cs, i, segs, ⟨l', h1, h2, h3, h4, h5, _⟩, ⟨pre', p, e1, e2, e3, e4⟩ => by
    have hl := selpre_le h5
    subst e1
    cases pre' with
    | nil =>
      simp only [Segs] at e2
      subst e2
      have := e4 l' (by omega) (by omega)
      rw [h4] at this
      cases this
    | cons x r =>
      obtain ⟨p', q'⟩ := x
      obtain ⟨rfl, f2, f3, f4, f5⟩ := e2
      have hq : q' = l' := by
        by_cases a : q' < l'
        · have := plain_S (comp_plain h1 q' f3 a)
          rw [f4] at this
          cases this
        · by_cases b : l' < q'
          · have := f2 l' (by omega) b
            rw [h4] at this
            cases this
          · omega
      subst hq
      exact ⟨⟨h1, h2, by omega⟩, link_sel hc hlj hjs h5 ⟨r, p, rfl, f5, e3, e4⟩⟩

theorem link_sel' {s : ByteArray} {i j : Nat} {cs : List PCp} {segs : List (Nat × Nat)} (h : SelAt s i j cs) (h' : SegsAt s i j segs) (hjs : j ≤ s.size) : CS s segs cs := by
  obtain ⟨pre, l, ty, ks, rfl, h2, h3, h4, _, _⟩ := h
  exact link_sel h3 h4 hjs h2 h'

theorem rselspre_le {s : ByteArray} : ∀ {ss : List (List (Nat × Nat))} {i j : Nat}, RSelsPre s i j ss → i ≤ j
  | [], _, _, h => by simp only [RSelsPre] at h; omega
  | _ :: _, _, _, ⟨_, _, h2, _, _, h5⟩ => by have := rselspre_le h5; omega

theorem link_sels {s : ByteArray} {l j : Nat} {cs : List PCp} (hc : SelAt s l j cs) (hlj : l < j) (hjs : j ≤ s.size) : ∀ {pre : List (List PCp)} {i : Nat} {ss : List (List (Nat × Nat))}, SelsPre s i l pre → RSelsAt s i j ss → SS s ss (pre ++ [cs])
  | [], i, ss, h, ⟨pre', p, segs, e1, e2, e3, e4, e5⟩ => by
    simp only [SelsPre] at h
    subst h e1
    cases pre' with
    | nil => simp only [RSelsPre] at e2; subst e2; exact ⟨link_sel' hc e3 hjs, trivial⟩
    | cons x r =>
      obtain ⟨l', f1, f2, f3, f4, f5⟩ := e2
      have := rselspre_le f5
      exact absurd f3 (sel_ncb hc l' f2 (by omega)).1
  | c' :: cs', i, ss, ⟨l', h1, h2, h3, h4⟩, ⟨pre', p, segs, e1, e2, e3, e4, e5⟩ => by
    have hl := selspre_le h4
    subst e1
    cases pre' with
    | nil =>
      simp only [RSelsPre] at e2
      subst e2
      exact absurd h3 (e5 l' (by omega) (by omega))
    | cons x r =>
      obtain ⟨q', f1, f2, f3, f4, f5⟩ := e2
      have hq : q' = l' := by
        by_cases a : q' < l'
        · exact absurd f3 (sel_ncb h1 q' f2 a).1
        · by_cases b : l' < q'
          · exact absurd h3 (f4 l' (by omega) b)
          · omega
      subst hq
      exact ⟨link_sel' h1 f1 (by omega), link_sels hc hlj hjs h4 ⟨r, p, segs, rfl, f5, e3, e4, e5⟩⟩

/-! Where the run stands. -/
theorem V_indep (s : ByteArray) : ∀ (f : Nat) (m : Int) (k k' : Cn) (i : Nat), (Vf s f m k i).1 = (Vf s f m k' i).1 := by
  intro f
  induction f with
  | zero => intro m k k' i; simp only [Vf]; split <;> rfl
  | succ f ih =>
    intro m k k' i
    simp only [Vf]
    split
    · rfl
    · exact ih _ _ _ _
theorem Acc.any {s : ByteArray} {m : Int} {k : Cn} {i : Nat} {M : Int} (h : Acc s m k i M) (k' : Cn) : ∃ M', Acc s m k' i M' := by
  refine ⟨(V s m k' i).2, Prod.ext ?_ rfl⟩
  show (V s m k' i).1 = -1
  unfold Acc at h
  have := V_indep s (s.size - i) m k' k i
  unfold V at h ⊢
  rw [this, h]
theorem cnt_keep {m : Int} {c i : Nat} {k : Cn} (h : k.mn ≠ -1) : (cnt m c i k).mn = k.mn := by
  unfold cnt noteIf note
  split
  · simp only [ite_self]
  · split
    · rfl
    · split
      · split
        · simp only [ite_self]
        · split <;> rfl
      · rfl
theorem V_keep (s : ByteArray) : ∀ (f : Nat) (m : Int) (k : Cn) (i : Nat) (M : Int), k.mn ≠ -1 → Vf s f m k i = (-1, M) → M = k.mn := by
  intro f
  induction f with
  | zero =>
    intro m k i M hk h
    simp only [Vf] at h
    split at h
    · injection h with _ h; exact h.symm
    · injection h with h _; omega
  | succ f ih =>
    intro m k i M hk h
    simp only [Vf] at h
    split at h
    · injection h with h _; omega
    · have e := cnt_keep (m := m) (c := bt s i) (i := i) hk
      have := ih _ _ _ _ (by rw [e]; exact hk) h
      rw [this, e]
/-- The count of rules tells where a rule begins. -/
theorem acc_place {s : ByteArray} {nc i : Nat} {M : Int} (h : Acc s 0 ⟨20, nc, -1⟩ i M) : (i < s.size → M = i) ∧ (¬ i < s.size → M = -1) := by
  constructor
  · intro hi
    have h2 := h.step hi
    have hm : (cnt 0 (bt s i) i ⟨20, nc, -1⟩).mn = i := by simp [cnt, noteIf, note]
    unfold Acc V at h2
    have := V_keep s _ _ _ _ _ (by rw [hm]; omega) h2
    rw [this, hm]
  · intro hi
    unfold Acc at h
    rw [V_end (by omega), if_pos rfl] at h
    injection h with _ h
    exact h.symm

theorem sel_run {s : ByteArray} {M : Int} : ∀ (d : Nat) {m : Int} {k : Cn} {p : Nat}, inSel m → Acc s m k p M → (∀ j, p ≤ j → j < p + d → bt s j ≠ 123) → ∃ m' k', inSel m' ∧ Acc s m' k' (p + d) M := by
  intro d
  induction d with
  | zero => intro m k p hm h _; exact ⟨m, k, hm, h⟩
  | succ d ih =>
    intro m k p hm h hn
    have hl := h.lt (by unfold inSel at hm; omega)
    obtain ⟨m', k', h1, h2⟩ := ih (sel_stay hm (hn p (Nat.le_refl _) (by omega)) (h.ok hl)) (h.step hl) (fun j j1 j2 => hn j (by omega) (by omega))
    exact ⟨m', k', h1, by rw [show p + (d + 1) = p + 1 + d from by omega]; exact h2⟩

theorem layer_fun {s : ByteArray} {i a b : Nat} (h : LayerAt s i a) (h' : LayerAt s i b) : a = b := by
  rcases h with ⟨h1, h2⟩ | ⟨h1, h2⟩ <;> rcases h' with ⟨h3, h4⟩ | ⟨h3, h4⟩ <;> omega

theorem link_rule {s : ByteArray} {i j l : Nat} {k : Cn} {M : Int} {ru : PRu} {ss' : List (List (Nat × Nat))} (ha : Acc s 0 k i M) (hi : i < s.size) (hjs : j ≤ s.size) (hls : l ≤ s.size) (h : RuleAt s i j ru) (h' : RRuleAt s i l ss') :
    j = l ∧ SS s ss' ru.ss ∧ ∃ k' M', Acc s 0 k' l M' := by
  obtain ⟨p, q, a1, a2, a3, a4, a5, a6, _⟩ := h
  obtain ⟨ly, ss, ds⟩ := ru
  replace a2 : SelsAt s p q ss := a2
  obtain ⟨p', q', b1, b2, b3, b4, b5, b6, b7⟩ := h'
  obtain rfl := layer_fun a1 b1
  have hqq : q = q' := by
    by_cases x : q' < q
    · have : p ≤ q' := by
        obtain ⟨pre, l', segs, _, e2, e3, e4, _⟩ := b2
        have := rselspre_le e2
        omega
      exact absurd b3 (sels_no123 a2 q' this x)
    · by_cases y : q < q'
      · exact absurd a4 (b4 q (by omega) y)
      · omega
  subst hqq
  obtain ⟨pre, x, cs, e1, e2, e3, e4, _⟩ := a2
  subst e1
  refine (fun (hjl : j = l ∧ ∃ k' M', Acc s 0 k' l M') => ⟨hjl.1, link_sels e3 e4 (by omega) e2 b2, hjl.2⟩) ?_
  -- the run from the rule's beginning to the brace
  have h18 : Acc s 18 ⟨k.nr + 1, 1, noteIf (decide (k.nr = 20)) k.mn i⟩ i M := by unfold Acc at ha ⊢; rw [← ha, V_rule hi]
  have h2 : ∃ k2, Acc s 2 k2 p M := by
    rcases a1 with ⟨c1, c2⟩ | ⟨c1, c2⟩
    · subst c2
      have hl := h18.lt (by omega)
      have t1 := h18.step hl
      rw [show nxt 18 (bt s i) = 1 from by simp [nxt, c1]] at t1
      have hl1 := t1.lt (by omega)
      have t2 := t1.step hl1
      have ho := t1.ok hl1
      have hd : isD (bt s (i + 1)) = true := by
        cases hd : isD (bt s (i + 1)) with
        | true => rfl
        | false => exfalso; apply ho; simp [nxt, wh, hd]
      rw [show nxt 1 (bt s (i + 1)) = 2 from by simp [nxt, wh, hd]] at t2
      exact ⟨_, t2⟩
    · subst c2
      refine ⟨⟨k.nr + 1, 1, noteIf (decide (k.nr = 20)) k.mn p⟩, ?_⟩
      unfold Acc at h18 ⊢
      rw [← h18]
      exact ((layer_no (s := s) (i := p) (by omega)).1 _ 1 _).symm
  obtain ⟨k2, h2⟩ := h2
  obtain ⟨m3, k3, i3, h3⟩ := sel_run (q - p) (Or.inl rfl) h2 (fun x x1 x2 => b4 x x1 (by omega))
  rw [show p + (q - p) = q from by omega] at h3
  have hq := h3.lt (by unfold inSel at i3; omega)
  obtain rfl := sel_mark i3 (Or.inr (Or.inr b3)) (h3.ok hq)
  obtain ⟨M1, g3⟩ := h3.any ⟨20, 0, -1⟩
  have g9 := g3.step hq
  rw [b3, show nxt 3 123 = 9 from by decide, show cnt 3 123 q ⟨20, 0, -1⟩ = ⟨20, 0, -1⟩ from by simp [cnt, isS]] at g9
  obtain ⟨m4, i4, h4, _, _⟩ := decl_run g9 (fun x x1 x2 => b7 x (by omega) x2) (by omega) (l - 1 - (q + 1)) (by omega)
  rw [show q + 1 + (l - 1 - (q + 1)) = l - 1 from by omega] at h4
  have hl1 : l - 1 < s.size := by omega
  have h5 := h4.step hl1
  rw [(decl_next i4 (h4.ok hl1)).1 b6, decl_cnt i4, show l - 1 + 1 = l from by omega] at h5
  have hj : Acc s 0 ⟨20, 0, -1⟩ j M1 := by unfold Acc at g3 ⊢; rw [← g3, a6]
  refine ⟨?_, _, _, h5⟩
  have p1 := acc_place h5
  have p2 := acc_place hj
  by_cases c1 : j < s.size
  · by_cases c2 : l < s.size
    · have := p1.1 c2; have := p2.1 c1; omega
    · have := p1.2 c2; have := p2.1 c1; omega
  · by_cases c2 : l < s.size
    · have := p1.1 c2; have := p2.2 c1; omega
    · omega

theorem ruls_le {s : ByteArray} : ∀ {rs : List PRu} {i j : Nat}, RulsAt s i j rs → i ≤ j
  | [], _, _, h => by simp only [RulsAt] at h; omega
  | _ :: _, _, _, ⟨_, _, h2, h5⟩ => by have := ruls_le h5; omega
theorem rruls_le {s : ByteArray} : ∀ {rs : List (List (List (Nat × Nat)))} {i j : Nat}, RRulsAt s i j rs → i ≤ j
  | [], _, _, h => by simp only [RRulsAt] at h; omega
  | _ :: _, _, _, ⟨_, _, h2, h5⟩ => by have := rruls_le h5; omega

theorem link_sheet {s : ByteArray} : ∀ {rs : List PRu} {rs' : List (List (List (Nat × Nat)))} {i : Nat} {k : Cn} {M : Int}, Acc s 0 k i M → RulsAt s i s.size rs → RRulsAt s i s.size rs' → LRS s rs' rs
  | [], [], _, _, _, _, _, _ => trivial
  | [], _ :: _, _, _, _, _, h, ⟨_, _, h2, h3⟩ => by simp only [RulsAt] at h; have := rruls_le h3; omega
  | _ :: _, [], _, _, _, _, ⟨_, _, h2, h3⟩, h => by simp only [RRulsAt] at h; have := ruls_le h3; omega
  | _ :: _, _ :: _, i, k, M, ha, ⟨j, a1, a2, a3⟩, ⟨l, b1, b2, b3⟩ => by
    have hj := ruls_le a3
    have hl := rruls_le b3
    obtain ⟨rfl, c2, k', M', c3⟩ := link_rule ha (by omega) hj hl a1 b1
    exact ⟨c2, link_sheet c3 a3 b3⟩

end Go.Proofs.YtblfffbmklkhmaaGreat
