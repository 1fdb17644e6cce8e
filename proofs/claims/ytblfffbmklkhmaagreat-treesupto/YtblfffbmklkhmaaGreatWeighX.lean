/- Own work. -/
import Derived.Test.YtblfffbmklkhmaaGreatWeigh
import Derived.Test.YtblfffbmklkhmaaGreatRefIn
import Derived.Test.YtblfffbmklkhmaaGreatRead
import Derived.Test.YtblfffbmklkhmaaGreatProgTN
namespace Go.Proofs.YtblfffbmklkhmaaGreat
open Go.RowKit

theorem comps_at {w : World} {base : Nat} : ∀ {xs : List Value} {cs : List PCp} {i : Nat}, Comps w base xs cs → (h : i < cs.length) → ∃ (a : Option Addr) (c : Nat) (ps : List Value), xs[i * 3]? = some (.int .u8 cs[i].sg) ∧ xs[i * 3 + 1]? = some (.int .u8 cs[i].ty) ∧ xs[i * 3 + 2]? = some (.slice a cs[i].ps.length c) ∧ w.ownsRow base 192 5 (.slice a cs[i].ps.length c) cs[i].ps.length ps ∧ Kinds ps cs[i].ps
  | _, _ :: cs, 0, ⟨a, c, ps, ys, h1, h2, h3, _⟩, _ => by subst h1; exact ⟨a, c, ps, rfl, rfl, rfl, h2, h3⟩
  | _, _ :: cs, i + 1, ⟨a, c, ps, ys, h1, h2, h3, h4⟩, h => by
    obtain ⟨a', c', ps', e1, e2, e3, e4, e5⟩ := comps_at (i := i) h4 (by simpa using h)
    subst h1
    rw [show (i + 1) * 3 = i * 3 + 3 from by omega]
    exact ⟨a', c', ps', by simpa using e1, by simpa using e2, by simpa using e3, by simpa using e4, by simpa using e5⟩
theorem sels_at {w : World} {base : Nat} : ∀ {xs : List Value} {ss : List (List PCp)} {i : Nat}, Sels w base xs ss → (h : i < ss.length) → ∃ (a : Option Addr) (c : Nat) (ps : List Value), xs[i]? = some (.slice a ss[i].length c) ∧ w.ownsRow base 190 3 (.slice a ss[i].length c) ss[i].length ps ∧ Comps w base ps ss[i]
  | _, cs :: ss, 0, ⟨a, c, ps, ys, h1, h2, h3, _⟩, _ => by subst h1; exact ⟨a, c, ps, rfl, h2, h3⟩
  | _, cs :: ss, i + 1, ⟨a, c, ps, ys, h1, h2, h3, h4⟩, h => by
    obtain ⟨a', c', ps', e1, e2, e3⟩ := sels_at (i := i) h4 (by simpa using h)
    subst h1
    exact ⟨a', c', ps', by simpa using e1, by simpa using e2, by simpa using e3⟩
theorem ruls_at {w : World} {base : Nat} : ∀ {xs : List Value} {rs : List PRu} {i : Nat}, Ruls w base xs rs → (h : i < rs.length) → ∃ (a : Option Addr) (c : Nat) (ps : List Value), xs[i * 3 + 1]? = some (.slice a rs[i].ss.length c) ∧ w.ownsRow base 141 1 (.slice a rs[i].ss.length c) rs[i].ss.length ps ∧ Sels w base ps rs[i].ss
  | _, ss :: rs, 0, ⟨a, c, a', c', ps, qs, ys, h1, h2, h3, _⟩, _ => by subst h1; exact ⟨a, c, ps, rfl, h2, h3⟩
  | _, ss :: rs, i + 1, ⟨a, c, a', c', ps, qs, ys, h1, h2, h3, h5, h4⟩, h => by
    obtain ⟨a1, c1, ps1, e1, e2, e3⟩ := ruls_at (i := i) h4 (by simpa using h)
    subst h1
    rw [show (i + 1) * 3 + 1 = i * 3 + 1 + 3 from by omega]
    exact ⟨a1, c1, ps1, by simpa using e1, by simpa using e2, by simpa using e3⟩
/-- A rule's layer and declarations. -/
theorem ruls_rest {w : World} {base : Nat} : ∀ {xs : List Value} {rs : List PRu} {i : Nat}, Ruls w base xs rs → (h : i < rs.length) → xs[i * 3]? = some (.int .i64 rs[i].ly) ∧ ∃ (a : Option Addr) (c : Nat) (qs : List Value), xs[i * 3 + 2]? = some (.slice a rs[i].ds.length c) ∧ w.ownsRow base 253 5 (.slice a rs[i].ds.length c) rs[i].ds.length qs ∧ Decs qs rs[i].ds
  | _, ss :: rs, 0, ⟨a, c, a', c', ps, qs, ys, h1, h2, h3, h5, _⟩, _ => by subst h1; exact ⟨rfl, a', c', qs, rfl, h5.1, h5.2⟩
  | _, ss :: rs, i + 1, ⟨a, c, a', c', ps, qs, ys, h1, h2, h3, h5, h4⟩, h => by
    obtain ⟨e0, a1, c1, ps1, e1, e2, e3⟩ := ruls_rest (i := i) h4 (by simpa using h)
    subst h1
    rw [show (i + 1) * 3 = i * 3 + 3 from by omega]
    exact ⟨by simpa using e0, a1, c1, ps1, by simpa using e1, by simpa using e2, by simpa using e3⟩
theorem decs_at : ∀ {xs : List Value} {ks : List PDc} {i : Nat}, Decs xs ks → (h : i < ks.length) → xs[i * 5]? = some (.int .u8 ks[i].pr) ∧ xs[i * 5 + 1]? = some (.int .i64 ks[i].kd) ∧ xs[i * 5 + 2]? = some (.int .i64 ks[i].nu) ∧ xs[i * 5 + 3]? = some (.int .u8 ks[i].va) ∧ xs[i * 5 + 4]? = some (.bool ks[i].im)
  | _, k :: ks, 0, ⟨ys, h1, _⟩, _ => by subst h1; exact ⟨rfl, rfl, rfl, rfl, rfl⟩
  | _, k :: ks, i + 1, ⟨ys, h1, h2⟩, h => by
    obtain ⟨e1, e2, e3, e4, e5⟩ := decs_at (i := i) h2 (by simpa using h)
    subst h1
    rw [show (i + 1) * 5 = i * 5 + 5 from by omega]
    exact ⟨by simpa using e1, by simpa using e2, by simpa using e3, by simpa using e4, by simpa using e5⟩

set_option maxRecDepth 100000 in
set_option maxHeartbeats 2000000 in
theorem selw_any (w : World) (base : Nat) (a : Option Addr) (c : Nat) (cs : List PCp) (xs : List Value) (ho : w.ownsRow base 190 3 (.slice a cs.length c) cs.length xs) (hk : Comps w base xs cs) (hs : Short cs) :
    Calls Tryz.prog 88 #[.agg #[.slice a cs.length c]] w fun e w' => WOut w (cws cs) e w' := by
  have HO : Hid (w.ownsRow base 190 3 (.slice a cs.length c) cs.length xs ∧ Comps w base xs cs ∧ Short cs) := ⟨ho, hk, hs⟩
  have hl := hs.1
  clear ho hk hs
  go_enter Tryz.func88, Tryz.ntmps88
  go_wp2_with fail
  go_loopg [3, 9] cs.length (fun gk sv iv wr => ∃ i : Nat, iv = .int .i64 i ∧ i ≤ cs.length ∧ cs.length - i ≤ gk ∧ sv = .int .i64 ((cws (cs.take i) : Nat) : Int) ∧ Below w.heap.size w wr)
  case atStart => exact ⟨0, rfl, Nat.zero_le _, by omega, by simp [cws], (Below.refl _ _).alloc (Nat.le_refl _) _⟩
  case round =>
    obtain ⟨i, rfl, hi, hgk, rfl, hB⟩ := hrel
    by_cases hlt : i < cs.length
    · have hd : decide ((i : Int) < (cs.length : Int)) = true := by simp; omega
      obtain ⟨g, hg, hgl, hc⟩ := own_cells HO.out.1 (by omega)
      subst hg
      obtain ⟨a', c', ps, e0, e1, e2, e3, e4⟩ := comps_at HO.out.2.1 hlt
      have c0 := (hB.cell (p := ⟨g, i * 3, none⟩) hgl).trans (hc _ _ e0)
      have c1 := (hB.cell (p := ⟨g, i * 3 + 1, none⟩) hgl).trans (hc _ _ e1)
      have c2 := (hB.cell (p := ⟨g, i * 3 + 2, none⟩) hgl).trans (hc _ _ e2)
      have HP : Hid (cws (cs.take (i + 1)) = cws (cs.take i) + cw cs[i].ty cs[i].ps) := cws_take hlt
      have hb1 := cws_take_le HO.out.2.2 i
      have hshort := HO.out.2.2.2 cs[i] (List.getElem_mem hlt)
      have hb2 := cw_le cs[i].ty cs[i].ps
      have HE : Hid (w.ownsRow base 192 5 (.slice a' cs[i].ps.length c') cs[i].ps.length ps ∧ Kinds ps cs[i].ps) := ⟨e3, e4⟩
      clear e0 e1 e2 e3 e4 hc
      generalize cs[i].sg = sg at c0
      generalize cs[i].ty = ty at c1 HP hb2
      generalize cs[i].ps = ks at c2 HP hb2 HE hshort
      generalize cws (cs.take i) = p0 at HP hb1
      go_wp2_with fail
      have hk139 : Keeps w (wr.alloc (.cells #[.int .u8 sg, .int .u8 ty, .slice a' ks.length c'] 190)) base 192 := (keeps_below hB _ _).trans (keeps_alloc _ _ _ _)
      refine (compw_any _ base sg ty a' c' ks ps (by exact hk139.owns HE.out.1) HE.out.2 hshort).mono ?_
      rintro e w2 ⟨rfl, hb⟩
      generalize cw ty ks = p1 at HP hb2
      have hB2 : Below w.heap.size w w2 := (hB.alloc hB.size _).trans (hb.mono (by have := hB.size; simp; omega))
      clear c0 c1 c2 hb hk139
      go_wp2
      go_roundg (cs.length - (i + 1))
      case measure => omega
      case rel => exact ⟨i + 1, by go_num, by omega, Nat.le_refl _, by rw [HP.out]; congr 1, hB2⟩
    · have hd : decide ((i : Int) < (cs.length : Int)) = false := by simp; omega
      obtain rfl : i = cs.length := by omega
      go_wp2
      go_ret
      refine ⟨?_, hB⟩
      rw [List.take_length]
      rfl

end Go.Proofs.YtblfffbmklkhmaaGreat

namespace Go.Proofs.YtblfffbmklkhmaaGreat
open Go.RowKit

/-! What the texts of compounds, selectors, rules hold. -/
theorem good_plain {s : ByteArray} {i j : Nat} {kd : PPt} (h' : goodPart s i kd j) : Plain s i j := by
  have h := h'.2
  split at h
  · rename_i h33
    split at h
    · rename_i hl
      obtain ⟨_, rfl⟩ := h
      exact (Plain.one (plain_of (by omega))).cat (Plain.one (plain_L hl))
    · exact (Plain.one (plain_of (by omega))).cat h.2.2.2.2.2
  · exact h.2.2.2.2.2
theorem parts_plain {s : ByteArray} : ∀ {ks : List PPt} {i j : Nat}, PartsAt s i j ks → Plain s i j
  | [], _, _, h => by simp only [PartsAt] at h; subst h; intro k k1 k2; omega
  | _ :: _, _, _, ⟨_, _, h1, h2⟩ => (good_plain h1).cat (parts_plain h2)
theorem comp_plain {s : ByteArray} {i j ty : Nat} {ks : List PPt} (h : CompAt s i j ty ks) : Plain s i j := by
  rcases h with ⟨h1, _, h2⟩ | ⟨_, h1, _, h2⟩ | ⟨_, _, _, h2, _⟩
  · exact (Plain.one (plain_L h1)).cat (parts_plain h2)
  · exact (Plain.one (plain_of (by omega))).cat (parts_plain h2)
  · exact parts_plain h2
theorem plain_S {c : Nat} (h : plain c = true) : isS c = false := by simp only [plain, decide_eq_true_eq] at h; exact h.1
theorem plain_n {c : Nat} (h : plain c = true) : c ≠ 44 ∧ c ≠ 123 := by simp only [plain, decide_eq_true_eq] at h; exact h.2
theorem S_n {c : Nat} (h : isS c = true) : c ≠ 44 ∧ c ≠ 123 := by simp only [isS, decide_eq_true_eq] at h; omega

/-- Neither a comma nor a brace. -/
def NoCB (s : ByteArray) (i j : Nat) : Prop := ∀ k, i ≤ k → k < j → bt s k ≠ 44 ∧ bt s k ≠ 123
theorem Plain.ncb {s : ByteArray} {i j : Nat} (h : Plain s i j) : NoCB s i j := fun k k1 k2 => plain_n (h k k1 k2)
theorem selpre_ncb {s : ByteArray} : ∀ {cs : List PCp} {i0 i j : Nat}, SelPre s i0 i j cs → NoCB s i j
  | [], _, _, _, h => by simp only [SelPre] at h; subst h; intro k k1 k2; omega
  | _ :: _, _, i, j, ⟨l, h1, h2, _, h4, h5, _⟩ => fun k k1 k2 => by
    by_cases e : k < l
    · exact (comp_plain h1).ncb k k1 e
    · by_cases e2 : k = l
      · rw [e2]; exact S_n h4
      · exact selpre_ncb h5 k (by omega) k2
theorem sel_ncb {s : ByteArray} {i j : Nat} {cs : List PCp} (h : SelAt s i j cs) : NoCB s i j := by
  obtain ⟨pre, l, ty, ks, _, h2, h3, _⟩ := h
  intro k k1 k2
  by_cases e : k < l
  · exact selpre_ncb h2 k k1 e
  · exact (comp_plain h3).ncb k (by omega) k2
theorem selspre_no123 {s : ByteArray} : ∀ {ss : List (List PCp)} {i j : Nat}, SelsPre s i j ss → ∀ k, i ≤ k → k < j → bt s k ≠ 123
  | [], _, _, h => by simp only [SelsPre] at h; subst h; intro k k1 k2; omega
  | _ :: _, i, j, ⟨l, h1, h2, h3, h4⟩ => fun k k1 k2 => by
    by_cases e : k < l
    · exact (sel_ncb h1 k k1 e).2
    · by_cases e2 : k = l
      · rw [e2, h3]; omega
      · exact selspre_no123 h4 k (by omega) k2
theorem sels_no123 {s : ByteArray} {i j : Nat} {ss : List (List PCp)} (h : SelsAt s i j ss) : ∀ k, i ≤ k → k < j → bt s k ≠ 123 := by
  obtain ⟨pre, l, cs, _, h2, h3, _, _⟩ := h
  intro k k1 k2
  by_cases e : k < l
  · exact selspre_no123 h2 k k1 e
  · exact (sel_ncb h3 k (by omega) k2).2

/-! Piece by piece. -/
def CS (s : ByteArray) : List (Nat × Nat) → List PCp → Prop
  | [], [] => True
  | (p, q) :: r, x :: cs => (CompAt s p q x.ty x.ps ∧ p < q ∧ q ≤ s.size) ∧ CS s r cs
  | _, _ => False
def SS (s : ByteArray) : List (List (Nat × Nat)) → List (List PCp) → Prop
  | [], [] => True
  | a :: r, b :: cs => CS s a b ∧ SS s r cs
  | _, _ => False
def LRS (s : ByteArray) : List (List (List (Nat × Nat))) → List PRu → Prop
  | [], [] => True
  | a :: r, b :: cs => SS s a b.ss ∧ LRS s r cs
  | _, _ => False

theorem segs_le {s : ByteArray} : ∀ {segs : List (Nat × Nat)} {i j : Nat}, Segs s i j segs → i ≤ j
  | [], _, _, h => by simp only [Segs] at h; omega
  | (_, _) :: _, _, _, ⟨h1, _, h3, _, h5⟩ => by have := segs_le h5; omega

theorem link_sel {s : ByteArray} {l j ty : Nat} {ks : List PPt} {sg : Int} {i0 : Nat} (hc : CompAt s l j ty ks) (hlj : l < j) (hjs : j ≤ s.size) : ∀ {pre : List PCp} {i : Nat} {segs : List (Nat × Nat)}, SelPre s i0 i l pre → SegsAt s i j segs → CS s segs (pre ++ [⟨sg, ty, ks⟩])
  | [], i, segs, h, ⟨pre', p, e1, e2, e3, e4⟩ => by
    simp only [SelPre] at h
    subst h e1
    cases pre' with
    | nil => simp only [Segs] at e2; subst e2; exact ⟨⟨hc, hlj, hjs⟩, trivial⟩
    | cons x r =>
      obtain ⟨p', q'⟩ := x
      obtain ⟨rfl, f2, f3, f4, f5⟩ := e2
      have := segs_le f5
      have := plain_S (comp_plain hc q' f3 (by omega))
      rw [f4] at this
      cases this
  | _ :: cs, i, segs, ⟨l', h1, h2, h3, h4, h5, _⟩, ⟨pre', p, e1, e2, e3, e4⟩ => by
    have hl := selpre_le h5
    subst e1
    cases pre' with
    | nil =>
      simp only [Segs] at e2
      subst e2
      have := e4 l' (by omega) (by omega)
      rw [h4] at this
      cases this
    | cons x r =>
      obtain ⟨p', q'⟩ := x
      obtain ⟨rfl, f2, f3, f4, f5⟩ := e2
      have hq : q' = l' := by
        by_cases a : q' < l'
        · have := plain_S (comp_plain h1 q' f3 a)
          rw [f4] at this
          cases this
        · by_cases b : l' < q'
          · have := f2 l' (by omega) b
            rw [h4] at this
            cases this
          · omega
      subst hq
      exact ⟨⟨h1, h2, by omega⟩, link_sel hc hlj hjs h5 ⟨r, p, rfl, f5, e3, e4⟩⟩

theorem link_sel' {s : ByteArray} {i j : Nat} {cs : List PCp} {segs : List (Nat × Nat)} (h : SelAt s i j cs) (h' : SegsAt s i j segs) (hjs : j ≤ s.size) : CS s segs cs := by
  obtain ⟨pre, l, ty, ks, rfl, h2, h3, h4, _, _⟩ := h
  exact link_sel h3 h4 hjs h2 h'

theorem rselspre_le {s : ByteArray} : ∀ {ss : List (List (Nat × Nat))} {i j : Nat}, RSelsPre s i j ss → i ≤ j
  | [], _, _, h => by simp only [RSelsPre] at h; omega
  | _ :: _, _, _, ⟨_, _, h2, _, _, h5⟩ => by have := rselspre_le h5; omega

theorem link_sels {s : ByteArray} {l j : Nat} {cs : List PCp} (hc : SelAt s l j cs) (hlj : l < j) (hjs : j ≤ s.size) : ∀ {pre : List (List PCp)} {i : Nat} {ss : List (List (Nat × Nat))}, SelsPre s i l pre → RSelsAt s i j ss → SS s ss (pre ++ [cs])
  | [], i, ss, h, ⟨pre', p, segs, e1, e2, e3, e4, e5⟩ => by
    simp only [SelsPre] at h
    subst h e1
    cases pre' with
    | nil => simp only [RSelsPre] at e2; subst e2; exact ⟨link_sel' hc e3 hjs, trivial⟩
    | cons x r =>
      obtain ⟨l', f1, f2, f3, f4, f5⟩ := e2
      have := rselspre_le f5
      exact absurd f3 (sel_ncb hc l' f2 (by omega)).1
  | c' :: cs', i, ss, ⟨l', h1, h2, h3, h4⟩, ⟨pre', p, segs, e1, e2, e3, e4, e5⟩ => by
    have hl := selspre_le h4
    subst e1
    cases pre' with
    | nil =>
      simp only [RSelsPre] at e2
      subst e2
      exact absurd h3 (e5 l' (by omega) (by omega))
    | cons x r =>
      obtain ⟨q', f1, f2, f3, f4, f5⟩ := e2
      have hq : q' = l' := by
        by_cases a : q' < l'
        · exact absurd f3 (sel_ncb h1 q' f2 a).1
        · by_cases b : l' < q'
          · exact absurd h3 (f4 l' (by omega) b)
          · omega
      subst hq
      exact ⟨link_sel' h1 f1 (by omega), link_sels hc hlj hjs h4 ⟨r, p, segs, rfl, f5, e3, e4, e5⟩⟩

/-! Where the run stands. -/
theorem V_indep (s : ByteArray) : ∀ (f : Nat) (m : Int) (k k' : Cn) (i : Nat), (Vf s f m k i).1 = (Vf s f m k' i).1 := by
  intro f
  induction f with
  | zero => intro m k k' i; simp only [Vf]; split <;> rfl
  | succ f ih =>
    intro m k k' i
    simp only [Vf]
    split
    · rfl
    · exact ih _ _ _ _
theorem Acc.any {s : ByteArray} {m : Int} {k : Cn} {i : Nat} {M : Int} (h : Acc s m k i M) (k' : Cn) : ∃ M', Acc s m k' i M' := by
  refine ⟨(V s m k' i).2, Prod.ext ?_ rfl⟩
  show (V s m k' i).1 = -1
  unfold Acc at h
  have := V_indep s (s.size - i) m k' k i
  unfold V at h ⊢
  rw [this, h]
theorem cnt_keep {m : Int} {c i : Nat} {k : Cn} (h : k.mn ≠ -1) : (cnt m c i k).mn = k.mn := by
  unfold cnt noteIf note
  split
  · simp only [ite_self]
  · split
    · rfl
    · split
      · split
        · simp only [ite_self]
        · split <;> rfl
      · rfl
theorem V_keep (s : ByteArray) : ∀ (f : Nat) (m : Int) (k : Cn) (i : Nat) (M : Int), k.mn ≠ -1 → Vf s f m k i = (-1, M) → M = k.mn := by
  intro f
  induction f with
  | zero =>
    intro m k i M hk h
    simp only [Vf] at h
    split at h
    · injection h with _ h; exact h.symm
    · injection h with h _; omega
  | succ f ih =>
    intro m k i M hk h
    simp only [Vf] at h
    split at h
    · injection h with h _; omega
    · have e := cnt_keep (m := m) (c := bt s i) (i := i) hk
      have := ih _ _ _ _ (by rw [e]; exact hk) h
      rw [this, e]
/-- The count of rules tells where a rule begins. -/
theorem acc_place {s : ByteArray} {nc i : Nat} {M : Int} (h : Acc s 0 ⟨20, nc, -1⟩ i M) : (i < s.size → M = i) ∧ (¬ i < s.size → M = -1) := by
  constructor
  · intro hi
    have h2 := h.step hi
    have hm : (cnt 0 (bt s i) i ⟨20, nc, -1⟩).mn = i := by simp [cnt, noteIf, note]
    unfold Acc V at h2
    have := V_keep s _ _ _ _ _ (by rw [hm]; omega) h2
    rw [this, hm]
  · intro hi
    unfold Acc at h
    rw [V_end (by omega), if_pos rfl] at h
    injection h with _ h
    exact h.symm

theorem sel_run {s : ByteArray} {M : Int} : ∀ (d : Nat) {m : Int} {k : Cn} {p : Nat}, inSel m → Acc s m k p M → (∀ j, p ≤ j → j < p + d → bt s j ≠ 123) → ∃ m' k', inSel m' ∧ Acc s m' k' (p + d) M := by
  intro d
  induction d with
  | zero => intro m k p hm h _; exact ⟨m, k, hm, h⟩
  | succ d ih =>
    intro m k p hm h hn
    have hl := h.lt (by unfold inSel at hm; omega)
    obtain ⟨m', k', h1, h2⟩ := ih (sel_stay hm (hn p (Nat.le_refl _) (by omega)) (h.ok hl)) (h.step hl) (fun j j1 j2 => hn j (by omega) (by omega))
    exact ⟨m', k', h1, by rw [show p + (d + 1) = p + 1 + d from by omega]; exact h2⟩

theorem layer_fun {s : ByteArray} {i a b : Nat} (h : LayerAt s i a) (h' : LayerAt s i b) : a = b := by
  rcases h with ⟨h1, h2⟩ | ⟨h1, h2⟩ <;> rcases h' with ⟨h3, h4⟩ | ⟨h3, h4⟩ <;> omega

theorem link_rule {s : ByteArray} {i j l : Nat} {k : Cn} {M : Int} {ru : PRu} {ss' : List (List (Nat × Nat))} (ha : Acc s 0 k i M) (hi : i < s.size) (hjs : j ≤ s.size) (hls : l ≤ s.size) (h : RuleAt s i j ru) (h' : RRuleAt s i l ss') :
    j = l ∧ SS s ss' ru.ss ∧ ∃ k' M', Acc s 0 k' l M' := by
  obtain ⟨p, q, a1, a2, a3, a4, a5, a6, _⟩ := h
  obtain ⟨ly, ss, ds⟩ := ru
  replace a2 : SelsAt s p q ss := a2
  obtain ⟨p', q', b1, b2, b3, b4, b5, b6, b7⟩ := h'
  obtain rfl := layer_fun a1 b1
  have hqq : q = q' := by
    by_cases x : q' < q
    · have : p ≤ q' := by
        obtain ⟨pre, l', segs, _, e2, e3, e4, _⟩ := b2
        have := rselspre_le e2
        omega
      exact absurd b3 (sels_no123 a2 q' this x)
    · by_cases y : q < q'
      · exact absurd a4 (b4 q (by omega) y)
      · omega
  subst hqq
  obtain ⟨pre, x, cs, e1, e2, e3, e4, _⟩ := a2
  subst e1
  refine (fun (hjl : j = l ∧ ∃ k' M', Acc s 0 k' l M') => ⟨hjl.1, link_sels e3 e4 (by omega) e2 b2, hjl.2⟩) ?_
  -- the run from the rule's beginning to the brace
  have h18 : Acc s 18 ⟨k.nr + 1, 1, noteIf (decide (k.nr = 20)) k.mn i⟩ i M := by unfold Acc at ha ⊢; rw [← ha, V_rule hi]
  have h2 : ∃ k2, Acc s 2 k2 p M := by
    rcases a1 with ⟨c1, c2⟩ | ⟨c1, c2⟩
    · subst c2
      have hl := h18.lt (by omega)
      have t1 := h18.step hl
      rw [show nxt 18 (bt s i) = 1 from by simp [nxt, c1]] at t1
      have hl1 := t1.lt (by omega)
      have t2 := t1.step hl1
      have ho := t1.ok hl1
      have hd : isD (bt s (i + 1)) = true := by
        cases hd : isD (bt s (i + 1)) with
        | true => rfl
        | false => exfalso; apply ho; simp [nxt, wh, hd]
      rw [show nxt 1 (bt s (i + 1)) = 2 from by simp [nxt, wh, hd]] at t2
      exact ⟨_, t2⟩
    · subst c2
      refine ⟨⟨k.nr + 1, 1, noteIf (decide (k.nr = 20)) k.mn p⟩, ?_⟩
      unfold Acc at h18 ⊢
      rw [← h18]
      exact ((layer_no (s := s) (i := p) (by omega)).1 _ 1 _).symm
  obtain ⟨k2, h2⟩ := h2
  obtain ⟨m3, k3, i3, h3⟩ := sel_run (q - p) (Or.inl rfl) h2 (fun x x1 x2 => b4 x x1 (by omega))
  rw [show p + (q - p) = q from by omega] at h3
  have hq := h3.lt (by unfold inSel at i3; omega)
  obtain rfl := sel_mark i3 (Or.inr (Or.inr b3)) (h3.ok hq)
  obtain ⟨M1, g3⟩ := h3.any ⟨20, 0, -1⟩
  have g9 := g3.step hq
  rw [b3, show nxt 3 123 = 9 from by decide, show cnt 3 123 q ⟨20, 0, -1⟩ = ⟨20, 0, -1⟩ from by simp [cnt, isS]] at g9
  obtain ⟨m4, i4, h4, _, _⟩ := decl_run g9 (fun x x1 x2 => b7 x (by omega) x2) (by omega) (l - 1 - (q + 1)) (by omega)
  rw [show q + 1 + (l - 1 - (q + 1)) = l - 1 from by omega] at h4
  have hl1 : l - 1 < s.size := by omega
  have h5 := h4.step hl1
  rw [(decl_next i4 (h4.ok hl1)).1 b6, decl_cnt i4, show l - 1 + 1 = l from by omega] at h5
  have hj : Acc s 0 ⟨20, 0, -1⟩ j M1 := by unfold Acc at g3 ⊢; rw [← g3, a6]
  refine ⟨?_, _, _, h5⟩
  have p1 := acc_place h5
  have p2 := acc_place hj
  by_cases c1 : j < s.size
  · by_cases c2 : l < s.size
    · have := p1.1 c2; have := p2.1 c1; omega
    · have := p1.2 c2; have := p2.1 c1; omega
  · by_cases c2 : l < s.size
    · have := p1.1 c2; have := p2.2 c1; omega
    · omega

theorem ruls_le {s : ByteArray} : ∀ {rs : List PRu} {i j : Nat}, RulsAt s i j rs → i ≤ j
  | [], _, _, h => by simp only [RulsAt] at h; omega
  | _ :: _, _, _, ⟨_, _, h2, h5⟩ => by have := ruls_le h5; omega
theorem rruls_le {s : ByteArray} : ∀ {rs : List (List (List (Nat × Nat)))} {i j : Nat}, RRulsAt s i j rs → i ≤ j
  | [], _, _, h => by simp only [RRulsAt] at h; omega
  | _ :: _, _, _, ⟨_, _, h2, h5⟩ => by have := rruls_le h5; omega

theorem link_sheet {s : ByteArray} : ∀ {rs : List PRu} {rs' : List (List (List (Nat × Nat)))} {i : Nat} {k : Cn} {M : Int}, Acc s 0 k i M → RulsAt s i s.size rs → RRulsAt s i s.size rs' → LRS s rs' rs
  | [], [], _, _, _, _, _, _ => trivial
  | [], _ :: _, _, _, _, _, h, ⟨_, _, h2, h3⟩ => by simp only [RulsAt] at h; have := rruls_le h3; omega
  | _ :: _, [], _, _, _, _, ⟨_, _, h2, h3⟩, h => by simp only [RRulsAt] at h; have := ruls_le h3; omega
  | _ :: _, _ :: _, i, k, M, ha, ⟨j, a1, a2, a3⟩, ⟨l, b1, b2, b3⟩ => by
    have hj := ruls_le a3
    have hl := rruls_le b3
    obtain ⟨rfl, c2, k', M', c3⟩ := link_rule ha (by omega) hj hl a1 b1
    exact ⟨c2, link_sheet c3 a3 b3⟩

end Go.Proofs.YtblfffbmklkhmaaGreat

namespace Go.Proofs.YtblfffbmklkhmaaGreat
open Go.RowKit

theorem parts_len {s : ByteArray} : ∀ {ks : List PPt} {i j : Nat}, PartsAt s i j ks → ks.length ≤ j - i
  | [], _, _, _ => by simp
  | _ :: _, _, _, ⟨_, _, h1, h2⟩ => by
    have := good_lt h1
    have := parts_len h2
    have := (parts_le h2).1
    simp only [List.length_cons]
    omega
theorem comp_len {s : ByteArray} {i j ty : Nat} {ks : List PPt} (h : CompAt s i j ty ks) : ks.length ≤ j - i := by
  rcases h with ⟨_, _, h2⟩ | ⟨_, _, _, h2⟩ | ⟨_, _, _, h2, _⟩
  · have := parts_len h2; omega
  · have := parts_len h2; omega
  · exact parts_len h2
theorem selpre_short {s : ByteArray} : ∀ {cs : List PCp} {i0 i j : Nat}, SelPre s i0 i j cs → j ≤ 400 → cs.length ≤ j - i ∧ ∀ x ∈ cs, x.ps.length ≤ 400
  | [], _, _, _, _, _ => ⟨by simp, fun x hx => by cases hx⟩
  | y :: cs, _, i, j, ⟨l, h1, h2, _, _, h5, _⟩, hj => by
    obtain ⟨a, b⟩ := selpre_short h5 hj
    have hl := selpre_le h5
    have hc := comp_len h1
    refine ⟨by simp only [List.length_cons]; omega, fun x hx => ?_⟩
    rcases List.mem_cons.1 hx with rfl | hx
    · omega
    · exact b x hx
theorem sel_short {s : ByteArray} {i j : Nat} {cs : List PCp} (h : SelAt s i j cs) (hj : j ≤ 400) : Short cs := by
  obtain ⟨pre, l, ty, ks, rfl, h2, h3, h4, _⟩ := h
  obtain ⟨a, b⟩ := selpre_short h2 (by omega)
  have hc := comp_len h3
  refine ⟨by simp only [List.length_append, List.length_cons, List.length_nil]; omega, fun x hx => ?_⟩
  rcases List.mem_append.1 hx with hx | hx
  · exact b x hx
  · rcases List.mem_cons.1 hx with rfl | hx
    · show ks.length ≤ 400; omega
    · cases hx
theorem selspre_short {s : ByteArray} : ∀ {ss : List (List PCp)} {i j : Nat}, SelsPre s i j ss → j ≤ 400 → ss.length ≤ j - i ∧ ∀ cs ∈ ss, Short cs
  | [], _, _, _, _ => ⟨by simp, fun x hx => by cases hx⟩
  | cs :: ss, i, j, ⟨l, h1, h2, _, h5⟩, hj => by
    have hl := selspre_le h5
    obtain ⟨a, b⟩ := selspre_short h5 hj
    refine ⟨by simp only [List.length_cons]; omega, fun x hx => ?_⟩
    rcases List.mem_cons.1 hx with rfl | hx
    · exact sel_short h1 (by omega)
    · exact b x hx
theorem sels_short {s : ByteArray} {i j : Nat} {ss : List (List PCp)} (h : SelsAt s i j ss) (hj : j ≤ 400) : ss.length ≤ 400 ∧ ∀ cs ∈ ss, Short cs := by
  obtain ⟨pre, l, cs, rfl, h2, h3, h4, _⟩ := h
  obtain ⟨a, b⟩ := selspre_short h2 (by omega)
  refine ⟨by simp only [List.length_append, List.length_cons, List.length_nil]; omega, fun x hx => ?_⟩
  rcases List.mem_append.1 hx with hx | hx
  · exact b x hx
  · rcases List.mem_cons.1 hx with rfl | hx
    · exact sel_short h3 hj
    · cases hx
theorem ruls_short {s : ByteArray} : ∀ {rs : List PRu} {i j : Nat}, RulsAt s i j rs → j ≤ 400 → rs.length ≤ j - i ∧ ∀ r ∈ rs, r.ss.length ≤ 400 ∧ ∀ cs ∈ r.ss, Short cs
  | [], _, _, _, _ => ⟨by simp, fun x hx => by cases hx⟩
  | ss :: rs, i, j, ⟨l, h1, h2, h5⟩, hj => by
    have hl := ruls_le h5
    obtain ⟨a, b⟩ := ruls_short h5 hj
    refine ⟨by simp only [List.length_cons]; omega, fun x hx => ?_⟩
    rcases List.mem_cons.1 hx with rfl | hx
    · obtain ⟨p, q, _, a2, _, _, a5, _⟩ := h1
      exact sels_short a2 (by omega)
    · exact b x hx

/-- What Weight answers of a sheet with these selectors. -/
def wsel (ss : List (List PCp)) (c : Int) : Int × Int := if 0 ≤ c ∧ c.toNat < ss.length then (((cws (ss.getD c.toNat []) : Nat) : Int), 0) else (0, 4)
def wres (rs : List PRu) (r c : Int) : Int × Int := if 0 ≤ r ∧ r.toNat < rs.length then wsel ((rs.map PRu.ss).getD r.toNat []) c else (0, 4)
theorem wres_at {rs : List PRu} {k : Nat} (h : k < rs.length) (c : Int) : wres rs (k : Int) c = wsel rs[k].ss c := by
  unfold wres
  rw [if_pos ⟨by omega, by simpa using h⟩]
  simp [h]
theorem wsel_at {ss : List (List PCp)} {k : Nat} (h : k < ss.length) : wsel ss (k : Int) = (((cws ss[k] : Nat) : Int), 0) := by
  unfold wsel
  rw [if_pos ⟨by omega, by simpa using h⟩]
  simp [h]
theorem wres_no {rs : List PRu} {r c : Int} (h : ¬ (0 ≤ r ∧ r.toNat < rs.length)) : wres rs r c = (0, 4) := by unfold wres; rw [if_neg h]
theorem wsel_no {ss : List (List PCp)} {c : Int} (h : ¬ (0 ≤ c ∧ c.toNat < ss.length)) : wsel ss c = (0, 4) := by unfold wsel; rw [if_neg h]

def WeightPost (w : World) (s : ByteArray) (r c : Int) (e : Ending) (w' : World) : Prop :=
  ∃ x y : Int, e = .returned (.tuple #[.int .i64 x, .int .i64 y]) ∧ Below w.heap.size w w' ∧ Hid (((chk s).1 ≠ 0 → (x, y) = (0, (chk s).1)) ∧ ((chk s).1 = 0 → ∃ rs, RulsAt s 0 s.size rs ∧ (x, y) = wres rs r c))

theorem chk_small {s : ByteArray} (h : (chk s).1 = 0) : s.size ≤ 400 := by
  unfold chk at h
  by_cases h4 : 400 < s.size
  · rw [if_pos h4] at h; simp at h
  · omega

set_option maxRecDepth 100000 in
set_option maxHeartbeats 4000000 in
theorem weight_any (w : World) (s : ByteArray) (r c : Int) (hs : s.size ≤ maxLen) :
    Calls Tryz.prog 55 #[.string s, .int .i64 r, .int .i64 c] w fun e w' => WeightPost w s r c e w' := by
  go_enter Tryz.func55, Tryz.ntmps55
  go_wp2_with fail
  refine (read_any _ s hs).mono ?_
  rintro e w1 ⟨a, n, c1, rfl, hb, hcont⟩
  have HC : Hid ((chk s).1 = 0 → ∃ rs xs, n = rs.length ∧ w1.ownsRow w.heap.size 138 3 (.slice a n c1) n xs ∧ Ruls w1 w.heap.size xs rs ∧ RulsAt s 0 s.size rs) := hcont
  clear hcont
  have hz := hb.size
  by_cases h0 : (chk s).1 = 0
  · obtain ⟨rs, xs, hn, ho, hr, ht⟩ := HC.out h0
    have H0 : Hid ((chk s).1 = 0) := h0
    have HT : Hid (RulsAt s 0 s.size rs) := ht
    obtain ⟨hl1, hl2⟩ := ruls_short ht (chk_small h0)
    have hsm := chk_small h0
    have HSH : Hid (∀ r ∈ rs, r.ss.length ≤ 400 ∧ ∀ cs ∈ r.ss, Short cs) := hl2
    have HRR : Hid (w1.ownsRow w.heap.size 138 3 (.slice a rs.length c1) rs.length xs ∧ Ruls w1 w.heap.size xs rs) := by subst hn; exact ⟨ho, hr⟩
    subst hn
    rw [h0]
    generalize (chk s).2 = y2
    clear HC h0 ho hr ht hl2
    have hrl : rs.length ≤ 400 := by omega
    by_cases hr0 : r < 0
    · have hd : decide (r < 0) = true := by simpa using hr0
      have HW : Hid (wres rs r c = (0, 4)) := wres_no (by omega)
      clear hr0
      go_wp2
      go_ret2
      exact ⟨0, 4, rfl, hb.alloc hz _, fun h => absurd H0.out h, fun _ => ⟨rs, HT.out, HW.out.symm⟩⟩
    have hd : decide (r < 0) = false := by simpa using hr0
    by_cases hr1 : (rs.length : Int) ≤ r
    · have hd1 : decide ((rs.length : Int) ≤ r) = true := by simpa using hr1
      have HW : Hid (wres rs r c = (0, 4)) := wres_no (by omega)
      clear hr1
      go_wp2
      go_ret2
      exact ⟨0, 4, rfl, hb.alloc hz _, fun h => absurd H0.out h, fun _ => ⟨rs, HT.out, HW.out.symm⟩⟩
    have hd1 : decide ((rs.length : Int) ≤ r) = false := by simpa using hr1
    obtain ⟨k, rfl⟩ : ∃ k : Nat, r = k := ⟨r.toNat, by omega⟩
    have hk : k < rs.length := by omega
    obtain ⟨a2, c2, ps, e1, e2, e3⟩ := ruls_at HRR.out.2 hk
    obtain ⟨g, hg, hgl, hgc⟩ := own_cells HRR.out.1 (by omega)
    subst hg
    have q1 := hgc _ _ e1
    obtain ⟨hs1, hs2⟩ := HSH.out rs[k] (List.getElem_mem hk)
    have HK : Hid (∀ c, wres rs (k : Int) c = wsel rs[k].ss c) := wres_at hk
    have HS2 : Hid (∀ cs ∈ rs[k].ss, Short cs) := hs2
    have HE : Hid (w1.ownsRow w.heap.size 141 1 (.slice a2 rs[k].ss.length c2) rs[k].ss.length ps ∧ Sels w1 w.heap.size ps rs[k].ss) := ⟨e2, e3⟩
    clear e1 e2 e3 hgc hr0 hr1 hs2
    generalize rs[k].ss = ss at q1 HE hs1 HK HS2
    by_cases hc0 : c < 0
    · have hd2 : decide (c < 0) = true := by simpa using hc0
      have HW : Hid (wres rs (k : Int) c = (0, 4)) := by unfold Hid; rw [HK.out, wsel_no (by omega)]
      clear hc0
      go_wp2
      go_ret2
      exact ⟨0, 4, rfl, hb.alloc hz _, fun h => absurd H0.out h, fun _ => ⟨rs, HT.out, HW.out.symm⟩⟩
    have hd2 : decide (c < 0) = false := by simpa using hc0
    by_cases hc1 : (ss.length : Int) ≤ c
    · have hd3 : decide ((ss.length : Int) ≤ c) = true := by simpa using hc1
      have HW : Hid (wres rs (k : Int) c = (0, 4)) := by unfold Hid; rw [HK.out, wsel_no (by omega)]
      clear hc1
      go_wp2
      go_ret2
      exact ⟨0, 4, rfl, hb.alloc hz _, fun h => absurd H0.out h, fun _ => ⟨rs, HT.out, HW.out.symm⟩⟩
    have hd3 : decide ((ss.length : Int) ≤ c) = false := by simpa using hc1
    obtain ⟨m, rfl⟩ : ∃ m : Nat, c = m := ⟨c.toNat, by omega⟩
    have hm : m < ss.length := by omega
    obtain ⟨a3, c3, ps3, e1, e2, e3⟩ := sels_at HE.out.2 hm
    obtain ⟨g', hg', hgl', hgc'⟩ := own_cells HE.out.1 (by omega)
    subst hg'
    have q2 := hgc' _ _ e1
    have HW : Hid (wres rs (k : Int) (m : Int) = (((cws ss[m] : Nat) : Int), 0)) := by unfold Hid; rw [HK.out, wsel_at hm]
    have hsh := HS2.out ss[m] (List.getElem_mem hm)
    have HSH3 : Hid (Short ss[m]) := hsh
    have HE3 : Hid (w1.ownsRow w.heap.size 190 3 (.slice a3 ss[m].length c3) ss[m].length ps3 ∧ Comps w1 w.heap.size ps3 ss[m]) := ⟨e2, e3⟩
    clear e1 e2 e3 hgc' hc0 hc1 hsh
    generalize ss[m] = cs at q2 HW HSH3 HE3
    go_wp2_with fail
    refine (selw_any _ w.heap.size a3 c3 cs ps3 (by exact HE3.out.1.alloc _) (by exact HE3.out.2.keep (keeps_alloc _ _ _ _)) HSH3.out).mono ?_
    rintro e w2 ⟨rfl, hb2⟩
    have hB2 : Below w.heap.size w w2 := (hb.alloc hz _).trans (hb2.mono (by simp; omega))
    go_wp2_with fail
    go_ret2
    exact ⟨_, 0, rfl, hB2, fun h => absurd H0.out h, fun _ => ⟨rs, HT.out, HW.out.symm⟩⟩
  · have H0 : Hid (¬ (chk s).1 = 0) := h0
    have hne : ((chk s).1 != 0) = true := by simp [h0]
    have HX : Hid (∀ x, (chk s).1 = x → (chk s).1 = x) := fun _ h => h
    obtain ⟨x, hx⟩ : ∃ x, (chk s).1 = x := ⟨_, rfl⟩
    have HXE : Hid ((chk s).1 = x) := hx
    rw [hx] at hne ⊢
    generalize (chk s).2 = y2
    clear h0 hx HC HX
    go_wp2
    go_ret2
    exact ⟨0, x, rfl, hb.alloc hz _, fun _ => by rw [HXE.out], fun h => absurd h H0.out⟩

end Go.Proofs.YtblfffbmklkhmaaGreat

namespace Go.Proofs.YtblfffbmklkhmaaGreat
open Go.RowKit

def partLen (s : ByteArray) (i : Nat) : Nat := if bt s i = 33 then (if isL (bt s (i + 1)) = true then 2 else 1 + sl s (i + 1)) else sl s i
theorem good_fun {s : ByteArray} {i j : Nat} {p : PPt} (h : goodPart s i p j) : p = partOf s i ∧ j = i + partLen s i := by
  refine ⟨h.1, ?_⟩
  have h2 := h.2
  unfold partLen
  by_cases h33 : bt s i = 33
  · rw [if_pos h33] at h2 ⊢
    by_cases hl : isL (bt s (i + 1)) = true
    · rw [if_pos hl] at h2 ⊢
      exact h2.2
    · rw [if_neg hl] at h2 ⊢
      have := h2.2.2.2.1
      omega
  · rw [if_neg h33] at h2 ⊢
    exact h2.2.2.2.1
def partsF (s : ByteArray) : Nat → Nat → List PPt × Nat
  | 0, i => ([], i)
  | f + 1, i => if isA (bt s i) = true then (partOf s i :: (partsF s f (i + partLen s i)).1, (partsF s f (i + partLen s i)).2) else ([], i)
theorem parts_fun {s : ByteArray} : ∀ {ks : List PPt} {i j : Nat} (f : Nat), PartsAt s i j ks → isA (bt s j) = false → ks.length ≤ f → partsF s f i = (ks, j)
  | [], i, j, f, h, hA, _ => by
    simp only [PartsAt] at h
    subst h
    cases f with
    | zero => rfl
    | succ f => unfold partsF; rw [if_neg (by rw [hA]; simp)]
  | k :: ks, i, j, f, ⟨h1, l, h2, h3⟩, hA, hf => by
    cases f with
    | zero => simp at hf
    | succ f =>
      obtain ⟨rfl, rfl⟩ := good_fun h2
      unfold partsF
      rw [if_pos h1, parts_fun f h3 hA (by simpa using hf)]
def compH (s : ByteArray) (i : Nat) : Nat × Nat := if isL (bt s i) = true then (bt s i, i + 1) else if bt s i = 42 then (0, i + 1) else (0, i)
/-- Type, parts, end. -/
def compF (s : ByteArray) (f i : Nat) : Nat × List PPt × Nat := ((compH s i).1, partsF s f (compH s i).2)
theorem parts_count {s : ByteArray} : ∀ {ks : List PPt} {i j : Nat}, PartsAt s i j ks → ks.length ≤ j - i
  | [], _, _, _ => by simp
  | _ :: _, _, _, ⟨_, _, h1, h2⟩ => by
    have := good_lt h1
    have := parts_count h2
    have := (parts_le h2).1
    simp only [List.length_cons]
    omega
theorem comp_fun {s : ByteArray} {i j ty : Nat} {ks : List PPt} {f : Nat} (h : CompAt s i j ty ks) (hA : isA (bt s j) = false) (hf : j ≤ f) : compF s f i = (ty, ks, j) := by
  unfold compF compH
  rcases h with ⟨h1, h2, h3⟩ | ⟨h0, h1, h2, h3⟩ | ⟨h0, h1, h2, h3, _⟩
  · have := parts_count h3
    rw [if_pos h1, parts_fun f h3 hA (by omega), h2]
  · have := parts_count h3
    rw [if_neg (by rw [h0]; simp), if_pos h1, parts_fun f h3 hA (by omega), h2]
  · have := parts_count h3
    rw [if_neg (by rw [h0]; simp), if_neg h1, parts_fun f h3 hA (by omega), h2]
def selF (s : ByteArray) (n i0 : Nat) : Nat → Nat → List PCp × Nat
  | 0, i => ([], i)
  | f + 1, i => if isS (bt s (compF s n i).2.2) = true then (⟨sgOf s i0 i, (compF s n i).1, (compF s n i).2.1⟩ :: (selF s n i0 f ((compF s n i).2.2 + 1)).1, (selF s n i0 f ((compF s n i).2.2 + 1)).2) else ([⟨sgOf s i0 i, (compF s n i).1, (compF s n i).2.1⟩], (compF s n i).2.2)
theorem sel_fun {s : ByteArray} {n i0 l j ty : Nat} {ks : List PPt} (hc : CompAt s l j ty ks) (hA : isA (bt s j) = false) (hS : isS (bt s j) = false) (hlj : l < j) (hn : j ≤ n) : ∀ {pre : List PCp} {i : Nat} (f : Nat), SelPre s i0 i l pre → pre.length < f → selF s n i0 f i = (pre ++ [⟨sgOf s i0 l, ty, ks⟩], j)
  | [], i, f, h, hf => by
    simp only [SelPre] at h
    subst h
    cases f with
    | zero => simp at hf
    | succ f =>
      unfold selF
      rw [comp_fun hc hA hn, if_neg (by rw [hS]; simp)]
      rfl
  | x :: cs, i, f, ⟨l', h1, h2, h3, h4, h5, h6⟩, hf => by
    cases f with
    | zero => simp at hf
    | succ f =>
      have := selpre_le h5
      unfold selF
      rw [comp_fun h1 h3 (by omega : l' ≤ n), if_pos h4, sel_fun hc hA hS hlj hn f h5 (by simpa using hf)]
      obtain ⟨sg, tx, px⟩ := x
      replace h6 : sg = sgOf s i0 i := h6
      rw [h6]
      rfl
theorem selpre_count {s : ByteArray} : ∀ {cs : List PCp} {i0 i j : Nat}, SelPre s i0 i j cs → cs.length ≤ j - i
  | [], _, _, _, _ => by simp
  | _ :: _, _, _, _, ⟨l, _, h2, _, _, h5, _⟩ => by
    have := selpre_count h5
    have := selpre_le h5
    simp only [List.length_cons]
    omega
theorem selat_fun {s : ByteArray} {i j n : Nat} {cs : List PCp} (h : SelAt s i j cs) (hn : j ≤ n) : selF s n i n i = (cs, j) := by
  obtain ⟨pre, l, ty, ks, rfl, h2, h3, h4, h5, h6⟩ := h
  have := selpre_count h2
  exact sel_fun h3 h5 h6 h4 hn n h2 (by omega)
def selsF (s : ByteArray) (n : Nat) : Nat → Nat → List (List PCp) × Nat
  | 0, i => ([], i)
  | f + 1, i => if bt s (selF s n i n i).2 = 44 then ((selF s n i n i).1 :: (selsF s n f ((selF s n i n i).2 + 1)).1, (selsF s n f ((selF s n i n i).2 + 1)).2) else ([(selF s n i n i).1], (selF s n i n i).2)
theorem sels_fun {s : ByteArray} {n l j : Nat} {cs : List PCp} (hc : SelAt s l j cs) (h44 : bt s j ≠ 44) (hn : j ≤ n) (hlj : l < j) : ∀ {pre : List (List PCp)} {i : Nat} (f : Nat), SelsPre s i l pre → pre.length < f → selsF s n f i = (pre ++ [cs], j)
  | [], i, f, h, hf => by
    simp only [SelsPre] at h
    subst h
    cases f with
    | zero => simp at hf
    | succ f =>
      unfold selsF
      rw [selat_fun hc hn, if_neg h44]
      rfl
  | x :: ss, i, f, ⟨l', h1, h2, h3, h4⟩, hf => by
    cases f with
    | zero => simp at hf
    | succ f =>
      have := selspre_le h4
      unfold selsF
      rw [selat_fun h1 (by omega : l' ≤ n), if_pos h3, sels_fun hc h44 hn hlj f h4 (by simpa using hf)]
      rfl
theorem selspre_count {s : ByteArray} : ∀ {ss : List (List PCp)} {i j : Nat}, SelsPre s i j ss → ss.length ≤ j - i
  | [], _, _, _ => by simp
  | _ :: _, _, _, ⟨l, _, h2, _, h5⟩ => by
    have := selspre_count h5
    have := selspre_le h5
    simp only [List.length_cons]
    omega
theorem selsat_fun {s : ByteArray} {i j n : Nat} {ss : List (List PCp)} (h : SelsAt s i j ss) (hn : j ≤ n) : selsF s n n i = (ss, j) := by
  obtain ⟨pre, l, cs, rfl, h2, h3, h4, h5⟩ := h
  have := selspre_count h2
  exact sels_fun h3 h5 hn h4 n h2 (by omega)

/-! Declarations. -/
def digsF (s : ByteArray) (i : Nat) : Nat := if isD (bt s (i + 1)) = true then (if isD (bt s (i + 2)) = true then 3 else 2) else 1
/-- Kind, number, variable, end. -/
def valF (s : ByteArray) (i : Nat) : Int × Int × Int × Nat :=
  if bt s i = 105 then (2, 0, 0, i + 1) else if bt s i = 114 then (3, 0, 0, i + 1) else if bt s i = 117 then (4, 0, 0, i + 1) else if bt s i = 36 then (5, 0, bt s (i + 1), i + 2) else (1, numV s i (digsF s i), 0, i + digsF s i)
theorem val_fun {s : ByteArray} {i j : Nat} {kd nv vr : Int} (h : ValAt s i j kd nv vr) : valF s i = (kd, nv, vr, j) := by
  unfold valF
  rcases h with ⟨h1, rfl, rfl, rfl, rfl⟩ | ⟨h1, rfl, rfl, rfl, rfl⟩ | ⟨h1, rfl, rfl, rfl, rfl⟩ | ⟨h1, rfl, rfl, rfl, _, rfl⟩ | ⟨rfl, h2, rfl, h4, h5, h6, h7⟩
  · rw [if_pos h1]
  · rw [if_neg (by omega), if_pos h1]
  · rw [if_neg (by omega), if_neg (by omega), if_pos h1]
  · rw [if_neg (by omega), if_neg (by omega), if_neg (by omega), if_pos h1]
  · have h0 := dig_of (h6 i (Nat.le_refl _) h4)
    rw [if_neg (by omega), if_neg (by omega), if_neg (by omega), if_neg (by omega)]
    have hd : digsF s i = j - i := by
      unfold digsF
      by_cases a : i + 1 < j
      · rw [if_pos (h6 _ (by omega) a)]
        by_cases b : i + 2 < j
        · rw [if_pos (h6 _ (by omega) b)]; omega
        · obtain rfl : j = i + 2 := by omega
          rcases h7 with h7 | h7
          · omega
          · rw [if_neg (by rw [h7]; simp)]; omega
      · obtain rfl : j = i + 1 := by omega
        rcases h7 with h7 | h7
        · omega
        · rw [if_neg (by rw [h7]; simp)]; omega
    rw [hd, h2, show i + (j - i) = j from by omega]
def declF (s : ByteArray) (i : Nat) : PDc × Nat :=
  (⟨bt s i, (valF s (i + 2)).1, (valF s (i + 2)).2.1, (valF s (i + 2)).2.2.1, decide (bt s (valF s (i + 2)).2.2.2 = 33)⟩, (valF s (i + 2)).2.2.2 + if bt s (valF s (i + 2)).2.2.2 = 33 then 1 else 0)
theorem decl_fun {s : ByteArray} {i j : Nat} {d : PDc} (h : DeclAt s i j d) : declF s i = (d, j) := by
  obtain ⟨_, h2, _, k, h4, _, h6⟩ := h
  obtain ⟨pr, kd, nu, va, im⟩ := d
  unfold declF
  rw [val_fun h4]
  replace h2 : pr = bt s i := h2
  subst h2
  rcases h6 with ⟨h7, h8, h9⟩ | ⟨h7, h8, h9⟩
  · replace h7 : im = true := h7
    simp [h7, h8, h9]
  · replace h7 : im = false := h7
    simp [h7, h8, h9]
def dcsF (s : ByteArray) : Nat → Nat → List PDc × Nat
  | 0, i => ([], i)
  | f + 1, i => if bt s (declF s i).2 = 59 then ((declF s i).1 :: (dcsF s f ((declF s i).2 + 1)).1, (dcsF s f ((declF s i).2 + 1)).2) else ([(declF s i).1], (declF s i).2)
theorem dcs_fun {s : ByteArray} {l j : Nat} {d : PDc} (hc : DeclAt s l j d) (h59 : bt s j ≠ 59) : ∀ {pre : List PDc} {i : Nat} (f : Nat), DcPre s i l pre → pre.length < f → dcsF s f i = (pre ++ [d], j)
  | [], i, f, h, hf => by
    simp only [DcPre] at h
    subst h
    cases f with
    | zero => simp at hf
    | succ f =>
      unfold dcsF
      rw [decl_fun hc, if_neg h59]
      rfl
  | x :: ss, i, f, ⟨l', h1, h2, h3, h4⟩, hf => by
    cases f with
    | zero => simp at hf
    | succ f =>
      unfold dcsF
      rw [decl_fun h1, if_pos h3, dcs_fun hc h59 f h4 (by simpa using hf)]
      rfl
theorem dcpre_count {s : ByteArray} : ∀ {ds : List PDc} {i j : Nat}, DcPre s i j ds → i ≤ j ∧ ds.length ≤ j - i
  | [], _, _, h => by simp only [DcPre] at h; subst h; simp
  | _ :: _, _, _, ⟨l, _, h2, _, h5⟩ => by
    have := dcpre_count h5
    simp only [List.length_cons]
    omega
theorem dcsat_fun {s : ByteArray} {i j n : Nat} {ds : List PDc} (h : DcsAt s i j ds) (hn : j ≤ n) : dcsF s n i = (ds, j) := by
  obtain ⟨pre, l, d, rfl, h2, h3, h4, h5⟩ := h
  have := dcpre_count h2
  exact dcs_fun h3 h5 n h2 (by omega)
def blkF (s : ByteArray) (n i : Nat) : List PDc × Nat := if bt s (i + 1) = 125 then ([], i + 2) else ((dcsF s n (i + 1)).1, (dcsF s n (i + 1)).2 + 1)
theorem blk_fun {s : ByteArray} {i j n : Nat} {ds : List PDc} (h : BlkAt s i j ds) (hn : j ≤ n) : blkF s n i = (ds, j) := by
  unfold blkF
  rcases h.2 with ⟨h1, rfl, rfl⟩ | ⟨h1, k, h2, h3, rfl⟩
  · rw [if_pos h1]
  · rw [if_neg h1, dcsat_fun h2 (by omega)]
def layF (s : ByteArray) (i : Nat) : Nat := if bt s i = 64 then i + 2 else i
def ruleF (s : ByteArray) (n i : Nat) : PRu × Nat :=
  (⟨layV s i, (selsF s n n (layF s i)).1, (blkF s n (selsF s n n (layF s i)).2).1⟩, (blkF s n (selsF s n n (layF s i)).2).2)
theorem rule_fun {s : ByteArray} {i j n : Nat} {r : PRu} (h : RuleAt s i j r) (hn : j ≤ n) : ruleF s n i = (r, j) := by
  obtain ⟨l, q, h1, h2, h3, h4, h5, h6, h7, h8⟩ := h
  have hl : layF s i = l := by
    unfold layF
    rcases h1 with ⟨a, b⟩ | ⟨a, b⟩
    · rw [if_pos a, b]
    · rw [if_neg a, b]
  unfold ruleF
  rw [hl, selsat_fun h2 (by omega), blk_fun h8 hn, ← h7]
def rulsF (s : ByteArray) (n : Nat) : Nat → Nat → List PRu
  | 0, _ => []
  | f + 1, i => if i < s.size then (ruleF s n i).1 :: rulsF s n f (ruleF s n i).2 else []
theorem rulsat_le {s : ByteArray} : ∀ {rs : List PRu} {i j : Nat}, RulsAt s i j rs → i ≤ j
  | [], _, _, h => by simp only [RulsAt] at h; omega
  | _ :: _, _, _, ⟨_, _, h2, h5⟩ => by have := rulsat_le h5; omega
theorem ruls_fun {s : ByteArray} {n : Nat} (hn : s.size ≤ n) : ∀ {rs : List PRu} {i : Nat} (f : Nat), RulsAt s i s.size rs → s.size - i ≤ f → rulsF s n f i = rs
  | [], i, f, h, _ => by
    simp only [RulsAt] at h
    subst h
    cases f with
    | zero => rfl
    | succ f => unfold rulsF; rw [if_neg (Nat.lt_irrefl _)]
  | r :: rs, i, f, ⟨l, h1, h2, h3⟩, hf => by
    have := rulsat_le h3
    cases f with
    | zero => omega
    | succ f =>
      unfold rulsF
      rw [if_pos (by omega), rule_fun h1 (by omega), ruls_fun hn f h3 (by omega)]
/-- The rules of a sheet. -/
def sheetOf (s : ByteArray) : List PRu := rulsF s 400 400 0
theorem sheet_fun {s : ByteArray} (h4 : s.size ≤ 400) {rs : List PRu} (h : RulsAt s 0 s.size rs) : sheetOf s = rs := ruls_fun h4 400 h (by omega)

end Go.Proofs.YtblfffbmklkhmaaGreat

namespace Go.Proofs.YtblfffbmklkhmaaGreat
open Go.RowKit

/-- The digits are within bounds. -/
def PPt.fine (p : PPt) : Prop := (-48 ≤ p.st ∧ p.st ≤ 207) ∧ (-48 ≤ p.sr ∧ p.sr ≤ 207)
theorem place_fine (s : ByteArray) (i : Nat) : (placeOf s i).fine := by
  have h1 := bt_lt s (i + 1)
  have h2 := bt_lt s (i + 2)
  unfold placeOf
  (repeat' split) <;> (refine ⟨⟨?_, ?_⟩, ⟨?_, ?_⟩⟩ <;> simp <;> omega)
theorem simp_fine (s : ByteArray) (i : Nat) : (simpOf s i).fine := by
  unfold simpOf
  split
  · refine ⟨⟨?_, ?_⟩, ⟨?_, ?_⟩⟩ <;> simp
  · split
    · refine ⟨⟨?_, ?_⟩, ⟨?_, ?_⟩⟩ <;> simp
    · exact place_fine s _
theorem part_fine (s : ByteArray) (i : Nat) : (partOf s i).fine := by
  unfold partOf
  split
  · split
    · refine ⟨⟨?_, ?_⟩, ⟨?_, ?_⟩⟩ <;> simp
    · exact simp_fine s _
  · exact simp_fine s _
theorem parts_fine {s : ByteArray} : ∀ {ks : List PPt} {i j : Nat}, PartsAt s i j ks → ∀ p ∈ ks, p.fine
  | [], _, _, _ => fun p hp => by cases hp
  | _ :: _, _, _, ⟨_, _, h2, h3⟩ => fun p hp => by
    rcases List.mem_cons.1 hp with rfl | hp
    · rw [(good_fun h2).1]; exact part_fine s _
    · exact parts_fine h3 p hp

/-- A declaration's letters are bytes. -/
def PDc.fine (d : PDc) : Prop := (0 ≤ d.pr ∧ d.pr ≤ 255) ∧ (0 ≤ d.va ∧ d.va ≤ 255)
/-- The rules of a sheet in memory. -/
structure RsRow (w : World) (ar : Option Addr) (cr : Nat) (xs : List Value) (rs : List PRu) : Prop where
  row : w.ownsRow 0 138 3 (.slice ar rs.length cr) rs.length xs
  ruls : Ruls w 0 xs rs
  few : rs.length ≤ 400
  short : ∀ r ∈ rs, r.ss.length ≤ 400 ∧ ∀ cs ∈ r.ss, Short cs
  fine : ∀ r ∈ rs, ∀ cs ∈ r.ss, ∀ x ∈ cs, ∀ p ∈ x.ps, p.fine
  decl : ∀ r ∈ rs, r.ds.length ≤ 400 ∧ ∀ d ∈ r.ds, d.fine
theorem RsRow.below {w w' : World} {ar : Option Addr} {cr : Nat} {xs : List Value} {rs : List PRu} (h : RsRow w ar cr xs rs) (hB : Below w.heap.size w w') : RsRow w' ar cr xs rs :=
  ⟨own_below h.row hB, h.ruls.keep (fun _ _ => keeps_below hB _ _), h.few, h.short, h.fine, h.decl⟩

theorem comp_fine {s : ByteArray} {i j ty : Nat} {ks : List PPt} (h : CompAt s i j ty ks) : ∀ p ∈ ks, p.fine := by
  rcases h with ⟨_, _, h⟩ | ⟨_, _, _, h⟩ | ⟨_, _, _, h, _⟩ <;> exact parts_fine h
theorem selpre_fine {s : ByteArray} : ∀ {cs : List PCp} {i0 i j : Nat}, SelPre s i0 i j cs → ∀ x ∈ cs, ∀ p ∈ x.ps, p.fine
  | [], _, _, _, _ => fun x hx => by cases hx
  | y :: cs, _, i, j, ⟨l, h1, _, _, _, h5, _⟩ => fun x hx => by
    rcases List.mem_cons.1 hx with rfl | hx
    · exact comp_fine h1
    · exact selpre_fine h5 x hx
theorem sel_fine {s : ByteArray} {i j : Nat} {cs : List PCp} (h : SelAt s i j cs) : ∀ x ∈ cs, ∀ p ∈ x.ps, p.fine := by
  obtain ⟨pre, l, ty, ks, rfl, h2, h3, _⟩ := h
  intro x hx
  rcases List.mem_append.1 hx with hx | hx
  · exact selpre_fine h2 x hx
  · rw [List.mem_singleton] at hx
    subst hx
    exact comp_fine h3
theorem selspre_fine {s : ByteArray} : ∀ {ss : List (List PCp)} {i j : Nat}, SelsPre s i j ss → ∀ cs ∈ ss, ∀ x ∈ cs, ∀ p ∈ x.ps, p.fine
  | [], _, _, _ => fun x hx => by cases hx
  | cs :: ss, i, j, ⟨l, h1, _, _, h5⟩ => fun x hx => by
    rcases List.mem_cons.1 hx with rfl | hx
    · exact sel_fine h1
    · exact selspre_fine h5 x hx
theorem sels_fine {s : ByteArray} {i j : Nat} {ss : List (List PCp)} (h : SelsAt s i j ss) : ∀ cs ∈ ss, ∀ x ∈ cs, ∀ p ∈ x.ps, p.fine := by
  obtain ⟨pre, l, cs, rfl, h2, h3, _⟩ := h
  intro x hx
  rcases List.mem_append.1 hx with hx | hx
  · exact selspre_fine h2 x hx
  · rw [List.mem_singleton] at hx
    subst hx
    exact sel_fine h3
theorem decl_fine {s : ByteArray} {i j : Nat} {d : PDc} (h : DeclAt s i j d) : d.fine := by
  obtain ⟨_, h2, _, k, hv, _⟩ := h
  have b1 := bt_lt s i
  have b2 := bt_lt s (i + 2 + 1)
  refine ⟨by rw [h2]; omega, ?_⟩
  rcases hv with h | h | h | h | h
  · rw [h.2.2.2.1]; omega
  · rw [h.2.2.2.1]; omega
  · rw [h.2.2.2.1]; omega
  · rw [h.2.2.2.1]; omega
  · rw [h.2.2.1]; omega
theorem dcpre_fine {s : ByteArray} : ∀ {ds : List PDc} {i j : Nat}, DcPre s i j ds → i + ds.length ≤ j ∧ ∀ d ∈ ds, d.fine
  | [], _, _, h => ⟨by simp only [DcPre] at h; simp; omega, fun x hx => by cases hx⟩
  | d :: ds, i, j, ⟨l, h1, h2, _, h5⟩ => by
    obtain ⟨a, b⟩ := dcpre_fine h5
    refine ⟨by rw [List.length_cons]; omega, fun x hx => ?_⟩
    rcases List.mem_cons.1 hx with rfl | hx
    · exact decl_fine h1
    · exact b x hx
theorem blk_fine {s : ByteArray} {i j : Nat} {ds : List PDc} (h : BlkAt s i j ds) (hj : j ≤ 400) : ds.length ≤ 400 ∧ ∀ d ∈ ds, d.fine := by
  rcases h.2 with ⟨_, rfl, _⟩ | ⟨_, k, ⟨pre, l, d, rfl, h2, h3, h4, _⟩, _, rfl⟩
  · exact ⟨by simp, fun x hx => by cases hx⟩
  · obtain ⟨a, b⟩ := dcpre_fine h2
    refine ⟨by simp; omega, fun x hx => ?_⟩
    rcases List.mem_append.1 hx with hx | hx
    · exact b x hx
    · rw [List.mem_singleton] at hx
      subst hx
      exact decl_fine h3
theorem ruls_fine {s : ByteArray} : ∀ {rs : List PRu} {i j : Nat}, RulsAt s i j rs → j ≤ 400 → (∀ r ∈ rs, ∀ cs ∈ r.ss, ∀ x ∈ cs, ∀ p ∈ x.ps, p.fine) ∧ ∀ r ∈ rs, r.ds.length ≤ 400 ∧ ∀ d ∈ r.ds, d.fine
  | [], _, _, _, _ => ⟨fun x hx => (by cases hx), fun x hx => by cases hx⟩
  | r :: rs, i, j, ⟨l, h1, h2, h5⟩, hj => by
    have hl := ruls_le h5
    obtain ⟨a, b⟩ := ruls_fine h5 hj
    obtain ⟨p, q, _, a2, _, _, _, _, _, a9⟩ := h1
    refine ⟨fun x hx => ?_, fun x hx => ?_⟩
    · rcases List.mem_cons.1 hx with rfl | hx
      · exact sels_fine a2
      · exact a x hx
    · rcases List.mem_cons.1 hx with rfl | hx
      · exact blk_fine a9 (by omega)
      · exact b x hx

/-! The errors of Class and Name. -/
def clsErr (T : Tree) (n : Int) (s : ByteArray) : Int := match tFind T n with | none => 5 | some _ => if isLetter s = false then 4 else 0
def namErr (T : Tree) (n : Int) (s : ByteArray) : Int := match tFind T n with | none => 5 | some _ => if s.size ≠ 0 ∧ isLetter s = false then 4 else 0

/-- A sheet that lies in the blocks G. -/
def SheetIn (w : World) (G : Nat → Prop) (v : Value) (rs : List PRu) : Prop :=
  ∃ (ar : Option Addr) (cr : Nat) (xs : List Value), v = .slice ar rs.length cr ∧ ∀ w' : World, (∀ k, G k → k < w.heap.size → w'.heap[k]? = w.heap[k]?) → RsRow w' ar cr xs rs
theorem SheetIn.keep {w w' : World} {G : Nat → Prop} {v : Value} {rs : List PRu} (h : SheetIn w G v rs) (hk : ∀ k, G k → k < w.heap.size → w'.heap[k]? = w.heap[k]?) (hz : w.heap.size ≤ w'.heap.size) : SheetIn w' G v rs := by
  obtain ⟨ar, cr, xs, hv, h⟩ := h
  exact ⟨ar, cr, xs, hv, fun w2 h2 => h w2 (fun k hg hl => (h2 k hg (by omega)).trans (hk k hg hl))⟩
theorem SheetIn.row {w : World} {G : Nat → Prop} {v : Value} {rs : List PRu} (h : SheetIn w G v rs) : ∃ (ar : Option Addr) (cr : Nat) (xs : List Value), v = .slice ar rs.length cr ∧ RsRow w ar cr xs rs := by
  obtain ⟨ar, cr, xs, hv, h⟩ := h
  exact ⟨ar, cr, xs, hv, h w (fun _ _ _ => rfl)⟩
theorem chk_400 {s : ByteArray} (h : (chk s).1 = 0) : s.size ≤ 400 := by
  unfold chk at h
  split at h
  · cases h
  · omega
/-- Out of what Read tells. -/
theorem sheet_in {w w' : World} {s : ByteArray} {a : Option Addr} {n c : Nat} {rs : List PRu} {xs : List Value} (hc : (chk s).1 = 0) (hn : n = rs.length) (ho : w'.ownsRow w.heap.size 138 3 (.slice a n c) n xs) (hr : Ruls w' w.heap.size xs rs) (ht : RulsAt s 0 s.size rs) : SheetIn w' (fun k => w.heap.size ≤ k ∧ k < w'.heap.size) (.slice a n c) (sheetOf s) := by
  have h4 := chk_400 hc
  rw [sheet_fun h4 ht]
  subst hn
  obtain ⟨hl, hs⟩ := ruls_short ht h4
  obtain ⟨hf, hd⟩ := ruls_fine ht h4
  refine ⟨a, c, xs, rfl, fun w2 h2 => ?_⟩
  have hk : ∀ e, Keeps w' w2 w.heap.size e := fun e g cur hg hh => by
    have hgl := (Array.getElem?_eq_some_iff.1 hh).1
    exact (h2 g ⟨hg, hgl⟩ hgl).trans hh
  exact ⟨own_mono ((hk _).owns ho) (Nat.zero_le _), (hr.keep (fun e _ => hk e)).mono (Nat.zero_le _), by omega, hs, hf, hd⟩

end Go.Proofs.YtblfffbmklkhmaaGreat
