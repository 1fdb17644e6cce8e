/- The document's tree: Parent. Own work. -/
import Derived.Test.YtblfffbmklkhmaaGreatDocA
namespace Go.Proofs.YtblfffbmklkhmaaGreat
open Go.RowKit

def hasKid (e : REl) (n : Int) : Bool := e.kids.any fun k => decide ((k : Int) = n)
def parR (els : List REl) (n : Int) : Option REl := els.find? fun e => hasKid e n
def parI (els : List REl) (n : Int) : Int := match parR els n with | some e => e.num | none => -1

theorem hasKid_iff {e : REl} {n : Int} : hasKid e n = true ↔ ∃ k ∈ e.kids, (k : Int) = n := by simp [hasKid]
theorem kid_at {e : REl} {n : Int} {j : Nat} (hj : j < e.kids.length) (h : ((e.kids[j] : Nat) : Int) = n) : hasKid e n = true := hasKid_iff.2 ⟨_, List.getElem_mem hj, h⟩
theorem kid_no {e : REl} {n : Int} (h : ∀ j (hj : j < e.kids.length), ((e.kids[j] : Nat) : Int) = n → False) : hasKid e n = false := by
  cases hk : hasKid e n with
  | false => rfl
  | true =>
    obtain ⟨k, hk1, hk2⟩ := hasKid_iff.1 hk
    obtain ⟨j, hj, rfl⟩ := List.getElem_of_mem hk1
    exact (h j hj hk2).elim
theorem par_skip {els : List REl} {n : Int} {i : Nat} (hi : i < els.length) (hno : ∀ j (hj : j < els.length), j < i → hasKid els[j] n = false) (h : hasKid els[i] n = true) : parI els n = els[i].num := by
  have : parR els n = some els[i] := by
    unfold parR
    rw [List.find?_eq_some_iff_getElem]
    exact ⟨h, i, hi, rfl, fun j hj => by simpa using hno j (by omega) hj⟩
  unfold parI
  rw [this]
theorem par_none {els : List REl} {n : Int} (hno : ∀ j (hj : j < els.length), hasKid els[j] n = false) : parI els n = -1 := by
  have : parR els n = none := by
    unfold parR
    rw [List.find?_eq_none]
    intro e he
    obtain ⟨j, hj, rfl⟩ := List.getElem_of_mem he
    simpa using hno j hj
  unfold parI
  rw [this]

set_option maxRecDepth 100000 in
set_option maxHeartbeats 4000000 in
theorem parent_any (w : World) (d : Nat) (els : List REl) (made : Nat) (hp : Option Addr) (vT : Value) (has : Bool) (vL : Value) (n : Int) (h : RD w d els made hp vT has vL) :
    Calls Tryz.prog 97 #[.pointer (some ⟨d, 0, none⟩), .int .i64 n] w fun e w' => e = .returned (.int .i64 (parI els n)) ∧ w' = w := by
  obtain ⟨a, c, hv⟩ := h.shape
  subst hv
  have d1 := h.c1
  have hfew := h.few
  have HR : Hid (RD w d els made hp vT has (.slice a els.length c)) := h
  clear h
  go_enter Tryz.func97, Tryz.ntmps97
  go_wp2
  go_loop [5] (fun iv => ∃ i : Nat, iv = .int .i64 i ∧ i ≤ els.length ∧ Hid (∀ j (hj : j < els.length), j < i → hasKid els[j] n = false)) (fun iv => els.length - (intOf iv).toNat)
  case atStart => exact ⟨0, rfl, Nat.zero_le _, fun j hj h => by omega⟩
  case round =>
    obtain ⟨i, rfl, hi, HN⟩ := hrel
    by_cases hlt : i < els.length
    · have hd : decide ((i : Int) < (els.length : Int)) = true := by simp; omega
      obtain ⟨g, hg, q1⟩ := HR.out.at' hlt
      subst hg
      obtain ⟨q2, q3⟩ := el_cells (HR.out.el els[i] (List.getElem_mem hlt))
      have hk := HR.out.kid els[i] (List.getElem_mem hlt)
      have hkf := HR.out.kfew els[i] (List.getElem_mem hlt)
      obtain ⟨x, hx⟩ : ∃ x, els[i] = x := ⟨_, rfl⟩
      have HX : Hid (els[i] = x) := hx
      rw [hx] at q1 q2 q3 hk hkf
      obtain ⟨ka, kc, hks⟩ := own_shape hk
      rw [hks] at q3 hk
      have HK : Hid (w.ownsRow 0 3 1 (.slice ka x.kids.length kc) x.kids.length (x.kids.map fun k : Nat => .int .i64 (k : Int))) := hk
      clear hx hk hks
      go_wp2
      go_loop [6] (fun jv => ∃ j : Nat, jv = .int .i64 j ∧ j ≤ x.kids.length ∧ Hid (∀ t (ht : t < x.kids.length), t < j → ((x.kids[t] : Nat) : Int) = n → False)) (fun jv => x.kids.length - (intOf jv).toNat)
      case atStart => exact ⟨0, rfl, Nat.zero_le _, fun t ht h => by omega⟩
      case round =>
        obtain ⟨j, rfl, hj, HJ⟩ := hrel
        by_cases hjl : j < x.kids.length
        · have hd2 : decide ((j : Int) < (x.kids.length : Int)) = true := by simp; omega
          obtain ⟨g2, hg2, _, hc2⟩ := own_cells HK.out (by omega)
          subst hg2
          have q4 := hc2 j (.int .i64 ((x.kids[j] : Nat) : Int)) (by simp [hjl])
          by_cases hn : ((x.kids[j] : Nat) : Int) = n
          · have HE : Hid (parI els n = x.num) := by
              unfold Hid
              rw [← HX.out]
              exact par_skip hlt HN.out (by rw [HX.out]; exact kid_at hjl hn)
            have gn : (((x.kids[j] : Nat) : Int) == n) = true := by simp [hn]
            clear hn hc2
            go_wp2
            go_ret
            rw [HE.out]
            exact ⟨rfl, rfl⟩
          · have gn : (((x.kids[j] : Nat) : Int) == n) = false := by simp [hn]
            have HJ2 : Hid (∀ t (ht : t < x.kids.length), t < j + 1 → ((x.kids[t] : Nat) : Int) = n → False) := fun t ht h1 h2 => by
              by_cases e : t = j
              · subst e; exact hn h2
              · exact HJ.out t ht (by omega) h2
            clear hn hc2
            go_wp2
            go_round
            case rel => exact ⟨j + 1, by go_num, by omega, HJ2⟩
            case measure => simp [intOf]; omega
        · have hd2 : decide ((j : Int) < (x.kids.length : Int)) = false := by simp; omega
          have HN2 : Hid (∀ t (ht : t < els.length), t < i + 1 → hasKid els[t] n = false) := fun t ht h1 => by
            by_cases e : t = i
            · subst e
              rw [HX.out]
              exact kid_no (fun u hu h => HJ.out u hu (by omega) h)
            · exact HN.out t ht (by omega)
          go_wp2
          go_round
          case rel => exact ⟨i + 1, by go_num, by omega, HN2⟩
          case measure => simp [intOf]; omega
    · have hd : decide ((i : Int) < (els.length : Int)) = false := by simp; omega
      have HE : Hid (parI els n = -1) := par_none (fun j hj => HN.out j hj (by omega))
      go_wp2
      go_ret
      rw [HE.out]
      exact ⟨rfl, rfl⟩

/-- How far up: the numbers that one comes to from an element, parent by parent. -/
def up (els : List REl) : Nat → Int → Int
  | 0, n => n
  | k + 1, n => up els k (parI els n)
/-- Every step up lowers this. -/
def Rank (els : List REl) (rk : Nat → Nat) : Prop := ∀ e ∈ els, ∀ k ∈ e.kids, rk e.num < rk k
def Under (els : List REl) (a n : Int) : Prop := 0 ≤ a ∧ ∃ k, up els k n = a

theorem up_add (els : List REl) (n : Int) : ∀ (t k : Nat), up els (t + k) n = up els k (up els t n)
  | 0, k => by rw [Nat.zero_add]; rfl
  | t + 1, k => by
    rw [show t + 1 + k = (t + k) + 1 from by omega]
    exact up_add els (parI els n) t k
theorem up_succ {els : List REl} {n : Int} {t : Nat} : up els (t + 1) n = parI els (up els t n) := by rw [up_add]; rfl
def UnderPost (els : List REl) (a n : Int) (w : World) (e : Ending) (w' : World) : Prop := ∃ b : Bool, e = .returned (.bool b) ∧ w' = w ∧ Hid (b = true ↔ Under els a n)
theorem par_cases (els : List REl) (n : Int) : parI els n = -1 ∨ ∃ e ∈ els, hasKid e n = true ∧ parI els n = e.num := by
  unfold parI
  cases h : parR els n with
  | none => exact Or.inl rfl
  | some e => exact Or.inr ⟨e, List.mem_of_find?_eq_some h, List.find?_some (p := fun e => hasKid e n) h, rfl⟩
theorem up_neg {els : List REl} {n : Int} (hn : n < 0) : ∀ k, up els k n < 0 := by
  have hp : parI els n = -1 := by
    rcases par_cases els n with h | ⟨e, _, h, _⟩
    · exact h
    · obtain ⟨k, _, hk⟩ := hasKid_iff.1 h
      omega
  intro k
  cases k with
  | zero => exact hn
  | succ k =>
    show up els k (parI els n) < 0
    rw [hp]
    clear hp
    have hp1 : parI els (-1) = -1 := by
      rcases par_cases els (-1) with h | ⟨e, _, h, _⟩
      · exact h
      · obtain ⟨k, _, hk⟩ := hasKid_iff.1 h
        omega
    induction k with
    | zero => show (-1 : Int) < 0; omega
    | succ k ih => show up els k (parI els (-1)) < 0; rw [hp1]; exact ih

set_option maxRecDepth 100000 in
set_option maxHeartbeats 2000000 in
theorem under_any (w : World) (d : Nat) (els : List REl) (made : Nat) (hp : Option Addr) (vT : Value) (has : Bool) (vL : Value) (a n : Int) (h : RD w d els made hp vT has vL) (rk : Nat → Nat) (hr : Rank els rk) :
    Calls Tryz.prog 173 #[.pointer (some ⟨d, 0, none⟩), .int .i64 a, .int .i64 n] w fun e w' => UnderPost els a n w e w' := by
  have HR : Hid (RD w d els made hp vT has vL) := h
  have HK : Hid (Rank els rk) := hr
  clear h hr
  go_enter Tryz.func173, Tryz.ntmps173
  go_wp2_with fail
  go_loopg [7] (rk n.toNat + 1) (fun gk nv wr => ∃ m : Int, nv = .int .i64 m ∧ wr = w ∧ (0 ≤ m → rk m.toNat < gk) ∧ Hid (∃ t, up els t n = m ∧ ∀ j, j < t → up els j n ≠ a))
  case atStart => exact ⟨n, rfl, rfl, fun _ => by omega, ⟨0, rfl, fun j hj => by omega⟩⟩
  case round =>
    obtain ⟨m, rfl, rfl, hgk, HT⟩ := hrel
    by_cases hm : 0 ≤ m
    · have hd : decide (0 ≤ m) = true := by simpa using hm
      have hgk' := hgk hm
      clear hgk
      by_cases he : m = a
      · have ge : (m == a) = true := by simp [he]
        have HU : Hid (Under els a n) := by
          obtain ⟨t, h1, _⟩ := HT.out
          exact ⟨by omega, t, by omega⟩
        clear he
        go_wp2
        go_ret
        exact ⟨true, rfl, rfl, fun _ => HU.out, fun _ => rfl⟩
      · have ge : (m == a) = false := by simp [he]
        have HT2 : Hid (∃ t, up els t n = parI els m ∧ ∀ j, j < t → up els j n ≠ a) := by
          obtain ⟨t, h1, h2⟩ := HT.out
          refine ⟨t + 1, by rw [up_succ, h1], fun j hj => ?_⟩
          by_cases e : j = t
          · subst e; rw [h1]; exact he
          · exact h2 j (by omega)
        have hpm : 0 ≤ parI els m → rk (parI els m).toNat < rk m.toNat := by
          intro h0
          rcases par_cases els m with h | ⟨e, h1, h2, h3⟩
          · omega
          · obtain ⟨k, hk1, hk2⟩ := hasKid_iff.1 h2
            rw [h3]
            have := HK.out e h1 k hk1
            have e1 : ((e.num : Int)).toNat = e.num := by omega
            have e2 : m.toNat = k := by omega
            rw [e1, e2]
            exact this
        have HPM : Hid (0 ≤ parI els m → rk (parI els m).toNat < rk m.toNat) := hpm
        clear he hpm
        go_wp2_with fail
        refine (parent_any _ d els made hp vT has vL m HR.out).mono ?_
        rintro e w2 ⟨rfl, rfl⟩
        generalize parI els m = m2 at HT2 HPM
        go_wp2
        go_roundg (rk m.toNat)
        case measure => omega
        case rel => exact ⟨m2, rfl, rfl, HPM.out, HT2⟩
    · have hd : decide (0 ≤ m) = false := by simpa using hm
      have HU : Hid (¬ Under els a n) := by
        obtain ⟨t, h1, h2⟩ := HT.out
        rintro ⟨ha, k, hk⟩
        by_cases e : k < t
        · exact h2 k e hk
        · have : up els k n = up els (k - t) m := by rw [← h1, ← up_add, show t + (k - t) = k from by omega]
          rw [this] at hk
          have := up_neg (els := els) (n := m) (by omega) (k - t)
          omega
      go_wp2
      go_ret
      exact ⟨false, rfl, rfl, fun h => (by cases h), fun h => (HU.out h).elim⟩

end Go.Proofs.YtblfffbmklkhmaaGreat
