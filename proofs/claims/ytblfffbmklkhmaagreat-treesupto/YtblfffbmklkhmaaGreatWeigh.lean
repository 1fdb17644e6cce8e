/- The weight of a selector: the program's. Own work. -/
import Derived.Test.YtblfffbmklkhmaaGreatRead
import Derived.Deep.DeepCutAuto
namespace Go.Proofs.YtblfffbmklkhmaaGreat
open Go.RowKit

def pwp (p : PPt) : Nat := pw p.kd
def pws (ks : List PPt) : Nat := (ks.map pwp).sum
def cw (ty : Nat) (ks : List PPt) : Nat := (if ty = 0 then 0 else 1) + pws ks
def cws (cs : List PCp) : Nat := (cs.map fun x => cw x.ty x.ps).sum

theorem pw_le (k : Int) : pw k ≤ 1000000 := by unfold pw; (repeat' split) <;> omega
theorem pws_le (ks : List PPt) : pws ks ≤ 1000000 * ks.length := by
  induction ks with
  | nil => simp [pws]
  | cons k ks ih => simp only [pws, List.map_cons, List.sum_cons, List.length_cons] at *; have := pw_le k.kd; unfold pwp at *; omega
theorem pws_take {ks : List PPt} {i : Nat} (h : i < ks.length) : pws (ks.take (i + 1)) = pws (ks.take i) + pw ks[i].kd := by
  unfold pws
  rw [List.take_succ_eq_append_getElem h, List.map_append, List.sum_append]
  simp [pwp]
theorem pws_take_le (ks : List PPt) (i : Nat) : pws (ks.take i) ≤ 1000000 * ks.length := by
  have := pws_le (ks.take i)
  have : (ks.take i).length ≤ ks.length := List.length_take_le' _ _
  omega
theorem cw_le (ty : Nat) (ks : List PPt) : cw ty ks ≤ 1 + 1000000 * ks.length := by
  have := pws_le ks
  unfold cw; split <;> omega
theorem cws_take {cs : List PCp} {i : Nat} (h : i < cs.length) : cws (cs.take (i + 1)) = cws (cs.take i) + cw cs[i].ty cs[i].ps := by
  unfold cws
  rw [List.take_succ_eq_append_getElem h, List.map_append, List.sum_append]
  simp
/-- No list is longer than a sheet. -/
def Short (cs : List PCp) : Prop := cs.length ≤ 400 ∧ ∀ x ∈ cs, x.ps.length ≤ 400
theorem cws_le {cs : List PCp} (h : ∀ x ∈ cs, x.ps.length ≤ 400) : cws cs ≤ 400000001 * cs.length := by
  induction cs with
  | nil => simp [cws]
  | cons x cs ih =>
    have h1 := ih (fun y hy => h y (List.mem_cons_of_mem _ hy))
    have h2 := h x List.mem_cons_self
    have h3 := cw_le x.ty x.ps
    simp only [cws, List.map_cons, List.sum_cons, List.length_cons] at *
    omega
theorem cws_take_le {cs : List PCp} (h : Short cs) (i : Nat) : cws (cs.take i) ≤ 160000000400 := by
  have h1 := cws_le (cs := cs.take i) (fun x hx => h.2 x (List.mem_of_mem_take hx))
  have : (cs.take i).length ≤ cs.length := List.length_take_le' _ _
  have := h.1
  omega

theorem kinds_at : ∀ {xs : List Value} {ks : List PPt} {i : Nat}, Kinds xs ks → (h : i < ks.length) → xs[i * 5]? = some (.bool ks[i].nt) ∧ xs[i * 5 + 1]? = some (.int .i64 ks[i].kd) ∧ xs[i * 5 + 2]? = some (.int .u8 ks[i].lt) ∧ xs[i * 5 + 3]? = some (.int .i64 ks[i].st) ∧ xs[i * 5 + 4]? = some (.int .i64 ks[i].sr)
  | _, k :: ks, 0, ⟨ys, h1, _⟩, _ => by subst h1; exact ⟨rfl, rfl, rfl, rfl, rfl⟩
  | _, k :: ks, i + 1, ⟨ys, h1, h2⟩, h => by
    obtain ⟨e1, e2, e3, e4, e5⟩ := kinds_at (i := i) h2 (by simpa using h)
    subst h1
    rw [show (i + 1) * 5 = i * 5 + 5 from by omega]
    exact ⟨by simpa using e1, by simpa using e2, by simpa using e3, by simpa using e4, by simpa using e5⟩

/-- A row's cells, at its own block. -/
theorem own_cells {w : World} {base : Nat} {e : TypeId} {size : Nat} {a : Option Addr} {n c : Nat} {xs : List Value} (h : w.ownsRow base e size (.slice a n c) n xs) (hn : 0 < n) :
    ∃ g, a = some ⟨g, 0, none⟩ ∧ g < w.heap.size ∧ ∀ j u, xs[j]? = some u → w.cell? ⟨g, j, none⟩ = some u := by
  rcases h.2 with ⟨h1, h2⟩ | ⟨g, cap, cur, hv, _, hh, _, _, _, ht⟩
  · omega
  · injection hv with h1 h2 h3
    refine ⟨g, h1, (Array.getElem?_eq_some_iff.1 hh).1, fun j u hu => ?_⟩
    have := h.cells (g := g) (by rw [h1]; rfl) j u hu
    rw [Go.WideShapes.add_plain] at this
    simpa using this

set_option maxHeartbeats 400000 in
theorem partw_any (w : World) (nt : Bool) (kd lt st sr : Int) :
    Calls Tryz.prog 166 #[.agg #[.bool nt, .int .i64 kd, .int .u8 lt, .int .i64 st, .int .i64 sr]] w fun e w' => e = .returned (.int .i64 (pw kd)) ∧ Below w.heap.size w w' := by
  by_cases h3 : kd = 3
  · have g3 : (kd == 3) = true := by simp [h3]
    have HR : Hid (pw kd = 1000000) := by unfold Hid pw; rw [if_pos h3]
    clear h3
    go_enter Tryz.func166, Tryz.ntmps166
    go_wp2
    go_ret
    rw [HR.out]
    exact ⟨rfl, (Below.refl _ _).alloc (Nat.le_refl _) _⟩
  have g3 : (kd == 3) = false := by simp [h3]
  by_cases h1 : kd = 1
  · have g1 : (kd == 1) = true := by simp [h1]
    have HR : Hid (pw kd = 1) := by unfold Hid pw; rw [if_neg h3, if_pos h1]
    clear h1 h3
    go_enter Tryz.func166, Tryz.ntmps166
    go_wp2
    go_ret
    rw [HR.out]
    exact ⟨rfl, (Below.refl _ _).alloc (Nat.le_refl _) _⟩
  · have g1 : (kd == 1) = false := by simp [h1]
    have HR : Hid (pw kd = 1000) := by unfold Hid pw; rw [if_neg h3, if_neg h1]
    clear h1 h3
    go_enter Tryz.func166, Tryz.ntmps166
    go_wp2
    go_ret
    rw [HR.out]
    exact ⟨rfl, (Below.refl _ _).alloc (Nat.le_refl _) _⟩

def WOut (w : World) (n : Nat) (e : Ending) (w' : World) : Prop := e = .returned (.int .i64 n) ∧ Below w.heap.size w w'

set_option maxRecDepth 100000 in
set_option maxHeartbeats 2000000 in
theorem compw_any (w : World) (base : Nat) (sg : Int) (ty : Nat) (a : Option Addr) (c : Nat) (ks : List PPt) (ps : List Value) (ho : w.ownsRow base 192 5 (.slice a ks.length c) ks.length ps) (hk : Kinds ps ks) (hl : ks.length ≤ 400) :
    Calls Tryz.prog 134 #[.agg #[.int .u8 sg, .int .u8 ty, .slice a ks.length c]] w fun e w' => WOut w (cw ty ks) e w' := by
  have HO : Hid (w.ownsRow base 192 5 (.slice a ks.length c) ks.length ps ∧ Kinds ps ks) := ⟨ho, hk⟩
  clear ho hk
  go_enter Tryz.func134, Tryz.ntmps134
  go_upto_if 8 with fail
  go_cut [3] (fun sv wc => sv = .int .i64 ((if ty = 0 then 0 else 1 : Nat) : Int) ∧ wc = w.alloc (.cells #[.int .u8 sg, .int .u8 ty, .slice a ks.length c] 190))
  case first =>
    by_cases h0 : ty = 0
    · have g0 : ((ty : Int) != 0) = false := by simp [h0]
      have H0 : Hid (ty = 0) := h0
      clear h0
      go_wp2
      go_meet
      case rel => exact ⟨by rw [if_pos H0.out]; rfl, rfl⟩
    · have g0 : ((ty : Int) != 0) = true := by simp; omega
      have H0 : Hid (¬ ty = 0) := h0
      clear h0
      go_wp2
      go_meet
      case rel => exact ⟨by rw [if_neg H0.out]; rfl, rfl⟩
  case rest =>
    obtain ⟨rfl, rfl⟩ := hcut
    have hb01 : (if ty = 0 then 0 else 1 : Nat) ≤ 1 := by split <;> omega
    have HT : Hid (∀ n, cw ty ks = n ↔ (if ty = 0 then 0 else 1 : Nat) + pws ks = n) := fun n => Iff.rfl
    generalize (if ty = 0 then 0 else 1 : Nat) = t0 at hb01 HT
    go_wp2_with fail
    go_loopg [3, 12] ks.length (fun gk sv iv wr => ∃ i : Nat, iv = .int .i64 i ∧ i ≤ ks.length ∧ ks.length - i ≤ gk ∧ sv = .int .i64 ((t0 + pws (ks.take i) : Nat) : Int) ∧ Below w.heap.size w wr)
    case atStart => exact ⟨0, rfl, Nat.zero_le _, by omega, by simp [pws], (Below.refl _ _).alloc (Nat.le_refl _) _⟩
    case round =>
      obtain ⟨i, rfl, hi, hgk, rfl, hB⟩ := hrel
      by_cases hlt : i < ks.length
      · have hd : decide ((i : Int) < (ks.length : Int)) = true := by simp; omega
        obtain ⟨g, hg, hgl, hc⟩ := own_cells HO.out.1 (by omega)
        subst hg
        obtain ⟨e0, e1, e2, e3, e4⟩ := kinds_at HO.out.2 hlt
        have c0 := (hB.cell (p := ⟨g, i * 5, none⟩) hgl).trans (hc _ _ e0)
        have c1 := (hB.cell (p := ⟨g, i * 5 + 1, none⟩) hgl).trans (hc _ _ e1)
        have c2 := (hB.cell (p := ⟨g, i * 5 + 2, none⟩) hgl).trans (hc _ _ e2)
        have c3 := (hB.cell (p := ⟨g, i * 5 + 3, none⟩) hgl).trans (hc _ _ e3)
        have c4 := (hB.cell (p := ⟨g, i * 5 + 4, none⟩) hgl).trans (hc _ _ e4)
        have HP : Hid (pws (ks.take (i + 1)) = pws (ks.take i) + pw ks[i].kd) := pws_take hlt
        have hb1 := pws_take_le ks i
        have hb2 := pw_le ks[i].kd
        clear e0 e1 e2 e3 e4 hc
        generalize ks[i].kd = kd at c1 HP hb2
        generalize ks[i].nt = nt at c0
        generalize ks[i].lt = lt at c2
        generalize ks[i].st = st at c3
        generalize ks[i].sr = sr at c4
        generalize pws (ks.take i) = p0 at HP hb1
        go_wp2_with fail
        refine (partw_any _ nt kd lt st sr).mono ?_
        rintro e w2 ⟨rfl, hb⟩
        generalize pw kd = p1 at HP hb2
        have hB2 : Below w.heap.size w w2 := (hB.alloc hB.size _).trans (hb.mono (by have := hB.size; simp; omega))
        clear c0 c1 c2 c3 c4 hb
        go_wp2
        go_roundg (ks.length - (i + 1))
        case measure => omega
        case rel => exact ⟨i + 1, by go_num, by omega, Nat.le_refl _, by rw [HP.out]; congr 1; omega, hB2⟩
      · have hd : decide ((i : Int) < (ks.length : Int)) = false := by simp; omega
        obtain rfl : i = ks.length := by omega
        go_wp2
        go_ret
        refine ⟨?_, hB⟩
        rw [(HT.out (t0 + pws ks)).2 rfl, List.take_length]
        rfl

end Go.Proofs.YtblfffbmklkhmaaGreat
