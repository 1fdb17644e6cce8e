/- The weight of a selector: the program's. Own work. -/
import Derived.Test.YtblfffbmklkhmaaGreatWeigh
import Derived.Test.YtblfffbmklkhmaaGreatRefIn
namespace Go.Proofs.YtblfffbmklkhmaaGreat
open Go.RowKit

theorem comps_at {w : World} {base : Nat} : ∀ {xs : List Value} {cs : List PCp} {i : Nat}, Comps w base xs cs → (h : i < cs.length) → ∃ (a : Option Addr) (c : Nat) (ps : List Value), xs[i * 3]? = some (.int .u8 cs[i].sg) ∧ xs[i * 3 + 1]? = some (.int .u8 cs[i].ty) ∧ xs[i * 3 + 2]? = some (.slice a cs[i].ps.length c) ∧ w.ownsRow base 192 5 (.slice a cs[i].ps.length c) cs[i].ps.length ps ∧ Kinds ps cs[i].ps
  | _, _ :: cs, 0, ⟨a, c, ps, ys, h1, h2, h3, _⟩, _ => by subst h1; exact ⟨a, c, ps, rfl, rfl, rfl, h2, h3⟩
  | _, _ :: cs, i + 1, ⟨a, c, ps, ys, h1, h2, h3, h4⟩, h => by
    obtain ⟨a', c', ps', e1, e2, e3, e4, e5⟩ := comps_at (i := i) h4 (by simpa using h)
    subst h1
    rw [show (i + 1) * 3 = i * 3 + 3 from by omega]
    exact ⟨a', c', ps', by simpa using e1, by simpa using e2, by simpa using e3, by simpa using e4, by simpa using e5⟩
theorem sels_at {w : World} {base : Nat} : ∀ {xs : List Value} {ss : List (List PCp)} {i : Nat}, Sels w base xs ss → (h : i < ss.length) → ∃ (a : Option Addr) (c : Nat) (ps : List Value), xs[i]? = some (.slice a ss[i].length c) ∧ w.ownsRow base 190 3 (.slice a ss[i].length c) ss[i].length ps ∧ Comps w base ps ss[i]
  | _, cs :: ss, 0, ⟨a, c, ps, ys, h1, h2, h3, _⟩, _ => by subst h1; exact ⟨a, c, ps, rfl, h2, h3⟩
  | _, cs :: ss, i + 1, ⟨a, c, ps, ys, h1, h2, h3, h4⟩, h => by
    obtain ⟨a', c', ps', e1, e2, e3⟩ := sels_at (i := i) h4 (by simpa using h)
    subst h1
    exact ⟨a', c', ps', by simpa using e1, by simpa using e2, by simpa using e3⟩
theorem ruls_at {w : World} {base : Nat} : ∀ {xs : List Value} {rs : List PRu} {i : Nat}, Ruls w base xs rs → (h : i < rs.length) → ∃ (a : Option Addr) (c : Nat) (ps : List Value), xs[i * 3 + 1]? = some (.slice a rs[i].ss.length c) ∧ w.ownsRow base 141 1 (.slice a rs[i].ss.length c) rs[i].ss.length ps ∧ Sels w base ps rs[i].ss
  | _, ss :: rs, 0, ⟨a, c, a', c', ps, qs, ys, h1, h2, h3, _⟩, _ => by subst h1; exact ⟨a, c, ps, rfl, h2, h3⟩
  | _, ss :: rs, i + 1, ⟨a, c, a', c', ps, qs, ys, h1, h2, h3, h5, h4⟩, h => by
    obtain ⟨a1, c1, ps1, e1, e2, e3⟩ := ruls_at (i := i) h4 (by simpa using h)
    subst h1
    rw [show (i + 1) * 3 + 1 = i * 3 + 1 + 3 from by omega]
    exact ⟨a1, c1, ps1, by simpa using e1, by simpa using e2, by simpa using e3⟩
/-- A rule's layer and declarations. -/
theorem ruls_rest {w : World} {base : Nat} : ∀ {xs : List Value} {rs : List PRu} {i : Nat}, Ruls w base xs rs → (h : i < rs.length) → xs[i * 3]? = some (.int .i64 rs[i].ly) ∧ ∃ (a : Option Addr) (c : Nat) (qs : List Value), xs[i * 3 + 2]? = some (.slice a rs[i].ds.length c) ∧ w.ownsRow base 253 5 (.slice a rs[i].ds.length c) rs[i].ds.length qs ∧ Decs qs rs[i].ds
  | _, ss :: rs, 0, ⟨a, c, a', c', ps, qs, ys, h1, h2, h3, h5, _⟩, _ => by subst h1; exact ⟨rfl, a', c', qs, rfl, h5.1, h5.2⟩
  | _, ss :: rs, i + 1, ⟨a, c, a', c', ps, qs, ys, h1, h2, h3, h5, h4⟩, h => by
    obtain ⟨e0, a1, c1, ps1, e1, e2, e3⟩ := ruls_rest (i := i) h4 (by simpa using h)
    subst h1
    rw [show (i + 1) * 3 = i * 3 + 3 from by omega]
    exact ⟨by simpa using e0, a1, c1, ps1, by simpa using e1, by simpa using e2, by simpa using e3⟩
theorem decs_at : ∀ {xs : List Value} {ks : List PDc} {i : Nat}, Decs xs ks → (h : i < ks.length) → xs[i * 5]? = some (.int .u8 ks[i].pr) ∧ xs[i * 5 + 1]? = some (.int .i64 ks[i].kd) ∧ xs[i * 5 + 2]? = some (.int .i64 ks[i].nu) ∧ xs[i * 5 + 3]? = some (.int .u8 ks[i].va) ∧ xs[i * 5 + 4]? = some (.bool ks[i].im)
  | _, k :: ks, 0, ⟨ys, h1, _⟩, _ => by subst h1; exact ⟨rfl, rfl, rfl, rfl, rfl⟩
  | _, k :: ks, i + 1, ⟨ys, h1, h2⟩, h => by
    obtain ⟨e1, e2, e3, e4, e5⟩ := decs_at (i := i) h2 (by simpa using h)
    subst h1
    rw [show (i + 1) * 5 = i * 5 + 5 from by omega]
    exact ⟨by simpa using e1, by simpa using e2, by simpa using e3, by simpa using e4, by simpa using e5⟩

set_option maxRecDepth 100000 in
set_option maxHeartbeats 2000000 in
theorem selw_any (w : World) (base : Nat) (a : Option Addr) (c : Nat) (cs : List PCp) (xs : List Value) (ho : w.ownsRow base 190 3 (.slice a cs.length c) cs.length xs) (hk : Comps w base xs cs) (hs : Short cs) :
    Calls Tryz.prog 88 #[.agg #[.slice a cs.length c]] w fun e w' => WOut w (cws cs) e w' := by
  have HO : Hid (w.ownsRow base 190 3 (.slice a cs.length c) cs.length xs ∧ Comps w base xs cs ∧ Short cs) := ⟨ho, hk, hs⟩
  have hl := hs.1
  clear ho hk hs
  go_enter Tryz.func88, Tryz.ntmps88
  go_wp2_with fail
  go_loopg [3, 9] cs.length (fun gk sv iv wr => ∃ i : Nat, iv = .int .i64 i ∧ i ≤ cs.length ∧ cs.length - i ≤ gk ∧ sv = .int .i64 ((cws (cs.take i) : Nat) : Int) ∧ Below w.heap.size w wr)
  case atStart => exact ⟨0, rfl, Nat.zero_le _, by omega, by simp [cws], (Below.refl _ _).alloc (Nat.le_refl _) _⟩
  case round =>
    obtain ⟨i, rfl, hi, hgk, rfl, hB⟩ := hrel
    by_cases hlt : i < cs.length
    · have hd : decide ((i : Int) < (cs.length : Int)) = true := by simp; omega
      obtain ⟨g, hg, hgl, hc⟩ := own_cells HO.out.1 (by omega)
      subst hg
      obtain ⟨a', c', ps, e0, e1, e2, e3, e4⟩ := comps_at HO.out.2.1 hlt
      have c0 := (hB.cell (p := ⟨g, i * 3, none⟩) hgl).trans (hc _ _ e0)
      have c1 := (hB.cell (p := ⟨g, i * 3 + 1, none⟩) hgl).trans (hc _ _ e1)
      have c2 := (hB.cell (p := ⟨g, i * 3 + 2, none⟩) hgl).trans (hc _ _ e2)
      have HP : Hid (cws (cs.take (i + 1)) = cws (cs.take i) + cw cs[i].ty cs[i].ps) := cws_take hlt
      have hb1 := cws_take_le HO.out.2.2 i
      have hshort := HO.out.2.2.2 cs[i] (List.getElem_mem hlt)
      have hb2 := cw_le cs[i].ty cs[i].ps
      have HE : Hid (w.ownsRow base 192 5 (.slice a' cs[i].ps.length c') cs[i].ps.length ps ∧ Kinds ps cs[i].ps) := ⟨e3, e4⟩
      clear e0 e1 e2 e3 e4 hc
      generalize cs[i].sg = sg at c0
      generalize cs[i].ty = ty at c1 HP hb2
      generalize cs[i].ps = ks at c2 HP hb2 HE hshort
      generalize cws (cs.take i) = p0 at HP hb1
      go_wp2_with fail
      have hk139 : Keeps w (wr.alloc (.cells #[.int .u8 sg, .int .u8 ty, .slice a' ks.length c'] 190)) base 192 := (keeps_below hB _ _).trans (keeps_alloc _ _ _ _)
      refine (compw_any _ base sg ty a' c' ks ps (by exact hk139.owns HE.out.1) HE.out.2 hshort).mono ?_
      rintro e w2 ⟨rfl, hb⟩
      generalize cw ty ks = p1 at HP hb2
      have hB2 : Below w.heap.size w w2 := (hB.alloc hB.size _).trans (hb.mono (by have := hB.size; simp; omega))
      clear c0 c1 c2 hb hk139
      go_wp2
      go_roundg (cs.length - (i + 1))
      case measure => omega
      case rel => exact ⟨i + 1, by go_num, by omega, Nat.le_refl _, by rw [HP.out]; congr 1, hB2⟩
    · have hd : decide ((i : Int) < (cs.length : Int)) = false := by simp; omega
      obtain rfl : i = cs.length := by omega
      go_wp2
      go_ret
      refine ⟨?_, hB⟩
      rw [List.take_length]
      rfl

end Go.Proofs.YtblfffbmklkhmaaGreat
