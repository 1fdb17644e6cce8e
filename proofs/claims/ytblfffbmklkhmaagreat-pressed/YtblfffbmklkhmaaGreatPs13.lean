/- Own work. -/
import Derived.Test.YtblfffbmklkhmaaGreatPs6
import Derived.Test.YtblfffbmklkhmaaGreatPs7
import Derived.Test.YtblfffbmklkhmaaGreatPs12
namespace Go.Proofs.YtblfffbmklkhmaaGreat
open Go.RowKit
theorem comps_at {w : World} {base : Nat} : ∀ {xs : List Value} {cs : List PCp} {i : Nat}, Comps w base xs cs → (h : i < cs.length) → ∃ (a : Option Addr) (c : Nat) (ps : List Value), xs[i * 3]? = some (.int .u8 cs[i].sg) ∧ xs[i * 3 + 1]? = some (.int .u8 cs[i].ty) ∧ xs[i * 3 + 2]? = some (.slice a cs[i].ps.length c) ∧ w.ownsRow base 192 5 (.slice a cs[i].ps.length c) cs[i].ps.length ps ∧ Kinds ps cs[i].ps
  | _, _ :: cs, 0, ⟨a, c, ps, ys, h1, h2, h3, _⟩, _ => by subst h1; exact ⟨a, c, ps, rfl, rfl, rfl, h2, h3⟩
  | _, _ :: cs, i + 1, ⟨a, c, ps, ys, h1, h2, h3, h4⟩, h => by
    obtain ⟨a', c', ps', e1, e2, e3, e4, e5⟩ := comps_at (i := i) h4 (by simpa using h)
    subst h1
    rw [show (i + 1) * 3 = i * 3 + 3 from by omega]
    exact ⟨a', c', ps', by simpa using e1, by simpa using e2, by simpa using e3, by simpa using e4, by simpa using e5⟩
theorem sels_at {w : World} {base : Nat} : ∀ {xs : List Value} {ss : List (List PCp)} {i : Nat}, Sels w base xs ss → (h : i < ss.length) → ∃ (a : Option Addr) (c : Nat) (ps : List Value), xs[i]? = some (.slice a ss[i].length c) ∧ w.ownsRow base 190 3 (.slice a ss[i].length c) ss[i].length ps ∧ Comps w base ps ss[i]
  | _, cs :: ss, 0, ⟨a, c, ps, ys, h1, h2, h3, _⟩, _ => by subst h1; exact ⟨a, c, ps, rfl, h2, h3⟩
  | _, cs :: ss, i + 1, ⟨a, c, ps, ys, h1, h2, h3, h4⟩, h => by
    obtain ⟨a', c', ps', e1, e2, e3⟩ := sels_at (i := i) h4 (by simpa using h)
    subst h1
    exact ⟨a', c', ps', by simpa using e1, by simpa using e2, by simpa using e3⟩
theorem ruls_at {w : World} {base : Nat} : ∀ {xs : List Value} {rs : List PRu} {i : Nat}, Ruls w base xs rs → (h : i < rs.length) → ∃ (a : Option Addr) (c : Nat) (ps : List Value), xs[i * 3 + 1]? = some (.slice a rs[i].ss.length c) ∧ w.ownsRow base 141 1 (.slice a rs[i].ss.length c) rs[i].ss.length ps ∧ Sels w base ps rs[i].ss
  | _, ss :: rs, 0, ⟨a, c, a', c', ps, qs, ys, h1, h2, h3, _⟩, _ => by subst h1; exact ⟨a, c, ps, rfl, h2, h3⟩
  | _, ss :: rs, i + 1, ⟨a, c, a', c', ps, qs, ys, h1, h2, h3, h5, h4⟩, h => by
    obtain ⟨a1, c1, ps1, e1, e2, e3⟩ := ruls_at (i := i) h4 (by simpa using h)
    subst h1
    rw [show (i + 1) * 3 + 1 = i * 3 + 1 + 3 from by omega]
    exact ⟨a1, c1, ps1, by simpa using e1, by simpa using e2, by simpa using e3⟩
/-- A rule's layer and declarations. -/
theorem ruls_rest {w : World} {base : Nat} : ∀ {xs : List Value} {rs : List PRu} {i : Nat}, Ruls w base xs rs → (h : i < rs.length) → xs[i * 3]? = some (.int .i64 rs[i].ly) ∧ ∃ (a : Option Addr) (c : Nat) (qs : List Value), xs[i * 3 + 2]? = some (.slice a rs[i].ds.length c) ∧ w.ownsRow base 253 5 (.slice a rs[i].ds.length c) rs[i].ds.length qs ∧ Decs qs rs[i].ds
  | _, ss :: rs, 0, ⟨a, c, a', c', ps, qs, ys, h1, h2, h3, h5, _⟩, _ => by subst h1; exact ⟨rfl, a', c', qs, rfl, h5.1, h5.2⟩
  | _, ss :: rs, i + 1, ⟨a, c, a', c', ps, qs, ys, h1, h2, h3, h5, h4⟩, h => by
    obtain ⟨e0, a1, c1, ps1, e1, e2, e3⟩ := ruls_rest (i := i) h4 (by simpa using h)
    subst h1
    rw [show (i + 1) * 3 = i * 3 + 3 from by omega]
    exact ⟨by simpa using e0, a1, c1, ps1, by simpa using e1, by simpa using e2, by simpa using e3⟩
theorem decs_at : ∀ {xs : List Value} {ks : List PDc} {i : Nat}, Decs xs ks → (h : i < ks.length) → xs[i * 5]? = some (.int .u8 ks[i].pr) ∧ xs[i * 5 + 1]? = some (.int .i64 ks[i].kd) ∧ xs[i * 5 + 2]? = some (.int .i64 ks[i].nu) ∧ xs[i * 5 + 3]? = some (.int .u8 ks[i].va) ∧ xs[i * 5 + 4]? = some (.bool ks[i].im)
  | _, k :: ks, 0, ⟨ys, h1, _⟩, _ => by subst h1; exact ⟨rfl, rfl, rfl, rfl, rfl⟩
  | _, k :: ks, i + 1, ⟨ys, h1, h2⟩, h => by
    obtain ⟨e1, e2, e3, e4, e5⟩ := decs_at (i := i) h2 (by simpa using h)
    subst h1
    rw [show (i + 1) * 5 = i * 5 + 5 from by omega]
    exact ⟨by simpa using e1, by simpa using e2, by simpa using e3, by simpa using e4, by simpa using e5⟩
set_option maxRecDepth 100000 in
set_option maxHeartbeats 2000000 in
theorem selw_any (w : World) (base : Nat) (a : Option Addr) (c : Nat) (cs : List PCp) (xs : List Value) (ho : w.ownsRow base 190 3 (.slice a cs.length c) cs.length xs) (hk : Comps w base xs cs) (hs : Short cs) :
    Calls Tryz.prog 88 #[.agg #[.slice a cs.length c]] w fun e w' => WOut w (cws cs) e w' := by
  have HO : Hid (w.ownsRow base 190 3 (.slice a cs.length c) cs.length xs ∧ Comps w base xs cs ∧ Short cs) := ⟨ho, hk, hs⟩
  have hl := hs.1
  clear ho hk hs
  go_enter Tryz.func88, Tryz.ntmps88
  go_wp2_with fail
  go_loopg [3, 9] cs.length (fun gk sv iv wr => ∃ i : Nat, iv = .int .i64 i ∧ i ≤ cs.length ∧ cs.length - i ≤ gk ∧ sv = .int .i64 ((cws (cs.take i) : Nat) : Int) ∧ Below w.heap.size w wr)
  case atStart => exact ⟨0, rfl, Nat.zero_le _, by omega, by simp [cws], (Below.refl _ _).alloc (Nat.le_refl _) _⟩
  case round =>
    obtain ⟨i, rfl, hi, hgk, rfl, hB⟩ := hrel
    by_cases hlt : i < cs.length
    · have hd : decide ((i : Int) < (cs.length : Int)) = true := by simp; omega
      obtain ⟨g, hg, hgl, hc⟩ := own_cells HO.out.1 (by omega)
      subst hg
      obtain ⟨a', c', ps, e0, e1, e2, e3, e4⟩ := comps_at HO.out.2.1 hlt
      have c0 := (hB.cell (p := ⟨g, i * 3, none⟩) hgl).trans (hc _ _ e0)
      have c1 := (hB.cell (p := ⟨g, i * 3 + 1, none⟩) hgl).trans (hc _ _ e1)
      have c2 := (hB.cell (p := ⟨g, i * 3 + 2, none⟩) hgl).trans (hc _ _ e2)
      have HP : Hid (cws (cs.take (i + 1)) = cws (cs.take i) + cw cs[i].ty cs[i].ps) := cws_take hlt
      have hb1 := cws_take_le HO.out.2.2 i
      have hshort := HO.out.2.2.2 cs[i] (List.getElem_mem hlt)
      have hb2 := cw_le cs[i].ty cs[i].ps
      have HE : Hid (w.ownsRow base 192 5 (.slice a' cs[i].ps.length c') cs[i].ps.length ps ∧ Kinds ps cs[i].ps) := ⟨e3, e4⟩
      clear e0 e1 e2 e3 e4 hc
      generalize cs[i].sg = sg at c0
      generalize cs[i].ty = ty at c1 HP hb2
      generalize cs[i].ps = ks at c2 HP hb2 HE hshort
      generalize cws (cs.take i) = p0 at HP hb1
      go_wp2_with fail
      have hk139 : Keeps w (wr.alloc (.cells #[.int .u8 sg, .int .u8 ty, .slice a' ks.length c'] 190)) base 192 := (keeps_below hB _ _).trans (keeps_alloc _ _ _ _)
      refine (compw_any _ base sg ty a' c' ks ps (by exact hk139.owns HE.out.1) HE.out.2 hshort).mono ?_
      rintro e w2 ⟨rfl, hb⟩
      generalize cw ty ks = p1 at HP hb2
      have hB2 : Below w.heap.size w w2 := (hB.alloc hB.size _).trans (hb.mono (by have := hB.size; simp; omega))
      clear c0 c1 c2 hb hk139
      go_wp2
      go_roundg (cs.length - (i + 1))
      case measure => omega
      case rel => exact ⟨i + 1, by go_num, by omega, Nat.le_refl _, by rw [HP.out]; congr 1, hB2⟩
    · have hd : decide ((i : Int) < (cs.length : Int)) = false := by simp; omega
      obtain rfl : i = cs.length := by omega
      go_wp2
      go_ret
      refine ⟨?_, hB⟩
      rw [List.take_length]
      rfl
end Go.Proofs.YtblfffbmklkhmaaGreat

namespace Go.Proofs.YtblfffbmklkhmaaGreat
open Go.RowKit
theorem ruls_le {s : ByteArray} : ∀ {rs : List PRu} {i j : Nat}, RulsAt s i j rs → i ≤ j
  | [], _, _, h => by simp only [RulsAt] at h; omega
  | _ :: _, _, _, ⟨_, _, h2, h5⟩ => by have := ruls_le h5; omega
end Go.Proofs.YtblfffbmklkhmaaGreat

namespace Go.Proofs.YtblfffbmklkhmaaGreat
open Go.RowKit
theorem parts_len {s : ByteArray} : ∀ {ks : List PPt} {i j : Nat}, PartsAt s i j ks → ks.length ≤ j - i
  | [], _, _, _ => by simp
  | _ :: _, _, _, ⟨_, _, h1, h2⟩ => by
    have := good_lt h1
    have := parts_len h2
    have := (parts_le h2).1
    simp only [List.length_cons]
    omega
theorem comp_len {s : ByteArray} {i j ty : Nat} {ks : List PPt} (h : CompAt s i j ty ks) : ks.length ≤ j - i := by
  rcases h with ⟨_, _, h2⟩ | ⟨_, _, _, h2⟩ | ⟨_, _, _, h2, _⟩
  · have := parts_len h2; omega
  · have := parts_len h2; omega
  · exact parts_len h2
theorem selpre_short {s : ByteArray} : ∀ {cs : List PCp} {i0 i j : Nat}, SelPre s i0 i j cs → j ≤ 400 → cs.length ≤ j - i ∧ ∀ x ∈ cs, x.ps.length ≤ 400
  | [], _, _, _, _, _ => ⟨by simp, fun x hx => by cases hx⟩
  | y :: cs, _, i, j, ⟨l, h1, h2, _, _, h5, _⟩, hj => by
    obtain ⟨a, b⟩ := selpre_short h5 hj
    have hl := selpre_le h5
    have hc := comp_len h1
    refine ⟨by simp only [List.length_cons]; omega, fun x hx => ?_⟩
    rcases List.mem_cons.1 hx with rfl | hx
    · omega
    · exact b x hx
theorem sel_short {s : ByteArray} {i j : Nat} {cs : List PCp} (h : SelAt s i j cs) (hj : j ≤ 400) : Short cs := by
  obtain ⟨pre, l, ty, ks, rfl, h2, h3, h4, _⟩ := h
  obtain ⟨a, b⟩ := selpre_short h2 (by omega)
  have hc := comp_len h3
  refine ⟨by simp only [List.length_append, List.length_cons, List.length_nil]; omega, fun x hx => ?_⟩
  rcases List.mem_append.1 hx with hx | hx
  · exact b x hx
  · rcases List.mem_cons.1 hx with rfl | hx
    · show ks.length ≤ 400; omega
    · cases hx
theorem selspre_short {s : ByteArray} : ∀ {ss : List (List PCp)} {i j : Nat}, SelsPre s i j ss → j ≤ 400 → ss.length ≤ j - i ∧ ∀ cs ∈ ss, Short cs
  | [], _, _, _, _ => ⟨by simp, fun x hx => by cases hx⟩
  | cs :: ss, i, j, ⟨l, h1, h2, _, h5⟩, hj => by
    have hl := selspre_le h5
    obtain ⟨a, b⟩ := selspre_short h5 hj
    refine ⟨by simp only [List.length_cons]; omega, fun x hx => ?_⟩
    rcases List.mem_cons.1 hx with rfl | hx
    · exact sel_short h1 (by omega)
    · exact b x hx
theorem sels_short {s : ByteArray} {i j : Nat} {ss : List (List PCp)} (h : SelsAt s i j ss) (hj : j ≤ 400) : ss.length ≤ 400 ∧ ∀ cs ∈ ss, Short cs := by
  obtain ⟨pre, l, cs, rfl, h2, h3, h4, _⟩ := h
  obtain ⟨a, b⟩ := selspre_short h2 (by omega)
  refine ⟨by simp only [List.length_append, List.length_cons, List.length_nil]; omega, fun x hx => ?_⟩
  rcases List.mem_append.1 hx with hx | hx
  · exact b x hx
  · rcases List.mem_cons.1 hx with rfl | hx
    · exact sel_short h3 hj
    · cases hx
theorem ruls_short {s : ByteArray} : ∀ {rs : List PRu} {i j : Nat}, RulsAt s i j rs → j ≤ 400 → rs.length ≤ j - i ∧ ∀ r ∈ rs, r.ss.length ≤ 400 ∧ ∀ cs ∈ r.ss, Short cs
  | [], _, _, _, _ => ⟨by simp, fun x hx => by cases hx⟩
  | ss :: rs, i, j, ⟨l, h1, h2, h5⟩, hj => by
    have hl := ruls_le h5
    obtain ⟨a, b⟩ := ruls_short h5 hj
    refine ⟨by simp only [List.length_cons]; omega, fun x hx => ?_⟩
    rcases List.mem_cons.1 hx with rfl | hx
    · obtain ⟨p, q, _, a2, _, _, a5, _⟩ := h1
      exact sels_short a2 (by omega)
    · exact b x hx
end Go.Proofs.YtblfffbmklkhmaaGreat

namespace Go.Proofs.YtblfffbmklkhmaaGreat
open Go.RowKit
theorem below_draws {B : Nat} {a w : World} (h : Below B a w) (n : Nat) : Below B a (w.drewN n) := ⟨h.os, h.tape, h.output, h.size, h.block⟩
end Go.Proofs.YtblfffbmklkhmaaGreat

namespace Go.Proofs.YtblfffbmklkhmaaGreat
open Go.RowKit
section
set_option maxRecDepth 100000
set_option maxHeartbeats 4000000
variable (w : World) (b : Nat) (a : Option Addr) (c : Nat) (els : List PEl) (n : Int)
theorem psigned_any (sg : Int) (h : TRd w b a c els) : Calls Tryz.prog 217 #[.int .u8 sg, .pointer (some ⟨b, 1, none⟩), .int .i64 n] w fun e w' => PList w (signedP els sg n) e w' := by
  have HT : Hid (TRd w b a c els) := h
  have hfew := h.few
  clear h
  have hal : (aboveP els els.length n).length ≤ 24 := by
    have : ∀ k m, (aboveP els k m).length ≤ k := by
      intro k
      induction k with
      | zero => intro m; simp [aboveP]
      | succ k ih =>
        intro m
        show (if parP els m = -1 then [] else _).length ≤ _
        split
        · simp
        · have := ih (parP els m); simp; omega
    have := this els.length n
    omega
  have hhl := aheadP_len els n
  by_cases h1 : sg = 32
  · have g1 : (sg == 32) = true := by simp [h1]
    have HR : Hid (signedP els sg n = aboveP els els.length n) := by unfold Hid signedP; rw [if_pos h1]
    clear h1
    go_enter Tryz.func217, Tryz.ntmps217
    go_wp2_with fail
    refine (pabove_any w b a c els n HT.out).mono ?_
    rintro e w1 ⟨a2, c2, rfl, k1, k2, k3, hB⟩
    have HE : Hid (PList w (signedP els sg n) (.returned (.slice a2 (aboveP els els.length n).length c2)) w1) := by unfold Hid; rw [HR.out]; exact ⟨a2, c2, rfl, k1, k2, k3, hB⟩
    clear k1 k2 k3 hB
    go_wp2
    go_ret
    exact HE.out
  have g1 : (sg == 32) = false := by simp [h1]
  by_cases h2 : sg = 62
  · have g2 : (sg == 62) = true := by simp [h2]
    have HR : Hid (signedP els sg n = (aboveP els els.length n).take 1) := by unfold Hid signedP; rw [if_neg h1, if_pos h2]
    clear h1 h2
    go_enter Tryz.func217, Tryz.ntmps217
    go_wp2_with fail
    refine (pabove_any w b a c els n HT.out).mono ?_
    rintro e w1 ⟨a2, c2, rfl, k1, k2, k3, hB⟩
    have HK : Hid ((aboveP els els.length n).length ≤ c2 ∧ c2 ≤ maxLen ∧ RowI w1 a2 (aboveP els els.length n) ∧ Below w.heap.size w w1) := ⟨k1, k2, k3, hB⟩
    clear k1 k2 k3 hB
    go_wp2_with fail
    refine (pnear_any w1 a2 (aboveP els els.length n) c2 hal HK.out.1 HK.out.2.1 HK.out.2.2.1).mono ?_
    rintro e w2 ⟨a3, c3, rfl, k1, k2, k3, hB⟩
    have HE : Hid (PList w (signedP els sg n) (.returned (.slice a3 ((aboveP els els.length n).take 1).length c3)) w2) := by unfold Hid; rw [HR.out]; exact ⟨a3, c3, rfl, k1, k2, k3, HK.out.2.2.2.trans (hB.mono HK.out.2.2.2.size)⟩
    clear k1 k2 k3 hB
    generalize ((aboveP els els.length n).take 1).length = m at HE ⊢
    go_wp2
    go_ret
    exact HE.out
  have g2 : (sg == 62) = false := by simp [h2]
  by_cases h3 : sg = 126
  · have g3 : (sg == 126) = true := by simp [h3]
    have HR : Hid (signedP els sg n = aheadP els n) := by unfold Hid signedP; rw [if_neg h1, if_neg h2, if_pos h3]
    clear h1 h2 h3
    go_enter Tryz.func217, Tryz.ntmps217
    go_wp2_with fail
    refine (pahead_any w b a c els n HT.out).mono ?_
    rintro e w1 ⟨a2, c2, rfl, k1, k2, k3, hB⟩
    have HE : Hid (PList w (signedP els sg n) (.returned (.slice a2 (aheadP els n).length c2)) w1) := by unfold Hid; rw [HR.out]; exact ⟨a2, c2, rfl, k1, k2, k3, hB⟩
    clear k1 k2 k3 hB
    go_wp2
    go_ret
    exact HE.out
  have g3 : (sg == 126) = false := by simp [h3]
  by_cases h4 : sg = 43
  · have g4 : (sg == 43) = true := by simp [h4]
    have HR : Hid (signedP els sg n = (aheadP els n).take 1) := by unfold Hid signedP; rw [if_neg h1, if_neg h2, if_neg h3, if_pos h4]
    clear h1 h2 h3 h4
    go_enter Tryz.func217, Tryz.ntmps217
    go_wp2_with fail
    refine (pahead_any w b a c els n HT.out).mono ?_
    rintro e w1 ⟨a2, c2, rfl, k1, k2, k3, hB⟩
    have HK : Hid ((aheadP els n).length ≤ c2 ∧ c2 ≤ maxLen ∧ RowI w1 a2 (aheadP els n) ∧ Below w.heap.size w w1) := ⟨k1, k2, k3, hB⟩
    clear k1 k2 k3 hB
    go_wp2_with fail
    refine (pnear_any w1 a2 (aheadP els n) c2 (by omega) HK.out.1 HK.out.2.1 HK.out.2.2.1).mono ?_
    rintro e w2 ⟨a3, c3, rfl, k1, k2, k3, hB⟩
    have HE : Hid (PList w (signedP els sg n) (.returned (.slice a3 ((aheadP els n).take 1).length c3)) w2) := by unfold Hid; rw [HR.out]; exact ⟨a3, c3, rfl, k1, k2, k3, HK.out.2.2.2.trans (hB.mono HK.out.2.2.2.size)⟩
    clear k1 k2 k3 hB
    generalize ((aheadP els n).take 1).length = m at HE ⊢
    go_wp2
    go_ret
    exact HE.out
  · have g4 : (sg == 43) = false := by simp [h4]
    have HR : Hid (signedP els sg n = []) := by unfold Hid signedP; rw [if_neg h1, if_neg h2, if_neg h3, if_neg h4]
    clear h1 h2 h3 h4
    have HE : Hid (PList w (signedP els sg n) (.returned (.slice none 0 0)) w) := by unfold Hid; rw [HR.out]; exact ⟨none, 0, rfl, Nat.le_refl _, Nat.zero_le _, fun i hi => absurd hi (by simp), Below.refl _ _⟩
    go_enter Tryz.func217, Tryz.ntmps217
    go_wp2
    go_ret
    exact HE.out
theorem plast_any (h : TRd w b a c els) : Calls Tryz.prog 229 #[.pointer (some ⟨b, 1, none⟩), .int .i64 n] w fun e w' => PBool w (lastP els n) e w' := by
  have HT : Hid (TRd w b a c els) := h
  have hfew := h.few
  clear h
  go_enter Tryz.func229, Tryz.ntmps229
  go_wp2_with fail
  refine (pfind_any w b _ els n HT.out.cell HT.out.pl HT.out.few).mono ?_
  rintro e w1 ⟨hB, ⟨hf, rfl⟩ | ⟨ip, x, hx, hf, rfl⟩⟩
  · have HE : Hid (PBool w (lastP els n) (.returned (.bool false)) w1) := by unfold lastP; rw [hf]; exact ⟨rfl, hB⟩
    clear hf hB
    go_wp2
    go_ret
    exact HE.out
  · have hip : ip < els.length := (List.getElem?_eq_some_iff.1 hx).1
    have hxe : els[ip] = x := (List.getElem?_eq_some_iff.1 hx).2
    have HA : Hid (lastP els n = (els.drop (ip + 1)).all fun y => decide (¬ y.par = x.par)) := by
      unfold Hid lastP
      rw [hf]
      have h1 := (findP_some hf).2
      have h2 := idx_of HT.out.nums hx
      rw [h1] at h2
      show ((els.drop (idxP els n + 1)).all fun y => decide (¬ y.par = x.par)) = _
      rw [h2]
    have T1 := HT.out.below hB
    have hcap := own_cap T1.pl.row
    have hcm : c ≤ maxLen := own_capM T1.pl.row
    obtain ⟨g, hg, hgl, he⟩ := T1.pl.el hip
    subst hg
    have q1 := he.cell1
    rw [hxe] at q1
    have q0 := T1.cell
    have hil : (ip : Int) < (els.length : Int) := by omega
    have HB1 : Hid (Below w.heap.size w w1) := hB
    have hsz : (Tryz.prog.info? 134).map (·.size) = some 31 := Tryz.size134
    unfold maxLen at hcm
    clear hf hB hx hxe he T1
    generalize x.par = par at HA q1
    have hbl := HT.out.lt
    have hgw : g < w.heap.size := by
      obtain ⟨g2, hg2, hgl2, _⟩ := HT.out.pl.el hip
      injection hg2 with hg2
      injection hg2 with hg2 _ _
      subst hg2
      exact hgl2
    have HQ : Hid (w.cell? ⟨g, ip * 31 + 1, none⟩ = some (.int .i64 par)) := (HB1.out.cell (p := ⟨g, ip * 31 + 1, none⟩) hgw).symm.trans q1
    go_wp2_with fail
    case inl =>
      rename_i hce
      have hle : els.length = ip + 1 := by omega
      have HR : Hid (PBool w (lastP els n) (.returned (.bool true)) w1) := ⟨by rw [HA.out, List.drop_of_length_le (by omega)]; rfl, HB1.out⟩
      have e0 : els.length - (ip + 1) = 0 := by omega
      rw [e0]
      clear hle e0 hil hip hcap HA
      go_loopg [25] 0 (fun gk iv wr => iv = .int .i64 0 ∧ wr = w1)
      case atStart => exact ⟨rfl, rfl⟩
      case round =>
        obtain ⟨rfl, rfl⟩ := hrel
        go_wp2
        go_ret
        exact HR.out
    case inr =>
      rename_i hce
      obtain ⟨m, hm⟩ : ∃ m, els.length - (ip + 1) = m := ⟨_, rfl⟩
      have hml : m ≤ 24 := by omega
      have HM : Hid (els.length - (ip + 1) = m) := hm
      rw [hm]
      clear hm q0 q1
      go_loopg [25] m (fun gk iv wr => ∃ i : Nat, iv = .int .i64 i ∧ i ≤ m ∧ m - i ≤ gk ∧ Hid (Below w.heap.size w wr ∧ ∀ j (hj : ip + 1 + j < els.length), j < i → ¬ els[ip + 1 + j].par = par))
      case atStart => exact ⟨0, rfl, Nat.zero_le _, by omega, HB1.out, fun j _ h => by omega⟩
      case round =>
        obtain ⟨i, rfl, hi, hgk, HN⟩ := hrel
        by_cases hlt : i < m
        · have hd : decide ((i : Int) < (m : Int)) = true := by simp; omega
          have hlt2 : ip + 1 + i < els.length := by have := HM.out; omega
          obtain ⟨g2, hg2, hgl2, he⟩ := HT.out.pl.el hlt2
          injection hg2 with hg2
          injection hg2 with hg2 _ _
          subst hg2
          have HE : Hid (ElAt wr g ((ip + 1) * 31 + i * 31) els[ip + 1 + i].cells els[ip + 1 + i].num els[ip + 1 + i].par) := by
            rw [show (ip + 1) * 31 + i * 31 = (ip + 1 + i) * 31 from by omega]
            exact he.below HN.out.1 hgl2
          have q0 : wr.cell? ⟨b, 1, none⟩ = some (.slice (some ⟨g, 0, none⟩) els.length c) := (HN.out.1.cell (p := ⟨b, 1, none⟩) hbl).trans HT.out.cell
          have q1 : wr.cell? ⟨g, ip * 31 + 1, none⟩ = some (.int .i64 par) := (HN.out.1.cell (p := ⟨g, ip * 31 + 1, none⟩) hgw).trans HQ.out
          have hbz := HN.out.1.size
          have hblr : b < wr.heap.size := by omega
          have hglr : g < wr.heap.size := by omega
          have HY : Hid (els[ip + 1 + i].par = par → lastP els n = false) := fun h => by
            rw [HA.out, List.all_eq_false]
            refine ⟨els[ip + 1 + i], ?_, by simp [h]⟩
            rw [List.mem_iff_getElem]
            exact ⟨i, by simp; omega, by simp⟩
          have HNX : Hid (¬ els[ip + 1 + i].par = par → ∀ j (hj : ip + 1 + j < els.length), j < i + 1 → ¬ els[ip + 1 + j].par = par) := fun hm j hj h1 => by
            by_cases e : j = i
            · subst e; exact hm
            · exact HN.out.2 j hj (by omega)
          clear he
          generalize els[ip + 1 + i].par = py at HE HY HNX
          generalize els[ip + 1 + i].num = ny at HE
          generalize els[ip + 1 + i].cells = cs at HE
          have c1 : cs[1]? = some (.int .i64 py) := HE.out.c1
          have HB2 : Hid (∀ k, Below w.heap.size w ((wr.alloc (.cells cs.toArray 134)).drewN k)) := fun k => below_draws (HN.out.1.alloc hbz _) k
          by_cases hp : py = par
          · have gp : (py == par) = true := by simp [hp]
            have HR : Hid (∀ k, PBool w (lastP els n) (.returned (.bool false)) ((wr.alloc (.cells cs.toArray 134)).drewN k)) := fun k => ⟨by rw [HY.out hp], HB2.out k⟩
            clear hp
            go_upto_region 7 with (first | (refine wpList_load_mid rfl 134 _ rfl g ((ip + 1) * 31 + i * 31) rfl cs _ HE.out.rng Tryz.underlying134 rfl HE.out.size ?_) | (refine wpList_store_new rfl 134 _ _ rfl _ cs.toArray 134 rfl rfl HE.out.size' HE.out.same HE.out.all ?_))
            go_quiet (fail)
            go_wp2
            go_ret
            exact HR.out _
          · have gp : (py == par) = false := by simp [hp]
            have HN3 : Hid (∀ k, Below w.heap.size w ((wr.alloc (.cells cs.toArray 134)).drewN k) ∧ ∀ j (hj : ip + 1 + j < els.length), j < i + 1 → ¬ els[ip + 1 + j].par = par) := fun k => ⟨HB2.out k, HNX.out hp⟩
            clear hp
            go_upto_region 7 with (first | (refine wpList_load_mid rfl 134 _ rfl g ((ip + 1) * 31 + i * 31) rfl cs _ HE.out.rng Tryz.underlying134 rfl HE.out.size ?_) | (refine wpList_store_new rfl 134 _ _ rfl _ cs.toArray 134 rfl rfl HE.out.size' HE.out.same HE.out.all ?_))
            go_quiet (fail)
            go_wp2
            go_roundg (m - (i + 1))
            case measure => omega
            case rel => exact ⟨i + 1, by go_num, by omega, Nat.le_refl _, HN3.out _⟩
        · have hd : decide ((i : Int) < (m : Int)) = false := by simp; omega
          have HR : Hid (PBool w (lastP els n) (.returned (.bool true)) wr) := by
            refine ⟨?_, HN.out.1⟩
            have : lastP els n = true := by
              rw [HA.out, List.all_eq_true]
              intro y hy
              rw [List.mem_iff_getElem] at hy
              obtain ⟨j, hj, rfl⟩ := hy
              simp only [List.length_drop] at hj
              rw [List.getElem_drop]
              simpa using HN.out.2 j (by omega) (by have := HM.out; omega)
            rw [this]
          go_wp2
          go_ret
          exact HR.out
end
end Go.Proofs.YtblfffbmklkhmaaGreat
