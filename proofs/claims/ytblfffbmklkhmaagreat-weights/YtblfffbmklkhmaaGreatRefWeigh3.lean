/- The weight of a selector: the document's Weight; one step of Weights. Own work. -/
import Derived.Test.YtblfffbmklkhmaaGreatRefWeigh2
import Derived.Test.YtblfffbmklkhmaaGreatLawPlays
namespace Go.Proofs.YtblfffbmklkhmaaGreat
open Go.RowKit

theorem rsels_at {w : World} {s : ByteArray} {base : Nat} : ∀ {xs : List Value} {ss : List (List (Nat × Nat))} {i : Nat}, RSels w s base xs ss → (h : i < ss.length) → ∃ (a : Option Addr) (c : Nat) (ps : List Value), xs[i]? = some (.slice a ss[i].length c) ∧ w.ownsRow base 206 2 (.slice a ss[i].length c) ss[i].length ps ∧ Txs s ps ss[i]
  | _, cs :: ss, 0, ⟨a, c, ps, ys, h1, h2, h3, _⟩, _ => by subst h1; exact ⟨a, c, ps, rfl, h2, h3.1⟩
  | _, cs :: ss, i + 1, ⟨a, c, ps, ys, h1, h2, h3, h4⟩, h => by
    obtain ⟨a', c', ps', e1, e2, e3⟩ := rsels_at (i := i) h4 (by simpa using h)
    subst h1
    exact ⟨a', c', ps', by simpa using e1, by simpa using e2, by simpa using e3⟩
theorem rruls_at {w : World} {s : ByteArray} {base : Nat} : ∀ {xs : List Value} {rs : List (List (List (Nat × Nat)))} {i : Nat}, RRuls w s base xs rs → (h : i < rs.length) → ∃ (a : Option Addr) (c : Nat) (ps : List Value), xs[i * 3 + 1]? = some (.slice a rs[i].length c) ∧ w.ownsRow base 166 1 (.slice a rs[i].length c) rs[i].length ps ∧ RSels w s base ps rs[i]
  | _, ss :: rs, 0, ⟨lv, a, c, vD, ps, ys, h1, h2, h3, _⟩, _ => by subst h1; exact ⟨a, c, ps, rfl, h2, h3⟩
  | _, ss :: rs, i + 1, ⟨lv, a, c, vD, ps, ys, h1, h2, h3, h4⟩, h => by
    obtain ⟨a1, c1, ps1, e1, e2, e3⟩ := rruls_at (i := i) h4 (by simpa using h)
    subst h1
    rw [show (i + 1) * 3 + 1 = i * 3 + 1 + 3 from by omega]
    exact ⟨a1, c1, ps1, by simpa using e1, by simpa using e2, by simpa using e3⟩

theorem chk_acc {s : ByteArray} (h : (chk s).1 = 0) : ∃ M, Acc s 0 K0 0 M := by
  have h4 := chk_small h
  unfold chk at h
  rw [if_neg (by omega)] at h
  by_cases hv : 0 ≤ (V s 0 K0 0).1
  · rw [if_pos hv] at h; simp at h
  · refine ⟨(V s 0 K0 0).2, Prod.ext ?_ rfl⟩
    have := V_fst s 0 K0 0
    show _ = (-1 : Int)
    omega

def RWeightPost (w : World) (s : ByteArray) (r c : Int) (rs : List PRu) (e : Ending) (w' : World) : Prop :=
  ∃ x y : Int, e = .returned (.tuple #[.int .i64 x, .int .i64 y]) ∧ Below w.heap.size w w' ∧ Hid (((chk s).1 ≠ 0 → (x, y) = (0, (chk s).1)) ∧ ((chk s).1 = 0 → (x, y) = wres rs r c))

set_option maxRecDepth 100000 in
set_option maxHeartbeats 4000000 in
theorem refweight_any (w : World) (s : ByteArray) (r c : Int) (rs : List PRu) (hs : s.size ≤ maxLen) (hrs : Hid ((chk s).1 = 0 → RulsAt s 0 s.size rs)) :
    Calls Tryz.prog 56 #[.string s, .int .i64 r, .int .i64 c] w fun e w' => RWeightPost w s r c rs e w' := by
  go_enter Tryz.func56, Tryz.ntmps56
  go_wp2_with fail
  refine (refread_any _ s hs).mono ?_
  rintro e w1 ⟨pa, rfl, hb, hcont⟩
  have hz := hb.size
  by_cases h0 : (chk s).1 = 0
  · obtain ⟨b, a, c1, rs', xs, mn, rfl, hsh, ho, hr, ht, _⟩ := hcont h0
    have H0 : Hid ((chk s).1 = 0) := h0
    obtain ⟨M, hM⟩ := chk_acc h0
    have hRS := link_sheet hM (hrs.out h0) ht
    have hlen := rs_len hRS
    obtain ⟨hl1, hl2⟩ := ruls_short (hrs.out h0) (chk_small h0)
    have hsm := chk_small h0
    have HX : Hid ((∀ r ∈ rs, r.ss.length ≤ 400 ∧ ∀ cs ∈ r.ss, Short cs) ∧ LRS s rs' rs ∧ rs'.length = rs.length) := ⟨hl2, hRS, hlen⟩
    have HRR : Hid (w1.ownsRow w.heap.size 164 3 (.slice a rs'.length c1) rs'.length xs ∧ RRuls w1 s w.heap.size xs rs') := ⟨ho, hr⟩
    have d0 := hsh.c0
    rw [h0]
    generalize (chk s).2 = y2
    rw [hlen] at d0
    have hrl : rs.length ≤ 400 := by omega
    clear h0 ho hr ht hl2 hcont hM hRS hlen hsh
    by_cases hr0 : r < 0
    · have hd : decide (r < 0) = true := by simpa using hr0
      have HW : Hid (wres rs r c = (0, 4)) := wres_no (by omega)
      clear hr0
      go_wp2
      go_ret2
      exact ⟨0, 4, rfl, hb, fun h => absurd H0.out h, fun _ => HW.out.symm⟩
    have hd : decide (r < 0) = false := by simpa using hr0
    by_cases hr1 : (rs.length : Int) ≤ r
    · have hd1 : decide ((rs.length : Int) ≤ r) = true := by simpa using hr1
      have HW : Hid (wres rs r c = (0, 4)) := wres_no (by omega)
      clear hr1
      go_wp2
      go_ret2
      exact ⟨0, 4, rfl, hb, fun h => absurd H0.out h, fun _ => HW.out.symm⟩
    have hd1 : decide ((rs.length : Int) ≤ r) = false := by simpa using hr1
    obtain ⟨k, rfl⟩ : ∃ k : Nat, r = k := ⟨r.toNat, by omega⟩
    have hk : k < rs.length := by omega
    have hk' : k < rs'.length := by rw [HX.out.2.2]; exact hk
    have HK : Hid (∀ c, wres rs (k : Int) c = wsel rs[k].ss c) := wres_at hk
    by_cases hc0 : c < 0
    · have hd2 : decide (c < 0) = true := by simpa using hc0
      have HW : Hid (wres rs (k : Int) c = (0, 4)) := by unfold Hid; rw [HK.out, wsel_no (by omega)]
      clear hc0 hr0 hr1
      go_wp2
      go_ret2
      exact ⟨0, 4, rfl, hb, fun h => absurd H0.out h, fun _ => HW.out.symm⟩
    have hd2 : decide (c < 0) = false := by simpa using hc0
    obtain ⟨a2, c2, ps, e1, e2, e3⟩ := rruls_at HRR.out.2 hk'
    obtain ⟨g, hg, hgl, hgc⟩ := own_cells HRR.out.1 (by omega)
    subst hg
    have q1 := hgc _ _ e1
    obtain ⟨hs1, hs2⟩ := HX.out.1 rs[k] (List.getElem_mem hk)
    have hSS := rs_at HX.out.2.1 hk' hk
    have hsl := ss_len hSS
    have HE : Hid (w1.ownsRow w.heap.size 166 1 (.slice a2 rs'[k].length c2) rs'[k].length ps ∧ RSels w1 s w.heap.size ps rs'[k] ∧ SS s rs'[k] rs[k].ss ∧ ∀ cs ∈ rs[k].ss, Short cs) := ⟨e2, e3, hSS, hs2⟩
    clear e1 e2 e3 hgc hr0 hr1 hs2 hSS
    generalize rs[k].ss = ss at HE hs1 HK hsl
    generalize rs'[k] = ss' at q1 HE hsl
    rw [hsl] at q1
    have HSL : Hid (ss'.length = ss.length) := hsl
    clear hsl
    by_cases hc1 : (ss.length : Int) ≤ c
    · have hd3 : decide ((ss.length : Int) ≤ c) = true := by simpa using hc1
      have HW : Hid (wres rs (k : Int) c = (0, 4)) := by unfold Hid; rw [HK.out, wsel_no (by omega)]
      clear hc1
      go_wp2
      go_ret2
      exact ⟨0, 4, rfl, hb, fun h => absurd H0.out h, fun _ => HW.out.symm⟩
    have hd3 : decide ((ss.length : Int) ≤ c) = false := by simpa using hc1
    obtain ⟨m, rfl⟩ : ∃ m : Nat, c = m := ⟨c.toNat, by omega⟩
    have hm : m < ss.length := by omega
    have hm' : m < ss'.length := by rw [HSL.out]; exact hm
    obtain ⟨a3, c3, ps3, e1, e2, e3⟩ := rsels_at HE.out.2.1 hm'
    obtain ⟨g', hg', hgl', hgc'⟩ := own_cells HE.out.1 (by omega)
    subst hg'
    have q2 := hgc' _ _ e1
    have HW : Hid (wres rs (k : Int) (m : Int) = (((cws ss[m] : Nat) : Int), 0)) := by unfold Hid; rw [HK.out, wsel_at hm]
    have HE3 : Hid (w1.ownsRow w.heap.size 206 2 (.slice a3 ss'[m].length c3) ss'[m].length ps3 ∧ Txs s ps3 ss'[m] ∧ CS s ss'[m] ss[m] ∧ Short ss[m]) := ⟨e2, e3, ss_at HE.out.2.2.1 hm' hm, HE.out.2.2.2 ss[m] (List.getElem_mem hm)⟩
    clear e1 e2 e3 hgc' hc0 hc1
    generalize ss[m] = cs at HW HE3
    generalize ss'[m] = segs at q2 HE3
    go_wp2_with fail
    refine (refselw_any _ (some ⟨b, 0, none⟩) w.heap.size s a3 c3 segs cs ps3 HE3.out.1 HE3.out.2.1 HE3.out.2.2.1 HE3.out.2.2.2 hsm).mono ?_
    rintro e w2 ⟨rfl, hb2⟩
    have hB2 : Below w.heap.size w w2 := hb.trans (hb2.mono hz)
    go_wp2_with fail
    go_ret2
    exact ⟨_, 0, rfl, hB2, fun h => absurd H0.out h, fun _ => HW.out.symm⟩
  · have H0 : Hid (¬ (chk s).1 = 0) := h0
    have hne : ((chk s).1 != 0) = true := by simp [h0]
    obtain ⟨x, hx⟩ : ∃ x, (chk s).1 = x := ⟨_, rfl⟩
    have HXE : Hid ((chk s).1 = x) := hx
    rw [hx] at hne ⊢
    generalize (chk s).2 = y2
    clear h0 hx hcont
    go_wp2
    go_ret2
    exact ⟨0, x, rfl, hb, fun _ => by rw [HXE.out], fun h => absurd h H0.out⟩

end Go.Proofs.YtblfffbmklkhmaaGreat
