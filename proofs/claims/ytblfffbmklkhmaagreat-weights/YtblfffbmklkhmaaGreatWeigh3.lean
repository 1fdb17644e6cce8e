/- The weight of a selector: the program's call. Own work. -/
import Derived.Test.YtblfffbmklkhmaaGreatWeigh2
import Derived.Test.YtblfffbmklkhmaaGreatLink
namespace Go.Proofs.YtblfffbmklkhmaaGreat
open Go.RowKit

theorem parts_len {s : ByteArray} : ∀ {ks : List PPt} {i j : Nat}, PartsAt s i j ks → ks.length ≤ j - i
  | [], _, _, _ => by simp
  | _ :: _, _, _, ⟨_, _, h1, h2⟩ => by
    have := good_lt h1
    have := parts_len h2
    have := (parts_le h2).1
    simp only [List.length_cons]
    omega
theorem comp_len {s : ByteArray} {i j ty : Nat} {ks : List PPt} (h : CompAt s i j ty ks) : ks.length ≤ j - i := by
  rcases h with ⟨_, _, h2⟩ | ⟨_, _, _, h2⟩ | ⟨_, _, _, h2, _⟩
  · have := parts_len h2; omega
  · have := parts_len h2; omega
  · exact parts_len h2
theorem selpre_short {s : ByteArray} : ∀ {cs : List PCp} {i0 i j : Nat}, SelPre s i0 i j cs → j ≤ 400 → cs.length ≤ j - i ∧ ∀ x ∈ cs, x.ps.length ≤ 400
  | [], _, _, _, _, _ => ⟨by simp, fun x hx => by cases hx⟩
  | y :: cs, _, i, j, ⟨l, h1, h2, _, _, h5, _⟩, hj => by
    obtain ⟨a, b⟩ := selpre_short h5 hj
    have hl := selpre_le h5
    have hc := comp_len h1
    refine ⟨by simp only [List.length_cons]; omega, fun x hx => ?_⟩
    rcases List.mem_cons.1 hx with rfl | hx
    · omega
    · exact b x hx
theorem sel_short {s : ByteArray} {i j : Nat} {cs : List PCp} (h : SelAt s i j cs) (hj : j ≤ 400) : Short cs := by
  obtain ⟨pre, l, ty, ks, rfl, h2, h3, h4, _⟩ := h
  obtain ⟨a, b⟩ := selpre_short h2 (by omega)
  have hc := comp_len h3
  refine ⟨by simp only [List.length_append, List.length_cons, List.length_nil]; omega, fun x hx => ?_⟩
  rcases List.mem_append.1 hx with hx | hx
  · exact b x hx
  · rcases List.mem_cons.1 hx with rfl | hx
    · show ks.length ≤ 400; omega
    · cases hx
theorem selspre_short {s : ByteArray} : ∀ {ss : List (List PCp)} {i j : Nat}, SelsPre s i j ss → j ≤ 400 → ss.length ≤ j - i ∧ ∀ cs ∈ ss, Short cs
  | [], _, _, _, _ => ⟨by simp, fun x hx => by cases hx⟩
  | cs :: ss, i, j, ⟨l, h1, h2, _, h5⟩, hj => by
    have hl := selspre_le h5
    obtain ⟨a, b⟩ := selspre_short h5 hj
    refine ⟨by simp only [List.length_cons]; omega, fun x hx => ?_⟩
    rcases List.mem_cons.1 hx with rfl | hx
    · exact sel_short h1 (by omega)
    · exact b x hx
theorem sels_short {s : ByteArray} {i j : Nat} {ss : List (List PCp)} (h : SelsAt s i j ss) (hj : j ≤ 400) : ss.length ≤ 400 ∧ ∀ cs ∈ ss, Short cs := by
  obtain ⟨pre, l, cs, rfl, h2, h3, h4, _⟩ := h
  obtain ⟨a, b⟩ := selspre_short h2 (by omega)
  refine ⟨by simp only [List.length_append, List.length_cons, List.length_nil]; omega, fun x hx => ?_⟩
  rcases List.mem_append.1 hx with hx | hx
  · exact b x hx
  · rcases List.mem_cons.1 hx with rfl | hx
    · exact sel_short h3 hj
    · cases hx
theorem ruls_short {s : ByteArray} : ∀ {rs : List PRu} {i j : Nat}, RulsAt s i j rs → j ≤ 400 → rs.length ≤ j - i ∧ ∀ r ∈ rs, r.ss.length ≤ 400 ∧ ∀ cs ∈ r.ss, Short cs
  | [], _, _, _, _ => ⟨by simp, fun x hx => by cases hx⟩
  | ss :: rs, i, j, ⟨l, h1, h2, h5⟩, hj => by
    have hl := ruls_le h5
    obtain ⟨a, b⟩ := ruls_short h5 hj
    refine ⟨by simp only [List.length_cons]; omega, fun x hx => ?_⟩
    rcases List.mem_cons.1 hx with rfl | hx
    · obtain ⟨p, q, _, a2, _, _, a5, _⟩ := h1
      exact sels_short a2 (by omega)
    · exact b x hx

/-- What Weight answers of a sheet with these selectors. -/
def wsel (ss : List (List PCp)) (c : Int) : Int × Int := if 0 ≤ c ∧ c.toNat < ss.length then (((cws (ss.getD c.toNat []) : Nat) : Int), 0) else (0, 4)
def wres (rs : List PRu) (r c : Int) : Int × Int := if 0 ≤ r ∧ r.toNat < rs.length then wsel ((rs.map PRu.ss).getD r.toNat []) c else (0, 4)
theorem wres_at {rs : List PRu} {k : Nat} (h : k < rs.length) (c : Int) : wres rs (k : Int) c = wsel rs[k].ss c := by
  unfold wres
  rw [if_pos ⟨by omega, by simpa using h⟩]
  simp [h]
theorem wsel_at {ss : List (List PCp)} {k : Nat} (h : k < ss.length) : wsel ss (k : Int) = (((cws ss[k] : Nat) : Int), 0) := by
  unfold wsel
  rw [if_pos ⟨by omega, by simpa using h⟩]
  simp [h]
theorem wres_no {rs : List PRu} {r c : Int} (h : ¬ (0 ≤ r ∧ r.toNat < rs.length)) : wres rs r c = (0, 4) := by unfold wres; rw [if_neg h]
theorem wsel_no {ss : List (List PCp)} {c : Int} (h : ¬ (0 ≤ c ∧ c.toNat < ss.length)) : wsel ss c = (0, 4) := by unfold wsel; rw [if_neg h]

def WeightPost (w : World) (s : ByteArray) (r c : Int) (e : Ending) (w' : World) : Prop :=
  ∃ x y : Int, e = .returned (.tuple #[.int .i64 x, .int .i64 y]) ∧ Below w.heap.size w w' ∧ Hid (((chk s).1 ≠ 0 → (x, y) = (0, (chk s).1)) ∧ ((chk s).1 = 0 → ∃ rs, RulsAt s 0 s.size rs ∧ (x, y) = wres rs r c))

theorem chk_small {s : ByteArray} (h : (chk s).1 = 0) : s.size ≤ 400 := by
  unfold chk at h
  by_cases h4 : 400 < s.size
  · rw [if_pos h4] at h; simp at h
  · omega

set_option maxRecDepth 100000 in
set_option maxHeartbeats 4000000 in
theorem weight_any (w : World) (s : ByteArray) (r c : Int) (hs : s.size ≤ maxLen) :
    Calls Tryz.prog 55 #[.string s, .int .i64 r, .int .i64 c] w fun e w' => WeightPost w s r c e w' := by
  go_enter Tryz.func55, Tryz.ntmps55
  go_wp2_with fail
  refine (read_any _ s hs).mono ?_
  rintro e w1 ⟨a, n, c1, rfl, hb, hcont⟩
  have HC : Hid ((chk s).1 = 0 → ∃ rs xs, n = rs.length ∧ w1.ownsRow w.heap.size 138 3 (.slice a n c1) n xs ∧ Ruls w1 w.heap.size xs rs ∧ RulsAt s 0 s.size rs) := hcont
  clear hcont
  have hz := hb.size
  by_cases h0 : (chk s).1 = 0
  · obtain ⟨rs, xs, hn, ho, hr, ht⟩ := HC.out h0
    have H0 : Hid ((chk s).1 = 0) := h0
    have HT : Hid (RulsAt s 0 s.size rs) := ht
    obtain ⟨hl1, hl2⟩ := ruls_short ht (chk_small h0)
    have hsm := chk_small h0
    have HSH : Hid (∀ r ∈ rs, r.ss.length ≤ 400 ∧ ∀ cs ∈ r.ss, Short cs) := hl2
    have HRR : Hid (w1.ownsRow w.heap.size 138 3 (.slice a rs.length c1) rs.length xs ∧ Ruls w1 w.heap.size xs rs) := by subst hn; exact ⟨ho, hr⟩
    subst hn
    rw [h0]
    generalize (chk s).2 = y2
    clear HC h0 ho hr ht hl2
    have hrl : rs.length ≤ 400 := by omega
    by_cases hr0 : r < 0
    · have hd : decide (r < 0) = true := by simpa using hr0
      have HW : Hid (wres rs r c = (0, 4)) := wres_no (by omega)
      clear hr0
      go_wp2
      go_ret2
      exact ⟨0, 4, rfl, hb.alloc hz _, fun h => absurd H0.out h, fun _ => ⟨rs, HT.out, HW.out.symm⟩⟩
    have hd : decide (r < 0) = false := by simpa using hr0
    by_cases hr1 : (rs.length : Int) ≤ r
    · have hd1 : decide ((rs.length : Int) ≤ r) = true := by simpa using hr1
      have HW : Hid (wres rs r c = (0, 4)) := wres_no (by omega)
      clear hr1
      go_wp2
      go_ret2
      exact ⟨0, 4, rfl, hb.alloc hz _, fun h => absurd H0.out h, fun _ => ⟨rs, HT.out, HW.out.symm⟩⟩
    have hd1 : decide ((rs.length : Int) ≤ r) = false := by simpa using hr1
    obtain ⟨k, rfl⟩ : ∃ k : Nat, r = k := ⟨r.toNat, by omega⟩
    have hk : k < rs.length := by omega
    obtain ⟨a2, c2, ps, e1, e2, e3⟩ := ruls_at HRR.out.2 hk
    obtain ⟨g, hg, hgl, hgc⟩ := own_cells HRR.out.1 (by omega)
    subst hg
    have q1 := hgc _ _ e1
    obtain ⟨hs1, hs2⟩ := HSH.out rs[k] (List.getElem_mem hk)
    have HK : Hid (∀ c, wres rs (k : Int) c = wsel rs[k].ss c) := wres_at hk
    have HS2 : Hid (∀ cs ∈ rs[k].ss, Short cs) := hs2
    have HE : Hid (w1.ownsRow w.heap.size 141 1 (.slice a2 rs[k].ss.length c2) rs[k].ss.length ps ∧ Sels w1 w.heap.size ps rs[k].ss) := ⟨e2, e3⟩
    clear e1 e2 e3 hgc hr0 hr1 hs2
    generalize rs[k].ss = ss at q1 HE hs1 HK HS2
    by_cases hc0 : c < 0
    · have hd2 : decide (c < 0) = true := by simpa using hc0
      have HW : Hid (wres rs (k : Int) c = (0, 4)) := by unfold Hid; rw [HK.out, wsel_no (by omega)]
      clear hc0
      go_wp2
      go_ret2
      exact ⟨0, 4, rfl, hb.alloc hz _, fun h => absurd H0.out h, fun _ => ⟨rs, HT.out, HW.out.symm⟩⟩
    have hd2 : decide (c < 0) = false := by simpa using hc0
    by_cases hc1 : (ss.length : Int) ≤ c
    · have hd3 : decide ((ss.length : Int) ≤ c) = true := by simpa using hc1
      have HW : Hid (wres rs (k : Int) c = (0, 4)) := by unfold Hid; rw [HK.out, wsel_no (by omega)]
      clear hc1
      go_wp2
      go_ret2
      exact ⟨0, 4, rfl, hb.alloc hz _, fun h => absurd H0.out h, fun _ => ⟨rs, HT.out, HW.out.symm⟩⟩
    have hd3 : decide ((ss.length : Int) ≤ c) = false := by simpa using hc1
    obtain ⟨m, rfl⟩ : ∃ m : Nat, c = m := ⟨c.toNat, by omega⟩
    have hm : m < ss.length := by omega
    obtain ⟨a3, c3, ps3, e1, e2, e3⟩ := sels_at HE.out.2 hm
    obtain ⟨g', hg', hgl', hgc'⟩ := own_cells HE.out.1 (by omega)
    subst hg'
    have q2 := hgc' _ _ e1
    have HW : Hid (wres rs (k : Int) (m : Int) = (((cws ss[m] : Nat) : Int), 0)) := by unfold Hid; rw [HK.out, wsel_at hm]
    have hsh := HS2.out ss[m] (List.getElem_mem hm)
    have HSH3 : Hid (Short ss[m]) := hsh
    have HE3 : Hid (w1.ownsRow w.heap.size 190 3 (.slice a3 ss[m].length c3) ss[m].length ps3 ∧ Comps w1 w.heap.size ps3 ss[m]) := ⟨e2, e3⟩
    clear e1 e2 e3 hgc' hc0 hc1 hsh
    generalize ss[m] = cs at q2 HW HSH3 HE3
    go_wp2_with fail
    refine (selw_any _ w.heap.size a3 c3 cs ps3 (by exact HE3.out.1.alloc _) (by exact HE3.out.2.keep (keeps_alloc _ _ _ _)) HSH3.out).mono ?_
    rintro e w2 ⟨rfl, hb2⟩
    have hB2 : Below w.heap.size w w2 := (hb.alloc hz _).trans (hb2.mono (by simp; omega))
    go_wp2_with fail
    go_ret2
    exact ⟨_, 0, rfl, hB2, fun h => absurd H0.out h, fun _ => ⟨rs, HT.out, HW.out.symm⟩⟩
  · have H0 : Hid (¬ (chk s).1 = 0) := h0
    have hne : ((chk s).1 != 0) = true := by simp [h0]
    have HX : Hid (∀ x, (chk s).1 = x → (chk s).1 = x) := fun _ h => h
    obtain ⟨x, hx⟩ : ∃ x, (chk s).1 = x := ⟨_, rfl⟩
    have HXE : Hid ((chk s).1 = x) := hx
    rw [hx] at hne ⊢
    generalize (chk s).2 = y2
    clear h0 hx HC HX
    go_wp2
    go_ret2
    exact ⟨0, x, rfl, hb.alloc hz _, fun _ => by rw [HXE.out], fun h => absurd h H0.out⟩

end Go.Proofs.YtblfffbmklkhmaaGreat
