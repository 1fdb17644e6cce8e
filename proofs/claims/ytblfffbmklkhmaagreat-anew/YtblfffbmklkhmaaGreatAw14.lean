/- Own work. -/
import Derived.Test.YtblfffbmklkhmaaGreatAw13
import Derived.Test.YtblfffbmklkhmaaGreatAw7
import Derived.Test.YtblfffbmklkhmaaGreatAw6
namespace Go.Proofs.YtblfffbmklkhmaaGreat
open Go.RowKit
theorem parts_len {s : ByteArray} : ∀ {ks : List PPt} {i j : Nat}, PartsAt s i j ks → ks.length ≤ j - i
  | [], _, _, _ => by simp
  | _ :: _, _, _, ⟨_, _, h1, h2⟩ => by
    have := good_lt h1
    have := parts_len h2
    have := (parts_le h2).1
    simp only [List.length_cons]
    omega
theorem comp_len {s : ByteArray} {i j ty : Nat} {ks : List PPt} (h : CompAt s i j ty ks) : ks.length ≤ j - i := by
  rcases h with ⟨_, _, h2⟩ | ⟨_, _, _, h2⟩ | ⟨_, _, _, h2, _⟩
  · have := parts_len h2; omega
  · have := parts_len h2; omega
  · exact parts_len h2
theorem selpre_short {s : ByteArray} : ∀ {cs : List PCp} {i0 i j : Nat}, SelPre s i0 i j cs → j ≤ 400 → cs.length ≤ j - i ∧ ∀ x ∈ cs, x.ps.length ≤ 400
  | [], _, _, _, _, _ => ⟨by simp, fun x hx => by cases hx⟩
  | y :: cs, _, i, j, ⟨l, h1, h2, _, _, h5, _⟩, hj => by
    obtain ⟨a, b⟩ := selpre_short h5 hj
    have hl := selpre_le h5
    have hc := comp_len h1
    refine ⟨by simp only [List.length_cons]; omega, fun x hx => ?_⟩
    rcases List.mem_cons.1 hx with rfl | hx
    · omega
    · exact b x hx
theorem sel_short {s : ByteArray} {i j : Nat} {cs : List PCp} (h : SelAt s i j cs) (hj : j ≤ 400) : Short cs := by
  obtain ⟨pre, l, ty, ks, rfl, h2, h3, h4, _⟩ := h
  obtain ⟨a, b⟩ := selpre_short h2 (by omega)
  have hc := comp_len h3
  refine ⟨by simp only [List.length_append, List.length_cons, List.length_nil]; omega, fun x hx => ?_⟩
  rcases List.mem_append.1 hx with hx | hx
  · exact b x hx
  · rcases List.mem_cons.1 hx with rfl | hx
    · show ks.length ≤ 400; omega
    · cases hx
theorem selspre_short {s : ByteArray} : ∀ {ss : List (List PCp)} {i j : Nat}, SelsPre s i j ss → j ≤ 400 → ss.length ≤ j - i ∧ ∀ cs ∈ ss, Short cs
  | [], _, _, _, _ => ⟨by simp, fun x hx => by cases hx⟩
  | cs :: ss, i, j, ⟨l, h1, h2, _, h5⟩, hj => by
    have hl := selspre_le h5
    obtain ⟨a, b⟩ := selspre_short h5 hj
    refine ⟨by simp only [List.length_cons]; omega, fun x hx => ?_⟩
    rcases List.mem_cons.1 hx with rfl | hx
    · exact sel_short h1 (by omega)
    · exact b x hx
theorem sels_short {s : ByteArray} {i j : Nat} {ss : List (List PCp)} (h : SelsAt s i j ss) (hj : j ≤ 400) : ss.length ≤ 400 ∧ ∀ cs ∈ ss, Short cs := by
  obtain ⟨pre, l, cs, rfl, h2, h3, h4, _⟩ := h
  obtain ⟨a, b⟩ := selspre_short h2 (by omega)
  refine ⟨by simp only [List.length_append, List.length_cons, List.length_nil]; omega, fun x hx => ?_⟩
  rcases List.mem_append.1 hx with hx | hx
  · exact b x hx
  · rcases List.mem_cons.1 hx with rfl | hx
    · exact sel_short h3 hj
    · cases hx
theorem ruls_short {s : ByteArray} : ∀ {rs : List PRu} {i j : Nat}, RulsAt s i j rs → j ≤ 400 → rs.length ≤ j - i ∧ ∀ r ∈ rs, r.ss.length ≤ 400 ∧ ∀ cs ∈ r.ss, Short cs
  | [], _, _, _, _ => ⟨by simp, fun x hx => by cases hx⟩
  | ss :: rs, i, j, ⟨l, h1, h2, h5⟩, hj => by
    have hl := ruls_le h5
    obtain ⟨a, b⟩ := ruls_short h5 hj
    refine ⟨by simp only [List.length_cons]; omega, fun x hx => ?_⟩
    rcases List.mem_cons.1 hx with rfl | hx
    · obtain ⟨p, q, _, a2, _, _, a5, _⟩ := h1
      exact sels_short a2 (by omega)
    · exact b x hx
end Go.Proofs.YtblfffbmklkhmaaGreat

namespace Go.Proofs.YtblfffbmklkhmaaGreat
open Go.RowKit
theorem below_draws {B : Nat} {a w : World} (h : Below B a w) (n : Nat) : Below B a (w.drewN n) := ⟨h.os, h.tape, h.output, h.size, h.block⟩
end Go.Proofs.YtblfffbmklkhmaaGreat

namespace Go.Proofs.YtblfffbmklkhmaaGreat
open Go.RowKit
section
set_option maxRecDepth 100000
set_option maxHeartbeats 4000000
variable (w : World) (b : Nat) (a : Option Addr) (c : Nat) (els : List PEl) (n : Int)
theorem psigned_any (sg : Int) (h : TRd w b a c els) : Calls Tryz.prog 217 #[.int .u8 sg, .pointer (some ⟨b, 1, none⟩), .int .i64 n] w fun e w' => PList w (signedP els sg n) e w' := by
  have HT : Hid (TRd w b a c els) := h
  have hfew := h.few
  clear h
  have hal : (aboveP els els.length n).length ≤ 24 := by
    have : ∀ k m, (aboveP els k m).length ≤ k := by
      intro k
      induction k with
      | zero => intro m; simp [aboveP]
      | succ k ih =>
        intro m
        show (if parP els m = -1 then [] else _).length ≤ _
        split
        · simp
        · have := ih (parP els m); simp; omega
    have := this els.length n
    omega
  have hhl := aheadP_len els n
  by_cases h1 : sg = 32
  · have g1 : (sg == 32) = true := by simp [h1]
    have HR : Hid (signedP els sg n = aboveP els els.length n) := by unfold Hid signedP; rw [if_pos h1]
    clear h1
    go_enter Tryz.func217, Tryz.ntmps217
    go_wp2_with fail
    refine (pabove_any w b a c els n HT.out).mono ?_
    rintro e w1 ⟨a2, c2, rfl, k1, k2, k3, hB⟩
    have HE : Hid (PList w (signedP els sg n) (.returned (.slice a2 (aboveP els els.length n).length c2)) w1) := by unfold Hid; rw [HR.out]; exact ⟨a2, c2, rfl, k1, k2, k3, hB⟩
    clear k1 k2 k3 hB
    go_wp2
    go_ret
    exact HE.out
  have g1 : (sg == 32) = false := by simp [h1]
  by_cases h2 : sg = 62
  · have g2 : (sg == 62) = true := by simp [h2]
    have HR : Hid (signedP els sg n = (aboveP els els.length n).take 1) := by unfold Hid signedP; rw [if_neg h1, if_pos h2]
    clear h1 h2
    go_enter Tryz.func217, Tryz.ntmps217
    go_wp2_with fail
    refine (pabove_any w b a c els n HT.out).mono ?_
    rintro e w1 ⟨a2, c2, rfl, k1, k2, k3, hB⟩
    have HK : Hid ((aboveP els els.length n).length ≤ c2 ∧ c2 ≤ maxLen ∧ RowI w1 a2 (aboveP els els.length n) ∧ Below w.heap.size w w1) := ⟨k1, k2, k3, hB⟩
    clear k1 k2 k3 hB
    go_wp2_with fail
    refine (pnear_any w1 a2 (aboveP els els.length n) c2 hal HK.out.1 HK.out.2.1 HK.out.2.2.1).mono ?_
    rintro e w2 ⟨a3, c3, rfl, k1, k2, k3, hB⟩
    have HE : Hid (PList w (signedP els sg n) (.returned (.slice a3 ((aboveP els els.length n).take 1).length c3)) w2) := by unfold Hid; rw [HR.out]; exact ⟨a3, c3, rfl, k1, k2, k3, HK.out.2.2.2.trans (hB.mono HK.out.2.2.2.size)⟩
    clear k1 k2 k3 hB
    generalize ((aboveP els els.length n).take 1).length = m at HE ⊢
    go_wp2
    go_ret
    exact HE.out
  have g2 : (sg == 62) = false := by simp [h2]
  by_cases h3 : sg = 126
  · have g3 : (sg == 126) = true := by simp [h3]
    have HR : Hid (signedP els sg n = aheadP els n) := by unfold Hid signedP; rw [if_neg h1, if_neg h2, if_pos h3]
    clear h1 h2 h3
    go_enter Tryz.func217, Tryz.ntmps217
    go_wp2_with fail
    refine (pahead_any w b a c els n HT.out).mono ?_
    rintro e w1 ⟨a2, c2, rfl, k1, k2, k3, hB⟩
    have HE : Hid (PList w (signedP els sg n) (.returned (.slice a2 (aheadP els n).length c2)) w1) := by unfold Hid; rw [HR.out]; exact ⟨a2, c2, rfl, k1, k2, k3, hB⟩
    clear k1 k2 k3 hB
    go_wp2
    go_ret
    exact HE.out
  have g3 : (sg == 126) = false := by simp [h3]
  by_cases h4 : sg = 43
  · have g4 : (sg == 43) = true := by simp [h4]
    have HR : Hid (signedP els sg n = (aheadP els n).take 1) := by unfold Hid signedP; rw [if_neg h1, if_neg h2, if_neg h3, if_pos h4]
    clear h1 h2 h3 h4
    go_enter Tryz.func217, Tryz.ntmps217
    go_wp2_with fail
    refine (pahead_any w b a c els n HT.out).mono ?_
    rintro e w1 ⟨a2, c2, rfl, k1, k2, k3, hB⟩
    have HK : Hid ((aheadP els n).length ≤ c2 ∧ c2 ≤ maxLen ∧ RowI w1 a2 (aheadP els n) ∧ Below w.heap.size w w1) := ⟨k1, k2, k3, hB⟩
    clear k1 k2 k3 hB
    go_wp2_with fail
    refine (pnear_any w1 a2 (aheadP els n) c2 (by omega) HK.out.1 HK.out.2.1 HK.out.2.2.1).mono ?_
    rintro e w2 ⟨a3, c3, rfl, k1, k2, k3, hB⟩
    have HE : Hid (PList w (signedP els sg n) (.returned (.slice a3 ((aheadP els n).take 1).length c3)) w2) := by unfold Hid; rw [HR.out]; exact ⟨a3, c3, rfl, k1, k2, k3, HK.out.2.2.2.trans (hB.mono HK.out.2.2.2.size)⟩
    clear k1 k2 k3 hB
    generalize ((aheadP els n).take 1).length = m at HE ⊢
    go_wp2
    go_ret
    exact HE.out
  · have g4 : (sg == 43) = false := by simp [h4]
    have HR : Hid (signedP els sg n = []) := by unfold Hid signedP; rw [if_neg h1, if_neg h2, if_neg h3, if_neg h4]
    clear h1 h2 h3 h4
    have HE : Hid (PList w (signedP els sg n) (.returned (.slice none 0 0)) w) := by unfold Hid; rw [HR.out]; exact ⟨none, 0, rfl, Nat.le_refl _, Nat.zero_le _, fun i hi => absurd hi (by simp), Below.refl _ _⟩
    go_enter Tryz.func217, Tryz.ntmps217
    go_wp2
    go_ret
    exact HE.out
theorem plast_any (h : TRd w b a c els) : Calls Tryz.prog 229 #[.pointer (some ⟨b, 1, none⟩), .int .i64 n] w fun e w' => PBool w (lastP els n) e w' := by
  have HT : Hid (TRd w b a c els) := h
  have hfew := h.few
  clear h
  go_enter Tryz.func229, Tryz.ntmps229
  go_wp2_with fail
  refine (pfind_any w b _ els n HT.out.cell HT.out.pl HT.out.few).mono ?_
  rintro e w1 ⟨hB, ⟨hf, rfl⟩ | ⟨ip, x, hx, hf, rfl⟩⟩
  · have HE : Hid (PBool w (lastP els n) (.returned (.bool false)) w1) := by unfold lastP; rw [hf]; exact ⟨rfl, hB⟩
    clear hf hB
    go_wp2
    go_ret
    exact HE.out
  · have hip : ip < els.length := (List.getElem?_eq_some_iff.1 hx).1
    have hxe : els[ip] = x := (List.getElem?_eq_some_iff.1 hx).2
    have HA : Hid (lastP els n = (els.drop (ip + 1)).all fun y => decide (¬ y.par = x.par)) := by
      unfold Hid lastP
      rw [hf]
      have h1 := (findP_some hf).2
      have h2 := idx_of HT.out.nums hx
      rw [h1] at h2
      show ((els.drop (idxP els n + 1)).all fun y => decide (¬ y.par = x.par)) = _
      rw [h2]
    have T1 := HT.out.below hB
    have hcap := own_cap T1.pl.row
    have hcm : c ≤ maxLen := own_capM T1.pl.row
    obtain ⟨g, hg, hgl, he⟩ := T1.pl.el hip
    subst hg
    have q1 := he.cell1
    rw [hxe] at q1
    have q0 := T1.cell
    have hil : (ip : Int) < (els.length : Int) := by omega
    have HB1 : Hid (Below w.heap.size w w1) := hB
    have hsz : (Tryz.prog.info? 134).map (·.size) = some 31 := Tryz.size134
    unfold maxLen at hcm
    clear hf hB hx hxe he T1
    generalize x.par = par at HA q1
    have hbl := HT.out.lt
    have hgw : g < w.heap.size := by
      obtain ⟨g2, hg2, hgl2, _⟩ := HT.out.pl.el hip
      injection hg2 with hg2
      injection hg2 with hg2 _ _
      subst hg2
      exact hgl2
    have HQ : Hid (w.cell? ⟨g, ip * 31 + 1, none⟩ = some (.int .i64 par)) := (HB1.out.cell (p := ⟨g, ip * 31 + 1, none⟩) hgw).symm.trans q1
    go_wp2_with fail
    case inl =>
      rename_i hce
      have hle : els.length = ip + 1 := by omega
      have HR : Hid (PBool w (lastP els n) (.returned (.bool true)) w1) := ⟨by rw [HA.out, List.drop_of_length_le (by omega)]; rfl, HB1.out⟩
      have e0 : els.length - (ip + 1) = 0 := by omega
      rw [e0]
      clear hle e0 hil hip hcap HA
      go_loopg [25] 0 (fun gk iv wr => iv = .int .i64 0 ∧ wr = w1)
      case atStart => exact ⟨rfl, rfl⟩
      case round =>
        obtain ⟨rfl, rfl⟩ := hrel
        go_wp2
        go_ret
        exact HR.out
    case inr =>
      rename_i hce
      obtain ⟨m, hm⟩ : ∃ m, els.length - (ip + 1) = m := ⟨_, rfl⟩
      have hml : m ≤ 24 := by omega
      have HM : Hid (els.length - (ip + 1) = m) := hm
      rw [hm]
      clear hm q0 q1
      go_loopg [25] m (fun gk iv wr => ∃ i : Nat, iv = .int .i64 i ∧ i ≤ m ∧ m - i ≤ gk ∧ Hid (Below w.heap.size w wr ∧ ∀ j (hj : ip + 1 + j < els.length), j < i → ¬ els[ip + 1 + j].par = par))
      case atStart => exact ⟨0, rfl, Nat.zero_le _, by omega, HB1.out, fun j _ h => by omega⟩
      case round =>
        obtain ⟨i, rfl, hi, hgk, HN⟩ := hrel
        by_cases hlt : i < m
        · have hd : decide ((i : Int) < (m : Int)) = true := by simp; omega
          have hlt2 : ip + 1 + i < els.length := by have := HM.out; omega
          obtain ⟨g2, hg2, hgl2, he⟩ := HT.out.pl.el hlt2
          injection hg2 with hg2
          injection hg2 with hg2 _ _
          subst hg2
          have HE : Hid (ElAt wr g ((ip + 1) * 31 + i * 31) els[ip + 1 + i].cells els[ip + 1 + i].num els[ip + 1 + i].par) := by
            rw [show (ip + 1) * 31 + i * 31 = (ip + 1 + i) * 31 from by omega]
            exact he.below HN.out.1 hgl2
          have q0 : wr.cell? ⟨b, 1, none⟩ = some (.slice (some ⟨g, 0, none⟩) els.length c) := (HN.out.1.cell (p := ⟨b, 1, none⟩) hbl).trans HT.out.cell
          have q1 : wr.cell? ⟨g, ip * 31 + 1, none⟩ = some (.int .i64 par) := (HN.out.1.cell (p := ⟨g, ip * 31 + 1, none⟩) hgw).trans HQ.out
          have hbz := HN.out.1.size
          have hblr : b < wr.heap.size := by omega
          have hglr : g < wr.heap.size := by omega
          have HY : Hid (els[ip + 1 + i].par = par → lastP els n = false) := fun h => by
            rw [HA.out, List.all_eq_false]
            refine ⟨els[ip + 1 + i], ?_, by simp [h]⟩
            rw [List.mem_iff_getElem]
            exact ⟨i, by simp; omega, by simp⟩
          have HNX : Hid (¬ els[ip + 1 + i].par = par → ∀ j (hj : ip + 1 + j < els.length), j < i + 1 → ¬ els[ip + 1 + j].par = par) := fun hm j hj h1 => by
            by_cases e : j = i
            · subst e; exact hm
            · exact HN.out.2 j hj (by omega)
          clear he
          generalize els[ip + 1 + i].par = py at HE HY HNX
          generalize els[ip + 1 + i].num = ny at HE
          generalize els[ip + 1 + i].cells = cs at HE
          have c1 : cs[1]? = some (.int .i64 py) := HE.out.c1
          have HB2 : Hid (∀ k, Below w.heap.size w ((wr.alloc (.cells cs.toArray 134)).drewN k)) := fun k => below_draws (HN.out.1.alloc hbz _) k
          by_cases hp : py = par
          · have gp : (py == par) = true := by simp [hp]
            have HR : Hid (∀ k, PBool w (lastP els n) (.returned (.bool false)) ((wr.alloc (.cells cs.toArray 134)).drewN k)) := fun k => ⟨by rw [HY.out hp], HB2.out k⟩
            clear hp
            go_upto_region 7 with (first | (refine wpList_load_mid rfl 134 _ rfl g ((ip + 1) * 31 + i * 31) rfl cs _ HE.out.rng Tryz.underlying134 rfl HE.out.size ?_) | (refine wpList_store_new rfl 134 _ _ rfl _ cs.toArray 134 rfl rfl HE.out.size' HE.out.same HE.out.all ?_))
            go_quiet (fail)
            go_wp2
            go_ret
            exact HR.out _
          · have gp : (py == par) = false := by simp [hp]
            have HN3 : Hid (∀ k, Below w.heap.size w ((wr.alloc (.cells cs.toArray 134)).drewN k) ∧ ∀ j (hj : ip + 1 + j < els.length), j < i + 1 → ¬ els[ip + 1 + j].par = par) := fun k => ⟨HB2.out k, HNX.out hp⟩
            clear hp
            go_upto_region 7 with (first | (refine wpList_load_mid rfl 134 _ rfl g ((ip + 1) * 31 + i * 31) rfl cs _ HE.out.rng Tryz.underlying134 rfl HE.out.size ?_) | (refine wpList_store_new rfl 134 _ _ rfl _ cs.toArray 134 rfl rfl HE.out.size' HE.out.same HE.out.all ?_))
            go_quiet (fail)
            go_wp2
            go_roundg (m - (i + 1))
            case measure => omega
            case rel => exact ⟨i + 1, by go_num, by omega, Nat.le_refl _, HN3.out _⟩
        · have hd : decide ((i : Int) < (m : Int)) = false := by simp; omega
          have HR : Hid (PBool w (lastP els n) (.returned (.bool true)) wr) := by
            refine ⟨?_, HN.out.1⟩
            have : lastP els n = true := by
              rw [HA.out, List.all_eq_true]
              intro y hy
              rw [List.mem_iff_getElem] at hy
              obtain ⟨j, hj, rfl⟩ := hy
              simp only [List.length_drop] at hj
              rw [List.getElem_drop]
              simpa using HN.out.2 j (by omega) (by have := HM.out; omega)
            rw [this]
          go_wp2
          go_ret
          exact HR.out
end
end Go.Proofs.YtblfffbmklkhmaaGreat

namespace Go.Proofs.YtblfffbmklkhmaaGreat
open Go.RowKit
def partLen (s : ByteArray) (i : Nat) : Nat := if bt s i = 33 then (if isL (bt s (i + 1)) = true then 2 else 1 + sl s (i + 1)) else sl s i
theorem good_fun {s : ByteArray} {i j : Nat} {p : PPt} (h : goodPart s i p j) : p = partOf s i ∧ j = i + partLen s i := by
  refine ⟨h.1, ?_⟩
  have h2 := h.2
  unfold partLen
  by_cases h33 : bt s i = 33
  · rw [if_pos h33] at h2 ⊢
    by_cases hl : isL (bt s (i + 1)) = true
    · rw [if_pos hl] at h2 ⊢
      exact h2.2
    · rw [if_neg hl] at h2 ⊢
      have := h2.2.2.2.1
      omega
  · rw [if_neg h33] at h2 ⊢
    exact h2.2.2.2.1
def partsF (s : ByteArray) : Nat → Nat → List PPt × Nat
  | 0, i => ([], i)
  | f + 1, i => if isA (bt s i) = true then (partOf s i :: (partsF s f (i + partLen s i)).1, (partsF s f (i + partLen s i)).2) else ([], i)
theorem parts_fun {s : ByteArray} : ∀ {ks : List PPt} {i j : Nat} (f : Nat), PartsAt s i j ks → isA (bt s j) = false → ks.length ≤ f → partsF s f i = (ks, j)
  | [], i, j, f, h, hA, _ => by
    simp only [PartsAt] at h
    subst h
    cases f with
    | zero => rfl
    | succ f => unfold partsF; rw [if_neg (by rw [hA]; simp)]
  | k :: ks, i, j, f, ⟨h1, l, h2, h3⟩, hA, hf => by
    cases f with
    | zero => simp at hf
    | succ f =>
      obtain ⟨rfl, rfl⟩ := good_fun h2
      unfold partsF
      rw [if_pos h1, parts_fun f h3 hA (by simpa using hf)]
def compH (s : ByteArray) (i : Nat) : Nat × Nat := if isL (bt s i) = true then (bt s i, i + 1) else if bt s i = 42 then (0, i + 1) else (0, i)
/-- Type, parts, end. -/
def compF (s : ByteArray) (f i : Nat) : Nat × List PPt × Nat := ((compH s i).1, partsF s f (compH s i).2)
theorem parts_count {s : ByteArray} : ∀ {ks : List PPt} {i j : Nat}, PartsAt s i j ks → ks.length ≤ j - i
  | [], _, _, _ => by simp
  | _ :: _, _, _, ⟨_, _, h1, h2⟩ => by
    have := good_lt h1
    have := parts_count h2
    have := (parts_le h2).1
    simp only [List.length_cons]
    omega
theorem comp_fun {s : ByteArray} {i j ty : Nat} {ks : List PPt} {f : Nat} (h : CompAt s i j ty ks) (hA : isA (bt s j) = false) (hf : j ≤ f) : compF s f i = (ty, ks, j) := by
  unfold compF compH
  rcases h with ⟨h1, h2, h3⟩ | ⟨h0, h1, h2, h3⟩ | ⟨h0, h1, h2, h3, _⟩
  · have := parts_count h3
    rw [if_pos h1, parts_fun f h3 hA (by omega), h2]
  · have := parts_count h3
    rw [if_neg (by rw [h0]; simp), if_pos h1, parts_fun f h3 hA (by omega), h2]
  · have := parts_count h3
    rw [if_neg (by rw [h0]; simp), if_neg h1, parts_fun f h3 hA (by omega), h2]
def selF (s : ByteArray) (n i0 : Nat) : Nat → Nat → List PCp × Nat
  | 0, i => ([], i)
  | f + 1, i => if isS (bt s (compF s n i).2.2) = true then (⟨sgOf s i0 i, (compF s n i).1, (compF s n i).2.1⟩ :: (selF s n i0 f ((compF s n i).2.2 + 1)).1, (selF s n i0 f ((compF s n i).2.2 + 1)).2) else ([⟨sgOf s i0 i, (compF s n i).1, (compF s n i).2.1⟩], (compF s n i).2.2)
theorem sel_fun {s : ByteArray} {n i0 l j ty : Nat} {ks : List PPt} (hc : CompAt s l j ty ks) (hA : isA (bt s j) = false) (hS : isS (bt s j) = false) (hlj : l < j) (hn : j ≤ n) : ∀ {pre : List PCp} {i : Nat} (f : Nat), SelPre s i0 i l pre → pre.length < f → selF s n i0 f i = (pre ++ [⟨sgOf s i0 l, ty, ks⟩], j)
  | [], i, f, h, hf => by
    simp only [SelPre] at h
    subst h
    cases f with
    | zero => simp at hf
    | succ f =>
      unfold selF
      rw [comp_fun hc hA hn, if_neg (by rw [hS]; simp)]
      rfl
  | x :: cs, i, f, ⟨l', h1, h2, h3, h4, h5, h6⟩, hf => by
    cases f with
    | zero => simp at hf
    | succ f =>
      have := selpre_le h5
      unfold selF
      rw [comp_fun h1 h3 (by omega : l' ≤ n), if_pos h4, sel_fun hc hA hS hlj hn f h5 (by simpa using hf)]
      obtain ⟨sg, tx, px⟩ := x
      replace h6 : sg = sgOf s i0 i := h6
      rw [h6]
      rfl
theorem selpre_count {s : ByteArray} : ∀ {cs : List PCp} {i0 i j : Nat}, SelPre s i0 i j cs → cs.length ≤ j - i
  | [], _, _, _, _ => by simp
  | _ :: _, _, _, _, ⟨l, _, h2, _, _, h5, _⟩ => by
    have := selpre_count h5
    have := selpre_le h5
    simp only [List.length_cons]
    omega
theorem selat_fun {s : ByteArray} {i j n : Nat} {cs : List PCp} (h : SelAt s i j cs) (hn : j ≤ n) : selF s n i n i = (cs, j) := by
  obtain ⟨pre, l, ty, ks, rfl, h2, h3, h4, h5, h6⟩ := h
  have := selpre_count h2
  exact sel_fun h3 h5 h6 h4 hn n h2 (by omega)
def selsF (s : ByteArray) (n : Nat) : Nat → Nat → List (List PCp) × Nat
  | 0, i => ([], i)
  | f + 1, i => if bt s (selF s n i n i).2 = 44 then ((selF s n i n i).1 :: (selsF s n f ((selF s n i n i).2 + 1)).1, (selsF s n f ((selF s n i n i).2 + 1)).2) else ([(selF s n i n i).1], (selF s n i n i).2)
theorem sels_fun {s : ByteArray} {n l j : Nat} {cs : List PCp} (hc : SelAt s l j cs) (h44 : bt s j ≠ 44) (hn : j ≤ n) (hlj : l < j) : ∀ {pre : List (List PCp)} {i : Nat} (f : Nat), SelsPre s i l pre → pre.length < f → selsF s n f i = (pre ++ [cs], j)
  | [], i, f, h, hf => by
    simp only [SelsPre] at h
    subst h
    cases f with
    | zero => simp at hf
    | succ f =>
      unfold selsF
      rw [selat_fun hc hn, if_neg h44]
      rfl
  | x :: ss, i, f, ⟨l', h1, h2, h3, h4⟩, hf => by
    cases f with
    | zero => simp at hf
    | succ f =>
      have := selspre_le h4
      unfold selsF
      rw [selat_fun h1 (by omega : l' ≤ n), if_pos h3, sels_fun hc h44 hn hlj f h4 (by simpa using hf)]
      rfl
theorem selspre_count {s : ByteArray} : ∀ {ss : List (List PCp)} {i j : Nat}, SelsPre s i j ss → ss.length ≤ j - i
  | [], _, _, _ => by simp
  | _ :: _, _, _, ⟨l, _, h2, _, h5⟩ => by
    have := selspre_count h5
    have := selspre_le h5
    simp only [List.length_cons]
    omega
theorem selsat_fun {s : ByteArray} {i j n : Nat} {ss : List (List PCp)} (h : SelsAt s i j ss) (hn : j ≤ n) : selsF s n n i = (ss, j) := by
  obtain ⟨pre, l, cs, rfl, h2, h3, h4, h5⟩ := h
  have := selspre_count h2
  exact sels_fun h3 h5 hn h4 n h2 (by omega)
def digsF (s : ByteArray) (i : Nat) : Nat := if isD (bt s (i + 1)) = true then (if isD (bt s (i + 2)) = true then 3 else 2) else 1
/-- Kind, number, variable, end. -/
def valF (s : ByteArray) (i : Nat) : Int × Int × Int × Nat :=
  if bt s i = 105 then (2, 0, 0, i + 1) else if bt s i = 114 then (3, 0, 0, i + 1) else if bt s i = 117 then (4, 0, 0, i + 1) else if bt s i = 36 then (5, 0, bt s (i + 1), i + 2) else (1, numV s i (digsF s i), 0, i + digsF s i)
theorem val_fun {s : ByteArray} {i j : Nat} {kd nv vr : Int} (h : ValAt s i j kd nv vr) : valF s i = (kd, nv, vr, j) := by
  unfold valF
  rcases h with ⟨h1, rfl, rfl, rfl, rfl⟩ | ⟨h1, rfl, rfl, rfl, rfl⟩ | ⟨h1, rfl, rfl, rfl, rfl⟩ | ⟨h1, rfl, rfl, rfl, _, rfl⟩ | ⟨rfl, h2, rfl, h4, h5, h6, h7⟩
  · rw [if_pos h1]
  · rw [if_neg (by omega), if_pos h1]
  · rw [if_neg (by omega), if_neg (by omega), if_pos h1]
  · rw [if_neg (by omega), if_neg (by omega), if_neg (by omega), if_pos h1]
  · have h0 := dig_of (h6 i (Nat.le_refl _) h4)
    rw [if_neg (by omega), if_neg (by omega), if_neg (by omega), if_neg (by omega)]
    have hd : digsF s i = j - i := by
      unfold digsF
      by_cases a : i + 1 < j
      · rw [if_pos (h6 _ (by omega) a)]
        by_cases b : i + 2 < j
        · rw [if_pos (h6 _ (by omega) b)]; omega
        · obtain rfl : j = i + 2 := by omega
          rcases h7 with h7 | h7
          · omega
          · rw [if_neg (by rw [h7]; simp)]; omega
      · obtain rfl : j = i + 1 := by omega
        rcases h7 with h7 | h7
        · omega
        · rw [if_neg (by rw [h7]; simp)]; omega
    rw [hd, h2, show i + (j - i) = j from by omega]
def declF (s : ByteArray) (i : Nat) : PDc × Nat :=
  (⟨bt s i, (valF s (i + 2)).1, (valF s (i + 2)).2.1, (valF s (i + 2)).2.2.1, decide (bt s (valF s (i + 2)).2.2.2 = 33)⟩, (valF s (i + 2)).2.2.2 + if bt s (valF s (i + 2)).2.2.2 = 33 then 1 else 0)
theorem decl_fun {s : ByteArray} {i j : Nat} {d : PDc} (h : DeclAt s i j d) : declF s i = (d, j) := by
  obtain ⟨_, h2, _, k, h4, _, h6⟩ := h
  obtain ⟨pr, kd, nu, va, im⟩ := d
  unfold declF
  rw [val_fun h4]
  replace h2 : pr = bt s i := h2
  subst h2
  rcases h6 with ⟨h7, h8, h9⟩ | ⟨h7, h8, h9⟩
  · replace h7 : im = true := h7
    simp [h7, h8, h9]
  · replace h7 : im = false := h7
    simp [h7, h8, h9]
def dcsF (s : ByteArray) : Nat → Nat → List PDc × Nat
  | 0, i => ([], i)
  | f + 1, i => if bt s (declF s i).2 = 59 then ((declF s i).1 :: (dcsF s f ((declF s i).2 + 1)).1, (dcsF s f ((declF s i).2 + 1)).2) else ([(declF s i).1], (declF s i).2)
theorem dcs_fun {s : ByteArray} {l j : Nat} {d : PDc} (hc : DeclAt s l j d) (h59 : bt s j ≠ 59) : ∀ {pre : List PDc} {i : Nat} (f : Nat), DcPre s i l pre → pre.length < f → dcsF s f i = (pre ++ [d], j)
  | [], i, f, h, hf => by
    simp only [DcPre] at h
    subst h
    cases f with
    | zero => simp at hf
    | succ f =>
      unfold dcsF
      rw [decl_fun hc, if_neg h59]
      rfl
  | x :: ss, i, f, ⟨l', h1, h2, h3, h4⟩, hf => by
    cases f with
    | zero => simp at hf
    | succ f =>
      unfold dcsF
      rw [decl_fun h1, if_pos h3, dcs_fun hc h59 f h4 (by simpa using hf)]
      rfl
theorem dcpre_count {s : ByteArray} : ∀ {ds : List PDc} {i j : Nat}, DcPre s i j ds → i ≤ j ∧ ds.length ≤ j - i
  | [], _, _, h => by simp only [DcPre] at h; subst h; simp
  | _ :: _, _, _, ⟨l, _, h2, _, h5⟩ => by
    have := dcpre_count h5
    simp only [List.length_cons]
    omega
theorem dcsat_fun {s : ByteArray} {i j n : Nat} {ds : List PDc} (h : DcsAt s i j ds) (hn : j ≤ n) : dcsF s n i = (ds, j) := by
  obtain ⟨pre, l, d, rfl, h2, h3, h4, h5⟩ := h
  have := dcpre_count h2
  exact dcs_fun h3 h5 n h2 (by omega)
def blkF (s : ByteArray) (n i : Nat) : List PDc × Nat := if bt s (i + 1) = 125 then ([], i + 2) else ((dcsF s n (i + 1)).1, (dcsF s n (i + 1)).2 + 1)
theorem blk_fun {s : ByteArray} {i j n : Nat} {ds : List PDc} (h : BlkAt s i j ds) (hn : j ≤ n) : blkF s n i = (ds, j) := by
  unfold blkF
  rcases h.2 with ⟨h1, rfl, rfl⟩ | ⟨h1, k, h2, h3, rfl⟩
  · rw [if_pos h1]
  · rw [if_neg h1, dcsat_fun h2 (by omega)]
def layF (s : ByteArray) (i : Nat) : Nat := if bt s i = 64 then i + 2 else i
def ruleF (s : ByteArray) (n i : Nat) : PRu × Nat :=
  (⟨layV s i, (selsF s n n (layF s i)).1, (blkF s n (selsF s n n (layF s i)).2).1⟩, (blkF s n (selsF s n n (layF s i)).2).2)
theorem rule_fun {s : ByteArray} {i j n : Nat} {r : PRu} (h : RuleAt s i j r) (hn : j ≤ n) : ruleF s n i = (r, j) := by
  obtain ⟨l, q, h1, h2, h3, h4, h5, h6, h7, h8⟩ := h
  have hl : layF s i = l := by
    unfold layF
    rcases h1 with ⟨a, b⟩ | ⟨a, b⟩
    · rw [if_pos a, b]
    · rw [if_neg a, b]
  unfold ruleF
  rw [hl, selsat_fun h2 (by omega), blk_fun h8 hn, ← h7]
def rulsF (s : ByteArray) (n : Nat) : Nat → Nat → List PRu
  | 0, _ => []
  | f + 1, i => if i < s.size then (ruleF s n i).1 :: rulsF s n f (ruleF s n i).2 else []
theorem rulsat_le {s : ByteArray} : ∀ {rs : List PRu} {i j : Nat}, RulsAt s i j rs → i ≤ j
  | [], _, _, h => by simp only [RulsAt] at h; omega
  | _ :: _, _, _, ⟨_, _, h2, h5⟩ => by have := rulsat_le h5; omega
theorem ruls_fun {s : ByteArray} {n : Nat} (hn : s.size ≤ n) : ∀ {rs : List PRu} {i : Nat} (f : Nat), RulsAt s i s.size rs → s.size - i ≤ f → rulsF s n f i = rs
  | [], i, f, h, _ => by
    simp only [RulsAt] at h
    subst h
    cases f with
    | zero => rfl
    | succ f => unfold rulsF; rw [if_neg (Nat.lt_irrefl _)]
  | r :: rs, i, f, ⟨l, h1, h2, h3⟩, hf => by
    have := rulsat_le h3
    cases f with
    | zero => omega
    | succ f =>
      unfold rulsF
      rw [if_pos (by omega), rule_fun h1 (by omega), ruls_fun hn f h3 (by omega)]
/-- The rules of a sheet. -/
def sheetOf (s : ByteArray) : List PRu := rulsF s 400 400 0
theorem sheet_fun {s : ByteArray} (h4 : s.size ≤ 400) {rs : List PRu} (h : RulsAt s 0 s.size rs) : sheetOf s = rs := ruls_fun h4 400 h (by omega)
end Go.Proofs.YtblfffbmklkhmaaGreat
