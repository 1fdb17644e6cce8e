/- Own work. -/
import Derived.Test.YtblfffbmklkhmaaGreatAw12
import Derived.Test.YtblfffbmklkhmaaGreatAw6
namespace Go.Proofs.YtblfffbmklkhmaaGreat
open Go.RowKit
abbrev intsZ (l : List Int) : List Value := l.map (Value.int .i64)
/-- A list of numbers, to be read. -/
def RowI (w : World) (a : Option Addr) (l : List Int) : Prop := ∀ i (_ : i < l.length), ∃ g, a = some ⟨g, 0, none⟩ ∧ g < w.heap.size ∧ w.cell? ⟨g, i, none⟩ = l[i]?.map (Value.int .i64)
theorem RowI.below {w w' : World} {a : Option Addr} {l : List Int} (h : RowI w a l) (hB : Below w.heap.size w w') : RowI w' a l := fun i hi => by
  obtain ⟨g, h1, h2, h3⟩ := h i hi
  exact ⟨g, h1, Nat.lt_of_lt_of_le h2 hB.size, (hB.cell (p := ⟨g, i, none⟩) h2).trans h3⟩
theorem RowI.own {w : World} {base : Nat} {a : Option Addr} {c : Nat} {l : List Int} (h : w.ownsRow base 3 1 (.slice a l.length c) l.length (intsZ l)) : RowI w a l := fun i hi => by
  obtain ⟨g, hg, hgl, hc⟩ := own_cells h (by omega)
  refine ⟨g, hg, hgl, ?_⟩
  have := hc i (.int .i64 l[i]) (by simp [hi])
  rw [this, List.getElem?_eq_getElem hi]
  rfl
theorem own_cap {w : World} {base : Nat} {e : TypeId} {sz : Nat} {a : Option Addr} {n c : Nat} {xs : List Value} (h : w.ownsRow base e sz (.slice a n c) n xs) : n ≤ c := by
  rcases h.2 with ⟨h1, h2⟩ | ⟨g, cap, cur, hv, _, hh, hc, _⟩
  · omega
  · injection hv with h1 h2 h3
    omega
theorem own_capM {w : World} {base : Nat} {e : TypeId} {sz : Nat} {a : Option Addr} {n c : Nat} {xs : List Value} (h : w.ownsRow base e sz (.slice a n c) n xs) : c ≤ maxLen := by
  rcases h.2 with ⟨h1, h2⟩ | ⟨g, cap, cur, hv, _, hh, hc, hm, _⟩
  · injection h1 with _ _ h3
    rw [h3]
    exact Nat.zero_le _
  · injection hv with h1 h2 h3
    rw [h3]
    exact hm
def PList (w : World) (l : List Int) (e : Ending) (w' : World) : Prop := ∃ (a : Option Addr) (c : Nat), e = .returned (.slice a l.length c) ∧ l.length ≤ c ∧ c ≤ maxLen ∧ RowI w' a l ∧ Below w.heap.size w w'
def PNum (w : World) (r : Int) (e : Ending) (w' : World) : Prop := e = .returned (.int .i64 r) ∧ Below w.heap.size w w'
theorem one_z (x : Int) : ∀ u ∈ [Value.int .i64 x], u.oneCell' = true := by
  intro u hu
  simp only [List.mem_cons, List.not_mem_nil, or_false] at hu
  rcases hu with rfl; rfl
theorem above_go {els : List PEl} {k : Nat} {e : Int} (h : parP els e ≠ -1) : aboveP els (k + 1) e = parP els e :: aboveP els k (parP els e) := by
  show (if parP els e = -1 then [] else _) = _
  rw [if_neg h]
theorem above_stop {els : List PEl} {k : Nat} {e : Int} (h : parP els e = -1) : aboveP els k e = [] := by
  cases k with
  | zero => rfl
  | succ k =>
    show (if parP els e = -1 then [] else _) = _
    rw [if_pos h]
theorem ahead_step {els : List PEl} {k : Nat} {par : Int} (h : k < els.length) : aheadOf els (k + 1) par = (if els[k].par = par then [(els[k].num : Int)] else []) ++ aheadOf els k par := by
  unfold aheadOf
  rw [List.take_succ_eq_append_getElem h, List.filter_append, List.map_append, List.reverse_append]
  congr 1
  by_cases hp : els[k].par = par
  · simp [hp]
  · simp [hp]
section
set_option maxRecDepth 100000
set_option maxHeartbeats 4000000
variable (w : World) (b : Nat) (a : Option Addr) (c : Nat) (els : List PEl) (n : Int)
theorem pabove_any (h : TRd w b a c els) : Calls Tryz.prog 84 #[.pointer (some ⟨b, 1, none⟩), .int .i64 n] w fun e w' => PList w (aboveP els els.length n) e w' := by
  obtain ⟨i0, hi, iz0, iz1, iz2⟩ := info_parts Tryz.info3
  have HT : Hid (TRd w b a c els) := h
  have hfew := h.few
  have q0 := h.cell
  clear h
  go_enter Tryz.func84, Tryz.ntmps84
  go_wp2_with fail
  go_loopg [1, 5, 11] els.length (fun gk nv v iv wr => ∃ (i : Nat) (m : Int) (L : List Int), iv = .int .i64 i ∧ nv = .int .i64 m ∧ i ≤ els.length ∧ els.length - i ≤ gk ∧ L.length ≤ i ∧ Hid (wr.ownsRow w.heap.size 3 1 v L.length (intsZ L) ∧ Below w.heap.size w wr ∧ aboveP els els.length n = L ++ aboveP els (els.length - i) m))
  case atStart => exact ⟨0, n, [], rfl, rfl, Nat.zero_le _, by omega, by simp, World.ownsRow_nil _ _ _ _, Below.refl _ _, by simp⟩
  case round =>
    obtain ⟨i, m, L, rfl, rfl, hil, hgk, hL, HN⟩ := hrel
    obtain ⟨a2, c2, hv2⟩ := own_shape HN.out.1
    subst hv2
    have hbz := HN.out.2.1.size
    by_cases hlt : i < els.length
    · have hd : decide ((i : Int) < (els.length : Int)) = true := by simp; omega
      have HT1 : Hid (TRd wr b a c els) := HT.out.below HN.out.2.1
      clear q0
      go_wp2_with fail
      refine (pparentOf_any wr b _ els m HT1.out.cell HT1.out.pl hfew).mono ?_
      rintro e w1 ⟨rfl, hB1⟩
      have hB2 : Below w.heap.size w w1 := HN.out.2.1.trans (hB1.mono hbz)
      have HO : Hid (w1.ownsRow w.heap.size 3 1 (.slice a2 L.length c2) L.length (intsZ L)) := own_below HN.out.1 (hB1.mono (Nat.le_refl _))
      have hbz1 := hB2.size
      have HB2 : Hid (Below w.heap.size w w1) := hB2
      clear hB1 hB2
      by_cases hp : parP els m = -1
      · have gp : (parP els m == -1) = true := by simp [hp]
        have HE : Hid (PList w (aboveP els els.length n) (.returned (.slice a2 L.length c2)) w1) := by
          have e1 : aboveP els els.length n = L := by rw [HN.out.2.2, above_stop hp, List.append_nil]
          unfold Hid
          rw [e1]
          exact ⟨a2, c2, rfl, own_cap HO.out, own_capM HO.out, RowI.own HO.out, HB2.out⟩
        clear hp
        generalize parP els m = p at gp ⊢
        go_wp2
        go_ret
        exact HE.out
      · have gp : (parP els m == -1) = false := by simp [hp]
        have HA : Hid (aboveP els els.length n = (L ++ [parP els m]) ++ aboveP els (els.length - (i + 1)) (parP els m)) := by
          unfold Hid
          rw [HN.out.2.2, show els.length - i = els.length - (i + 1) + 1 from by omega, above_go hp]
          simp
        clear hp HN
        generalize parP els m = p at gp HA ⊢
        go_wp2_with (at_builtin; refine wpList_append_own _ rfl (.tmp 19) (.tmp 21) 40 rfl w.heap.size 3 i0 (.int .i64 0) 1 8 Tryz.underlying40 hi iz0 iz1 iz2 rfl (by decide) _ _ _ rfl (HO.out.alloc _) ⟨w1.heap.size, 0, none⟩ 1 1 [.int .i64 p] rfl rfl ?c1 ?c2 ?c3 ?c4 ?c5 ?_)
        case c1 => exact new_cells w1 _ rfl _ _ _ rfl
        case c2 => exact one_z p
        case c3 => unfold maxLen; omega
        case c4 => omega
        case c5 => simp; omega
        intro v5 w5 own5 hg5 _
        have HN5 : Hid (w5.ownsRow w.heap.size 3 1 v5 (L ++ [p]).length (intsZ (L ++ [p])) ∧ Below w.heap.size w w5 ∧ aboveP els els.length n = (L ++ [p]) ++ aboveP els (els.length - (i + 1)) p) :=
          ⟨by simpa using own5, (HB2.out.alloc hbz1 _).grown hg5 (by simp; omega) (fun k hk => (HO.out.lt k hk).1), HA.out⟩
        have hL2 : (L ++ [p]).length ≤ i + 1 := by simp; omega
        clear own5 hg5 HO HB2 HA HT1
        generalize L ++ [p] = L2 at HN5 hL2
        go_wp2
        go_roundg (els.length - (i + 1))
        case measure => omega
        case rel => exact ⟨i + 1, p, L2, by go_num, rfl, by omega, Nat.le_refl _, hL2, HN5⟩
    · have hd : decide ((i : Int) < (els.length : Int)) = false := by simp; omega
      obtain rfl : i = els.length := by omega
      have HE : Hid (PList w (aboveP els els.length n) (.returned (.slice a2 L.length c2)) wr) := by
        have e1 : aboveP els els.length n = L := by rw [HN.out.2.2, Nat.sub_self]; exact List.append_nil _
        unfold Hid
        rw [e1]
        exact ⟨a2, c2, rfl, own_cap HN.out.1, own_capM HN.out.1, RowI.own HN.out.1, HN.out.2.1⟩
      go_wp2
      go_ret
      exact HE.out
theorem pahead_any (h : TRd w b a c els) : Calls Tryz.prog 223 #[.pointer (some ⟨b, 1, none⟩), .int .i64 n] w fun e w' => PList w (aheadP els n) e w' := by
  obtain ⟨i0, hi, iz0, iz1, iz2⟩ := info_parts Tryz.info3
  have HT : Hid (TRd w b a c els) := h
  have hfew := h.few
  clear h
  go_enter Tryz.func223, Tryz.ntmps223
  go_wp2_with fail
  refine (pfind_any w b _ els n HT.out.cell HT.out.pl HT.out.few).mono ?_
  rintro e w1 ⟨hB, ⟨hf, rfl⟩ | ⟨ip, x, hx, hf, rfl⟩⟩
  · have HE : Hid (PList w (aheadP els n) (.returned (.slice none 0 0)) w1) := by unfold aheadP; rw [hf]; exact ⟨none, 0, rfl, Nat.le_refl _, Nat.zero_le _, fun i hi => absurd hi (by simp), hB⟩
    clear hf hB
    go_wp2
    go_ret
    exact HE.out
  · have hip : ip < els.length := (List.getElem?_eq_some_iff.1 hx).1
    have hxe : els[ip] = x := (List.getElem?_eq_some_iff.1 hx).2
    have HA : Hid (aheadP els n = aheadOf els ip x.par) := by
      unfold Hid aheadP
      rw [hf]
      have h1 := (findP_some hf).2
      have h2 := idx_of HT.out.nums hx
      rw [h1] at h2
      show aheadOf els (idxP els n) x.par = _
      rw [h2]
    have T1 := HT.out.below hB
    obtain ⟨g, hg, hgl, he⟩ := T1.pl.el hip
    subst hg
    have q1 := he.cell1
    rw [hxe] at q1
    have q0 := T1.cell
    have hil : (ip : Int) < (els.length : Int) := by omega
    have HB1 : Hid (Below w.heap.size w w1) := hB
    clear hf hB hx hxe he T1
    generalize x.par = par at HA q1
    go_wp2_with fail
    go_loopg [8, 9] ip (fun gk v iv wr => ∃ (k : Nat) (iz : Int) (L : List Int), iv = .int .i64 iz ∧ iz = (k : Int) - 1 ∧ k ≤ ip ∧ k ≤ gk ∧ L.length + k ≤ ip ∧ Hid (wr.ownsRow w.heap.size 3 1 v L.length (intsZ L) ∧ Below w.heap.size w wr ∧ aheadP els n = L ++ aheadOf els k par))
    case atStart => exact ⟨ip, _, [], rfl, by go_num, Nat.le_refl _, Nat.le_refl _, by simp, World.ownsRow_nil _ _ _ _, HB1.out, HA.out⟩
    case round =>
      obtain ⟨k, iz, L, rfl, hiz, hkp, hgk, hL, HN⟩ := hrel
      obtain ⟨a2, c2, hv2⟩ := own_shape HN.out.1
      subst hv2
      have hbz := HN.out.2.1.size
      cases k with
      | zero =>
        have hd : decide ((0 : Int) ≤ iz) = false := by rw [decide_eq_false_iff_not]; omega
        clear hiz
        have HE : Hid (PList w (aheadP els n) (.returned (.slice a2 L.length c2)) wr) := by
          have e1 : aheadP els n = L := by rw [HN.out.2.2]; unfold aheadOf; simp
          unfold Hid
          rw [e1]
          exact ⟨a2, c2, rfl, own_cap HN.out.1, own_capM HN.out.1, RowI.own HN.out.1, HN.out.2.1⟩
        go_wp2
        go_ret
        exact HE.out
      | succ k =>
        obtain rfl : iz = (k : Int) := by omega
        clear hiz q0 q1
        have hk : k < els.length := by omega
        have hkl : (k : Int) < (els.length : Int) := by omega
        have T2 := HT.out.below HN.out.2.1
        obtain ⟨g2, hg2, hgl2, he2⟩ := T2.pl.el hk
        injection hg2 with hg2
        injection hg2 with hg2 _ _
        subst hg2
        have q0 := T2.cell
        have q1 := he2.cell1
        have q2 : wr.cell? ⟨g, k * 31, none⟩ = some (.int .i64 els[k].num) := he2.rng 0 _ he2.c0
        have HS : Hid (aheadOf els (k + 1) par = (if els[k].par = par then [(els[k].num : Int)] else []) ++ aheadOf els k par) := ahead_step hk
        clear T2 he2
        generalize els[k].par = py at q1 HS
        obtain ⟨ny, hny⟩ : ∃ ny : Int, ny = (els[k].num : Int) := ⟨_, rfl⟩
        rw [← hny] at q2 HS
        clear hny
        by_cases hp : py = par
        · have gp : (py == par) = true := by simp [hp]
          have HA2 : Hid (aheadP els n = (L ++ [ny]) ++ aheadOf els k par) := by
            unfold Hid
            rw [HN.out.2.2, HS.out, if_pos hp]
            simp
          clear hp HS
          have HO : Hid (wr.ownsRow w.heap.size 3 1 (.slice a2 L.length c2) L.length (intsZ L) ∧ Below w.heap.size w wr) := ⟨HN.out.1, HN.out.2.1⟩
          clear HN
          go_wp2_with (at_builtin; refine wpList_append_own _ rfl (.tmp 42) (.tmp 51) 40 rfl w.heap.size 3 i0 (.int .i64 0) 1 8 Tryz.underlying40 hi iz0 iz1 iz2 rfl (by decide) _ _ _ rfl (HO.out.1.alloc _) ⟨wr.heap.size, 0, none⟩ 1 1 [.int .i64 ny] rfl rfl ?c1 ?c2 ?c3 ?c4 ?c5 ?_)
          case c2 => first | exact one_z ny | rfl
          case c3 => unfold maxLen; omega
          case c4 => omega
          case c5 => first | (simp; omega) | omega
          intro v5 w5 own5 hg5 _
          have HN5 : Hid (w5.ownsRow w.heap.size 3 1 v5 (L ++ [ny]).length (intsZ (L ++ [ny])) ∧ Below w.heap.size w w5 ∧ aheadP els n = (L ++ [ny]) ++ aheadOf els k par) :=
            ⟨by simpa using own5, (HO.out.2.alloc hbz _).grown hg5 (by simp; omega) (fun k hk => (HO.out.1.lt k hk).1), HA2.out⟩
          have hL2 : (L ++ [ny]).length + k ≤ ip := by simp; omega
          clear own5 hg5 HO HA2 q0 q1 q2
          generalize L ++ [ny] = L2 at HN5 hL2
          go_wp2
          go_roundg k
          case measure => omega
          case rel => exact ⟨k, _, L2, rfl, by go_num, by omega, Nat.le_refl _, hL2, HN5⟩
        · have gp : (py == par) = false := by simp [hp]
          have HN5 : Hid (wr.ownsRow w.heap.size 3 1 (.slice a2 L.length c2) L.length (intsZ L) ∧ Below w.heap.size w wr ∧ aheadP els n = L ++ aheadOf els k par) := ⟨HN.out.1, HN.out.2.1, by rw [HN.out.2.2, HS.out, if_neg hp]; rfl⟩
          clear hp HS HN
          go_wp2
          go_roundg k
          case measure => omega
          case rel => exact ⟨k, _, L, rfl, by go_num, by omega, Nat.le_refl _, by omega, HN5⟩
theorem aheadOf_len (i : Nat) (par : Int) : (aheadOf els i par).length ≤ els.length := by
  unfold aheadOf
  rw [List.length_reverse, List.length_map]
  refine Nat.le_trans (List.length_filter_le _ _) ?_
  exact List.length_take_le' _ _
theorem aheadP_len : (aheadP els n).length ≤ els.length := by
  unfold aheadP
  split
  · exact aheadOf_len els _ _
  · simp
theorem pplaceOf_any (h : TRd w b a c els) : Calls Tryz.prog 228 #[.pointer (some ⟨b, 1, none⟩), .int .i64 n] w fun e w' => PNum w (((aheadP els n).length : Int) + 1) e w' := by
  have HT : Hid (TRd w b a c els) := h
  have hfew := h.few
  have hl := aheadP_len els n
  clear h
  go_enter Tryz.func228, Tryz.ntmps228
  go_wp2_with fail
  refine (pahead_any w b a c els n HT.out).mono ?_
  rintro e w1 ⟨a2, c2, rfl, _, _, _, hB⟩
  obtain ⟨k, hk⟩ : ∃ k, (aheadP els n).length = k := ⟨_, rfl⟩
  have HE : Hid (PNum w (((aheadP els n).length : Int) + 1) (.returned (.int .i64 ((k : Int) + 1))) w1) := ⟨by rw [hk], hB⟩
  rw [hk] at hl ⊢
  clear hB hk
  go_wp2
  go_ret
  exact HE.out
end
end Go.Proofs.YtblfffbmklkhmaaGreat

namespace Go.Proofs.YtblfffbmklkhmaaGreat
open Go.RowKit
section
set_option maxRecDepth 100000
set_option maxHeartbeats 4000000
variable (w : World) (b : Nat) (a : Option Addr) (c : Nat) (els : List PEl) (n : Int)
theorem empty_yes {els : List PEl} {n : Int} (h : ∀ j (_ : j < els.length), ¬ els[j].par = n) : emptyP els n = (findP els n).isSome := by
  unfold emptyP
  have : (els.all fun y => decide (¬ y.par = n)) = true := by
    rw [List.all_eq_true]
    intro y hy
    obtain ⟨j, hj, rfl⟩ := List.getElem_of_mem hy
    simpa using h j hj
  rw [this, Bool.true_and]
theorem empty_no {els : List PEl} {n : Int} {j : Nat} (hj : j < els.length) (h : els[j].par = n) : emptyP els n = false := by
  unfold emptyP
  have : (els.all fun y => decide (¬ y.par = n)) = false := by
    rw [List.all_eq_false]
    exact ⟨els[j], List.getElem_mem hj, by simp [h]⟩
  rw [this, Bool.false_and]
theorem pempty_any (h : TRd w b a c els) : Calls Tryz.prog 230 #[.pointer (some ⟨b, 1, none⟩), .int .i64 n] w fun e w' => PBool w (emptyP els n) e w' := by
  have HT : Hid (TRd w b a c els) := h
  have hfew := h.few
  have q0 := h.cell
  clear h
  go_enter Tryz.func230, Tryz.ntmps230
  go_wp2_with fail
  go_loopg [12] els.length (fun gk iv wr => ∃ (i : Nat), iv = .int .i64 i ∧ i ≤ els.length ∧ els.length - i ≤ gk ∧ Hid (Below w.heap.size w wr ∧ ∀ j (_ : j < els.length), j < i → ¬ els[j].par = n))
  case atStart => exact ⟨0, rfl, Nat.zero_le _, by omega, Below.refl _ _, fun j _ h => by omega⟩
  case round =>
    obtain ⟨i, rfl, hil, hgk, HN⟩ := hrel
    by_cases hlt : i < els.length
    · have hd : decide ((i : Int) < (els.length : Int)) = true := by simp; omega
      obtain ⟨g, hg, hgl, he⟩ := HT.out.pl.el hlt
      subst hg
      have HE : Hid (ElAt wr g (i * 31) els[i].cells els[i].num els[i].par) := he.below HN.out.1 hgl
      have HY : Hid (els[i].par = n → emptyP els n = false) := fun h => empty_no hlt h
      have HNX : Hid (¬ els[i].par = n → ∀ j (_ : j < els.length), j < i + 1 → ¬ els[j].par = n) := fun hm j hj h1 => by
        by_cases e : j = i
        · subst e; exact hm
        · exact HN.out.2 j hj (by omega)
      clear he q0
      generalize els[i].par = py at HE HY HNX
      generalize els[i].num = ny at HE
      generalize els[i].cells = cs at HE
      have c1 : cs[1]? = some (.int .i64 py) := HE.out.c1
      have HB2 : Hid (Below w.heap.size w (wr.alloc (.cells cs.toArray 134))) := HN.out.1.alloc HN.out.1.size _
      by_cases hp : py = n
      · have gp : (py == n) = true := by simp [hp]
        have HR : Hid (PBool w (emptyP els n) (.returned (.bool false)) (wr.alloc (.cells cs.toArray 134))) := ⟨by rw [HY.out hp], HB2.out⟩
        clear hp
        go_wp2_with (first | (refine wpList_load_mid rfl 134 _ rfl g (i * 31) rfl cs _ HE.out.rng Tryz.underlying134 rfl HE.out.size ?_) | (refine wpList_store_new rfl 134 _ _ rfl _ cs.toArray 134 rfl rfl HE.out.size' HE.out.same HE.out.all ?_))
        go_ret
        exact HR.out
      · have gp : (py == n) = false := by simp [hp]
        have HN3 : Hid (Below w.heap.size w (wr.alloc (.cells cs.toArray 134)) ∧ ∀ j (_ : j < els.length), j < i + 1 → ¬ els[j].par = n) := ⟨HB2.out, HNX.out hp⟩
        clear hp
        go_wp2_with (first | (refine wpList_load_mid rfl 134 _ rfl g (i * 31) rfl cs _ HE.out.rng Tryz.underlying134 rfl HE.out.size ?_) | (refine wpList_store_new rfl 134 _ _ rfl _ cs.toArray 134 rfl rfl HE.out.size' HE.out.same HE.out.all ?_))
        go_roundg (els.length - (i + 1))
        case measure => omega
        case rel => exact ⟨i + 1, by go_num, by omega, Nat.le_refl _, HN3⟩
    · have hd : decide ((i : Int) < (els.length : Int)) = false := by simp; omega
      have HY : Hid (emptyP els n = (findP els n).isSome) := empty_yes (fun j hj => HN.out.2 j hj (by omega))
      have HT1 : Hid (TRd wr b a c els) := HT.out.below HN.out.1
      have hbz := HN.out.1.size
      clear q0
      go_wp2_with fail
      refine (phas_any wr b a c els n HT1.out).mono ?_
      rintro e w1 ⟨rfl, hB1⟩
      have HR : Hid (PBool w (emptyP els n) (.returned (.bool (findP els n).isSome)) w1) := ⟨by rw [HY.out], HN.out.1.trans (hB1.mono hbz)⟩
      clear hB1
      generalize (findP els n).isSome = r at HR ⊢
      go_wp2
      go_ret
      exact HR.out
theorem pnth_any (place st sr : Int) (h1 : 0 ≤ place ∧ place ≤ 100) (h2 : -48 ≤ st ∧ st ≤ 207) (h3 : -48 ≤ sr ∧ sr ≤ 207) : Calls Tryz.prog 231 #[.int .i64 place, .int .i64 st, .int .i64 sr] w fun e w' => PBool w (nthP place st sr) e w' := by
  obtain ⟨h1a, h1b⟩ := h1
  obtain ⟨h2a, h2b⟩ := h2
  obtain ⟨h3a, h3b⟩ := h3
  by_cases hs : st ≤ 0
  · have HR : Hid (nthP place st sr = (place == sr)) := by unfold Hid nthP; rw [if_pos (Or.inl hs)]
    have d1 : decide (st ≤ 0) = true := by simpa using hs
    clear hs
    have HE : Hid (∀ r, (place == sr) = r → PBool w (nthP place st sr) (.returned (.bool r)) w) := fun r hr => ⟨by rw [HR.out, hr], Below.refl _ _⟩
    go_enter Tryz.func231, Tryz.ntmps231
    go_wp2
    go_ret
    exact HE.out _ rfl
  have d1 : decide (st ≤ 0) = false := by simpa using hs
  by_cases hp : place < sr
  · have HR : Hid (nthP place st sr = (place == sr)) := by unfold Hid nthP; rw [if_pos (Or.inr hp)]
    have d2 : decide (place < sr) = true := by simpa using hp
    clear hs hp
    have HE : Hid (∀ r, (place == sr) = r → PBool w (nthP place st sr) (.returned (.bool r)) w) := fun r hr => ⟨by rw [HR.out, hr], Below.refl _ _⟩
    go_enter Tryz.func231, Tryz.ntmps231
    go_wp2
    go_ret
    exact HE.out _ rfl
  · have d2 : decide (place < sr) = false := by simpa using hp
    have HR : Hid (nthP place st sr = ((place - sr) % st == 0)) := by
      unfold Hid nthP
      rw [if_neg (by omega)]
    have hst : (st == 0) = false := by rw [beq_eq_false_iff_ne]; omega
    have hst1 : st ≠ 0 := by omega
    have hst2 : (st == -1) = false := by rw [beq_eq_false_iff_ne]; omega
    have HE : Hid (∀ r, ((place - sr) % st == 0) = r → PBool w (nthP place st sr) (.returned (.bool r)) w) := fun r hr => ⟨by rw [HR.out, hr], Below.refl _ _⟩
    clear hs
    go_enter Tryz.func231, Tryz.ntmps231
    go_wp2
    go_ret
    exact HE.out _ rfl
theorem pnear_any (a2 : Option Addr) (l : List Int) (c2 : Nat) (hl : l.length ≤ 24) (hc : l.length ≤ c2) (hc2 : c2 ≤ maxLen) (h : RowI w a2 l) : Calls Tryz.prog 222 #[.slice a2 l.length c2] w fun e w' => PList w (l.take 1) e w' := by
  have HL : Hid (RowI w a2 l) := h
  clear h
  have HM : Hid (c2 ≤ maxLen) := hc2
  unfold maxLen at hc2
  cases l with
  | nil =>
    have HE : Hid (PList w (([] : List Int).take 1) (.returned (.slice none 0 0)) w) := ⟨none, 0, rfl, Nat.le_refl _, Nat.zero_le _, fun i hi => absurd hi (by simp), Below.refl _ _⟩
    have hz : (([] : List Int).length : Int) = 0 := rfl
    go_enter Tryz.func222, Tryz.ntmps222
    go_wp2
    go_ret
    exact HE.out
  | cons x l =>
    obtain ⟨g, hg, hgl, hq⟩ := HL.out 0 (by simp)
    subst hg
    have HE : Hid (PList w ((x :: l).take 1) (.returned (.slice (some ⟨g, 0, none⟩) 1 c2)) w) := ⟨some ⟨g, 0, none⟩, c2, rfl, by simp at hc ⊢; omega, HM.out, fun i hi => ⟨g, rfl, hgl, by
      obtain rfl : i = 0 := by simpa using hi
      exact hq⟩, Below.refl _ _⟩
    simp only [List.length_cons] at hl hc ⊢
    generalize l.length = k at hl hc ⊢
    have hz : (((k + 1 : Nat) : Int) == 0) = false := by rw [beq_eq_false_iff_ne]; omega
    clear hq
    go_enter Tryz.func222, Tryz.ntmps222
    go_wp2
    go_ret
    exact HE.out
end
end Go.Proofs.YtblfffbmklkhmaaGreat

namespace Go.Proofs.YtblfffbmklkhmaaGreat
open Go.RowKit
theorem comps_at {w : World} {base : Nat} : ∀ {xs : List Value} {cs : List PCp} {i : Nat}, Comps w base xs cs → (h : i < cs.length) → ∃ (a : Option Addr) (c : Nat) (ps : List Value), xs[i * 3]? = some (.int .u8 cs[i].sg) ∧ xs[i * 3 + 1]? = some (.int .u8 cs[i].ty) ∧ xs[i * 3 + 2]? = some (.slice a cs[i].ps.length c) ∧ w.ownsRow base 192 5 (.slice a cs[i].ps.length c) cs[i].ps.length ps ∧ Kinds ps cs[i].ps
  | _, _ :: cs, 0, ⟨a, c, ps, ys, h1, h2, h3, _⟩, _ => by subst h1; exact ⟨a, c, ps, rfl, rfl, rfl, h2, h3⟩
  | _, _ :: cs, i + 1, ⟨a, c, ps, ys, h1, h2, h3, h4⟩, h => by
    obtain ⟨a', c', ps', e1, e2, e3, e4, e5⟩ := comps_at (i := i) h4 (by simpa using h)
    subst h1
    rw [show (i + 1) * 3 = i * 3 + 3 from by omega]
    exact ⟨a', c', ps', by simpa using e1, by simpa using e2, by simpa using e3, by simpa using e4, by simpa using e5⟩
theorem sels_at {w : World} {base : Nat} : ∀ {xs : List Value} {ss : List (List PCp)} {i : Nat}, Sels w base xs ss → (h : i < ss.length) → ∃ (a : Option Addr) (c : Nat) (ps : List Value), xs[i]? = some (.slice a ss[i].length c) ∧ w.ownsRow base 190 3 (.slice a ss[i].length c) ss[i].length ps ∧ Comps w base ps ss[i]
  | _, cs :: ss, 0, ⟨a, c, ps, ys, h1, h2, h3, _⟩, _ => by subst h1; exact ⟨a, c, ps, rfl, h2, h3⟩
  | _, cs :: ss, i + 1, ⟨a, c, ps, ys, h1, h2, h3, h4⟩, h => by
    obtain ⟨a', c', ps', e1, e2, e3⟩ := sels_at (i := i) h4 (by simpa using h)
    subst h1
    exact ⟨a', c', ps', by simpa using e1, by simpa using e2, by simpa using e3⟩
theorem ruls_at {w : World} {base : Nat} : ∀ {xs : List Value} {rs : List PRu} {i : Nat}, Ruls w base xs rs → (h : i < rs.length) → ∃ (a : Option Addr) (c : Nat) (ps : List Value), xs[i * 3 + 1]? = some (.slice a rs[i].ss.length c) ∧ w.ownsRow base 141 1 (.slice a rs[i].ss.length c) rs[i].ss.length ps ∧ Sels w base ps rs[i].ss
  | _, ss :: rs, 0, ⟨a, c, a', c', ps, qs, ys, h1, h2, h3, _⟩, _ => by subst h1; exact ⟨a, c, ps, rfl, h2, h3⟩
  | _, ss :: rs, i + 1, ⟨a, c, a', c', ps, qs, ys, h1, h2, h3, h5, h4⟩, h => by
    obtain ⟨a1, c1, ps1, e1, e2, e3⟩ := ruls_at (i := i) h4 (by simpa using h)
    subst h1
    rw [show (i + 1) * 3 + 1 = i * 3 + 1 + 3 from by omega]
    exact ⟨a1, c1, ps1, by simpa using e1, by simpa using e2, by simpa using e3⟩
/-- A rule's layer and declarations. -/
theorem ruls_rest {w : World} {base : Nat} : ∀ {xs : List Value} {rs : List PRu} {i : Nat}, Ruls w base xs rs → (h : i < rs.length) → xs[i * 3]? = some (.int .i64 rs[i].ly) ∧ ∃ (a : Option Addr) (c : Nat) (qs : List Value), xs[i * 3 + 2]? = some (.slice a rs[i].ds.length c) ∧ w.ownsRow base 253 5 (.slice a rs[i].ds.length c) rs[i].ds.length qs ∧ Decs qs rs[i].ds
  | _, ss :: rs, 0, ⟨a, c, a', c', ps, qs, ys, h1, h2, h3, h5, _⟩, _ => by subst h1; exact ⟨rfl, a', c', qs, rfl, h5.1, h5.2⟩
  | _, ss :: rs, i + 1, ⟨a, c, a', c', ps, qs, ys, h1, h2, h3, h5, h4⟩, h => by
    obtain ⟨e0, a1, c1, ps1, e1, e2, e3⟩ := ruls_rest (i := i) h4 (by simpa using h)
    subst h1
    rw [show (i + 1) * 3 = i * 3 + 3 from by omega]
    exact ⟨by simpa using e0, a1, c1, ps1, by simpa using e1, by simpa using e2, by simpa using e3⟩
theorem decs_at : ∀ {xs : List Value} {ks : List PDc} {i : Nat}, Decs xs ks → (h : i < ks.length) → xs[i * 5]? = some (.int .u8 ks[i].pr) ∧ xs[i * 5 + 1]? = some (.int .i64 ks[i].kd) ∧ xs[i * 5 + 2]? = some (.int .i64 ks[i].nu) ∧ xs[i * 5 + 3]? = some (.int .u8 ks[i].va) ∧ xs[i * 5 + 4]? = some (.bool ks[i].im)
  | _, k :: ks, 0, ⟨ys, h1, _⟩, _ => by subst h1; exact ⟨rfl, rfl, rfl, rfl, rfl⟩
  | _, k :: ks, i + 1, ⟨ys, h1, h2⟩, h => by
    obtain ⟨e1, e2, e3, e4, e5⟩ := decs_at (i := i) h2 (by simpa using h)
    subst h1
    rw [show (i + 1) * 5 = i * 5 + 5 from by omega]
    exact ⟨by simpa using e1, by simpa using e2, by simpa using e3, by simpa using e4, by simpa using e5⟩
set_option maxRecDepth 100000 in
set_option maxHeartbeats 2000000 in
theorem selw_any (w : World) (base : Nat) (a : Option Addr) (c : Nat) (cs : List PCp) (xs : List Value) (ho : w.ownsRow base 190 3 (.slice a cs.length c) cs.length xs) (hk : Comps w base xs cs) (hs : Short cs) :
    Calls Tryz.prog 88 #[.agg #[.slice a cs.length c]] w fun e w' => WOut w (cws cs) e w' := by
  have HO : Hid (w.ownsRow base 190 3 (.slice a cs.length c) cs.length xs ∧ Comps w base xs cs ∧ Short cs) := ⟨ho, hk, hs⟩
  have hl := hs.1
  clear ho hk hs
  go_enter Tryz.func88, Tryz.ntmps88
  go_wp2_with fail
  go_loopg [3, 9] cs.length (fun gk sv iv wr => ∃ i : Nat, iv = .int .i64 i ∧ i ≤ cs.length ∧ cs.length - i ≤ gk ∧ sv = .int .i64 ((cws (cs.take i) : Nat) : Int) ∧ Below w.heap.size w wr)
  case atStart => exact ⟨0, rfl, Nat.zero_le _, by omega, by simp [cws], (Below.refl _ _).alloc (Nat.le_refl _) _⟩
  case round =>
    obtain ⟨i, rfl, hi, hgk, rfl, hB⟩ := hrel
    by_cases hlt : i < cs.length
    · have hd : decide ((i : Int) < (cs.length : Int)) = true := by simp; omega
      obtain ⟨g, hg, hgl, hc⟩ := own_cells HO.out.1 (by omega)
      subst hg
      obtain ⟨a', c', ps, e0, e1, e2, e3, e4⟩ := comps_at HO.out.2.1 hlt
      have c0 := (hB.cell (p := ⟨g, i * 3, none⟩) hgl).trans (hc _ _ e0)
      have c1 := (hB.cell (p := ⟨g, i * 3 + 1, none⟩) hgl).trans (hc _ _ e1)
      have c2 := (hB.cell (p := ⟨g, i * 3 + 2, none⟩) hgl).trans (hc _ _ e2)
      have HP : Hid (cws (cs.take (i + 1)) = cws (cs.take i) + cw cs[i].ty cs[i].ps) := cws_take hlt
      have hb1 := cws_take_le HO.out.2.2 i
      have hshort := HO.out.2.2.2 cs[i] (List.getElem_mem hlt)
      have hb2 := cw_le cs[i].ty cs[i].ps
      have HE : Hid (w.ownsRow base 192 5 (.slice a' cs[i].ps.length c') cs[i].ps.length ps ∧ Kinds ps cs[i].ps) := ⟨e3, e4⟩
      clear e0 e1 e2 e3 e4 hc
      generalize cs[i].sg = sg at c0
      generalize cs[i].ty = ty at c1 HP hb2
      generalize cs[i].ps = ks at c2 HP hb2 HE hshort
      generalize cws (cs.take i) = p0 at HP hb1
      go_wp2_with fail
      have hk139 : Keeps w (wr.alloc (.cells #[.int .u8 sg, .int .u8 ty, .slice a' ks.length c'] 190)) base 192 := (keeps_below hB _ _).trans (keeps_alloc _ _ _ _)
      refine (compw_any _ base sg ty a' c' ks ps (by exact hk139.owns HE.out.1) HE.out.2 hshort).mono ?_
      rintro e w2 ⟨rfl, hb⟩
      generalize cw ty ks = p1 at HP hb2
      have hB2 : Below w.heap.size w w2 := (hB.alloc hB.size _).trans (hb.mono (by have := hB.size; simp; omega))
      clear c0 c1 c2 hb hk139
      go_wp2
      go_roundg (cs.length - (i + 1))
      case measure => omega
      case rel => exact ⟨i + 1, by go_num, by omega, Nat.le_refl _, by rw [HP.out]; congr 1, hB2⟩
    · have hd : decide ((i : Int) < (cs.length : Int)) = false := by simp; omega
      obtain rfl : i = cs.length := by omega
      go_wp2
      go_ret
      refine ⟨?_, hB⟩
      rw [List.take_length]
      rfl
end Go.Proofs.YtblfffbmklkhmaaGreat

namespace Go.Proofs.YtblfffbmklkhmaaGreat
open Go.RowKit
theorem ruls_le {s : ByteArray} : ∀ {rs : List PRu} {i j : Nat}, RulsAt s i j rs → i ≤ j
  | [], _, _, h => by simp only [RulsAt] at h; omega
  | _ :: _, _, _, ⟨_, _, h2, h5⟩ => by have := ruls_le h5; omega
end Go.Proofs.YtblfffbmklkhmaaGreat
