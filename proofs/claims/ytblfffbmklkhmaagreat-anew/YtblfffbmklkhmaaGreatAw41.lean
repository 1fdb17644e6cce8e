/- Own work. -/
import Derived.Test.YtblfffbmklkhmaaGreatAw40
import Derived.Test.YtblfffbmklkhmaaGreatAw39
namespace Go.Proofs.YtblfffbmklkhmaaGreat
open Go.RowKit
/-- The numbers of elements. -/
def NumsIn (els : List PEl) (L : List Int) : Prop := ∀ x ∈ L, ∃ e ∈ els, x = (e.num : Int)
theorem NumsIn.set {els : List PEl} {L : List Int} (h : NumsIn els L) (i : Nat) {x : Int} (hx : ∃ e ∈ els, x = (e.num : Int)) : NumsIn els (L.set i x) := fun y hy => by
  rcases List.mem_or_eq_of_mem_set hy with hy | rfl
  · exact h y hy
  · exact hx
def PNums (w : World) (els : List PEl) (e : Ending) (w' : World) : Prop := ∃ L : List Int, L.length = els.length ∧ NumsIn els L ∧ PRowI w L e w'
theorem intsZ_set (L : List Int) (i : Nat) (x : Int) : (intsZ L).set i (.int .i64 x) = intsZ (L.set i x) := by
  show (L.map (Value.int .i64)).set i (.int .i64 x) = (L.set i x).map (Value.int .i64)
  rw [List.map_set]
section
set_option maxRecDepth 100000
set_option maxHeartbeats 4000000
variable (w : World) (b : Nat) (a : Option Addr) (c : Nat) (els : List PEl)
theorem pnums_any (h : TRd w b a c els) : Calls Tryz.prog 49 #[.pointer (some ⟨b, 1, none⟩)] w fun e w' => PNums w els e w' := by
  obtain ⟨i0, hi0, iz0, iz1, iz2⟩ := info_parts Tryz.info3
  have HT : Hid (TRd w b a c els) := h
  have hfew := h.few
  have q0 := h.cell
  clear h
  go_enter Tryz.func49, Tryz.ntmps49
  go_wp2_with fail
  go_loopg [3, 13] els.length (fun gk v iv wr => ∃ i : Nat, iv = .int .i64 i ∧ i ≤ els.length ∧ els.length - i ≤ gk ∧ Hid (∃ L : List Int, L.length = i ∧ NumsIn els L ∧ wr.ownsRow w.heap.size 3 1 v L.length (intsZ L) ∧ Below w.heap.size w wr))
  case atStart => exact ⟨0, rfl, Nat.zero_le _, by omega, [], rfl, fun _ h => (by cases h), World.ownsRow_nil _ _ _ _, Below.refl _ _⟩
  case round =>
    obtain ⟨i, rfl, hi, hgk, HI⟩ := hrel
    obtain ⟨R, hRl, hRn, hRo, hRb⟩ := HI.out
    obtain ⟨wo, rfl⟩ : ∃ wo, wo = wr := ⟨_, rfl⟩
    obtain ⟨a2, c2, hv2⟩ := own_shape hRo
    subst hv2
    have HN : Hid (R.length = i ∧ NumsIn els R ∧ wo.ownsRow w.heap.size 3 1 (.slice a2 R.length c2) R.length (intsZ R) ∧ Below w.heap.size w wo) := ⟨hRl, hRn, hRo, hRb⟩
    have hbz := hRb.size
    have hRL : R.length ≤ 24 := by omega
    clear HI hRn hRo hRb
    by_cases hlt : i < els.length
    · have hd : decide ((i : Int) < (els.length : Int)) = true := by simp; omega
      obtain ⟨g, hg, hgl, he⟩ := HT.out.pl.el hlt
      subst hg
      have HE : Hid (ElAt wo g (i * 31) els[i].cells els[i].num els[i].par) := he.below HN.out.2.2.2 hgl
      have HNE : Hid (∃ e ∈ els, (els[i].num : Int) = (e.num : Int)) := ⟨els[i], List.getElem_mem hlt, rfl⟩
      clear he
      generalize els[i].num = nk at HE HNE
      generalize els[i].par = pk at HE
      generalize els[i].cells = cs at HE
      have c0 : cs[0]? = some (.int .i64 nk) := HE.out.c0
      clear q0 hRl
      go_wp2_with (first | (refine wpList_load_mid rfl 134 _ rfl g (i * 31) rfl cs _ HE.out.rng Tryz.underlying134 rfl HE.out.size ?_) | (refine wpList_store_new rfl 134 _ _ rfl _ cs.toArray 134 rfl rfl HE.out.size' HE.out.same HE.out.all ?_) | (at_builtin; refine wpList_append_own _ rfl (.tmp 17) (.tmp 20) 40 rfl w.heap.size 3 i0 (.int .i64 0) 1 8 Tryz.underlying40 hi0 iz0 iz1 iz2 rfl (by decide) _ _ _ rfl ((HN.out.2.2.1.alloc _).alloc _) ⟨wo.heap.size + 1, 0, none⟩ 1 1 [.int .i64 (nk : Int)] rfl rfl ?c1 ?c2 ?c3 ?c4 ?c5 ?_))
      case c1 => exact new_cells (wo.alloc _) _ (by simp) _ _ _ rfl
      case c2 => exact one_z nk
      case c3 => unfold maxLen; omega
      case c4 => omega
      case c5 => simp; omega
      intro v5 w5 own5 hg5 _
      have HB5 : Hid (Below w.heap.size w w5) := ((HN.out.2.2.2.alloc hbz _).alloc (by simp; omega) _).grown hg5 (by simp; omega) (fun k hk => (HN.out.2.2.1.lt k hk).1)
      have hown : w5.ownsRow w.heap.size 3 1 v5 (R ++ [(nk : Int)]).length (intsZ (R ++ [(nk : Int)])) := by simpa [intsZ] using own5
      have hn2 : NumsIn els (R ++ [(nk : Int)]) := fun y hy => by
        rcases List.mem_append.1 hy with hy | hy
        · exact HN.out.2.1 y hy
        · rw [List.mem_singleton] at hy
          rw [hy]
          exact HNE.out
      have hlen2 : (R ++ [(nk : Int)]).length = i + 1 := by simp [HN.out.1]
      obtain ⟨a5, c5, hv5⟩ := own_shape hown
      subst hv5
      obtain ⟨g5, hg5e, hgl5, _⟩ := own_cells hown (by omega)
      subst hg5e
      have HL5 : Hid (NumsIn els (R ++ [(nk : Int)]) ∧ w5.ownsRow w.heap.size 3 1 (.slice (some ⟨g5, 0, none⟩) (i + 1) c5) (i + 1) (intsZ (R ++ [(nk : Int)])) ∧ (R ++ [(nk : Int)]).length = i + 1) := ⟨hn2, by rw [hlen2] at hown; exact hown, hlen2⟩
      have hgb5 : w.heap.size ≤ g5 := (hown.lt g5 rfl).1
      rw [hlen2]
      clear own5 hg5 hown hn2 hlen2 HN HE
      generalize R ++ [(nk : Int)] = L0 at HL5
      have hcap : i + 1 ≤ c5 := own_cap HL5.out.2.1
      go_wp2_with fail
      go_loopg [6] (i + 1) (fun gk jv wr => ∃ j : Nat, jv = .int .i64 j ∧ j ≤ i ∧ j ≤ gk ∧ Hid (∃ L : List Int, L.length = i + 1 ∧ NumsIn els L ∧ wr.ownsRow w.heap.size 3 1 (.slice (some ⟨g5, 0, none⟩) (i + 1) c5) (i + 1) (intsZ L) ∧ Below w.heap.size w wr))
      case atStart => exact ⟨i, by go_num, Nat.le_refl _, by omega, L0, HL5.out.2.2, HL5.out.1, HL5.out.2.1, HB5.out⟩
      case round =>
        obtain ⟨j, rfl, hj, hgk2, HJ⟩ := hrel
        cases j with
        | zero =>
          have HJ2 : Hid (∀ m, ∃ L : List Int, L.length = i + 1 ∧ NumsIn els L ∧ (wr.drewN m).ownsRow w.heap.size 3 1 (.slice (some ⟨g5, 0, none⟩) (i + 1) c5) L.length (intsZ L) ∧ Below w.heap.size w (wr.drewN m)) := fun m => by
            obtain ⟨L, h1, h2, h3, h4⟩ := HJ.out
            exact ⟨L, h1, h2, by rw [h1]; exact own_drewN h3 m, below_draws h4 m⟩
          clear HJ
          go_upto_region 7 with fail
          go_quiet (fail)
          go_wp2
          go_roundg (els.length - (i + 1))
          case measure => omega
          case rel => exact ⟨i + 1, by go_num, by omega, Nat.le_refl _, HJ2.out _⟩
        | succ j =>
          obtain ⟨L, hLl, hLn, hLo, hLb⟩ := HJ.out
          have HL : Hid (L.length = i + 1 ∧ NumsIn els L ∧ wr.ownsRow w.heap.size 3 1 (.slice (some ⟨g5, 0, none⟩) (i + 1) c5) (i + 1) (intsZ L) ∧ Below w.heap.size w wr) := ⟨hLl, hLn, hLo, hLb⟩
          obtain ⟨g6, hg6, hgl6, hc6⟩ := own_cells hLo (by omega)
          have hgg : g5 = g6 := by injection hg6 with h1; injection h1 with h1 _ _
          subst hgg
          obtain ⟨cur, hcur, _⟩ := own_blk hLo
          have hjl : j + 1 < L.length := by omega
          obtain ⟨x, hx⟩ : ∃ x, L[j]? = some x := ⟨_, List.getElem?_eq_getElem (by omega)⟩
          obtain ⟨y, hy⟩ : ∃ y, L[j + 1]? = some y := ⟨_, List.getElem?_eq_getElem hjl⟩
          have qx : wr.cell? ⟨g5, j, none⟩ = some (.int .i64 x) := hc6 j _ (by rw [List.getElem?_map, hx]; rfl)
          have qy : wr.cell? ⟨g5, j + 1, none⟩ = some (.int .i64 y) := hc6 (j + 1) _ (by rw [List.getElem?_map, hy]; rfl)
          have qf : ∀ k, wr.frozen? ⟨g5, k, none⟩ = false := fun _ => frozen_of_blk hcur
          have hj1 : ((j : Int) + 1 - 1) = (j : Int) := by omega
          have hj2 : (0 : Int) < (j : Int) + 1 := by omega
          have hj3 : (j : Int) + 1 < (i : Int) + 1 := by omega
          have hj4 : (j : Int) < (i : Int) + 1 := by omega
          have hi24 : (i : Int) ≤ 24 := by omega
          by_cases hxy : y < x
          · have gxy : decide (y < x) = true := by simpa using hxy
            have HE2 : Hid (∀ m, ∃ L : List Int, L.length = i + 1 ∧ NumsIn els L ∧ (((wr.drewN m).setCell ⟨g5, j, none⟩ (.int .i64 y)).setCell ⟨g5, j + 1, none⟩ (.int .i64 x)).ownsRow w.heap.size 3 1 (.slice (some ⟨g5, 0, none⟩) (i + 1) c5) (i + 1) (intsZ L) ∧ Below w.heap.size w (((wr.drewN m).setCell ⟨g5, j, none⟩ (.int .i64 y)).setCell ⟨g5, j + 1, none⟩ (.int .i64 x))) := fun m => by
              have hxm : x ∈ L := List.mem_of_getElem? hx
              have hym : y ∈ L := List.mem_of_getElem? hy
              refine ⟨(L.set j y).set (j + 1) x, by rw [List.length_set, List.length_set]; exact HL.out.1, (HL.out.2.1.set j (HL.out.2.1 y hym)).set (j + 1) (HL.out.2.1 x hxm), ?_, ((below_draws HL.out.2.2.2 m).setCell hgb5 _).setCell hgb5 _⟩
              · have h1 := own_put (own_drewN HL.out.2.2.1 m) (i := j) (by rw [List.length_map]; omega) (.int .i64 y)
                have h2 := own_put h1 (i := j + 1) (by rw [List.length_set, List.length_map]; omega) (.int .i64 x)
                rw [intsZ_set, intsZ_set] at h2
                exact h2
            clear HJ hLl hLn hLo hLb hc6 hcur hx hy hxy HL
            go_upto_region 7 with fail
            go_quiet (fail)
            go_wp2
            go_roundg j
            case measure => omega
            case rel => exact ⟨j, by go_num, by omega, Nat.le_refl _, HE2.out _⟩
          · have gxy : decide (y < x) = false := by simpa using hxy
            have HJ2 : Hid (∀ m, ∃ L : List Int, L.length = i + 1 ∧ NumsIn els L ∧ (wr.drewN m).ownsRow w.heap.size 3 1 (.slice (some ⟨g5, 0, none⟩) (i + 1) c5) L.length (intsZ L) ∧ Below w.heap.size w (wr.drewN m)) := fun m => ⟨L, HL.out.1, HL.out.2.1, by rw [HL.out.1]; exact own_drewN HL.out.2.2.1 m, below_draws HL.out.2.2.2 m⟩
            clear HJ hLl hLn hLo hLb hc6 hcur hx hy hxy HL
            go_upto_region 7 with fail
            go_quiet (fail)
            go_wp2
            go_roundg (els.length - (i + 1))
            case measure => omega
            case rel => exact ⟨i + 1, by go_num, by omega, Nat.le_refl _, HJ2.out _⟩
    · have hd : decide ((i : Int) < (els.length : Int)) = false := by simp; omega
      obtain rfl : i = els.length := by omega
      go_wp2
      go_ret
      exact ⟨R, HN.out.1, HN.out.2.1, a2, c2, rfl, HN.out.2.2.1, HN.out.2.2.2⟩
end
end Go.Proofs.YtblfffbmklkhmaaGreat

namespace Go.Proofs.YtblfffbmklkhmaaGreat
open Go.RowKit
def staleL (kl : List (Int × List Int)) (L : List Int) : List Int := L.filter fun x => (findK kl x).isNone
theorem staleL_take {kl : List (Int × List Int)} {L : List Int} {i : Nat} (h : i < L.length) : staleL kl (L.take (i + 1)) = if (findK kl L[i]).isNone = true then staleL kl (L.take i) ++ [L[i]] else staleL kl (L.take i) := by
  unfold staleL
  rw [List.take_succ_eq_append_getElem h, List.filter_append]
  cases hu : (findK kl L[i]).isNone <;> simp [hu]
theorem staleL_len (kl : List (Int × List Int)) (L : List Int) : (staleL kl L).length ≤ L.length := List.length_filter_le _ _
theorem findK_nine {kl : List (Int × List Int)} (h : ∀ x ∈ kl, x.2.length = 9) (n : Int) : ((findK kl n).getD zeroS).length = 9 := by
  cases hf : findK kl n with
  | none => rfl
  | some s => exact h _ (findK_some hf)
section
set_option maxRecDepth 100000
set_option maxHeartbeats 4000000
variable (w : World) (b : Nat) (vS : Value × Value) (v : Value) (els : List PEl) (T : Tree) (made : Nat) (M : Nat → Mk) (rs : List PRu) (kl : List (Int × List Int)) (G : Nat → Prop)
theorem pstale_any (al : Option Addr) (cl : Nat) (L : List Int) (h : DM w b vS v els T made M rs kl G) (hI : RowI w al L) (hL : L.length ≤ 1000) : Calls Tryz.prog 50 #[.pointer (some ⟨b, 0, none⟩), .slice al L.length cl] w fun e w' => PRowI w (staleL kl L) e w' := by
  obtain ⟨i0, hi0, iz0, iz1, iz2⟩ := info_parts Tryz.info3
  have HD : Hid (DM w b vS v els T made M rs kl G) := h
  have HI : Hid (RowI w al L) := hI
  have hfew := h.few
  have hbl := h.lt
  clear h hI
  go_enter Tryz.func50, Tryz.ntmps50
  go_wp2_with fail
  go_loopg [5, 12] L.length (fun gk v iv wr => ∃ i : Nat, iv = .int .i64 i ∧ i ≤ L.length ∧ L.length - i ≤ gk ∧ Hid (wr.ownsRow w.heap.size 3 1 v (staleL kl (L.take i)).length (intsZ (staleL kl (L.take i))) ∧ Below w.heap.size w wr))
  case atStart => exact ⟨0, rfl, Nat.zero_le _, by omega, World.ownsRow_nil _ _ _ _, Below.refl _ _⟩
  case round =>
    obtain ⟨i, rfl, hi, hgk, HN⟩ := hrel
    obtain ⟨a2, c2, hv2⟩ := own_shape HN.out.1
    subst hv2
    have hbz := HN.out.2.size
    have hRL : (staleL kl (L.take i)).length ≤ 1000 := by
      have h1 := staleL_len kl (L.take i)
      have h2 : (L.take i).length ≤ L.length := List.length_take_le' _ _
      omega
    by_cases hlt : i < L.length
    · have hd : decide ((i : Int) < (L.length : Int)) = true := by simp; omega
      obtain ⟨g2, hg2, hgl2, hq2⟩ := HI.out i hlt
      subst hg2
      have q1 := (HN.out.2.cell (p := ⟨g2, i, none⟩) hgl2).trans hq2
      rw [List.getElem?_eq_getElem hlt] at q1
      replace q1 : wr.cell? ⟨g2, i, none⟩ = some (.int .i64 L[i]) := q1
      have HST : Hid (staleL kl (L.take (i + 1)) = if (findK kl L[i]).isNone = true then staleL kl (L.take i) ++ [L[i]] else staleL kl (L.take i)) := staleL_take hlt
      have HDr : Hid (DM wr b vS v els T made M rs kl G) := HD.out.below HN.out.2
      clear hq2
      generalize L[i] = o at q1 HST
      have h9 := findK_nine HD.out.kp.nine o
      go_wp2_with fail
      refine (pfindK_any wr b vS.2 kl o (cell_of_blk HDr.out.pb.doc rfl) HDr.out.kp hfew).mono ?_
      rintro e w1 ⟨rfl, hB1⟩
      have HN1 : Hid (w1.ownsRow w.heap.size 3 1 (.slice a2 (staleL kl (L.take i)).length c2) (staleL kl (L.take i)).length (intsZ (staleL kl (L.take i))) ∧ Below w.heap.size w w1) := ⟨own_below HN.out.1 hB1, HN.out.2.trans (hB1.mono hbz)⟩
      have hbz1 := HN1.out.2.size
      clear hB1 HN HDr q1
      obtain ⟨fo, hfo⟩ : ∃ fo, findK kl o = fo := ⟨_, rfl⟩
      rw [hfo] at HST h9 ⊢
      clear hfo
      generalize fo.getD zeroS = S at h9 ⊢
      have hlen : (intsZ S).toArray.size = 9 := List.size_toArray.trans (by rw [List.length_map]; exact h9)
      have HS2 : Hid ((Tryz.prog.info? 103).map (·.size) = some (intsZ S).toArray.size) := by unfold Hid; rw [hlen]; exact Tryz.sizeS
      have HS9 : Hid (9 = (intsZ S).toArray.size) := hlen.symm
      have HO9 : Hid ((intsZ S).toArray.all (·.oneCell') = true) := one_ints S
      clear hlen h9
      generalize staleL kl (L.take i) = R at HN1 HST hRL ⊢
      cases fo with
      | some s =>
        have HN2 : Hid ((w1.alloc (.cells (intsZ S).toArray 103)).ownsRow w.heap.size 3 1 (.slice a2 R.length c2) (staleL kl (L.take (i + 1))).length (intsZ (staleL kl (L.take (i + 1)))) ∧ Below w.heap.size w (w1.alloc (.cells (intsZ S).toArray 103))) := by
          rw [HST.out, if_neg (by simp)]
          exact ⟨HN1.out.1.alloc _, HN1.out.2.alloc hbz1 _⟩
        clear HST HN1
        simp only [Option.isSome_some]
        go_wp2_with (refine wpList_store_new rfl 103 _ _ rfl _ (intsZ S).toArray 103 rfl rfl HS2.out HS9.out HO9.out ?_)
        go_roundg (L.length - (i + 1))
        case measure => omega
        case rel => exact ⟨i + 1, by go_num, by omega, Nat.le_refl _, HN2⟩
      | none =>
        have HST2 : Hid (staleL kl (L.take (i + 1)) = R ++ [o]) := by unfold Hid; rw [HST.out, if_pos (by simp)]
        clear HST
        simp only [Option.isSome_none]
        go_wp2_with (first | (refine wpList_store_new rfl 103 _ _ rfl _ (intsZ S).toArray 103 rfl rfl HS2.out HS9.out HO9.out ?_) | (at_builtin; refine wpList_append_own _ rfl (.tmp 26) (.tmp 28) 40 rfl w.heap.size 3 i0 (.int .i64 0) 1 8 Tryz.underlying40 hi0 iz0 iz1 iz2 rfl (by decide) _ _ _ rfl ((HN1.out.1.alloc _).alloc _) ⟨w1.heap.size + 1, 0, none⟩ 1 1 [.int .i64 o] rfl rfl ?c1 ?c2 ?c3 ?c4 ?c5 ?_))
        case c1 => exact new_cells (w1.alloc _) _ (by simp) _ _ _ rfl
        case c2 => exact one_z o
        case c3 => unfold maxLen; omega
        case c4 => omega
        case c5 => simp; omega
        intro v5 w5 own5 hg5 _
        have HN5 : Hid (w5.ownsRow w.heap.size 3 1 v5 (staleL kl (L.take (i + 1))).length (intsZ (staleL kl (L.take (i + 1)))) ∧ Below w.heap.size w w5) := by
          rw [HST2.out]
          exact ⟨by simpa [intsZ] using own5, ((HN1.out.2.alloc hbz1 _).alloc (by simp; omega) _).grown hg5 (by simp; omega) (fun k hk => (HN1.out.1.lt k hk).1)⟩
        clear own5 hg5 HN1
        go_wp2
        go_roundg (L.length - (i + 1))
        case measure => omega
        case rel => exact ⟨i + 1, by go_num, by omega, Nat.le_refl _, HN5⟩
    · have hd : decide ((i : Int) < (L.length : Int)) = false := by simp; omega
      obtain rfl : i = L.length := by omega
      rw [List.take_length] at HN hRL ⊢
      go_wp2
      go_ret
      exact ⟨a2, c2, rfl, HN.out.1, HN.out.2⟩
end
section
set_option maxRecDepth 100000
set_option maxHeartbeats 4000000
variable (w : World) (px : Value) (T : Tree) (made : Nat) (M : Nat → Mk) (rs : List PRu) (kl : List (Int × List Int)) (F : Nat → Prop)
def DShwPost (n : Int) (e : Ending) (w' : World) : Prop := e = .returned (.int .i64 (if (tFind T n).isSome then 0 else 5)) ∧ DSk w' px T made M rs kl (More F w) ∧ Fr w w' F
theorem dshw_any (n : Int) (on : Bool) (h : DSk w px T made M rs kl F) : Calls Tryz.prog 106 #[px, .int .i64 n, .bool on] w fun e w' =>
    DShwPost w px T made M rs kl F n e w' := by
  obtain ⟨b, vS, v, els, G, rfl, h2, h3, h4, h5, h6, h7⟩ := h
  have HB : Hid (DM w b vS v els T made M rs kl G ∧ KOK T M rs kl ∧ F b ∧ (∀ j, v.ownBlock = some j → F j) ∧ (∀ j, vS.2.ownBlock = some j → F j) ∧ ∀ k, G k → F k) := ⟨h2, h3, h4, h5, h6, h7⟩
  clear h2 h3 h4 h5 h6 h7
  go_enter Tryz.func106, Tryz.ntmps106
  go_wp2_with fail
  refine (pshw_any w b vS v els T made n on HB.out.1.pb HB.out.1.tw HB.out.1.mks.2).mono ?_
  rintro e w1 ⟨els', rfl, hp, hf, hm⟩
  have HE : Hid (DShwPost w (.pointer (some ⟨b, 0, none⟩)) T made M rs kl F n (.returned (.int .i64 (if (tFind T n).isSome then 0 else 5))) w1) := ⟨rfl, ⟨b, vS, v, els', G, rfl, HB.out.1.inpl hp (hm M HB.out.1.mks) hf, HB.out.2.1, Or.inl HB.out.2.2.1, fun j hj => Or.inl (HB.out.2.2.2.1 j hj), fun j hj => Or.inl (HB.out.2.2.2.2.1 j hj), fun k hk => Or.inl (HB.out.2.2.2.2.2 k hk)⟩, hf.mono (fun k hk => HB.out.2.2.2.1 k hk)⟩
  clear hp hf hm
  generalize (if (tFind T n).isSome then (0 : Int) else 5) = y at HE ⊢
  go_wp2
  go_ret
  exact HE.out
/-- What Stale tells. -/
def DStlPost (e : Ending) (w' : World) : Prop :=
  ∃ (l : List Int) (a : Option Addr) (c : Nat), e = .returned (.slice a l.length c) ∧ l.length ≤ T.length ∧ (∀ x ∈ l, (findK kl x).isNone = true ∧ ∃ k lk, x = ((k : Nat) : Int) ∧ (k, lk) ∈ T) ∧ DSk w' px T made M rs kl (fun k => F k ∧ k < w.heap.size) ∧ Below w.heap.size w w' ∧ w'.ownsRow w.heap.size 3 1 (.slice a l.length c) l.length (intsZ l)
theorem dstl_any (h : DSk w px T made M rs kl F) : Calls Tryz.prog 31 #[px] w fun e w' => DStlPost w px T made M rs kl F e w' := by
  have HS : Hid (DSk w px T made M rs kl (fun k => F k ∧ k < w.heap.size)) := h.here
  obtain ⟨b, vS, v, els, G, rfl, h2, h3, h4⟩ := h
  obtain ⟨a, c, hv⟩ := h2.pb.pl.shape
  subst hv
  have HD : Hid (DM w b vS (.slice a els.length c) els T made M rs kl G) := h2
  clear h2 h3 h4
  go_enter Tryz.func31, Tryz.ntmps31
  go_wp2_with fail
  refine (pnums_any w b a c els HD.out.trd).mono ?_
  rintro e w1 ⟨L, hLl, hLn, al, cl, rfl, hrow, hB1⟩
  have HD1 : Hid (DM w1 b vS (.slice a els.length c) els T made M rs kl G) := HD.out.below hB1
  have HL : Hid (L.length = els.length ∧ NumsIn els L ∧ RowI w1 al L ∧ Below w.heap.size w w1) := ⟨hLl, hLn, RowI.own hrow, hB1⟩
  have hl1 : L.length ≤ 1000 := by have := HD.out.pb.few; omega
  clear hrow hB1 hLl hLn
  go_wp2_with fail
  refine (pstale_any w1 b vS _ els T made M rs kl G al cl L HD1.out HL.out.2.2.1 hl1).mono ?_
  rintro e w2 ⟨a2, c2, rfl, hrow2, hB2⟩
  have hBB : Below w.heap.size w w2 := HL.out.2.2.2.trans (hB2.mono HL.out.2.2.2.size)
  have HE : Hid (DStlPost w (.pointer (some ⟨b, 0, none⟩)) T made M rs kl F (.returned (.slice a2 (staleL kl L).length c2)) w2) := by
    refine ⟨staleL kl L, a2, c2, rfl, ?_, fun x hx => ?_, HS.out.keep (fun k hk _ => hBB.block k hk.2) hBB.size, hBB, own_mono hrow2 HL.out.2.2.2.size⟩
    · have h1 := staleL_len kl L
      have h2 := HD.out.pb.pt.len HD.out.tw
      have h3 := HL.out.1
      omega
    · obtain ⟨h1, h2⟩ := List.mem_filter.1 hx
      obtain ⟨e, he, rfl⟩ := HL.out.2.1 x h1
      obtain ⟨l, hl⟩ := HD.out.pb.pt.to' e he
      exact ⟨h2, e.num, l, rfl, hl⟩
  clear hrow2 hB2 hBB
  generalize (staleL kl L).length = nn at HE ⊢
  go_wp2
  go_ret
  exact HE.out
/-- What Stored tells. -/
def stoVal (n : Int) (s : ByteArray) : Int := if qryErr T n s = 0 then ((findK kl n).getD zeroS).getD ((propP s).getD 0) 0 else 0
def DStoPost (n : Int) (s : ByteArray) (e : Ending) (w' : World) : Prop :=
  e = .returned (.tuple #[.int .i64 (stoVal T kl n s), .bool (decide (qryErr T n s = 0) && (findK kl n).isSome), .int .i64 (qryErr T n s)]) ∧ DSk w' px T made M rs kl (fun k => F k ∧ k < w.heap.size) ∧ Below w.heap.size w w'
theorem dsto_any (n : Int) (s : ByteArray) (h : DSk w px T made M rs kl F) : Calls Tryz.prog 51 #[px, .int .i64 n, .string s] w fun e w' => DStoPost w px T made M rs kl F n s e w' := by
  have HS : Hid (DSk w px T made M rs kl (fun k => F k ∧ k < w.heap.size)) := h.here
  obtain ⟨b, vS, v, els, G, rfl, h2, h3, h4⟩ := h
  have HD : Hid (DM w b vS v els T made M rs kl G) := h2
  have hfew := h2.few
  clear h2 h3 h4
  go_enter Tryz.func51, Tryz.ntmps51
  go_wp2_with fail
  refine (dplaceOf_any w b vS v els T made M rs kl G n s HD.out).mono ?_
  rintro e w1 ⟨rfl, hB1⟩
  have HD1 : Hid (DM w1 b vS v els T made M rs kl G) := HD.out.below hB1
  have HB1 : Hid (Below w.heap.size w w1) := hB1
  clear hB1
  by_cases hq : qryErr T n s = 0
  · obtain ⟨l, p, ht, hp⟩ := qry_some hq
    have hp9 := propP_lt hp
    have HV : Hid (stoVal T kl n s = ((findK kl n).getD zeroS).getD p 0) := by unfold Hid stoVal; rw [if_pos hq, hp]; rfl
    have HQ : Hid (qryErr T n s = 0) := hq
    rw [if_pos hq, hq, hp]
    simp only [Option.getD_some]
    clear hq ht hp
    have h9 := findK_nine HD.out.kp.nine n
    go_wp2_with fail
    refine (pfindK_any w1 b vS.2 kl n (cell_of_blk HD1.out.pb.doc rfl) HD1.out.kp hfew).mono ?_
    rintro e w2 ⟨rfl, hB2⟩
    have HBB : Hid (Below w.heap.size w w2) := HB1.out.trans (hB2.mono HB1.out.size)
    have HE : Hid (∀ Z, DStoPost w (.pointer (some ⟨b, 0, none⟩)) T made M rs kl F n s (.returned (.tuple #[.int .i64 (((findK kl n).getD zeroS).getD p 0), .bool (findK kl n).isSome, .int .i64 0])) (w2.alloc (.cells Z 103))) := fun Z => by
      have hb := HBB.out.alloc HBB.out.size (.cells Z 103)
      exact ⟨by rw [HV.out, HQ.out]; rfl, HS.out.keep (fun k hk _ => hb.block k hk.2) hb.size, hb⟩
    clear hB2
    generalize (findK kl n).isSome = fr at HE ⊢
    generalize (findK kl n).getD zeroS = S at h9 HE ⊢
    have hlen : (intsZ S).toArray.size = 9 := List.size_toArray.trans (by rw [List.length_map]; exact h9)
    have HS2 : Hid ((Tryz.prog.info? 103).map (·.size) = some (intsZ S).toArray.size) := by unfold Hid; rw [hlen]; exact Tryz.sizeS
    have HS9 : Hid (9 = (intsZ S).toArray.size) := hlen.symm
    have HO9 : Hid ((intsZ S).toArray.all (·.oneCell') = true) := one_ints S
    have q0 : (w2.alloc (.cells (intsZ S).toArray 103)).cell? ⟨w2.heap.size, p, none⟩ = some (.int .i64 (S.getD p 0)) := by
      have := range_new w2 (intsZ S) 103 p (.int .i64 (S.getD p 0)) (sty_at (by omega))
      rwa [Nat.zero_add] at this
    have hpi : (p : Int) < 9 := by omega
    clear hlen
    generalize S.getD p 0 = val at q0 HE
    go_wp2_with (refine wpList_store_new rfl 103 _ _ rfl _ (intsZ S).toArray 103 rfl rfl HS2.out HS9.out HO9.out ?_)
    go_ret3
    exact HE.out _
  · have HE : Hid (DStoPost w (.pointer (some ⟨b, 0, none⟩)) T made M rs kl F n s (.returned (.tuple #[.int .i64 0, .bool false, .int .i64 (qryErr T n s)])) w1) := by
      refine ⟨?_, HS.out.keep (fun k hk _ => HB1.out.block k hk.2) HB1.out.size, HB1.out⟩
      unfold stoVal
      rw [if_neg hq, decide_eq_false hq]
      rfl
    have gq : (qryErr T n s != 0) = true := by simp [hq]
    rw [if_neg hq]
    clear hq
    generalize qryErr T n s = y at HE gq ⊢
    go_wp2
    go_ret3
    exact HE.out
end
end Go.Proofs.YtblfffbmklkhmaaGreat
