/- Own work. -/
import Derived.Test.YtblfffbmklkhmaaGreatAw9
import Derived.Test.YtblfffbmklkhmaaGreatAw8
namespace Go.Proofs.YtblfffbmklkhmaaGreat
open Go.RowKit
set_option maxRecDepth 100000 in
set_option maxHeartbeats 4000000 in
theorem pwith_any (w : World) (v : Value) (els : List PEl) (place : Nat) (x : PEl) (h : PL w v els) (hx : x.ok) (hp : place ≤ els.length) (hfew : els.length ≤ 24) :
    Calls Tryz.prog 112 #[v, .int .i64 place, .agg x.cells.toArray] w fun e w' => PRowPost w (withP els place x) e w' := by
  obtain ⟨i0, z0, hi, iz, is, ib, izs⟩ := Tryz.infoE
  obtain ⟨a, c, hv⟩ := h.shape
  subst hv
  have HP : Hid (PL w (.slice a els.length c) els) := h
  have HX : Hid (ElAt (w.alloc (.cells x.cells.toArray 134)) w.heap.size 0 x.cells x.num x.par) := el_new hx w
  clear h hx
  obtain ⟨cx, hcx⟩ : ∃ cx, x.cells = cx := ⟨_, rfl⟩
  have HCX : Hid (x.cells = cx) := hcx
  rw [hcx] at HX ⊢
  clear hcx
  have HW0 : Hid (WI (w.heap.size + 1) (w.alloc (.cells cx.toArray 134)) (w.alloc (.cells cx.toArray 134)) (.slice none 0 0) (withI els place x 0)) := ⟨World.ownsRow_nil _ _ _ _, Below.refl _ _⟩
  go_enter Tryz.func112, Tryz.ntmps112
  go_wp2_with fail
  go_loopg [7, 12] els.length (fun gk v iv wr => ∃ i : Nat, iv = .int .i64 i ∧ i ≤ els.length ∧ els.length - i ≤ gk ∧ Hid (WI (w.heap.size + 1) (w.alloc (.cells cx.toArray 134)) wr v (withI els place x i)))
  case atStart => exact ⟨0, rfl, Nat.zero_le _, by omega, HW0⟩
  case round =>
    obtain ⟨i, rfl, hil, hgk, HN⟩ := hrel
    obtain ⟨a2, c2, hv2⟩ := own_shape HN.out.own
    subst hv2
    have hll := withI_len els place x i
    have hbz : w.heap.size + 1 ≤ wr.heap.size := by have := HN.out.below.size; simpa using this
    have HEX : Hid (ElAt wr w.heap.size 0 cx x.num x.par) := HX.out.below HN.out.below (Nat.lt_succ_self _)
    by_cases hlt : i < els.length
    · have hd : decide ((i : Int) < (els.length : Int)) = true := by simp; omega
      obtain ⟨g, hg, hgl, he⟩ := HP.out.el hlt
      subst hg
      have HE : Hid (ElAt wr g (i * 31) els[i].cells els[i].num els[i].par) := (he.below ((Below.refl _ _).alloc (Nat.le_refl _) (.cells cx.toArray 134)) hgl).below HN.out.below (Nat.lt_succ_of_lt hgl)
      have HST : Hid (withI els place x (i + 1) = (if i = place then withI els place x i ++ [x] else withI els place x i) ++ [els[i]]) := withI_step x hlt
      clear he
      generalize els[i] = y at HE HST
      obtain ⟨cs, hcs⟩ : ∃ cs, y.cells = cs := ⟨_, rfl⟩
      have HCY : Hid (y.cells = cs) := hcs
      rw [hcs] at HE
      clear hcs
      generalize withI els place x i = L at HN HST hll ⊢
      have HEX1 : Hid (ElAt (wr.alloc (.cells cs.toArray 134)) w.heap.size 0 cx x.num x.par) := HEX.out.keep (Below.heap_alloc _ _ _ (by omega))
      have HEY1 : Hid (ElAt (wr.alloc (.cells cs.toArray 134)) wr.heap.size 0 cs y.num y.par) := HE.out.new wr
      by_cases hip : i = place
      · have gi : ((i : Int) == (place : Int)) = true := by simp [hip]
        have HST2 : Hid (withI els place x (i + 1) = L ++ [x] ++ [y]) := by unfold Hid; rw [HST.out, if_pos hip]
        clear hip HST
        go_wp2_with (first | (refine wpList_load_mid rfl 134 _ rfl g (i * 31) rfl cs _ HE.out.rng Tryz.underlying134 rfl HE.out.size ?_) | (refine wpList_store_new rfl 134 _ _ rfl _ cs.toArray 134 rfl rfl HE.out.size' HE.out.same HE.out.all ?_) | (refine wpList_load_mid rfl 134 _ rfl (w.heap.size) (0) rfl cx _ HEX1.out.rng Tryz.underlying134 rfl HEX1.out.size ?_) | (refine wpList_buildOneAt (wr.heap.size + 1) (by simp) rfl 83 134 _ rfl cx.toArray rfl i0 z0 Tryz.underlying83 hi iz (HEX1.out.info is) (HEX1.out.pos) (HEX1.out.small) ?_) | (at_builtin; refine wpList_append_own _ rfl (.tmp 20) (.tmp 22) 83 rfl (w.heap.size + 1) 134 i0 z0 31 48 Tryz.underlying83 hi iz is ib izs (by decide) _ _ _ rfl ((HN.out.own.alloc _).alloc _) ⟨wr.heap.size + 1, 0, none⟩ 1 1 cx rfl HEX1.out.len1 ?c1 HEX1.out.one ?c3 ?c4 ?c5 ?_))
        case c1 => exact new_cells (wr.alloc _) _ (by simp) _ _ _ (by simp)
        case c3 => unfold maxLen; omega
        case c4 => omega
        case c5 => simp; omega
        intro v3 w3 own3 hg3 _
        have HW3 : Hid (WI (w.heap.size + 1) (w.alloc (.cells cx.toArray 134)) w3 v3 (L ++ [x])) := HN.out.app ((HN.out.below.alloc hbz _).alloc (by simp; omega) _) (by simp; omega) hg3 (by rw [HCX.out]; exact own3)
        have hz3 : wr.heap.size + 2 ≤ w3.heap.size := by have := hg3.size; simpa using this
        have HEY3 : Hid (ElAt w3 wr.heap.size 0 cs y.num y.par) := by
          refine HEY1.out.keep ((hg3.block wr.heap.size (by simp; omega) (fun e => ?_)).trans (Below.heap_alloc _ _ _ (by simp)))
          have := (HN.out.own.lt wr.heap.size e.symm).2
          omega
        have hl3 : (L ++ [x]).length ≤ L.length + 1 := by simp
        clear own3 hg3 HN HEX1 HEY1 HEX HE
        obtain ⟨a3, c3, hv3⟩ := own_shape HW3.out.own
        subst hv3
        generalize L ++ [x] = L3 at HW3 HST2 hl3 ⊢
        go_wp2_with (first | (refine wpList_load_mid rfl 134 _ rfl (wr.heap.size) (0) rfl cs _ HEY3.out.rng Tryz.underlying134 rfl HEY3.out.size ?_) | (refine wpList_buildOneAt w3.heap.size rfl rfl 83 134 _ rfl cs.toArray rfl i0 z0 Tryz.underlying83 hi iz (HEY3.out.info is) (HEY3.out.pos) (HEY3.out.small) ?_) | (at_builtin; refine wpList_append_own _ rfl (.tmp 24) (.tmp 26) 83 rfl (w.heap.size + 1) 134 i0 z0 31 48 Tryz.underlying83 hi iz is ib izs (by decide) _ _ _ rfl (HW3.out.own.alloc _) ⟨w3.heap.size, 0, none⟩ 1 1 cs rfl HEY3.out.len1 ?c1 HEY3.out.one ?c3 ?c4 ?c5 ?_))
        case c1 => exact new_cells w3 _ rfl _ _ _ (by simp)
        case c3 => unfold maxLen; omega
        case c4 => omega
        case c5 => simp; omega
        intro v5 w5 own5 hg5 _
        have HW5 : Hid (WI (w.heap.size + 1) (w.alloc (.cells cx.toArray 134)) w5 v5 (withI els place x (i + 1))) := by
          rw [HST2.out]
          exact HW3.out.app (HW3.out.below.alloc (by omega) _) (by simp; omega) hg5 (by rw [HCY.out]; exact own5)
        clear own5 hg5 HW3 HEY3
        go_wp2
        go_roundg (els.length - (i + 1))
        case measure => omega
        case rel => exact ⟨i + 1, by go_num, by omega, Nat.le_refl _, HW5⟩
      · have gi : ((i : Int) == (place : Int)) = false := by rw [beq_eq_false_iff_ne]; omega
        have HST2 : Hid (withI els place x (i + 1) = L ++ [y]) := by unfold Hid; rw [HST.out, if_neg hip]
        clear hip HST
        go_wp2_with (first | (refine wpList_load_mid rfl 134 _ rfl g (i * 31) rfl cs _ HE.out.rng Tryz.underlying134 rfl HE.out.size ?_) | (refine wpList_store_new rfl 134 _ _ rfl _ cs.toArray 134 rfl rfl HE.out.size' HE.out.same HE.out.all ?_) | (refine wpList_load_mid rfl 134 _ rfl (wr.heap.size) (0) rfl cs _ HEY1.out.rng Tryz.underlying134 rfl HEY1.out.size ?_) | (refine wpList_buildOneAt (wr.heap.size + 1) (by simp) rfl 83 134 _ rfl cs.toArray rfl i0 z0 Tryz.underlying83 hi iz (HEY1.out.info is) (HEY1.out.pos) (HEY1.out.small) ?_) | (at_builtin; refine wpList_append_own _ rfl (.tmp 24) (.tmp 26) 83 rfl (w.heap.size + 1) 134 i0 z0 31 48 Tryz.underlying83 hi iz is ib izs (by decide) _ _ _ rfl ((HN.out.own.alloc _).alloc _) ⟨wr.heap.size + 1, 0, none⟩ 1 1 cs rfl HEY1.out.len1 ?c1 HEY1.out.one ?c3 ?c4 ?c5 ?_))
        case c1 => exact new_cells (wr.alloc _) _ (by simp) _ _ _ (by simp)
        case c3 => unfold maxLen; omega
        case c4 => omega
        case c5 => simp; omega
        intro v5 w5 own5 hg5 _
        have HW5 : Hid (WI (w.heap.size + 1) (w.alloc (.cells cx.toArray 134)) w5 v5 (withI els place x (i + 1))) := by
          rw [HST2.out]
          exact HN.out.app ((HN.out.below.alloc hbz _).alloc (by simp; omega) _) (by simp; omega) hg5 (by rw [HCY.out]; exact own5)
        clear own5 hg5 HN HEX1 HEY1 HEX HE
        go_wp2
        go_roundg (els.length - (i + 1))
        case measure => omega
        case rel => exact ⟨i + 1, by go_num, by omega, Nat.le_refl _, HW5⟩
    · have hd : decide ((i : Int) < (els.length : Int)) = false := by simp; omega
      obtain rfl : i = els.length := by omega
      have HBW : Hid (∀ w3, Below (w.heap.size + 1) (w.alloc (.cells cx.toArray 134)) w3 → Below w.heap.size w w3) := fun w3 hb => ((Below.refl w.heap.size w).alloc (Nat.le_refl _) _).trans (hb.mono (Nat.le_succ _))
      by_cases hpl : place = els.length
      · have gp : ((place : Int) == (els.length : Int)) = true := by simp [hpl]
        have HFIN : Hid (withI els place x els.length ++ [x] = withP els place x) := by rw [hpl]; exact withI_last els x
        clear hpl
        generalize withI els place x els.length = L at HN HFIN hll ⊢
        go_wp2_with (first | (refine wpList_load_mid rfl 134 _ rfl (w.heap.size) (0) rfl cx _ HEX.out.rng Tryz.underlying134 rfl HEX.out.size ?_) | (refine wpList_buildOneAt wr.heap.size rfl rfl 83 134 _ rfl cx.toArray rfl i0 z0 Tryz.underlying83 hi iz (HEX.out.info is) (HEX.out.pos) (HEX.out.small) ?_) | (at_builtin; refine wpList_append_own _ rfl (.tmp 33) (.tmp 35) 83 rfl (w.heap.size + 1) 134 i0 z0 31 48 Tryz.underlying83 hi iz is ib izs (by decide) _ _ _ rfl (HN.out.own.alloc _) ⟨wr.heap.size, 0, none⟩ 1 1 cx rfl HEX.out.len1 ?c1 HEX.out.one ?c3 ?c4 ?c5 ?_))
        case c1 => exact new_cells wr _ rfl _ _ _ (by simp)
        case c3 => unfold maxLen; omega
        case c4 => omega
        case c5 => simp; omega
        intro v5 w5 own5 hg5 _
        have HW5 : Hid (WI (w.heap.size + 1) (w.alloc (.cells cx.toArray 134)) w5 v5 (withP els place x)) := by
          rw [← HFIN.out]
          exact HN.out.app (HN.out.below.alloc hbz _) (by simp; omega) hg5 (by rw [HCX.out]; exact own5)
        clear own5 hg5 HN HEX
        obtain ⟨a5, c5, hv5⟩ := own_shape HW5.out.own
        subst hv5
        go_wp2
        go_ret
        exact ⟨a5, c5, rfl, own_mono HW5.out.own (Nat.le_succ _), HBW.out _ HW5.out.below⟩
      · have gp : ((place : Int) == (els.length : Int)) = false := by rw [beq_eq_false_iff_ne]; omega
        have HW5 : Hid (WI (w.heap.size + 1) (w.alloc (.cells cx.toArray 134)) wr (.slice a2 (withP els place x).length c2) (withP els place x)) := by
          have := HN.out
          rw [withI_end x (by omega)] at this
          exact this
        rw [withI_end x (by omega)]
        clear hpl HN HEX
        go_wp2
        go_ret
        exact ⟨a2, c2, rfl, own_mono HW5.out.own (Nat.le_succ _), HBW.out _ HW5.out.below⟩
end Go.Proofs.YtblfffbmklkhmaaGreat

namespace Go.Proofs.YtblfffbmklkhmaaGreat
open Go.RowKit
set_option maxRecDepth 100000 in
set_option maxHeartbeats 4000000 in
theorem pwithout_any (w : World) (v : Value) (els : List PEl) (place : Nat) (h : PL w v els) (hfew : els.length ≤ 24) :
    Calls Tryz.prog 176 #[v, .int .i64 place] w fun e w' => PRowPost w (els.eraseIdx place) e w' := by
  obtain ⟨i0, z0, hi, iz, is, ib, izs⟩ := Tryz.infoE
  obtain ⟨a, c, hv⟩ := h.shape
  subst hv
  have HP : Hid (PL w (.slice a els.length c) els) := h
  clear h
  have HW0 : Hid (WI w.heap.size w w (.slice none 0 0) ((els.take 0).eraseIdx place)) := ⟨World.ownsRow_nil _ _ _ _, Below.refl _ _⟩
  go_enter Tryz.func176, Tryz.ntmps176
  go_wp2_with fail
  go_loopg [5, 10] els.length (fun gk v iv wr => ∃ i : Nat, iv = .int .i64 i ∧ i ≤ els.length ∧ els.length - i ≤ gk ∧ Hid (WI w.heap.size w wr v ((els.take i).eraseIdx place)))
  case atStart => exact ⟨0, rfl, Nat.zero_le _, by omega, HW0⟩
  case round =>
    obtain ⟨i, rfl, hil, hgk, HN⟩ := hrel
    obtain ⟨a2, c2, hv2⟩ := own_shape HN.out.own
    subst hv2
    have hll : ((els.take i).eraseIdx place).length ≤ 24 := by
      have h1 := List.length_eraseIdx_le (els.take i) place
      have h2 : (els.take i).length ≤ els.length := List.length_take_le' _ _
      omega
    have hbz := HN.out.below.size
    by_cases hlt : i < els.length
    · have hd : decide ((i : Int) < (els.length : Int)) = true := by simp; omega
      obtain ⟨g, hg, hgl, he⟩ := HP.out.el hlt
      subst hg
      have HE : Hid (ElAt wr g (i * 31) els[i].cells els[i].num els[i].par) := he.below HN.out.below hgl
      have HST : Hid ((els.take (i + 1)).eraseIdx place = if i = place then (els.take i).eraseIdx place else (els.take i).eraseIdx place ++ [els[i]]) := erase_step hlt
      clear he
      generalize els[i] = y at HE HST
      obtain ⟨cs, hcs⟩ : ∃ cs, y.cells = cs := ⟨_, rfl⟩
      have HCY : Hid (y.cells = cs) := hcs
      rw [hcs] at HE
      clear hcs
      generalize (els.take i).eraseIdx place = L at HN HST hll ⊢
      have HEY1 : Hid (ElAt (wr.alloc (.cells cs.toArray 134)) wr.heap.size 0 cs y.num y.par) := HE.out.new wr
      by_cases hip : i = place
      · have gi : ((i : Int) != (place : Int)) = false := by simp [hip]
        have HW5 : Hid (WI w.heap.size w (wr.alloc (.cells cs.toArray 134)) (.slice a2 L.length c2) ((els.take (i + 1)).eraseIdx place)) := by
          rw [HST.out, if_pos hip]
          exact ⟨HN.out.own.alloc _, HN.out.below.alloc hbz _⟩
        clear hip HST
        go_wp2_with (first | (refine wpList_load_mid rfl 134 _ rfl g (i * 31) rfl cs _ HE.out.rng Tryz.underlying134 rfl HE.out.size ?_) | (refine wpList_store_new rfl 134 _ _ rfl _ cs.toArray 134 rfl rfl HE.out.size' HE.out.same HE.out.all ?_))
        go_roundg (els.length - (i + 1))
        case measure => omega
        case rel => exact ⟨i + 1, by go_num, by omega, Nat.le_refl _, HW5⟩
      · have gi : ((i : Int) != (place : Int)) = true := by rw [bne_iff_ne]; omega
        have HST2 : Hid ((els.take (i + 1)).eraseIdx place = L ++ [y]) := by unfold Hid; rw [HST.out, if_neg hip]
        clear hip HST
        go_wp2_with (first | (refine wpList_load_mid rfl 134 _ rfl g (i * 31) rfl cs _ HE.out.rng Tryz.underlying134 rfl HE.out.size ?_) | (refine wpList_store_new rfl 134 _ _ rfl _ cs.toArray 134 rfl rfl HE.out.size' HE.out.same HE.out.all ?_) | (refine wpList_load_mid rfl 134 _ rfl (wr.heap.size) (0) rfl cs _ HEY1.out.rng Tryz.underlying134 rfl HEY1.out.size ?_) | (refine wpList_buildOneAt (wr.heap.size + 1) (by simp) rfl 83 134 _ rfl cs.toArray rfl i0 z0 Tryz.underlying83 hi iz (HEY1.out.info is) (HEY1.out.pos) (HEY1.out.small) ?_) | (at_builtin; refine wpList_append_own _ rfl (.tmp 18) (.tmp 20) 83 rfl (w.heap.size) 134 i0 z0 31 48 Tryz.underlying83 hi iz is ib izs (by decide) _ _ _ rfl ((HN.out.own.alloc _).alloc _) ⟨wr.heap.size + 1, 0, none⟩ 1 1 cs rfl HEY1.out.len1 ?c1 HEY1.out.one ?c3 ?c4 ?c5 ?_))
        case c1 => exact new_cells (wr.alloc _) _ (by simp) _ _ _ (by simp)
        case c3 => unfold maxLen; omega
        case c4 => omega
        case c5 => simp; omega
        intro v5 w5 own5 hg5 _
        have HW5 : Hid (WI w.heap.size w w5 v5 ((els.take (i + 1)).eraseIdx place)) := by
          rw [HST2.out]
          exact HN.out.app ((HN.out.below.alloc hbz _).alloc (by simp; omega) _) (by simp; omega) hg5 (by rw [HCY.out]; exact own5)
        clear own5 hg5 HN HEY1 HE
        go_wp2
        go_roundg (els.length - (i + 1))
        case measure => omega
        case rel => exact ⟨i + 1, by go_num, by omega, Nat.le_refl _, HW5⟩
    · have hd : decide ((i : Int) < (els.length : Int)) = false := by simp; omega
      obtain rfl : i = els.length := by omega
      rw [List.take_length] at HN ⊢
      go_wp2
      go_ret
      exact ⟨a2, c2, rfl, HN.out.own, HN.out.below⟩
end Go.Proofs.YtblfffbmklkhmaaGreat

namespace Go.Proofs.YtblfffbmklkhmaaGreat
open Go.RowKit
/-- With the blocks that have been made since, and are there. -/
def Grew (F : Nat → Prop) (w w' : World) (k : Nat) : Prop := More F w k ∧ k < w'.heap.size
theorem own_keep {w w' : World} {e : TypeId} {v : Value} {n : Nat} {xs : List Value} (h : w.ownsRow 0 e 1 v n xs) (hk : ∀ k, v.ownBlock = some k → k < w.heap.size → w'.heap[k]? = w.heap[k]?) : w'.ownsRow 0 e 1 v n xs := by
  refine ⟨h.1, ?_⟩
  rcases h.2 with hn | ⟨g, cap, cur, hv, hb, hg, rest⟩
  · exact Or.inl hn
  · exact Or.inr ⟨g, cap, cur, hv, hb, (hk g (by rw [hv]; rfl) (Array.getElem?_eq_some_iff.1 hg).1).trans hg, rest⟩
section
variable {PS : World → Value → Tree → Nat → (Nat → Prop) → Prop} {w : World} {b : Nat} {Tx : Tree} {mx : Nat} {Ty : Tree} {my : Nat} {px : Value} {d : Nat} {vm vy vs : Value} {cnt : Int} {held : Bool} {lm ly : List Nat} {Fp Fx Fy : Nat → Prop}
end
end Go.Proofs.YtblfffbmklkhmaaGreat
