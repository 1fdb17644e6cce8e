/- Own work. -/
import Derived.Test.YtblfffbmklkhmaaGreatDocHK
import Derived.Test.YtblfffbmklkhmaaGreatAppMark
namespace Go.Proofs.YtblfffbmklkhmaaGreat
open Go.RowKit

theorem Tryz.info40 : (Tryz.prog.info? 40).map (fun i => (i.zero, i.size, i.bytes)) = some (some (.slice none 0 0), 1, 24) := by kernel_rfl

/-- The statement's world. -/
def WB (w : World) (B : Nat) (vD vI vM : Value) (nx : Nat) : Prop := w.heap[B]? = some (.cells #[vD, vI, vM, .int .i64 nx] 67 (0, 0))
theorem WB.blk {w : World} {B : Nat} {vD vI vM : Value} {nx : Nat} (h : WB w B vD vI vM nx) : w.heap[B]? = some (.cells #[vD, vI, vM, .int .i64 nx] 67 (0, 0)) := h

/-- A list that reads u all over. -/
def Full (w : World) (v : Value) (n : Nat) (u : Value) : Prop := (v = .slice none 0 0 ∧ n = 0) ∨ ∃ g c, v = .slice (some ⟨g, 0, none⟩) n c ∧ ∀ i, i < n → w.cell? ⟨g, i, none⟩ = some u
theorem full_own {w : World} {base : Nat} {e : TypeId} {v : Value} {n : Nat} {u : Value} (h : w.ownsRow base e 1 v n (List.replicate n u)) : Full w v n u := by
  rcases h.2 with hn | ⟨g, cap, cur, rfl, _, _⟩
  · exact Or.inl hn
  · refine Or.inr ⟨g, cap, rfl, fun i hi => ?_⟩
    have := h.cells (g := g) rfl i u (by rw [List.getElem?_replicate, if_pos hi])
    rwa [Go.WideShapes.add_plain, Nat.zero_add] at this
theorem Full.stays {w w' : World} {v : Value} {n : Nat} {u : Value} (h : Full w v n u) (hs : Stays u w w') : Full w' v n u := by
  rcases h with hn | ⟨g, c, hv, hc⟩
  · exact Or.inl hn
  · exact Or.inr ⟨g, c, hv, fun i hi => hs _ (hc i hi)⟩
theorem Full.blk {w w' : World} {v : Value} {n : Nat} {u : Value} (h : Full w v n u) (hs : ∀ g, v.ownBlock = some g → g < w.heap.size → w'.heap[g]? = w.heap[g]?) : Full w' v n u := by
  rcases h with hn | ⟨g, c, hv, hc⟩
  · exact Or.inl hn
  · refine Or.inr ⟨g, c, hv, fun i hi => ?_⟩
    have h1 := hc i hi
    have hlt : g < w.heap.size := by
      unfold World.cell? at h1
      cases hb : w.heap[g]? with
      | none => simp only [hb] at h1; cases h1
      | some o => exact (Array.getElem?_eq_some_iff.1 hb).1
    have h2 := hs g (by rw [hv]; rfl) hlt
    unfold World.cell? at h1 ⊢
    rw [h2]
    exact h1

/-- What own writes to. -/
def fpO (B : Nat) (v vI vM : Value) (k : Nat) : Prop := k = B ∨ v.ownBlock = some k ∨ vI.ownBlock = some k ∨ vM.ownBlock = some k

/-- In the midst of own: the list, the two rows, the world. -/
structure OS (w wr : World) (B : Nat) (vD vI vM : Value) (nx : Nat) (v : Value) (n : Nat) (xs : List Value) (ni nm : Nat) (xsI xsM : List Value) : Prop where
  wb : WB wr B vD vI vM nx
  row : wr.ownsRow 0 3 1 v n xs
  rowI : wr.ownsRow 0 40 1 vI ni xsI
  rowM : wr.ownsRow 0 3 1 vM nm xsM
  fr : Fr w wr (fpO B v vI vM)
  ne : ∀ j, v.ownBlock = some j → vM.ownBlock ≠ some j

section
variable {w wr : World} {B : Nat} {vD vI vM : Value} {nx : Nat} {v : Value} {n : Nat} {xs : List Value} {ni nm : Nat} {xsI xsM : List Value}
theorem OS.alloc (h : OS w wr B vD vI vM nx v n xs ni nm xsI xsM) (o : Obj) : OS w (wr.alloc o) B vD vI vM nx v n xs ni nm xsI xsM :=
  ⟨(Below.heap_alloc wr o B (Array.getElem?_eq_some_iff.1 h.wb.blk).1).trans h.wb, h.row.alloc o, h.rowI.alloc o, h.rowM.alloc o, h.fr.alloc o, h.ne⟩
theorem OS.app (h : OS w wr B vD vI vM nx v n xs ni nm xsI xsM) {w2 : World} (hg : wr.grownBy w2 v.ownBlock) {xs' : List Value} (ho : w2.ownsRow 0 3 1 v n xs') : OS w w2 B vD vI vM nx v n xs' ni nm xsI xsM := by
  have hI : vI.ownBlock = none ∨ vI.ownBlock ≠ v.ownBlock := by
    cases hv : v.ownBlock with
    | none => cases vI.ownBlock <;> simp
    | some g =>
      refine Or.inr fun e => ?_
      rcases h.row.2 with ⟨rfl, _⟩ | ⟨g', _, cur, rfl, _, hg', _⟩
      · simp [Value.ownBlock] at hv
      · simp [Value.ownBlock] at hv
        subst hv
        exact own_ne_type h.rowI hg' (by decide) e
  have hM : vM.ownBlock = none ∨ vM.ownBlock ≠ v.ownBlock := by
    cases hv : v.ownBlock with
    | none => cases vM.ownBlock <;> simp
    | some g => exact Or.inr (h.ne g hv)
  exact ⟨(hg.block B (Array.getElem?_eq_some_iff.1 h.wb.blk).1 (fun e => own_ne_type h.row h.wb.blk (by decide) e.symm)).trans h.wb, ho, h.rowI.kept hg hI, h.rowM.kept hg hM, h.fr.gb hg (fun k hk => Or.inl (Or.inr (Or.inl hk))), h.ne⟩
end

theorem set_mark {xs : List Value} {i : Nat} (u : Value) (h : i < xs.length) : (List.replicate i u ++ xs.drop i).set i u = List.replicate (i + 1) u ++ xs.drop (i + 1) := by
  rw [List.set_append, if_neg (by simp), List.length_replicate, Nat.sub_self, List.drop_eq_getElem_cons h, List.set_cons_zero, List.replicate_succ', List.append_assoc]
  rfl

def OwnPost (w : World) (B : Nat) (vD vI vM : Value) (nx : Nat) (v : Value) (n : Nat) (ni nm : Nat) (xsI xsM : List Value) (e : Ending) (w' : World) : Prop :=
  e = .returned (.tuple #[]) ∧ ∃ vI' vM' v1 v2 v3, WB w' B vD vI' vM' (nx + 1) ∧ w'.ownsRow 0 40 1 vI' (ni + 4) (xsI ++ [v, v1, v2, v3]) ∧ w'.ownsRow 0 3 1 vM' (nm + 4) (xsM ++ List.replicate 4 (.int .i64 (-((nx : Int) + 1)))) ∧
    Full w' v n (.int .i64 (-((nx : Int) + 1))) ∧ Full w' v1 (n + 1) (.int .i64 (-((nx : Int) + 1))) ∧ Full w' v2 (n + 2) (.int .i64 (-((nx : Int) + 1))) ∧ Full w' v3 (n + 3) (.int .i64 (-((nx : Int) + 1))) ∧
    Fr w w' (fpO B v vI vM) ∧ (∀ x, x = v1 ∨ x = v2 ∨ x = v3 → ∀ j, x.ownBlock = some j → v.ownBlock = some j ∨ w.heap.size ≤ j) ∧ (∀ j, vI'.ownBlock = some j → vI.ownBlock = some j ∨ w.heap.size ≤ j) ∧ (∀ j, vM'.ownBlock = some j → vM.ownBlock = some j ∨ w.heap.size ≤ j) ∧
    (∀ x, x = v1 ∨ x = v2 ∨ x = v3 → ∀ j, x.ownBlock = some j → vI'.ownBlock ≠ some j ∧ vM'.ownBlock ≠ some j)

theorem Full.lt {w : World} {v : Value} {n : Nat} {u : Value} (h : Full w v n u) (hn : 0 < n) : ∀ j, v.ownBlock = some j → j < w.heap.size := by
  intro j hj
  rcases h with ⟨rfl, rfl⟩ | ⟨g, c, rfl, hc⟩
  · omega
  · have h1 := hc 0 hn
    obtain rfl : g = j := by simpa [Value.ownBlock] using hj
    unfold World.cell? at h1
    cases hb : w.heap[g]? with
    | none => simp only [hb] at h1; cases h1
    | some o => exact (Array.getElem?_eq_some_iff.1 hb).1

theorem alloc_cell (w : World) (cs : Array Value) (t : TypeId) (j : Nat) : (w.alloc (.cells cs t)).cell? ((⟨w.heap.size, 0, none⟩ : Addr).add j) = cs[j]? := by
  rw [Go.WideShapes.add_plain, Nat.zero_add]
  unfold World.cell?
  simp only [heap_alloc_new w]
  rfl
theorem stays_alloc (u : Value) (w : World) (o : Obj) : Stays u w (w.alloc o) := stays_blocks fun k hk => Below.heap_alloc w o k hk
theorem marks_more (i m : Nat) (u : Value) : List.replicate i u ++ List.replicate m u = List.replicate (i + m) u := List.replicate_append_replicate

set_option maxRecDepth 100000 in
set_option maxHeartbeats 4000000 in
theorem own_any (w : World) (B : Nat) (vD vI vM : Value) (nx : Nat) (a : Option Addr) (c : Nat) (n : Nat) (xs : List Value) (ni nm : Nat) (xsI xsM : List Value) (h : OS w w B vD vI vM nx (.slice a n c) n xs ni nm xsI xsM)
    (hn : n ≤ 24) (hnx : nx ≤ 1099511627776) (hni : ni ≤ 1099511627776) (hnm : nm ≤ 1099511627776) :
    Calls Tryz.prog 95 #[.pointer (some ⟨B, 0, none⟩), .slice a n c] w fun e w' => OwnPost w B vD vI vM nx (.slice a n c) n ni nm xsI xsM e w' := by
  obtain ⟨i0, hi, iz0, iz1, iz2⟩ := info_parts Tryz.info3
  obtain ⟨j0, hj, jz0, jz1, jz2⟩ := info_parts Tryz.info40
  have b3 : w.cell? ⟨B, 3, none⟩ = some (.int .i64 nx) := cell_of_blk h.wb.blk rfl
  have bz : ∀ k, w.frozen? ⟨B, k, none⟩ = false := fun _ => frozen_of_blk h.wb.blk
  have HS0 : Hid (OS w (w.setCell ⟨B, 3, none⟩ (.int .i64 ((nx : Int) + 1))) B vD vI vM (nx + 1) (.slice a n c) n xs ni nm xsI xsM) := by
    refine ⟨?_, own_set h.row (own_ne_type h.row h.wb.blk (by decide)) _, own_set h.rowI (own_ne_type h.rowI h.wb.blk (by decide)) _, own_set h.rowM (own_ne_type h.rowM h.wb.blk (by decide)) _, (Fr.refl w _).set (Or.inl (Or.inl rfl)) _, h.ne⟩
    show (World.setCell _ _ _).heap[B]? = _
    rw [heap_setCell_row h.wb.blk]; rfl
  have HA : Hid (∀ g, ((Value.slice a n c).ownBlock = some g ∨ w.heap.size ≤ g) → vI.ownBlock ≠ some g ∧ vM.ownBlock ≠ some g ∧ g ≠ B) := by
    intro g hg
    rcases hg with hg | hg
    · rcases h.row.2 with ⟨h1, _⟩ | ⟨g', _, cur, h1, _, hg', _⟩
      · rw [h1] at hg; simp [Value.ownBlock] at hg
      · rw [h1] at hg
        simp [Value.ownBlock] at hg
        subst hg
        refine ⟨own_ne_type h.rowI hg' (by decide), h.ne _ (by rw [h1]; rfl), fun e => ?_⟩
        subst e
        have h3 := h.wb.blk
        rw [hg'] at h3
        injection h3 with h3
        injection h3 with _ h4 _
        exact absurd h4 (by decide)
    · have h1 := (Array.getElem?_eq_some_iff.1 h.wb.blk).1
      exact ⟨fun e => by have := (h.rowI.lt g e).2; omega, fun e => by have := (h.rowM.lt g e).2; omega, by omega⟩
  have hxl : xs.length = n := by have := h.row.1; omega
  have HXL : Hid (xs.length = n) := hxl
  clear h hxl
  go_enter Tryz.func95, Tryz.ntmps95
  go_wp2_with fail
  generalize hmk : (-((nx : Int) + 1)) = mk
  have HMK : Hid (-((nx : Int) + 1) = mk) := hmk
  clear hmk
  obtain ⟨W1, hW1⟩ : ∃ W1, W1 = w.setCell ⟨B, 3, none⟩ (.int .i64 ((nx : Int) + 1)) := ⟨_, rfl⟩
  rw [← hW1] at HS0 ⊢
  clear hW1 b3 bz
  go_loopg [5] n (fun gk iv wr => ∃ i : Nat, iv = .int .i64 i ∧ i ≤ n ∧ n - i ≤ gk ∧ Hid (OS w wr B vD vI vM (nx + 1) (.slice a n c) n (List.replicate i (.int .i64 mk) ++ xs.drop i) ni nm xsI xsM))
  case atStart => exact ⟨0, rfl, Nat.zero_le _, by omega, HS0⟩
  case round =>
    obtain ⟨i, rfl, hil, hgk, HS⟩ := hrel
    by_cases hlt : i < n
    · have hd : decide ((i : Int) < (n : Int)) = true := by simp; omega
      obtain ⟨g, rfl⟩ : ∃ g, a = some ⟨g, 0, none⟩ := by
        rcases HS.out.row.2 with ⟨h, h0⟩ | ⟨g, _, _, h, _⟩
        · omega
        · injection h with h; exact ⟨g, h⟩
      have q : wr.cell? ⟨g, i, none⟩ = (List.replicate i (Value.int .i64 mk) ++ xs.drop i)[i]? := HS.out.row.cellAt i (by omega)
      rw [List.getElem?_append_right (by simp), List.length_replicate, Nat.sub_self, List.getElem?_drop, Nat.add_zero, List.getElem?_eq_getElem (by rw [HXL.out]; exact hlt)] at q
      have qz := HS.out.row.frozenAt i
      have hst := HS.out.row.stored i (.int .i64 mk)
      rw [set_mark _ (by rw [HXL.out]; exact hlt)] at hst
      have HS2 : Hid (OS w (wr.setCell ⟨g, i, none⟩ (.int .i64 mk)) B vD vI vM (nx + 1) (.slice (some ⟨g, 0, none⟩) n c) n (List.replicate (i + 1) (.int .i64 mk) ++ xs.drop (i + 1)) ni nm xsI xsM) := HS.out.app hst.2 hst.1
      clear hst HS
      generalize xs[i]'(by rw [HXL.out]; exact hlt) = old at q
      go_wp2
      go_roundg (n - (i + 1))
      case measure => omega
      case rel => exact ⟨i + 1, by go_num, by omega, Nat.le_refl _, HS2⟩
    · have hd : decide ((i : Int) < (n : Int)) = false := by simp; omega
      obtain rfl : i = n := by omega
      have hdr : List.replicate i (Value.int .i64 mk) ++ xs.drop i = List.replicate i (.int .i64 mk) := by rw [List.drop_of_length_le (by rw [HXL.out]; exact Nat.le_refl _), List.append_nil]
      rw [hdr] at HS
      clear hdr
      have hFr0 := HS.out.fr.size
      have HF0 : Hid (Full wr (.slice a i c) i (.int .i64 mk)) := full_own HS.out.row
      go_wp2_with (at_builtin; refine wpList_append_marks _ rfl (.tmp 31) (.tmp 33) 40 rfl 0 3 i0 (.int .i64 0) 8 Tryz.underlying40 hi iz0 iz1 iz2 rfl _ _ _ rfl (HS.out.alloc _).row ⟨wr.heap.size, 0, none⟩ 1 1 (.int .i64 mk) rfl ?c1 rfl ?c3 ?c4 ?c5 ?_)
      case c1 => intro j hj; rw [alloc_cell]; match j, hj with | 0, _ => rfl
      case c3 => unfold maxLen; omega
      case c4 => omega
      case c5 => exact Nat.zero_le _
      intro v1 w2 own1 hg1 HB1 ownv1 HSt1
      have own1' : w2.ownsRow 0 3 1 v1 (i + 1) (List.replicate (i + 1) (.int .i64 mk)) := by rw [← marks_more]; simpa using own1
      replace own1 := own1'
      clear own1'
      have HS2 : Hid (OS w w2 B vD vI vM (nx + 1) (.slice a i c) i (List.replicate i (.int .i64 mk)) ni nm xsI xsM) := (HS.out.alloc _).app hg1 ownv1
      have HF1 : Hid (Full w2 (.slice a i c) i (.int .i64 mk) ∧ Full w2 v1 (i + 1) (.int .i64 mk)) := ⟨full_own ownv1, full_own own1⟩
      have HN1 : Hid (∀ j, v1.ownBlock = some j → (Value.slice a i c).ownBlock = some j ∨ w.heap.size ≤ j) := fun j hj => (HB1.out j hj).imp id (fun h => by first | omega | (simp at h; omega))
      obtain ⟨a1, c1, hv1⟩ := own_shape own1
      subst hv1
      have hFr2 := HS2.out.fr.size
      clear own1 hg1 HB1 ownv1 HSt1 HS HF0 hFr0
      go_wp2_with (at_builtin; refine wpList_append_marks _ rfl (.tmp 35) (.tmp 38) 40 rfl 0 3 i0 (.int .i64 0) 8 Tryz.underlying40 hi iz0 iz1 iz2 rfl _ _ _ rfl (HS2.out.alloc _).row ⟨w2.heap.size, 0, none⟩ 2 2 (.int .i64 mk) rfl ?c1 rfl ?c3 ?c4 ?c5 ?_)
      case c1 => intro j hj; rw [alloc_cell]; match j, hj with | 0, _ => rfl | 1, _ => rfl
      case c3 => unfold maxLen; omega
      case c4 => omega
      case c5 => exact Nat.zero_le _
      intro v2 w3 own2 hg2 HB2 ownv2 HSt2
      have own2' : w3.ownsRow 0 3 1 v2 (i + 2) (List.replicate (i + 2) (.int .i64 mk)) := by rw [← marks_more]; simpa using own2
      replace own2 := own2'
      clear own2'
      have HS3 : Hid (OS w w3 B vD vI vM (nx + 1) (.slice a i c) i (List.replicate i (.int .i64 mk)) ni nm xsI xsM) := (HS2.out.alloc _).app hg2 ownv2
      have HF2 : Hid (Full w3 (.slice a i c) i (.int .i64 mk) ∧ Full w3 (.slice a1 (i + 1) c1) (i + 1) (.int .i64 mk) ∧ Full w3 v2 (i + 2) (.int .i64 mk)) := ⟨full_own ownv2, HF1.out.2.stays ((stays_alloc _ _ _).trans HSt2.out), full_own own2⟩
      have HN2 : Hid (∀ j, v2.ownBlock = some j → (Value.slice a i c).ownBlock = some j ∨ w.heap.size ≤ j) := fun j hj => (HB2.out j hj).imp id (fun h => by first | omega | (simp at h; omega))
      obtain ⟨a2, c2, hv2⟩ := own_shape own2
      subst hv2
      have hFr3 := HS3.out.fr.size
      clear own2 hg2 HB2 ownv2 HSt2 HS2 HF1 hFr2
      go_wp2_with (at_builtin; refine wpList_append_marks _ rfl (.tmp 40) (.tmp 44) 40 rfl 0 3 i0 (.int .i64 0) 8 Tryz.underlying40 hi iz0 iz1 iz2 rfl _ _ _ rfl (HS3.out.alloc _).row ⟨w3.heap.size, 0, none⟩ 3 3 (.int .i64 mk) rfl ?c1 rfl ?c3 ?c4 ?c5 ?_)
      case c1 => intro j hj; rw [alloc_cell]; match j, hj with | 0, _ => rfl | 1, _ => rfl | 2, _ => rfl
      case c3 => unfold maxLen; omega
      case c4 => omega
      case c5 => exact Nat.zero_le _
      intro v3 w4 own3 hg3 HB3 ownv3 HSt3
      have own3' : w4.ownsRow 0 3 1 v3 (i + 3) (List.replicate (i + 3) (.int .i64 mk)) := by rw [← marks_more]; simpa using own3
      replace own3 := own3'
      clear own3'
      have HS4 : Hid (OS w w4 B vD vI vM (nx + 1) (.slice a i c) i (List.replicate i (.int .i64 mk)) ni nm xsI xsM) := (HS3.out.alloc _).app hg3 ownv3
      have HF3 : Hid (Full w4 (.slice a i c) i (.int .i64 mk) ∧ Full w4 (.slice a1 (i + 1) c1) (i + 1) (.int .i64 mk) ∧ Full w4 (.slice a2 (i + 2) c2) (i + 2) (.int .i64 mk) ∧ Full w4 v3 (i + 3) (.int .i64 mk)) :=
        ⟨full_own ownv3, HF2.out.2.1.stays ((stays_alloc _ _ _).trans HSt3.out), HF2.out.2.2.stays ((stays_alloc _ _ _).trans HSt3.out), full_own own3⟩
      have HN3 : Hid (∀ j, v3.ownBlock = some j → (Value.slice a i c).ownBlock = some j ∨ w.heap.size ≤ j) := fun j hj => (HB3.out j hj).imp id (fun h => by first | omega | (simp at h; omega))
      obtain ⟨a3, c3, hv3⟩ := own_shape own3
      subst hv3
      have hFr4 := HS4.out.fr.size
      clear own3 hg3 HB3 ownv3 HSt3 HS3 HF2 hFr3
      obtain ⟨aI, cI, hvI⟩ := own_shape HS4.out.rowI
      subst hvI
      obtain ⟨aM, cM, hvM⟩ := own_shape HS4.out.rowM
      subst hvM
      have wb4 := HS4.out.wb.blk
      have b1 : w4.cell? ⟨B, 1, none⟩ = some (.slice aI ni cI) := cell_of_blk wb4 rfl
      have HBl : Hid (B < w4.heap.size) := (Array.getElem?_eq_some_iff.1 wb4).1
      clear wb4
      go_wp2_with (at_builtin; refine wpList_append_kept _ rfl (.tmp 50) (.tmp 55) 65 rfl 0 40 j0 (.slice none 0 0) 1 24 Tryz.underlying65 hj jz0 jz1 jz2 rfl (by decide) _ _ _ rfl (HS4.out.rowI.alloc _) ⟨w4.heap.size, 0, none⟩ 4 4 [.slice a i c, .slice a1 (i + 1) c1, .slice a2 (i + 2) c2, .slice a3 (i + 3) c3] rfl rfl ?c1 ?c2 ?c3 ?c4 ?c5 ?_)
      case c1 => exact new_cells w4 _ rfl _ _ _ rfl
      case c2 => intro u hu; simp only [List.mem_cons, List.not_mem_nil, or_false] at hu; rcases hu with rfl | rfl | rfl | rfl <;> rfl
      case c3 => unfold maxLen; omega
      case c4 => omega
      case c5 => exact Nat.zero_le _
      intro v5 w5 own5 hg5 HB5
      have HFB : Hid (∀ (wa wb : World), (∀ g, ((Value.slice a i c).ownBlock = some g ∨ w.heap.size ≤ g) → g < wa.heap.size → wb.heap[g]? = wa.heap[g]?) → (Full wa (.slice a i c) i (.int .i64 mk) ∧ Full wa (.slice a1 (i + 1) c1) (i + 1) (.int .i64 mk) ∧ Full wa (.slice a2 (i + 2) c2) (i + 2) (.int .i64 mk) ∧ Full wa (.slice a3 (i + 3) c3) (i + 3) (.int .i64 mk)) →
          (Full wb (.slice a i c) i (.int .i64 mk) ∧ Full wb (.slice a1 (i + 1) c1) (i + 1) (.int .i64 mk) ∧ Full wb (.slice a2 (i + 2) c2) (i + 2) (.int .i64 mk) ∧ Full wb (.slice a3 (i + 3) c3) (i + 3) (.int .i64 mk))) := fun wa wb hab hf =>
        ⟨hf.1.blk (fun g hg hl => hab g (Or.inl hg) hl), hf.2.1.blk (fun g hg hl => hab g (HN1.out g hg) hl), hf.2.2.1.blk (fun g hg hl => hab g (HN2.out g hg) hl), hf.2.2.2.blk (fun g hg hl => hab g (HN3.out g hg) hl)⟩
      have hsz4 : w4.heap.size < w5.heap.size := by have := hg5.size; simp at this; omega
      have key5 : ∀ k, k < w4.heap.size → (Value.slice aI ni cI).ownBlock ≠ some k → w5.heap[k]? = w4.heap[k]? := fun k hk hn => (hg5.block k (by simp; omega) (fun e => hn e.symm)).trans (Below.heap_alloc _ _ _ hk)
      have hf5 := HFB.out w4 w5 (fun g hA hl => key5 g hl (HA.out g hA).1) HF3.out
      have wb5 : w5.heap[B]? = some (.cells #[vD, .slice aI ni cI, .slice aM nm cM, .int .i64 ((nx + 1 : Nat) : Int)] 67 (0, 0)) := (key5 B HBl.out (own_ne_type HS4.out.rowI HS4.out.wb.blk (by decide))).trans HS4.out.wb.blk
      have rowM5 : w5.ownsRow 0 3 1 (.slice aM nm cM) nm xsM := by
        refine ⟨HS4.out.rowM.1, ?_⟩
        rcases HS4.out.rowM.2 with h | ⟨g, cap, cur, h1, h2, h3, h4⟩
        · exact Or.inl h
        · exact Or.inr ⟨g, cap, cur, h1, h2, (key5 g (Array.getElem?_eq_some_iff.1 h3).1 (own_ne_type HS4.out.rowI h3 (by decide))).trans h3, h4⟩
      have fr5 : Fr w w5 (fpO B (.slice a i c) (.slice aI ni cI) (.slice aM nm cM)) := (HS4.out.fr.alloc _).gb hg5 (fun k hk => Or.inl (Or.inr (Or.inr (Or.inl hk))))
      have HX5 : Hid (∀ x, x = Value.slice a1 (i + 1) c1 ∨ x = Value.slice a2 (i + 2) c2 ∨ x = Value.slice a3 (i + 3) c3 → ∀ j, x.ownBlock = some j → v5.ownBlock ≠ some j) := by
        intro x hx j hj h5
        have hlt : j < w4.heap.size ∧ ((Value.slice a i c).ownBlock = some j ∨ w.heap.size ≤ j) := by
          rcases hx with rfl | rfl | rfl
          · exact ⟨HF3.out.2.1.lt (by omega) j hj, HN1.out j hj⟩
          · exact ⟨HF3.out.2.2.1.lt (by omega) j hj, HN2.out j hj⟩
          · exact ⟨HF3.out.2.2.2.lt (by omega) j hj, HN3.out j hj⟩
        rcases HB5.out j h5 with h | h
        · exact (HA.out j hlt.2).1 h
        · have := hlt.1
          first | omega | (simp at h; omega)
      have HN5 : Hid (∀ j, v5.ownBlock = some j → (Value.slice aI ni cI).ownBlock = some j ∨ w.heap.size ≤ j) := fun j hj => (HB5.out j hj).imp id (fun h => by first | omega | (simp at h; omega))
      obtain ⟨a5, c5, hv5⟩ := own_shape own5
      subst hv5
      have e1 : w5.cell? ⟨B, 1, none⟩ = some (.slice aI ni cI) := cell_of_blk wb5 rfl
      have e2 : w5.cell? ⟨B, 2, none⟩ = some (.slice aM nm cM) := cell_of_blk wb5 rfl
      have ez : ∀ k, w5.frozen? ⟨B, k, none⟩ = false := fun _ => frozen_of_blk wb5
      have wb6 : (w5.setCell ⟨B, 1, none⟩ (.slice a5 (ni + 4) c5)).heap[B]? = some (.cells #[vD, .slice a5 (ni + 4) c5, .slice aM nm cM, .int .i64 ((nx + 1 : Nat) : Int)] 67 (0, 0)) := by rw [heap_setCell_row wb5]; rfl
      have rowM6 := own_set rowM5 (own_ne_type rowM5 wb5 (by decide)) (p := ⟨B, 1, none⟩) (.slice a5 (ni + 4) c5)
      have rowI6 := own_set own5 (own_ne_type own5 wb5 (by decide)) (p := ⟨B, 1, none⟩) (.slice a5 (ni + 4) c5)
      have fr6 := fr5.set (p := ⟨B, 1, none⟩) (Or.inl (Or.inl rfl)) (.slice a5 (ni + 4) c5)
      have hf6 := HFB.out w5 (w5.setCell ⟨B, 1, none⟩ (.slice a5 (ni + 4) c5)) (fun g hA _ => Below.heap_setCell _ _ _ _ (HA.out g hA).2.2) hf5
      have HT6 : Hid ((w5.setCell ⟨B, 1, none⟩ (.slice a5 (ni + 4) c5)).heap[B]? = some (.cells #[vD, .slice a5 (ni + 4) c5, .slice aM nm cM, .int .i64 ((nx + 1 : Nat) : Int)] 67 (0, 0)) ∧ (w5.setCell ⟨B, 1, none⟩ (.slice a5 (ni + 4) c5)).ownsRow 0 3 1 (.slice aM nm cM) nm xsM ∧ (w5.setCell ⟨B, 1, none⟩ (.slice a5 (ni + 4) c5)).ownsRow 0 40 1 (.slice a5 (ni + 4) c5) (ni + 4) (xsI ++ [.slice a i c, .slice a1 (i + 1) c1, .slice a2 (i + 2) c2, .slice a3 (i + 3) c3]) ∧ Fr w (w5.setCell ⟨B, 1, none⟩ (.slice a5 (ni + 4) c5)) (fpO B (.slice a i c) (.slice aI ni cI) (.slice aM nm cM)) ∧
        (Full (w5.setCell ⟨B, 1, none⟩ (.slice a5 (ni + 4) c5)) (.slice a i c) i (.int .i64 mk) ∧ Full (w5.setCell ⟨B, 1, none⟩ (.slice a5 (ni + 4) c5)) (.slice a1 (i + 1) c1) (i + 1) (.int .i64 mk) ∧ Full (w5.setCell ⟨B, 1, none⟩ (.slice a5 (ni + 4) c5)) (.slice a2 (i + 2) c2) (i + 2) (.int .i64 mk) ∧ Full (w5.setCell ⟨B, 1, none⟩ (.slice a5 (ni + 4) c5)) (.slice a3 (i + 3) c3) (i + 3) (.int .i64 mk))) := ⟨wb6, rowM6, rowI6, fr6, hf6⟩
      clear wb6 rowM6 rowI6 fr6 hf6 wb5 rowM5 fr5 hf5 key5 own5 hg5 HB5 HS4 HF3 b1
      go_upto_region 10 with fail
      obtain ⟨W6, hW6⟩ : ∃ W6, W6 = w5.setCell ⟨B, 1, none⟩ (.slice a5 (ni + 4) c5) := ⟨_, rfl⟩
      rw [← hW6] at HT6 ⊢
      clear hW6 e1 e2 ez
      have hFr6 := HT6.out.2.2.2.1.size
      have e2 : W6.cell? ⟨B, 2, none⟩ = some (.slice aM nm cM) := cell_of_blk HT6.out.1 rfl
      go_wp2_with (at_builtin; refine wpList_append_marks _ rfl (.tmp 63) (.tmp 68) 40 rfl 0 3 i0 (.int .i64 0) 8 Tryz.underlying40 hi iz0 iz1 iz2 rfl _ _ _ rfl (HT6.out.2.1.alloc _) ⟨W6.heap.size, 0, none⟩ 4 4 (.int .i64 mk) rfl ?c1 rfl ?c3 ?c4 ?c5 ?_)
      case c1 => intro j hj; rw [alloc_cell]; match j, hj with | 0, _ => rfl | 1, _ => rfl | 2, _ => rfl | 3, _ => rfl
      case c3 => unfold maxLen; omega
      case c4 => omega
      case c5 => exact Nat.zero_le _
      intro v7 w7 own7 hg7 HB7 _ _
      have own7' : w7.ownsRow 0 3 1 v7 (nm + 4) (xsM ++ List.replicate 4 (.int .i64 mk)) := by simpa using own7
      have key7 : ∀ k, k < W6.heap.size → (Value.slice aM nm cM).ownBlock ≠ some k → w7.heap[k]? = W6.heap[k]? := fun k hk hn => (hg7.block k (by simp; omega) (fun e => hn e.symm)).trans (Below.heap_alloc _ _ _ hk)
      have hB6 : B < W6.heap.size := (Array.getElem?_eq_some_iff.1 HT6.out.1).1
      have wb7 := (key7 B hB6 (own_ne_type HT6.out.2.1 HT6.out.1 (by decide))).trans HT6.out.1
      have hf7 := HFB.out W6 w7 (fun g hA hl => key7 g hl (HA.out g hA).2.1) HT6.out.2.2.2.2
      have rowI7 : w7.ownsRow 0 40 1 (.slice a5 (ni + 4) c5) (ni + 4) (xsI ++ [.slice a i c, .slice a1 (i + 1) c1, .slice a2 (i + 2) c2, .slice a3 (i + 3) c3]) := by
        refine ⟨HT6.out.2.2.1.1, ?_⟩
        rcases HT6.out.2.2.1.2 with h | ⟨g, cap, cur, h1, h2, h3, h4⟩
        · exact Or.inl h
        · exact Or.inr ⟨g, cap, cur, h1, h2, (key7 g (Array.getElem?_eq_some_iff.1 h3).1 (own_ne_type HT6.out.2.1 h3 (by decide))).trans h3, h4⟩
      have fr7 : Fr w w7 (fpO B (.slice a i c) (.slice aI ni cI) (.slice aM nm cM)) := (HT6.out.2.2.2.1.alloc _).gb hg7 (fun k hk => Or.inl (Or.inr (Or.inr (Or.inr hk))))
      have HX7 : Hid (∀ x, x = Value.slice a1 (i + 1) c1 ∨ x = Value.slice a2 (i + 2) c2 ∨ x = Value.slice a3 (i + 3) c3 → ∀ j, x.ownBlock = some j → v7.ownBlock ≠ some j) := by
        intro x hx j hj h5
        have hlt : j < W6.heap.size ∧ ((Value.slice a i c).ownBlock = some j ∨ w.heap.size ≤ j) := by
          rcases hx with rfl | rfl | rfl
          · exact ⟨HT6.out.2.2.2.2.2.1.lt (by omega) j hj, HN1.out j hj⟩
          · exact ⟨HT6.out.2.2.2.2.2.2.1.lt (by omega) j hj, HN2.out j hj⟩
          · exact ⟨HT6.out.2.2.2.2.2.2.2.lt (by omega) j hj, HN3.out j hj⟩
        rcases HB7.out j h5 with h | h
        · exact (HA.out j hlt.2).2.1 h
        · have := hlt.1
          first | omega | (simp at h; omega)
      have HN7 : Hid (∀ j, v7.ownBlock = some j → (Value.slice aM nm cM).ownBlock = some j ∨ w.heap.size ≤ j) := fun j hj => (HB7.out j hj).imp id (fun h => by first | omega | (simp at h; omega))
      obtain ⟨a7, c7, hv7⟩ := own_shape own7'
      subst hv7
      have e2' : w7.cell? ⟨B, 2, none⟩ = some (.slice aM nm cM) := cell_of_blk wb7 rfl
      have ez : ∀ k, w7.frozen? ⟨B, k, none⟩ = false := fun _ => frozen_of_blk wb7
      have wb8 : (w7.setCell ⟨B, 2, none⟩ (.slice a7 (nm + 4) c7)).heap[B]? = some (.cells #[vD, .slice a5 (ni + 4) c5, .slice a7 (nm + 4) c7, .int .i64 ((nx + 1 : Nat) : Int)] 67 (0, 0)) := by rw [heap_setCell_row wb7]; rfl
      have rowM8 := own_set own7' (own_ne_type own7' wb7 (by decide)) (p := ⟨B, 2, none⟩) (.slice a7 (nm + 4) c7)
      have rowI8 := own_set rowI7 (own_ne_type rowI7 wb7 (by decide)) (p := ⟨B, 2, none⟩) (.slice a7 (nm + 4) c7)
      have fr8 := fr7.set (p := ⟨B, 2, none⟩) (Or.inl (Or.inl rfl)) (.slice a7 (nm + 4) c7)
      have hf8 := HFB.out w7 (w7.setCell ⟨B, 2, none⟩ (.slice a7 (nm + 4) c7)) (fun g hA _ => Below.heap_setCell _ _ _ _ (HA.out g hA).2.2) hf7
      have HFin : Hid (OwnPost w B vD (.slice aI ni cI) (.slice aM nm cM) nx (.slice a i c) i ni nm xsI xsM (.returned (.tuple #[])) (w7.setCell ⟨B, 2, none⟩ (.slice a7 (nm + 4) c7))) := by
        unfold Hid OwnPost
        rw [HMK.out]
        refine ⟨rfl, .slice a5 (ni + 4) c5, .slice a7 (nm + 4) c7, .slice a1 (i + 1) c1, .slice a2 (i + 2) c2, .slice a3 (i + 3) c3, wb8, rowI8, rowM8, hf8.1, hf8.2.1, hf8.2.2.1, hf8.2.2.2, fr8, ?_, HN5.out, HN7.out, fun x hx j hj => ⟨HX5.out x hx j hj, HX7.out x hx j hj⟩⟩
        rintro x (rfl | rfl | rfl)
        · exact HN1.out
        · exact HN2.out
        · exact HN3.out
      clear wb8 rowM8 rowI8 fr8 hf8 wb7 hf7 rowI7 fr7 key7 own7 own7' hg7 HB7 HT6 e2 hB6
      go_wp2
      go_end0
      exact HFin.out

end Go.Proofs.YtblfffbmklkhmaaGreat

namespace Go.Proofs.YtblfffbmklkhmaaGreat
open Go.RowKit

/-- A list that came out: its value, its length, its mark. -/
structure Ent where
  v : Value
  n : Nat
  m : Int

def LK (w : World) (B : Nat) (vD vI vM : Value) (nx : Nat) (es : List Ent) : Prop :=
  WB w B vD vI vM nx ∧ w.ownsRow 0 40 1 vI es.length (es.map Ent.v) ∧ w.ownsRow 0 3 1 vM es.length (es.map fun e => .int .i64 e.m) ∧ ∀ e ∈ es, Full w e.v e.n (.int .i64 e.m) ∧ e.n ≤ 1099511627776

theorem Full.shape {w : World} {v : Value} {n : Nat} {u : Value} (h : Full w v n u) : ∃ a c, v = .slice a n c := by
  rcases h with ⟨rfl, rfl⟩ | ⟨g, c, rfl, _⟩
  · exact ⟨_, _, rfl⟩
  · exact ⟨_, _, rfl⟩
theorem Full.at' {w : World} {a : Option Addr} {c : Nat} {n : Nat} {u : Value} (h : Full w (.slice a n c) n u) {i : Nat} (hi : i < n) : ∃ g, a = some ⟨g, 0, none⟩ ∧ w.cell? ⟨g, i, none⟩ = some u ∧ g < w.heap.size := by
  rcases h with ⟨_, rfl⟩ | ⟨g, c', hv, hc⟩
  · omega
  · injection hv with hv _ _
    refine ⟨g, hv, hc i hi, ?_⟩
    have h1 := hc i hi
    unfold World.cell? at h1
    cases hb : w.heap[g]? with
    | none => simp only [hb] at h1; cases h1
    | some o => exact (Array.getElem?_eq_some_iff.1 hb).1

set_option maxRecDepth 100000 in
set_option maxHeartbeats 4000000 in
theorem looks_full (w : World) (B : Nat) (vD vI vM : Value) (nx : Nat) (es : List Ent) (h : LK w B vD vI vM nx es) (hel : es.length ≤ 1099511627776) :
    Calls Tryz.prog 35 #[.pointer (some ⟨B, 0, none⟩)] w fun e w' => e = .returned (.bool true) ∧ Drew w w' := by
  obtain ⟨wb, rI, rM, hf⟩ := h
  obtain ⟨aI, cI, hvI⟩ := own_shape rI
  subst hvI
  obtain ⟨aM, cM, hvM⟩ := own_shape rM
  subst hvM
  have c1 : w.cell? ⟨B, 1, none⟩ = some (.slice aI es.length cI) := cell_of_blk wb.blk rfl
  have c2 : w.cell? ⟨B, 2, none⟩ = some (.slice aM es.length cM) := cell_of_blk wb.blk rfl
  have hBl : B < w.heap.size := (Array.getElem?_eq_some_iff.1 wb.blk).1
  have HI : Hid (w.ownsRow 0 40 1 (.slice aI es.length cI) es.length (es.map Ent.v)) := rI
  have HM : Hid (w.ownsRow 0 3 1 (.slice aM es.length cM) es.length (es.map fun e => .int .i64 e.m)) := rM
  have HF : Hid (∀ e ∈ es, Full w e.v e.n (.int .i64 e.m) ∧ e.n ≤ 1099511627776) := hf
  clear rI rM hf wb
  go_enter Tryz.func35, Tryz.ntmps35
  go_wp2
  go_loopg [3] es.length (fun gk iv wr => ∃ i : Nat, iv = .int .i64 i ∧ i ≤ es.length ∧ es.length - i ≤ gk ∧ Hid (Drew w wr))
  case atStart => exact ⟨0, rfl, Nat.zero_le _, by omega, 0, rfl⟩
  case round =>
    obtain ⟨i, rfl, hil, hgk, hD⟩ := hrel
    have hbe := hD.out.below
    have d1 := (hbe.cell (p := ⟨B, 1, none⟩) hBl).trans c1
    have d2 := (hbe.cell (p := ⟨B, 2, none⟩) hBl).trans c2
    by_cases hlt : i < es.length
    · have hd : decide ((i : Int) < (es.length : Int)) = true := by simp; omega
      obtain ⟨g, hg, hgl, hc⟩ := own_cells HI.out (by omega)
      subst hg
      have q0 := hc i (es[i].v) (by simp [hlt])
      clear hc
      obtain ⟨g', hg', hgl', hc'⟩ := own_cells HM.out (by omega)
      subst hg'
      have r0 := hc' i (.int .i64 es[i].m) (by simp [hlt])
      clear hc'
      obtain ⟨hf1, hn1⟩ := HF.out es[i] (List.getElem_mem hlt)
      generalize es[i] = y at q0 r0 hf1 hn1
      obtain ⟨ay, cy, hy⟩ := hf1.shape
      rw [hy] at q0 hf1
      have q1 := (hbe.cell (p := ⟨g, i, none⟩) hgl).trans q0
      have HFY : Hid (Full w (.slice ay y.n cy) y.n (.int .i64 y.m)) := hf1
      clear hf1 hy
      go_wp2_with fail
      go_loopg [4] y.n (fun gk2 jv wq => ∃ j : Nat, jv = .int .i64 j ∧ j ≤ y.n ∧ y.n - j ≤ gk2 ∧ Hid (Drew w wq))
      case atStart => exact ⟨0, rfl, Nat.zero_le _, by omega, hD⟩
      case round =>
        obtain ⟨j, rfl, hjl, hgk2, hD2⟩ := hrel
        have hbq := hD2.out.below
        have f1 := (hbq.cell (p := ⟨B, 1, none⟩) hBl).trans c1
        have f2 := (hbq.cell (p := ⟨B, 2, none⟩) hBl).trans c2
        have f3 := (hbq.cell (p := ⟨g, i, none⟩) hgl).trans q0
        have f4 := (hbq.cell (p := ⟨g', i, none⟩) hgl').trans r0
        clear d1 d2 q1
        by_cases hjt : j < y.n
        · have hd2 : decide ((j : Int) < (y.n : Int)) = true := by simp; omega
          obtain ⟨gy, hgy, hcy, hgyl⟩ := HFY.out.at' hjt
          subst hgy
          have f5 := (hbq.cell (p := ⟨gy, j, none⟩) hgyl).trans hcy
          go_upto_region 7 with fail
          go_quiet (fail)
          go_wp2
          go_roundg (y.n - (j + 1))
          case measure => omega
          case rel => exact ⟨j + 1, by go_num, by omega, Nat.le_refl _, drew_more hD2.out nq⟩
        · have hd2 : decide ((j : Int) < (y.n : Int)) = false := by simp; omega
          go_wp2
          go_roundg (es.length - (i + 1))
          case measure => omega
          case rel => exact ⟨i + 1, by go_num, by omega, Nat.le_refl _, hD2⟩
    · have hd : decide ((i : Int) < (es.length : Int)) = false := by simp; omega
      go_wp2
      go_ret
      exact ⟨rfl, hD.out⟩

end Go.Proofs.YtblfffbmklkhmaaGreat
