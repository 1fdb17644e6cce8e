/- Own work. -/
import Derived.Test.YtblfffbmklkhmaaGreatAw25
import Derived.Test.YtblfffbmklkhmaaGreatAw49
import Derived.Test.YtblfffbmklkhmaaGreatAw43
import Derived.Test.YtblfffbmklkhmaaGreatAw26
import Derived.Test.YtblfffbmklkhmaaGreatAw50
import Derived.Deep.DeepCutAuto
namespace Go.Proofs.YtblfffbmklkhmaaGreat
open Go.RowKit
/-- A grove's block with its document, whatever its own list says. -/
structure GX (DS : World → Value → Tree → Nat → (Nat → Mk) → List PRu → (Nat → Prop) → Prop) (w : World) (g : Nat) (px vl : Value) (mb b : Nat) (T : Tree) (made : Nat) (M : Nat → Mk) (rs : List PRu) (Fg Fx : Nat → Prop) : Prop where
  blk : w.heap[g]? = some (.cells #[px, vl, .int .i64 mb, .int .i64 b] 36 (0, 0))
  ds : DS w px T made M rs Fx
  inb : Fg g
  gx : ∀ k, Fg k → ¬ Fx k
  here : ∀ k, Fg k ∨ Fx k → k < w.heap.size
def valT (T : Tree) (M : Nat → Mk) (rs : List PRu) (n : Nat) (p : Nat) : Int := (styleV (viewT T M) rs n).getD p 0
theorem qryErr_T {T : Tree} {made : Nat} (hw : TW T made) {k : Nat} {l : List Nat} (hk : (k, l) ∈ T) {p : Nat} (hp : p < 9) : qryErr T k (prB p) = 0 := by
  unfold qryErr
  rw [tFind_mem hw.nums hk, prB_prop p hp]
theorem qryVal_T {T : Tree} {made : Nat} (hw : TW T made) {M : Nat → Mk} {rs : List PRu} {k : Nat} {l : List Nat} (hk : (k, l) ∈ T) {p : Nat} (hp : p < 9) : qryVal T M rs k (prB p) = valT T M rs k p := by
  unfold qryVal
  rw [if_pos (qryErr_T hw hk hp), prB_prop p hp]
  rfl
def KAllXPost (DS : World → Value → Tree → Nat → (Nat → Mk) → List PRu → (Nat → Prop) → Prop) (w : World) (g : Nat) (px vl : Value) (mb b : Nat) (T : Tree) (made : Nat) (M : Nat → Mk) (rs : List PRu) (Fg Fx : Nat → Prop) (V : Nat → Int) (e : Ending) (w' : World) : Prop :=
  e = .returned (.tuple #[.agg (nineV V), .bool true]) ∧ ∃ Fx', GX DS w' g px vl mb b T made M rs Fg Fx' ∧ (∀ k, Fx' k → Fx k ∨ w.heap.size ≤ k) ∧ Fr w w' Fx
section
set_option maxRecDepth 100000
set_option maxHeartbeats 1500000
variable {DS : World → Value → Tree → Nat → (Nat → Mk) → List PRu → (Nat → Prop) → Prop}
theorem kallX_any (hP : DocOK DS) (w : World) (g : Nat) (px vl : Value) (mb b : Nat) (T : Tree) (made : Nat) (M : Nat → Mk) (rs : List PRu) (Fg Fx : Nat → Prop) (h : GX DS w g px vl mb b T made M rs Fg Fx) (kn : Nat) (ln : List Nat) (hn : (kn, ln) ∈ T) :
    Calls Tryz.prog 22 #[.pointer (some ⟨g, 0, none⟩), .int .i64 kn] w fun e w' => KAllXPost DS w g px vl mb b T made M rs Fg Fx (valT T M rs kn) e w' := by
  obtain ⟨pa, rfl⟩ := hP.ptr h.ds
  have HP : Hid (DocOK DS) := hP
  have HD : Hid (GX DS w g (.pointer (some pa)) vl mb b T made M rs Fg Fx) := h
  have HQ : Hid (∀ p, p < 9 → qryErr T kn (prB p) = 0 ∧ qryVal T M rs kn (prB p) = valT T M rs kn p) := fun p hp => ⟨qryErr_T (hP.tw h.ds) hn hp, qryVal_T (hP.tw h.ds) hn hp⟩
  generalize valT T M rs kn = V at HQ
  have hgl := (Array.getElem?_eq_some_iff.1 h.blk).1
  clear h hn hP
  go_enter Tryz.func22, Tryz.ntmps22
  go_wp2_with fail
  go_loopg [7] 9 (fun gk iv wr => ∃ i : Nat, iv = .int .i64 i ∧ i ≤ 9 ∧ 9 - i ≤ gk ∧ Hid (wr.heap[w.heap.size]? = some (.cells (cellsV V 0) 38) ∧ wr.heap[w.heap.size + 1]? = some (.cells (cellsV V i) 38) ∧ Fr w wr Fx ∧ ∃ Fx', DS wr (.pointer (some pa)) T made M rs Fx' ∧ ∀ k, Fx' k → k < wr.heap.size ∧ (Fx k ∨ w.heap.size + 2 ≤ k)))
  case atStart =>
    refine ⟨0, rfl, by omega, by omega, (Below.heap_alloc (w.alloc _) _ w.heap.size (by simp)).trans (heap_alloc_new w _), ?_, ((Fr.refl w Fx).alloc _).alloc _, fun k => Fx k ∧ k < w.heap.size, ?_, fun k hk => ⟨?_, Or.inl hk.1⟩⟩
    · have := heap_alloc_new (w.alloc (.cells (cellsV V 0) 38)) (.cells (cellsV V 0) 38)
      rw [show (w.alloc (.cells (cellsV V 0) 38)).heap.size = w.heap.size + 1 from by simp] at this
      exact this
    · exact HP.out.keep (HP.out.here HD.out.ds) (fun k hk hl => (Below.heap_alloc (w.alloc _) _ k (by simp; omega)).trans (Below.heap_alloc w _ k hl)) (by simp; omega)
    · have := hk.2
      simp
      omega
  case round =>
    obtain ⟨i, rfl, hi, hgk, HI⟩ := hrel
    obtain ⟨hb4, hb6, hfr, Fx', hds, hin⟩ := HI.out
    have HI2 : Hid (wr.heap[w.heap.size]? = some (.cells (cellsV V 0) 38) ∧ wr.heap[w.heap.size + 1]? = some (.cells (cellsV V i) 38) ∧ Fr w wr Fx ∧ DS wr (.pointer (some pa)) T made M rs Fx' ∧ ∀ k, Fx' k → k < wr.heap.size ∧ (Fx k ∨ w.heap.size + 2 ≤ k)) := ⟨hb4, hb6, hfr, hds, hin⟩
    have HGr : Hid (wr.heap[g]? = some (.cells #[.pointer (some pa), vl, .int .i64 mb, .int .i64 b] 36 (0, 0))) := (hfr.block g hgl (HD.out.gx g HD.out.inb)).trans HD.out.blk
    clear HI hfr hds hin
    by_cases hlt : i < 9
    · have hd : decide ((i : Int) < 9) = true := by simp; omega
      have HNF : Hid (∀ k, Fg k → ¬ Fx' k) := fun k hk hx => by
        have h1 := HD.out.here k (Or.inl hk)
        rcases (HI2.out.2.2.2.2 k hx).2 with h2 | h2
        · exact HD.out.gx k hk h2
        · omega
      have HC4 : Hid (∀ wx, Fr wr.drew wx Fx' → wx.cell? ⟨g, 0, none⟩ = some (.pointer (some pa))) := fun wx hf => by
        have e1 : wx.heap[g]? = wr.heap[g]? := hf.block g (Array.getElem?_eq_some_iff.1 HGr.out).1 (HNF.out g HD.out.inb)
        exact cell_of_blk (e1.trans HGr.out) rfl
      have H04 : Hid (Fr wr.drew wr.drew Fx') := Fr.refl _ _
      have HDS3 : Hid (DS wr.drew (.pointer (some pa)) T made M rs Fx') := HP.out.keep HI2.out.2.2.2.1 (fun k _ _ => rfl) (Nat.le_refl _)
      have hwr : IntKind.i64.wrap ((i : Int) + 1) = (i : Int) + 1 := by rw [IntKind.wrap_i64]; omega
      have hpa : (0 : Int) ≤ (i : Int) := by omega
      have hpb : (i : Int) ≤ (i : Int) + 1 := by omega
      have hpc : (i : Int) + 1 ≤ 9 := by omega
      have hpd : (i : Int) + 1 ≤ ((⟨#[65, 66, 67, 68, 69, 70, 88, 89, 90]⟩ : ByteArray).size : Int) := hpc
      have hpe : (0 : Int) ≤ (i : Int) + 1 := by omega
      have hii : (i : Int) < 9 := by omega
      clear hb4 hb6
      go_upto_region 5 with fail
      go_cut [8, 9] from 10 to 32 (fun v yv wx => v = .int .i64 (V i) ∧ yv = .int .i64 0 ∧ Hid (DS wx (.pointer (some pa)) T made M rs (More Fx' wr.drew) ∧ Fr wr.drew wx Fx'))
      case first =>
        go_region_held3 (fun w' => w'.cell? ⟨g, 0, none⟩ = some (.pointer (some pa))) (first | exact HC4.out _ H04.out | exact HC4.out _ HX.out.2)
          (first | (go_at_call 37; refine (HP.out.qry _ (.pointer (some pa)) T made M rs Fx' kn (prB i) HDS3.out).mono ?_; rw [(HQ.out i hlt).1, (HQ.out i hlt).2]; rintro e w5 ⟨rfl, hds, hf5⟩; have HX : Hid (DS w5 (.pointer (some pa)) T made M rs (More Fx' wr.drew) ∧ Fr wr.drew w5 Fx') := ⟨hds, hf5⟩; clear hds hf5))
        all_goals
          go_wp2_with fail
          go_meet
          exact ⟨rfl, rfl, HX⟩
      case rest =>
        obtain ⟨rfl, rfl, HX⟩ := hcut
        obtain ⟨W4, rfl⟩ : ∃ W4, W4 = wc := ⟨_, rfl⟩
        have hszr : w.heap.size + 2 ≤ wr.heap.size := by have := (Array.getElem?_eq_some_iff.1 HI2.out.2.1).1; omega
        have hno : ∀ k, w.heap.size ≤ k → k < w.heap.size + 2 → ¬ Fx' k := fun k h1 h2 hx => by
          rcases (HI2.out.2.2.2.2 k hx).2 with h3 | h3
          · have := HD.out.here k (Or.inr h3); omega
          · omega
        have HB4 : Hid (W4.heap[w.heap.size]? = some (.cells (cellsV V 0) 38)) := (HX.out.2.block w.heap.size (by show w.heap.size < wr.heap.size; omega) (hno _ (Nat.le_refl _) (by omega))).trans HI2.out.1
        have HB6 : Hid (W4.heap[w.heap.size + 1]? = some (.cells (cellsV V i) 38)) := (HX.out.2.block (w.heap.size + 1) (by show w.heap.size + 1 < wr.heap.size; omega) (hno _ (by omega) (by omega))).trans HI2.out.2.1
        have x6 : W4.cell? ⟨w.heap.size + 1, i, none⟩ = some (.int .i64 0) := cell_of_blk HB6.out (cellsV_at V i hlt)
        have x6f : W4.frozen? ⟨w.heap.size + 1, i, none⟩ = false := frozen_of_blk HB6.out
        have hl6 : w.heap.size + 1 < W4.heap.size := (Array.getElem?_eq_some_iff.1 HB6.out).1
        have HE : Hid ((W4.setCell ⟨w.heap.size + 1, i, none⟩ (.int .i64 (V i))).heap[w.heap.size]? = some (.cells (cellsV V 0) 38) ∧ (W4.setCell ⟨w.heap.size + 1, i, none⟩ (.int .i64 (V i))).heap[w.heap.size + 1]? = some (.cells (cellsV V (i + 1)) 38) ∧ Fr w (W4.setCell ⟨w.heap.size + 1, i, none⟩ (.int .i64 (V i))) Fx ∧ ∃ Fx', DS (W4.setCell ⟨w.heap.size + 1, i, none⟩ (.int .i64 (V i))) (.pointer (some pa)) T made M rs Fx' ∧ ∀ k, Fx' k → k < (W4.setCell ⟨w.heap.size + 1, i, none⟩ (.int .i64 (V i))).heap.size ∧ (Fx k ∨ w.heap.size + 2 ≤ k)) := by
          refine ⟨(Below.heap_setCell W4 ⟨w.heap.size + 1, i, none⟩ _ w.heap.size (fun e => by replace e : w.heap.size = w.heap.size + 1 := e; omega)).trans HB4.out, ?_, ?_, fun k => More Fx' wr.drew k ∧ k < W4.heap.size, ?_, fun k hk => ⟨by have := hk.2; simpa using this, ?_⟩⟩
          · rw [heap_setCell_row HB6.out]
            have := cellsV_set V i hlt
            simp only [Array.set!] at this
            rw [this]
          · refine Fr.set (p := ⟨w.heap.size + 1, i, none⟩) ?_ (Or.inr (by show w.heap.size ≤ w.heap.size + 1; omega)) _
            exact HI2.out.2.2.1.drew1.comp HX.out.2 (fun k hk => ((HI2.out.2.2.2.2 k hk).2).imp id (fun h => by omega))
          · refine HP.out.keep (HP.out.here HX.out.1) (fun k hk hl => Below.heap_setCell W4 ⟨w.heap.size + 1, i, none⟩ _ k (fun e => ?_)) (by simp)
            replace e : k = w.heap.size + 1 := e
            rcases hk.1 with h1 | h1
            · exact hno k (by omega) (by omega) h1
            · have h3 : wr.heap.size ≤ k := h1
              omega
          · rcases hk.1 with h1 | h1
            · exact (HI2.out.2.2.2.2 k h1).2
            · have h3 : wr.heap.size ≤ k := h1
              exact Or.inr (by omega)
        clear HX HI2 HB4 HB6 HC4 H04 HDS3 HGr
        go_wp2
        go_roundg (9 - (i + 1))
        case measure => omega
        case rel => exact ⟨i + 1, by go_num, by omega, Nat.le_refl _, HE⟩
    · have hd : decide ((i : Int) < 9) = false := by simp; omega
      obtain rfl : i = 9 := by omega
      have HB6 : Hid (wr.heap[w.heap.size + 1]? = some (.cells (nineV V) 38)) := hb6
      have HB4 : Hid (wr.heap[w.heap.size]? = some (.cells (cellsV V 0) 38)) := hb4
      have y0 : wr.cell? ⟨w.heap.size + 1, 0, none⟩ = some (.int .i64 (V 0)) := cell_of_blk hb6 rfl
      have x0 : wr.cell? ⟨w.heap.size, 0, none⟩ = some (.int .i64 0) := cell_of_blk hb4 rfl
      have x0f : wr.frozen? ⟨w.heap.size, 0, none⟩ = false := frozen_of_blk hb4
      have y1 : wr.cell? ⟨w.heap.size + 1, 1, none⟩ = some (.int .i64 (V 1)) := cell_of_blk hb6 rfl
      have x1 : wr.cell? ⟨w.heap.size, 1, none⟩ = some (.int .i64 0) := cell_of_blk hb4 rfl
      have x1f : wr.frozen? ⟨w.heap.size, 1, none⟩ = false := frozen_of_blk hb4
      have y2 : wr.cell? ⟨w.heap.size + 1, 2, none⟩ = some (.int .i64 (V 2)) := cell_of_blk hb6 rfl
      have x2 : wr.cell? ⟨w.heap.size, 2, none⟩ = some (.int .i64 0) := cell_of_blk hb4 rfl
      have x2f : wr.frozen? ⟨w.heap.size, 2, none⟩ = false := frozen_of_blk hb4
      have y3 : wr.cell? ⟨w.heap.size + 1, 3, none⟩ = some (.int .i64 (V 3)) := cell_of_blk hb6 rfl
      have x3 : wr.cell? ⟨w.heap.size, 3, none⟩ = some (.int .i64 0) := cell_of_blk hb4 rfl
      have x3f : wr.frozen? ⟨w.heap.size, 3, none⟩ = false := frozen_of_blk hb4
      have y4 : wr.cell? ⟨w.heap.size + 1, 4, none⟩ = some (.int .i64 (V 4)) := cell_of_blk hb6 rfl
      have x4 : wr.cell? ⟨w.heap.size, 4, none⟩ = some (.int .i64 0) := cell_of_blk hb4 rfl
      have x4f : wr.frozen? ⟨w.heap.size, 4, none⟩ = false := frozen_of_blk hb4
      have y5 : wr.cell? ⟨w.heap.size + 1, 5, none⟩ = some (.int .i64 (V 5)) := cell_of_blk hb6 rfl
      have x5 : wr.cell? ⟨w.heap.size, 5, none⟩ = some (.int .i64 0) := cell_of_blk hb4 rfl
      have x5f : wr.frozen? ⟨w.heap.size, 5, none⟩ = false := frozen_of_blk hb4
      have y6 : wr.cell? ⟨w.heap.size + 1, 6, none⟩ = some (.int .i64 (V 6)) := cell_of_blk hb6 rfl
      have x6 : wr.cell? ⟨w.heap.size, 6, none⟩ = some (.int .i64 0) := cell_of_blk hb4 rfl
      have x6f : wr.frozen? ⟨w.heap.size, 6, none⟩ = false := frozen_of_blk hb4
      have y7 : wr.cell? ⟨w.heap.size + 1, 7, none⟩ = some (.int .i64 (V 7)) := cell_of_blk hb6 rfl
      have x7 : wr.cell? ⟨w.heap.size, 7, none⟩ = some (.int .i64 0) := cell_of_blk hb4 rfl
      have x7f : wr.frozen? ⟨w.heap.size, 7, none⟩ = false := frozen_of_blk hb4
      have y8 : wr.cell? ⟨w.heap.size + 1, 8, none⟩ = some (.int .i64 (V 8)) := cell_of_blk hb6 rfl
      have x8 : wr.cell? ⟨w.heap.size, 8, none⟩ = some (.int .i64 0) := cell_of_blk hb4 rfl
      have x8f : wr.frozen? ⟨w.heap.size, 8, none⟩ = false := frozen_of_blk hb4
      have hl4 : w.heap.size < wr.heap.size := (Array.getElem?_eq_some_iff.1 hb4).1
      have hl6 : w.heap.size + 1 < wr.heap.size := (Array.getElem?_eq_some_iff.1 hb6).1
      clear hb4 hb6
      have HW : Hid ((((((((((wr.setCell ⟨w.heap.size, 0, none⟩ (.int .i64 (V 0))).setCell ⟨w.heap.size, 1, none⟩ (.int .i64 (V 1))).setCell ⟨w.heap.size, 2, none⟩ (.int .i64 (V 2))).setCell ⟨w.heap.size, 3, none⟩ (.int .i64 (V 3))).setCell ⟨w.heap.size, 4, none⟩ (.int .i64 (V 4))).setCell ⟨w.heap.size, 5, none⟩ (.int .i64 (V 5))).setCell ⟨w.heap.size, 6, none⟩ (.int .i64 (V 6))).setCell ⟨w.heap.size, 7, none⟩ (.int .i64 (V 7))).setCell ⟨w.heap.size, 8, none⟩ (.int .i64 (V 8))).heap[w.heap.size]? = some (.cells (nineV V) 38) ∧ Fr wr (((((((((wr.setCell ⟨w.heap.size, 0, none⟩ (.int .i64 (V 0))).setCell ⟨w.heap.size, 1, none⟩ (.int .i64 (V 1))).setCell ⟨w.heap.size, 2, none⟩ (.int .i64 (V 2))).setCell ⟨w.heap.size, 3, none⟩ (.int .i64 (V 3))).setCell ⟨w.heap.size, 4, none⟩ (.int .i64 (V 4))).setCell ⟨w.heap.size, 5, none⟩ (.int .i64 (V 5))).setCell ⟨w.heap.size, 6, none⟩ (.int .i64 (V 6))).setCell ⟨w.heap.size, 7, none⟩ (.int .i64 (V 7))).setCell ⟨w.heap.size, 8, none⟩ (.int .i64 (V 8))) (fun k => k = w.heap.size)) := nine_set V HB4.out
      go_wp2
      clear x0 x0f y0 x1 x1f y1 x2 x2f y2 x3 x3f y3 x4 x4f y4 x5 x5f y5 x6 x6f y6 x7 x7f y7 x8 x8f y8 hl4 hl6 HB4 HB6
      generalize (((((((((wr.setCell ⟨w.heap.size, 0, none⟩ (.int .i64 (V 0))).setCell ⟨w.heap.size, 1, none⟩ (.int .i64 (V 1))).setCell ⟨w.heap.size, 2, none⟩ (.int .i64 (V 2))).setCell ⟨w.heap.size, 3, none⟩ (.int .i64 (V 3))).setCell ⟨w.heap.size, 4, none⟩ (.int .i64 (V 4))).setCell ⟨w.heap.size, 5, none⟩ (.int .i64 (V 5))).setCell ⟨w.heap.size, 6, none⟩ (.int .i64 (V 6))).setCell ⟨w.heap.size, 7, none⟩ (.int .i64 (V 7))).setCell ⟨w.heap.size, 8, none⟩ (.int .i64 (V 8))) = WN at HW ⊢
      have z0 : WN.cell? ⟨w.heap.size, 0, none⟩ = some (.int .i64 (V 0)) := cell_of_blk HW.out.1 rfl
      have z1 : WN.cell? ⟨w.heap.size, 1, none⟩ = some (.int .i64 (V 1)) := cell_of_blk HW.out.1 rfl
      have z2 : WN.cell? ⟨w.heap.size, 2, none⟩ = some (.int .i64 (V 2)) := cell_of_blk HW.out.1 rfl
      have z3 : WN.cell? ⟨w.heap.size, 3, none⟩ = some (.int .i64 (V 3)) := cell_of_blk HW.out.1 rfl
      have z4 : WN.cell? ⟨w.heap.size, 4, none⟩ = some (.int .i64 (V 4)) := cell_of_blk HW.out.1 rfl
      have z5 : WN.cell? ⟨w.heap.size, 5, none⟩ = some (.int .i64 (V 5)) := cell_of_blk HW.out.1 rfl
      have z6 : WN.cell? ⟨w.heap.size, 6, none⟩ = some (.int .i64 (V 6)) := cell_of_blk HW.out.1 rfl
      have z7 : WN.cell? ⟨w.heap.size, 7, none⟩ = some (.int .i64 (V 7)) := cell_of_blk HW.out.1 rfl
      have z8 : WN.cell? ⟨w.heap.size, 8, none⟩ = some (.int .i64 (V 8)) := cell_of_blk HW.out.1 rfl
      have hlN : w.heap.size < WN.heap.size := (Array.getElem?_eq_some_iff.1 HW.out.1).1
      have HR : Hid (KAllXPost DS w g (.pointer (some pa)) vl mb b T made M rs Fg Fx V (.returned (.tuple #[.agg #[.int .i64 (V 0), .int .i64 (V 1), .int .i64 (V 2), .int .i64 (V 3), .int .i64 (V 4), .int .i64 (V 5), .int .i64 (V 6), .int .i64 (V 7), .int .i64 (V 8)], .bool true])) WN) := by
        have hzN := HW.out.2.size
        have hzw : w.heap.size ≤ wr.heap.size := HI2.out.2.2.1.size
        refine ⟨rfl, Fx', ⟨(HW.out.2.block g (Array.getElem?_eq_some_iff.1 HGr.out).1 (fun e => ?_)).trans HGr.out, HP.out.keep HI2.out.2.2.2.1 (fun k hk hl => HW.out.2.block k hl (fun e => ?_)) hzN, HD.out.inb, fun k hk hx => ?_, fun k hk => ?_⟩, fun k hk => (HI2.out.2.2.2.2 k hk).2.imp id (fun h => by omega), HI2.out.2.2.1.comp HW.out.2 (fun j hj => Or.inr (by rw [hj]; exact Nat.le_refl _))⟩
        · have := HD.out.here g (Or.inl HD.out.inb)
          omega
        · rcases (HI2.out.2.2.2.2 k hk).2 with h3 | h3
          · have := HD.out.here k (Or.inr h3); omega
          · omega
        · have h1 := HD.out.here k (Or.inl hk)
          rcases (HI2.out.2.2.2.2 k hx).2 with h2 | h2
          · exact HD.out.gx k hk h2
          · omega
        · rcases hk with hk | hk
          · have := HD.out.here k (Or.inl hk); omega
          · have := (HI2.out.2.2.2.2 k hk).1; omega
      have HN9 : Hid (WN.heap[w.heap.size]? = some (.cells #[.int .i64 (V 0), .int .i64 (V 1), .int .i64 (V 2), .int .i64 (V 3), .int .i64 (V 4), .int .i64 (V 5), .int .i64 (V 6), .int .i64 (V 7), .int .i64 (V 8)] 38)) := HW.out.1
      clear HW HI2 HGr
      exact bodyPost_ret (results_cell_tmp Tryz.resall _ rfl HN9.out Tryz.underlying38 rfl Tryz.size9) rfl HR.out
end
end Go.Proofs.YtblfffbmklkhmaaGreat

namespace Go.Proofs.YtblfffbmklkhmaaGreat
open Go.RowKit
/-- Two groves in memory of their own, made since a world. -/
structure Two (DS : World → Value → Tree → Nat → (Nat → Mk) → List PRu → (Nat → Prop) → Prop) (w0 w : World) (g : Nat) (px vl : Value) (made b : Nat) (ns : List GN) (rs : List PRu) (Fg Fx : Nat → Prop) (g2 : Nat) (px2 vl2 : Value) (made2 b2 : Nat) (ns2 : List GN) (rs2 : List PRu) (Fg2 Fx2 : Nat → Prop) : Prop where
  one : GD DS w g px vl made b ns rs Fg Fx
  two : GD DS w g2 px2 vl2 made2 b2 ns2 rs2 Fg2 Fx2
  ap : ∀ k, Fg k ∨ Fx k → ¬ (Fg2 k ∨ Fx2 k)
  na : ∀ k, Fg k ∨ Fx k → w0.heap.size ≤ k
  nb : ∀ k, Fg2 k ∨ Fx2 k → w0.heap.size ≤ k
  bl : Below w0.heap.size w0 w
section
variable {DS : World → Value → Tree → Nat → (Nat → Mk) → List PRu → (Nat → Prop) → Prop} {w0 w w' : World} {g : Nat} {px vl : Value} {made b : Nat} {ns : List GN} {rs : List PRu} {Fg Fx : Nat → Prop} {g2 : Nat} {px2 vl2 : Value} {made2 b2 : Nat} {ns2 : List GN} {rs2 : List PRu} {Fg2 Fx2 : Nat → Prop}
/-- A second grove is planted. -/
theorem two_plant (hP : DocOK DS) (h : GD DS w g px vl made b ns rs Fg Fx) (hna : ∀ k, Fg k ∨ Fx k → w0.heap.size ≤ k) (hbl : Below w0.heap.size w0 w) (h2 : GD DS w' g2 px2 vl2 made2 b2 ns2 rs2 Fg2 Fx2) (hin : ∀ k, Fg2 k ∨ Fx2 k → w.heap.size ≤ k) (hB : Below w.heap.size w w') : Two DS w0 w' g px vl made b ns rs Fg Fx g2 px2 vl2 made2 b2 ns2 rs2 Fg2 Fx2 :=
  ⟨h.below hP hB, h2, fun k hk hx => by have := h.here k hk; have := hin k hx; omega, hna, fun k hk => Nat.le_trans hbl.size (hin k hk), hbl.trans (hB.mono hbl.size)⟩
/-- The first one has turned. -/
theorem Two.turn (hP : DocOK DS) (h : Two DS w0 w g px vl made b ns rs Fg Fx g2 px2 vl2 made2 b2 ns2 rs2 Fg2 Fx2) {px' vl' : Value} {made' b' : Nat} {ns' : List GN} {rs' : List PRu} {Fg' Fx' G : Nat → Prop} (h1 : GD DS w' g px' vl' made' b' ns' rs' Fg' Fx') (hin : ∀ k, Fg' k ∨ Fx' k → (Fg k ∨ Fx k) ∨ w.heap.size ≤ k) (hG : ∀ k, G k → Fg k ∨ Fx k) (hf : Fr w w' G) : Two DS w0 w' g px' vl' made' b' ns' rs' Fg' Fx' g2 px2 vl2 made2 b2 ns2 rs2 Fg2 Fx2 :=
  ⟨h1, h.two.apart hP hf (fun k hk hx => h.ap k (hG k hx) hk), fun k hk hx => by
    rcases hin k hk with h2 | h2
    · exact h.ap k h2 hx
    · have := h.two.here k hx; omega, fun k hk => by
    rcases hin k hk with h2 | h2
    · exact h.na k h2
    · exact Nat.le_trans h.bl.size h2, h.nb, h.bl.trans ⟨hf.os, hf.tape, hf.output, hf.size, fun k hk => hf.block k (Nat.lt_of_lt_of_le hk h.bl.size) (fun hx => by have := h.na k (hG k hx); omega)⟩⟩
theorem kgrow4_sc (hP : DocOK4 DS) {w0 : World} (w : World) (g : Nat) (px vl : Value) (made b : Nat) (ns : List GN) (rs : List PRu) (Fg Fx : Nat → Prop) (h : GD DS w g px vl made b ns rs Fg Fx) (last : Int) (hl11 : last ≤ 11) (hb : b ≤ 25) (a0 : Option Addr) (len cap : Nat) (K X Y Z : Nat → Int) (hs : Sc w0 a0 len K X Y Z) (hB : Below w0.heap.size w0 w) (hna : ∀ k, Fg k ∨ Fx k → w0.heap.size ≤ k) (hm : made + len ≤ 4611686018427387904) :
    Calls Tryz.prog 20 #[.pointer (some ⟨g, 0, none⟩), .slice a0 len cap, .int .i64 last] w fun e w' => KStepPost DS w (fun k => Fg k ∨ Fx k) g px b (growS b last K X Y Z (ns.map GN.pl) made len).1 (growS b last K X Y Z (ns.map GN.pl) made len).2 rs e w' := by
  rcases hs with rfl | ⟨b0, off, rfl, hs⟩
  · exact kgrow_none w g px vl made b ns rs Fg Fx h last a0 cap
  · refine kgrow4_any hP w g px vl made b ns rs Fg Fx h last hl11 hb b0 off len cap K X Y Z (hs.keep (hB.block b0 hs.lt)) (fun hk => ?_) hm
    have h1 := hna b0 hk
    have h2 := hs.lt
    omega
end
end Go.Proofs.YtblfffbmklkhmaaGreat

namespace Go.Proofs.YtblfffbmklkhmaaGreat
open Go.RowKit
theorem Fr.toBel {w w' : World} {S : Nat → Prop} {base : Nat} (h : Fr w w' S) (hb : base ≤ w.heap.size) (hs : ∀ k, S k → base ≤ k) : Below base w w' :=
  ⟨h.os, h.tape, h.output, h.size, fun k hk => h.block k (by omega) (fun x => by have := hs k x; omega)⟩
def pairL (ps : List (Nat × Nat)) : List Value := ps.flatMap fun x => [.int .i64 x.1, .int .i64 x.2]
theorem pairL_snoc (ps : List (Nat × Nat)) (a b : Nat) : pairL (ps ++ [(a, b)]) = pairL ps ++ [.int .i64 a, .int .i64 b] := by unfold pairL; simp
theorem pairL_at {ps : List (Nat × Nat)} {i : Nat} (h : i < ps.length) : (pairL ps)[2 * i]? = some (.int .i64 ps[i].1) ∧ (pairL ps)[2 * i + 1]? = some (.int .i64 ps[i].2) := by
  induction ps generalizing i with
  | nil => simp at h
  | cons x l ih =>
    unfold pairL at ih ⊢
    rw [List.flatMap_cons]
    cases i with
    | zero => exact ⟨rfl, rfl⟩
    | succ i =>
      obtain ⟨h1, h2⟩ := ih (i := i) (by simpa using h)
      rw [List.getElem?_append_right (by simp; omega), List.getElem?_append_right (by simp; omega)]
      refine ⟨?_, ?_⟩
      · rw [show 2 * (i + 1) - [Value.int .i64 x.1, Value.int .i64 x.2].length = 2 * i from by simp; omega]
        exact h1
      · rw [show 2 * (i + 1) + 1 - [Value.int .i64 x.1, Value.int .i64 x.2].length = 2 * i + 1 from by simp; omega]
        exact h2
/-- The copying under way: the grove that is copied, the one that is made, the pairs. -/
structure Cs (DS : World → Value → Tree → Nat → (Nat → Mk) → List PRu → (Nat → Prop) → Prop) (w0 w : World) (g : Nat) (px vl : Value) (made b : Nat) (ns : List GN) (rs : List PRu) (Fg Fx : Nat → Prop) (g2 : Nat) (px2 vl2 : Value) (mb b2 : Nat) (T2 : Tree) (made2 : Nat) (M2 : Nat → Mk) (rs2 : List PRu) (Fg2 Fx2 : Nat → Prop) (vp : Value) (ps : List (Nat × Nat)) : Prop where
  one : GD DS w g px vl made b ns rs Fg Fx
  two : GX DS w g2 px2 vl2 mb b2 T2 made2 M2 rs2 Fg2 Fx2
  ap : ∀ k, Fg k ∨ Fx k → ¬ (Fg2 k ∨ Fx2 k)
  na : ∀ k, Fg k ∨ Fx k → w0.heap.size ≤ k
  nb : ∀ k, Fg2 k ∨ Fx2 k → w0.heap.size ≤ k
  row : w.ownsRow w0.heap.size 3 1 vp (2 * ps.length) (pairL ps)
  out : ∀ k, vp.ownBlock = some k → ¬ ((Fg k ∨ Fx k) ∨ Fg2 k ∨ Fx2 k)
  bl : Below w0.heap.size w0 w
section
variable {DS : World → Value → Tree → Nat → (Nat → Mk) → List PRu → (Nat → Prop) → Prop} {w0 w w' : World} {g : Nat} {px vl : Value} {made b : Nat} {ns : List GN} {rs : List PRu} {Fg Fx : Nat → Prop} {g2 : Nat} {px2 vl2 : Value} {mb b2 : Nat} {T2 : Tree} {made2 : Nat} {M2 : Nat → Mk} {rs2 : List PRu} {Fg2 Fx2 : Nat → Prop} {vp : Value} {ps : List (Nat × Nat)}
theorem GX.apart (hP : DocOK DS) (h : GX DS w g2 px2 vl2 mb b2 T2 made2 M2 rs2 Fg2 Fx2) {G : Nat → Prop} (hf : Fr w w' G) (hd : ∀ k, Fg2 k ∨ Fx2 k → ¬ G k) : GX DS w' g2 px2 vl2 mb b2 T2 made2 M2 rs2 Fg2 Fx2 :=
  ⟨(hf.block g2 (h.here g2 (Or.inl h.inb)) (hd g2 (Or.inl h.inb))).trans h.blk, hP.keep h.ds (fun k hk hl => hf.block k hl (hd k (Or.inr hk))) hf.size, h.inb, h.gx, fun k hk => Nat.lt_of_lt_of_le (h.here k hk) hf.size⟩
theorem Cs.below (hP : DocOK DS) (h : Cs DS w0 w g px vl made b ns rs Fg Fx g2 px2 vl2 mb b2 T2 made2 M2 rs2 Fg2 Fx2 vp ps) (hB : Below w.heap.size w w') : Cs DS w0 w' g px vl made b ns rs Fg Fx g2 px2 vl2 mb b2 T2 made2 M2 rs2 Fg2 Fx2 vp ps :=
  ⟨h.one.below hP hB, h.two.apart hP ((Fr.refl w (fun _ => False)).below hB) (fun _ _ hx => hx), h.ap, h.na, h.nb, own_below h.row hB, h.out, h.bl.trans (hB.mono h.bl.size)⟩
/-- The document that is made has turned. -/
theorem Cs.doc (hP : DocOK DS) (h : Cs DS w0 w g px vl made b ns rs Fg Fx g2 px2 vl2 mb b2 T2 made2 M2 rs2 Fg2 Fx2 vp ps) {T3 : Tree} {made3 : Nat} {M3 : Nat → Mk} (hs : DS w' px2 T3 made3 M3 rs2 (More Fx2 w)) (hf : Fr w w' Fx2) : Cs DS w0 w' g px vl made b ns rs Fg Fx g2 px2 vl2 mb b2 T3 made3 M3 rs2 Fg2 (Grew Fx2 w w') vp ps := by
  have hgr : ∀ k, Grew Fx2 w w' k → Fx2 k ∨ w.heap.size ≤ k := fun k hk => hk.1
  refine ⟨h.one.apart hP hf (fun k hk hx => h.ap k hk (Or.inr hx)), ⟨(hf.block g2 (h.two.here g2 (Or.inl h.two.inb)) (h.two.gx g2 h.two.inb)).trans h.two.blk, hP.here hs, h.two.inb, fun k hk hx => ?_, fun k hk => ?_⟩, fun k hk hx => ?_, h.na, fun k hk => ?_, own_keepB h.row (fun k hk hl => hf.block k hl (fun hx => h.out k hk (Or.inr (Or.inr hx)))), fun k hk hx => ?_, h.bl.trans (hf.toBel h.bl.size (fun k hk => h.nb k (Or.inr hk)))⟩
  · rcases hgr k hx with h1 | h1
    · exact h.two.gx k hk h1
    · have := h.two.here k (Or.inl hk); omega
  · rcases hk with hk | hk
    · exact Nat.lt_of_lt_of_le (h.two.here k (Or.inl hk)) hf.size
    · exact hk.2
  · rcases hx with hx | hx
    · exact h.ap k hk (Or.inl hx)
    · rcases hgr k hx with h1 | h1
      · exact h.ap k hk (Or.inr h1)
      · have := h.one.here k hk; omega
  · rcases hk with hk | hk
    · exact h.nb k (Or.inl hk)
    · rcases hgr k hk with h1 | h1
      · exact h.nb k (Or.inr h1)
      · exact Nat.le_trans h.bl.size h1
  · have hlt := (h.row.lt k hk).2
    rcases hx with hx | hx | hx
    · exact h.out k hk (Or.inl hx)
    · exact h.out k hk (Or.inr (Or.inl hx))
    · rcases hgr k hx with h1 | h1
      · exact h.out k hk (Or.inr (Or.inr h1))
      · omega
/-- One pair more. -/
theorem Cs.app (hP : DocOK DS) (h : Cs DS w0 w g px vl made b ns rs Fg Fx g2 px2 vl2 mb b2 T2 made2 M2 rs2 Fg2 Fx2 vp ps) {o : Obj} {v5 : Value} {x y : Nat} (own5 : w'.ownsRow w0.heap.size 3 1 v5 (2 * ps.length + 2) (pairL ps ++ [.int .i64 x, .int .i64 y])) (hg : (w.alloc o).grownBy w' vp.ownBlock) (hn : ∀ j, v5.ownBlock = some j → vp.ownBlock = some j ∨ w.heap.size ≤ j) : Cs DS w0 w' g px vl made b ns rs Fg Fx g2 px2 vl2 mb b2 T2 made2 M2 rs2 Fg2 Fx2 v5 (ps ++ [(x, y)]) := by
  have hf : Fr w w' (fun k => vp.ownBlock = some k) := ((Fr.refl w (fun k => vp.ownBlock = some k)).alloc o).gb hg (fun k hk => Or.inl hk)
  refine ⟨h.one.apart hP hf (fun k hk hx => h.out k hx (Or.inl hk)), h.two.apart hP hf (fun k hk hx => h.out k hx (Or.inr hk)), h.ap, h.na, h.nb, ?_, fun k hk hx => ?_, h.bl.trans (hf.toBel h.bl.size (fun k hk => (h.row.lt k hk).1))⟩
  · rw [pairL_snoc, List.length_append, show 2 * (ps.length + [(x, y)].length) = 2 * ps.length + 2 from by simp; omega]
    exact own5
  · rcases hn k hk with h1 | h1
    · exact h.out k h1 hx
    · rcases hx with hx | hx
      · have := h.one.here k hx; omega
      · have := h.two.here k hx; omega
/-- The count is written. -/
theorem Cs.count (hP : DocOK DS) (h : Cs DS w0 w g px vl made b ns rs Fg Fx g2 px2 vl2 mb b2 T2 made2 M2 rs2 Fg2 Fx2 vp ps) (m : Nat) : Cs DS w0 (w.setCell ⟨g2, 2, none⟩ (.int .i64 m)) g px vl made b ns rs Fg Fx g2 px2 vl2 m b2 T2 made2 M2 rs2 Fg2 Fx2 vp ps := by
  have hf : Fr w (w.setCell ⟨g2, 2, none⟩ (.int .i64 m)) (fun k => k = g2) := (Fr.refl w (fun k => k = g2)).set (p := ⟨g2, 2, none⟩) (Or.inl rfl) _
  refine ⟨h.one.apart hP hf (fun k hk hx => h.ap k hk (Or.inl (by rw [hx]; exact h.two.inb))), ⟨?_, hP.keep h.two.ds (fun k hk hl => hf.block k hl (fun e => h.two.gx g2 h.two.inb (by rw [← e]; exact hk))) hf.size, h.two.inb, h.two.gx, fun k hk => Nat.lt_of_lt_of_le (h.two.here k hk) hf.size⟩, h.ap, h.na, h.nb, own_keepB h.row (fun k hk hl => hf.block k hl (fun e => h.out k hk (Or.inr (Or.inl (by rw [e]; exact h.two.inb))))), h.out, h.bl.setCell (by show w0.heap.size ≤ g2; exact h.nb g2 (Or.inl h.two.inb)) _⟩
  rw [heap_setCell_row h.two.blk]
  rfl
end
/-- The first k classes. -/
def clTo (x : PNd) (k i : Nat) : Bool := (decide (i = 0) && decide (0 < k) && x.c0) || (decide (i = 1) && decide (1 < k) && x.c1) || (decide (i = 2) && decide (2 < k) && x.c2) || (decide (i = 3) && decide (3 < k) && x.c3)
def cBit (x : PNd) (k : Nat) : Bool := if k = 0 then x.c0 else if k = 1 then x.c1 else if k = 2 then x.c2 else x.c3
def MTo (x : PNd) (k : Nat) (M2 : Nat → Mk) (un : Nat) (M : Nat → Mk) : Prop := AgreeM (M un) ⟨bt x.kind 0, clTo x k, 0⟩ ∧ ∀ j, j ≠ un → M j = M2 j
theorem mto_start {x : PNd} {M2 : Nat → Mk} {un : Nat} (h : M2 un = newMk x.kind) : MTo x 0 M2 un M2 := by
  refine ⟨?_, fun _ _ => rfl⟩
  rw [h]
  exact ⟨rfl, fun i _ => by simp [newMk, clTo], rfl⟩
theorem clTo_succ (x : PNd) {k : Nat} (hk : k < 4) (i : Nat) : clTo x (k + 1) i = if i = k then cBit x k else clTo x k i := by
  have h4 : k = 0 ∨ k = 1 ∨ k = 2 ∨ k = 3 := by omega
  unfold clTo cBit
  rcases h4 with rfl | rfl | rfl | rfl
  · by_cases h : i = 0 <;> simp [h]
  · by_cases h : i = 1 <;> simp [h]
  · by_cases h : i = 2 <;> simp [h]
  · by_cases h : i = 3 <;> simp [h]
theorem clTo_self (x : PNd) {k : Nat} (hk : k < 4) : clTo x k k = false := by
  have h4 : k = 0 ∨ k = 1 ∨ k = 2 ∨ k = 3 := by omega
  unfold clTo
  rcases h4 with rfl | rfl | rfl | rfl <;> simp
theorem MTo.yes {x : PNd} {k : Nat} {M2 M : Nat → Mk} {un : Nat} (h : MTo x k M2 un M) (hk : k < 4) (hc : cBit x k = true) : MTo x (k + 1) M2 un (setM M un (clsMk (M un) (letB (k + 0)) true)) := by
  refine ⟨?_, fun j hj => by unfold setM; rw [if_neg hj]; exact h.2 j hj⟩
  have e1 : setM M un (clsMk (M un) (letB (k + 0)) true) un = clsMk (M un) (letB (k + 0)) true := by unfold setM; rw [if_pos rfl]
  rw [e1]
  refine ⟨h.1.1, fun i hi => ?_, h.1.2.2⟩
  show (if i + 97 = bt (letB (k + 0)) 0 then true else (M un).cl i) = clTo x (k + 1) i
  rw [clTo_succ x hk, bt_letB, hc]
  by_cases e : i = k
  · rw [if_pos (by omega), if_pos e]
  · rw [if_neg (by omega), if_neg e]
    exact h.1.2.1 i hi
theorem MTo.no {x : PNd} {k : Nat} {M2 M : Nat → Mk} {un : Nat} (h : MTo x k M2 un M) (hk : k < 4) (hc : cBit x k = false) : MTo x (k + 1) M2 un M := by
  refine ⟨⟨h.1.1, fun i hi => ?_, h.1.2.2⟩, h.2⟩
  show (M un).cl i = clTo x (k + 1) i
  rw [clTo_succ x hk, hc]
  by_cases e : i = k
  · rw [if_pos e, e, ← clTo_self x hk]
    exact h.1.2.1 k (by omega)
  · rw [if_neg e]
    exact h.1.2.1 i hi
theorem MTo.name {x : PNd} {M2 M : Nat → Mk} {un : Nat} (h : MTo x 4 M2 un M) : AgreeM (setM M un (namMk (M un) x.name) un) (mkS 0 x) ∧ ∀ j, j ≠ un → setM M un (namMk (M un) x.name) j = M2 j := by
  refine ⟨?_, fun j hj => by unfold setM; rw [if_neg hj]; exact h.2 j hj⟩
  have e1 : setM M un (namMk (M un) x.name) un = namMk (M un) x.name := by unfold setM; rw [if_pos rfl]
  rw [e1]
  refine ⟨h.1.1, fun i hi => ?_, rfl⟩
  show (M un).cl i = clS 0 x i
  have h1 : (M un).cl i = clTo x 4 i := h.1.2.1 i hi
  rw [h1]
  unfold clTo clS
  simp
end Go.Proofs.YtblfffbmklkhmaaGreat
