/- Own work. -/
import Derived.Test.YtblfffbmklkhmaaGreatPs14
namespace Go.Proofs.YtblfffbmklkhmaaGreat
open Go.RowKit
theorem comp_no1 {els : List PEl} {x : PCp} {n : Int} (h0 : ¬ x.ty = 0) (h : hasTypeP els n x.ty = false) : compP els x n = false := by
  unfold compP
  have : (x.ty == 0) = false := by simp [h0]
  rw [this, h]
  rfl
theorem comp_no2 {els : List PEl} {x : PCp} {n : Int} {i : Nat} (hi : i < x.ps.length) (h : simpP els x.ps[i] n = x.ps[i].nt) : compP els x n = false := by
  unfold compP
  have : (x.ps.all fun p => simpP els p n != p.nt) = false := by
    rw [List.all_eq_false]
    exact ⟨x.ps[i], List.getElem_mem hi, by simp [h]⟩
  rw [this, Bool.and_false]
theorem comp_yes {els : List PEl} {x : PCp} {n : Int} (h0 : x.ty = 0 ∨ hasTypeP els n x.ty = true) (h : ∀ j (_ : j < x.ps.length), ¬ simpP els x.ps[j] n = x.ps[j].nt) : compP els x n = true := by
  unfold compP
  have h1 : (x.ps.all fun p => simpP els p n != p.nt) = true := by
    rw [List.all_eq_true]
    intro p hp
    obtain ⟨j, hj, rfl⟩ := List.getElem_of_mem hp
    simpa using h j hj
  rw [h1, Bool.and_true]
  rcases h0 with h0 | h0
  · simp [h0]
  · rw [h0, Bool.or_true]
/-- The parts of a compound in memory. -/
def CpRow (w : World) (ap : Option Addr) (cp : Nat) (xs : List Value) (x : PCp) : Prop := w.ownsRow 0 192 5 (.slice ap x.ps.length cp) x.ps.length xs ∧ Kinds xs x.ps ∧ ∀ p ∈ x.ps, p.fine
section
set_option maxRecDepth 100000
set_option maxHeartbeats 4000000
variable (w : World) (b : Nat) (a : Option Addr) (c : Nat) (els : List PEl) (n : Int)
theorem pcomp_any (x : PCp) (ap : Option Addr) (cp : Nat) (xs : List Value) (h : TRd w b a c els) (ho : CpRow w ap cp xs x) (hl : x.ps.length ≤ 400) : Calls Tryz.prog 216 #[.agg #[.int .u8 x.sg, .int .u8 x.ty, .slice ap x.ps.length cp], .pointer (some ⟨b, 1, none⟩), .int .i64 n] w fun e w' => PBool w (compP els x n) e w' := by
  have HT : Hid (TRd w b a c els) := h
  have HO : Hid (CpRow w ap cp xs x) := ho
  clear h ho
  by_cases h0 : x.ty = 0
  · have g0 : ((x.ty : Int) != 0) = false := by simp [h0]
    have HTY : Hid (x.ty = 0 ∨ hasTypeP els n x.ty = true) := Or.inl h0
    have HB1 : Hid (Below w.heap.size w (w.alloc (.cells #[.int .u8 x.sg, .int .u8 x.ty, .slice ap x.ps.length cp] 190))) := (Below.refl _ _).alloc (Nat.le_refl _) _
    clear h0
    generalize (x.ty : Int) = tz at g0 HB1
    go_enter Tryz.func216, Tryz.ntmps216
    go_wp2_with fail
    go_loopg [23] x.ps.length (fun gk iv wr => ∃ i : Nat, iv = .int .i64 i ∧ i ≤ x.ps.length ∧ x.ps.length - i ≤ gk ∧ Hid (Below w.heap.size w wr ∧ ∀ j (_ : j < x.ps.length), j < i → ¬ simpP els x.ps[j] n = x.ps[j].nt))
    case atStart => exact ⟨0, rfl, Nat.zero_le _, by omega, HB1.out, fun j _ h => by omega⟩
    case round =>
      obtain ⟨i, rfl, hi, hgk, HN⟩ := hrel
      have hbz := HN.out.1.size
      by_cases hlt : i < x.ps.length
      · have hd : decide ((i : Int) < (x.ps.length : Int)) = true := by simp; omega
        obtain ⟨g, hg, hgl, hgc⟩ := own_cells HO.out.1 (by omega)
        subst hg
        obtain ⟨e0, e1, e2, e3, e4⟩ := kinds_at HO.out.2.1 hlt
        have c0 := (HN.out.1.cell (p := ⟨g, i * 5, none⟩) hgl).trans (hgc _ _ e0)
        have c1 := (HN.out.1.cell (p := ⟨g, i * 5 + 1, none⟩) hgl).trans (hgc _ _ e1)
        have c2 := (HN.out.1.cell (p := ⟨g, i * 5 + 2, none⟩) hgl).trans (hgc _ _ e2)
        have c3 := (HN.out.1.cell (p := ⟨g, i * 5 + 3, none⟩) hgl).trans (hgc _ _ e3)
        have c4 := (HN.out.1.cell (p := ⟨g, i * 5 + 4, none⟩) hgl).trans (hgc _ _ e4)
        have HF : Hid (PPt.fine ⟨x.ps[i].nt, x.ps[i].kd, x.ps[i].lt, x.ps[i].st, x.ps[i].sr⟩) := HO.out.2.2 x.ps[i] (List.getElem_mem hlt)
        have HY : Hid (simpP els ⟨x.ps[i].nt, x.ps[i].kd, x.ps[i].lt, x.ps[i].st, x.ps[i].sr⟩ n = x.ps[i].nt → compP els x n = false) := fun h => comp_no2 hlt h
        have HNX : Hid (¬ simpP els ⟨x.ps[i].nt, x.ps[i].kd, x.ps[i].lt, x.ps[i].st, x.ps[i].sr⟩ n = x.ps[i].nt → ∀ j (_ : j < x.ps.length), j < i + 1 → ¬ simpP els x.ps[j] n = x.ps[j].nt) := fun hm j hj h1 => by
          by_cases e : j = i
          · subst e; exact hm
          · exact HN.out.2 j hj (by omega)
        clear e0 e1 e2 e3 e4 hgc
        generalize x.ps[i].nt = nt at c0 HF HY HNX
        generalize x.ps[i].kd = kd at c1 HF HY HNX
        generalize x.ps[i].lt = lt at c2 HF HY HNX
        generalize x.ps[i].st = st at c3 HF HY HNX
        generalize x.ps[i].sr = sr at c4 HF HY HNX
        have HB6 : Hid (Below w.heap.size w (wr.alloc (.cells #[.bool nt, .int .i64 kd, .int .u8 lt, .int .i64 st, .int .i64 sr] 192)).drew) := (HN.out.1.alloc hbz _).drew
        have HT6 : Hid (TRd (wr.alloc (.cells #[.bool nt, .int .i64 kd, .int .u8 lt, .int .i64 st, .int .i64 sr] 192)).drew b a c els) := HT.out.below HB6.out
        have HC : Hid (∀ wx, Below (wr.heap.size + 1) (wr.alloc (.cells #[.bool nt, .int .i64 kd, .int .u8 lt, .int .i64 st, .int .i64 sr] 192)).drew wx → wx.cell? ⟨wr.heap.size, 0, none⟩ = some (.bool nt) ∧ wx.cell? ⟨wr.heap.size, 1, none⟩ = some (.int .i64 kd) ∧ wx.cell? ⟨wr.heap.size, 2, none⟩ = some (.int .u8 lt) ∧ wx.cell? ⟨wr.heap.size, 3, none⟩ = some (.int .i64 st) ∧ wx.cell? ⟨wr.heap.size, 4, none⟩ = some (.int .i64 sr)) := fun wx hb =>
          have hblk : (wr.alloc (.cells #[.bool nt, .int .i64 kd, .int .u8 lt, .int .i64 st, .int .i64 sr] 192)).drew.heap[wr.heap.size]? = some (.cells #[.bool nt, .int .i64 kd, .int .u8 lt, .int .i64 st, .int .i64 sr] 192) := heap_alloc_new wr _
          have hx : wx.heap[wr.heap.size]? = some (.cells #[.bool nt, .int .i64 kd, .int .u8 lt, .int .i64 st, .int .i64 sr] 192) := (hb.block _ (by omega)).trans hblk
          ⟨cell_of_blk hx rfl, cell_of_blk hx rfl, cell_of_blk hx rfl, cell_of_blk hx rfl, cell_of_blk hx rfl⟩
        have H0 : Hid (Below (wr.heap.size + 1) (wr.alloc (.cells #[.bool nt, .int .i64 kd, .int .u8 lt, .int .i64 st, .int .i64 sr] 192)).drew (wr.alloc (.cells #[.bool nt, .int .i64 kd, .int .u8 lt, .int .i64 st, .int .i64 sr] 192)).drew) := Below.refl _ _
        go_upto_region 6 with fail
        go_cut [33] (fun v wx => v = .bool (simpP els ⟨nt, kd, lt, st, sr⟩ n == nt) ∧ Hid (Below w.heap.size w wx))
        case first =>
          go_region_held3 (fun w' => w'.cell? ⟨wr.heap.size, 0, none⟩ = some (.bool nt) ∧ w'.cell? ⟨wr.heap.size, 1, none⟩ = some (.int .i64 kd) ∧ w'.cell? ⟨wr.heap.size, 2, none⟩ = some (.int .u8 lt) ∧ w'.cell? ⟨wr.heap.size, 3, none⟩ = some (.int .i64 st) ∧ w'.cell? ⟨wr.heap.size, 4, none⟩ = some (.int .i64 sr)) (first | exact HC.out _ H0.out | exact HC.out _ HX.out.1)
            (first | (go_at_call 221; refine (psimple_any _ b a c els n nt kd lt st sr HT6.out HF.out).mono ?_; rintro e w1 ⟨rfl, hB1⟩; have HX : Hid (Below (wr.heap.size + 1) (wr.alloc (.cells #[.bool nt, .int .i64 kd, .int .u8 lt, .int .i64 st, .int .i64 sr] 192)).drew w1 ∧ Below w.heap.size w w1) := ⟨hB1.mono (by simp [World.drew]), HB6.out.trans (hB1.mono HB6.out.size)⟩))
          all_goals
            go_wp2_with fail
            go_meet
            exact ⟨rfl, HX.out.2⟩
        case rest =>
          obtain ⟨rfl, HX⟩ := hcut
          by_cases hs : simpP els ⟨nt, kd, lt, st, sr⟩ n = nt
          · have HR : Hid (PBool w (compP els x n) (.returned (.bool false)) wc) := ⟨by rw [HY.out hs], HX.out⟩
            have gs : (simpP els ⟨nt, kd, lt, st, sr⟩ n == nt) = true := by simp [hs]
            clear hs c0 c1 c2 c3 c4
            generalize (simpP els ⟨nt, kd, lt, st, sr⟩ n == nt) = z at gs ⊢
            subst gs
            go_wp2
            go_ret
            exact HR.out
          · have HN2 : Hid (Below w.heap.size w wc ∧ ∀ j (_ : j < x.ps.length), j < i + 1 → ¬ simpP els x.ps[j] n = x.ps[j].nt) := ⟨HX.out, HNX.out hs⟩
            have gs : (simpP els ⟨nt, kd, lt, st, sr⟩ n == nt) = false := by simp [hs]
            clear hs c0 c1 c2 c3 c4
            generalize (simpP els ⟨nt, kd, lt, st, sr⟩ n == nt) = z at gs ⊢
            subst gs
            go_wp2
            go_roundg (x.ps.length - (i + 1))
            case measure => omega
            case rel => exact ⟨i + 1, by go_num, by omega, Nat.le_refl _, HN2⟩
      · have hd : decide ((i : Int) < (x.ps.length : Int)) = false := by simp; omega
        have HR : Hid (PBool w (compP els x n) (.returned (.bool true)) wr) := ⟨by rw [comp_yes HTY.out (fun j hj => HN.out.2 j hj (by omega))], HN.out.1⟩
        go_wp2
        go_ret
        exact HR.out
  · have g0 : ((x.ty : Int) != 0) = true := by simp; omega
    have HZ : Hid (¬ x.ty = 0) := h0
    have HT0 : Hid (TRd (w.alloc (.cells #[.int .u8 x.sg, .int .u8 x.ty, .slice ap x.ps.length cp] 190)) b a c els) := HT.out.below ((Below.refl _ _).alloc (Nat.le_refl _) _)
    clear h0
    go_enter Tryz.func216, Tryz.ntmps216
    go_wp2_with fail
    refine (phasType_any _ b a c els n x.ty HT0.out).mono ?_
    rintro e w1 ⟨rfl, hB⟩
    have hz1 : w.heap.size < w1.heap.size := by have := hB.size; simp at this; omega
    have q2 : w1.cell? ⟨w.heap.size, 2, none⟩ = some (.slice ap x.ps.length cp) := (hB.cell (p := ⟨w.heap.size, 2, none⟩) (by simp)).trans (cell_of_blk (heap_alloc_new w _) rfl)
    have HB1 : Hid (Below w.heap.size w w1) := ((Below.refl _ _).alloc (Nat.le_refl _) _).trans (hB.mono (by simp))
    clear hB
    cases hr : hasTypeP els n x.ty with
    | false =>
      have HR : Hid (PBool w (compP els x n) (.returned (.bool false)) w1) := ⟨by rw [comp_no1 HZ.out hr], HB1.out⟩
      clear hr
      go_wp2
      go_ret
      exact HR.out
    | true =>
      have HTY : Hid (x.ty = 0 ∨ hasTypeP els n x.ty = true) := Or.inr hr
      clear hr
      go_wp2_with fail
      go_loopg [23] x.ps.length (fun gk iv wr => ∃ i : Nat, iv = .int .i64 i ∧ i ≤ x.ps.length ∧ x.ps.length - i ≤ gk ∧ Hid (Below w.heap.size w wr ∧ ∀ j (_ : j < x.ps.length), j < i → ¬ simpP els x.ps[j] n = x.ps[j].nt))
      case atStart => exact ⟨0, rfl, Nat.zero_le _, by omega, HB1.out, fun j _ h => by omega⟩
      case round =>
        obtain ⟨i, rfl, hi, hgk, HN⟩ := hrel
        have hbz := HN.out.1.size
        by_cases hlt : i < x.ps.length
        · have hd : decide ((i : Int) < (x.ps.length : Int)) = true := by simp; omega
          obtain ⟨g, hg, hgl, hgc⟩ := own_cells HO.out.1 (by omega)
          subst hg
          obtain ⟨e0, e1, e2, e3, e4⟩ := kinds_at HO.out.2.1 hlt
          have c0 := (HN.out.1.cell (p := ⟨g, i * 5, none⟩) hgl).trans (hgc _ _ e0)
          have c1 := (HN.out.1.cell (p := ⟨g, i * 5 + 1, none⟩) hgl).trans (hgc _ _ e1)
          have c2 := (HN.out.1.cell (p := ⟨g, i * 5 + 2, none⟩) hgl).trans (hgc _ _ e2)
          have c3 := (HN.out.1.cell (p := ⟨g, i * 5 + 3, none⟩) hgl).trans (hgc _ _ e3)
          have c4 := (HN.out.1.cell (p := ⟨g, i * 5 + 4, none⟩) hgl).trans (hgc _ _ e4)
          have HF : Hid (PPt.fine ⟨x.ps[i].nt, x.ps[i].kd, x.ps[i].lt, x.ps[i].st, x.ps[i].sr⟩) := HO.out.2.2 x.ps[i] (List.getElem_mem hlt)
          have HY : Hid (simpP els ⟨x.ps[i].nt, x.ps[i].kd, x.ps[i].lt, x.ps[i].st, x.ps[i].sr⟩ n = x.ps[i].nt → compP els x n = false) := fun h => comp_no2 hlt h
          have HNX : Hid (¬ simpP els ⟨x.ps[i].nt, x.ps[i].kd, x.ps[i].lt, x.ps[i].st, x.ps[i].sr⟩ n = x.ps[i].nt → ∀ j (_ : j < x.ps.length), j < i + 1 → ¬ simpP els x.ps[j] n = x.ps[j].nt) := fun hm j hj h1 => by
            by_cases e : j = i
            · subst e; exact hm
            · exact HN.out.2 j hj (by omega)
          clear e0 e1 e2 e3 e4 hgc
          generalize x.ps[i].nt = nt at c0 HF HY HNX
          generalize x.ps[i].kd = kd at c1 HF HY HNX
          generalize x.ps[i].lt = lt at c2 HF HY HNX
          generalize x.ps[i].st = st at c3 HF HY HNX
          generalize x.ps[i].sr = sr at c4 HF HY HNX
          have HB6 : Hid (Below w.heap.size w (wr.alloc (.cells #[.bool nt, .int .i64 kd, .int .u8 lt, .int .i64 st, .int .i64 sr] 192)).drew) := (HN.out.1.alloc hbz _).drew
          have HT6 : Hid (TRd (wr.alloc (.cells #[.bool nt, .int .i64 kd, .int .u8 lt, .int .i64 st, .int .i64 sr] 192)).drew b a c els) := HT.out.below HB6.out
          have HC : Hid (∀ wx, Below (wr.heap.size + 1) (wr.alloc (.cells #[.bool nt, .int .i64 kd, .int .u8 lt, .int .i64 st, .int .i64 sr] 192)).drew wx → wx.cell? ⟨wr.heap.size, 0, none⟩ = some (.bool nt) ∧ wx.cell? ⟨wr.heap.size, 1, none⟩ = some (.int .i64 kd) ∧ wx.cell? ⟨wr.heap.size, 2, none⟩ = some (.int .u8 lt) ∧ wx.cell? ⟨wr.heap.size, 3, none⟩ = some (.int .i64 st) ∧ wx.cell? ⟨wr.heap.size, 4, none⟩ = some (.int .i64 sr)) := fun wx hb =>
            have hblk : (wr.alloc (.cells #[.bool nt, .int .i64 kd, .int .u8 lt, .int .i64 st, .int .i64 sr] 192)).drew.heap[wr.heap.size]? = some (.cells #[.bool nt, .int .i64 kd, .int .u8 lt, .int .i64 st, .int .i64 sr] 192) := heap_alloc_new wr _
            have hx : wx.heap[wr.heap.size]? = some (.cells #[.bool nt, .int .i64 kd, .int .u8 lt, .int .i64 st, .int .i64 sr] 192) := (hb.block _ (by omega)).trans hblk
            ⟨cell_of_blk hx rfl, cell_of_blk hx rfl, cell_of_blk hx rfl, cell_of_blk hx rfl, cell_of_blk hx rfl⟩
          have H0 : Hid (Below (wr.heap.size + 1) (wr.alloc (.cells #[.bool nt, .int .i64 kd, .int .u8 lt, .int .i64 st, .int .i64 sr] 192)).drew (wr.alloc (.cells #[.bool nt, .int .i64 kd, .int .u8 lt, .int .i64 st, .int .i64 sr] 192)).drew) := Below.refl _ _
          go_upto_region 6 with fail
          go_cut [33] (fun v wx => v = .bool (simpP els ⟨nt, kd, lt, st, sr⟩ n == nt) ∧ Hid (Below w.heap.size w wx))
          case first =>
            go_region_held3 (fun w' => w'.cell? ⟨wr.heap.size, 0, none⟩ = some (.bool nt) ∧ w'.cell? ⟨wr.heap.size, 1, none⟩ = some (.int .i64 kd) ∧ w'.cell? ⟨wr.heap.size, 2, none⟩ = some (.int .u8 lt) ∧ w'.cell? ⟨wr.heap.size, 3, none⟩ = some (.int .i64 st) ∧ w'.cell? ⟨wr.heap.size, 4, none⟩ = some (.int .i64 sr)) (first | exact HC.out _ H0.out | exact HC.out _ HX.out.1)
              (first | (go_at_call 221; refine (psimple_any _ b a c els n nt kd lt st sr HT6.out HF.out).mono ?_; rintro e w1 ⟨rfl, hB1⟩; have HX : Hid (Below (wr.heap.size + 1) (wr.alloc (.cells #[.bool nt, .int .i64 kd, .int .u8 lt, .int .i64 st, .int .i64 sr] 192)).drew w1 ∧ Below w.heap.size w w1) := ⟨hB1.mono (by simp [World.drew]), HB6.out.trans (hB1.mono HB6.out.size)⟩))
            all_goals
              go_wp2_with fail
              go_meet
              exact ⟨rfl, HX.out.2⟩
          case rest =>
            obtain ⟨rfl, HX⟩ := hcut
            by_cases hs : simpP els ⟨nt, kd, lt, st, sr⟩ n = nt
            · have HR : Hid (PBool w (compP els x n) (.returned (.bool false)) wc) := ⟨by rw [HY.out hs], HX.out⟩
              have gs : (simpP els ⟨nt, kd, lt, st, sr⟩ n == nt) = true := by simp [hs]
              clear hs c0 c1 c2 c3 c4
              generalize (simpP els ⟨nt, kd, lt, st, sr⟩ n == nt) = z at gs ⊢
              subst gs
              go_wp2
              go_ret
              exact HR.out
            · have HN2 : Hid (Below w.heap.size w wc ∧ ∀ j (_ : j < x.ps.length), j < i + 1 → ¬ simpP els x.ps[j] n = x.ps[j].nt) := ⟨HX.out, HNX.out hs⟩
              have gs : (simpP els ⟨nt, kd, lt, st, sr⟩ n == nt) = false := by simp [hs]
              clear hs c0 c1 c2 c3 c4
              generalize (simpP els ⟨nt, kd, lt, st, sr⟩ n == nt) = z at gs ⊢
              subst gs
              go_wp2
              go_roundg (x.ps.length - (i + 1))
              case measure => omega
              case rel => exact ⟨i + 1, by go_num, by omega, Nat.le_refl _, HN2⟩
        · have hd : decide ((i : Int) < (x.ps.length : Int)) = false := by simp; omega
          have HR : Hid (PBool w (compP els x n) (.returned (.bool true)) wr) := ⟨by rw [comp_yes HTY.out (fun j hj => HN.out.2 j hj (by omega))], HN.out.1⟩
          go_wp2
          go_ret
          exact HR.out
end
end Go.Proofs.YtblfffbmklkhmaaGreat

namespace Go.Proofs.YtblfffbmklkhmaaGreat
open Go.RowKit
/-- The compounds of a selector in memory. -/
structure ClRow (w : World) (ac : Option Addr) (cc : Nat) (xs : List Value) (cs : List PCp) : Prop where
  row : w.ownsRow 0 190 3 (.slice ac cs.length cc) cs.length xs
  comps : Comps w 0 xs cs
  few : cs.length ≤ 400
  short : ∀ x ∈ cs, x.ps.length ≤ 400
  fine : ∀ x ∈ cs, ∀ p ∈ x.ps, p.fine
theorem ClRow.below {w w' : World} {ac : Option Addr} {cc : Nat} {xs : List Value} {cs : List PCp} (h : ClRow w ac cc xs cs) (hB : Below w.heap.size w w') : ClRow w' ac cc xs cs :=
  ⟨own_below h.row hB, h.comps.keep (keeps_below hB _ _), h.few, h.short, h.fine⟩
theorem chain_one {els : List PEl} {x : PCp} {r : List PCp} {n : Int} (h : compP els x n = false ∨ r = []) : chainR els (x :: r) n = compP els x n := by
  cases r with
  | nil => rfl
  | cons d r =>
    rcases h with h | h
    · show (compP els x n && _) = _
      rw [h]
      rfl
    · cases h
theorem chain_all {els : List PEl} {x : PCp} {r : List PCp} {n : Int} (h : compP els x n = true) (hr : r ≠ []) : chainR els (x :: r) n = (signedP els x.sg n).any (chainR els r) := by
  cases r with
  | nil => exact absurd rfl hr
  | cons d r =>
    show (compP els x n && _) = _
    rw [h]
    rfl
theorem signed_len (els : List PEl) (sg n : Int) : (signedP els sg n).length ≤ els.length := by
  have h1 : ∀ k m, (aboveP els k m).length ≤ k := by
    intro k
    induction k with
    | zero => intro m; simp [aboveP]
    | succ k ih =>
      intro m
      show (if parP els m = -1 then [] else _).length ≤ _
      split
      · simp
      · have := ih (parP els m); simp; omega
  have h2 := h1 els.length n
  have h3 := aheadP_len els n
  unfold signedP
  (repeat' split) <;> (try rw [List.length_take]) <;> (try simp) <;> omega
section
set_option maxRecDepth 100000
set_option maxHeartbeats 4000000
variable (b : Nat) (a : Option Addr) (c : Nat) (els : List PEl)
theorem pchain_any (ac : Option Addr) (cc : Nat) (xs : List Value) (cs : List PCp) : ∀ (m : Nat) (w : World) (n : Int), m ≤ cs.length → TRd w b a c els → ClRow w ac cc xs cs →
    Calls Tryz.prog 209 #[.slice ac m cc, .pointer (some ⟨b, 1, none⟩), .int .i64 n] w fun e w' => PBool w (chainR els (cs.take m).reverse n) e w'
  | 0, w, n, _, _, _ => by
    have HR : Hid (PBool w (chainR els (cs.take 0).reverse n) (.returned (.bool false)) w) := ⟨rfl, Below.refl _ _⟩
    go_enter Tryz.func209, Tryz.ntmps209
    go_wp2
    go_ret
    exact HR.out
  | m + 1, w, n, hm, h, ho => by
    have IH : Hid (∀ (w : World) (n : Int), TRd w b a c els → ClRow w ac cc xs cs → Calls Tryz.prog 209 #[.slice ac m cc, .pointer (some ⟨b, 1, none⟩), .int .i64 n] w fun e w' => PBool w (chainR els (cs.take m).reverse n) e w') := fun w n => pchain_any ac cc xs cs m w n (by omega)
    have HT : Hid (TRd w b a c els) := h
    have HO : Hid (ClRow w ac cc xs cs) := ho
    have hfew := h.few
    have hcf := ho.few
    have hcap := own_cap ho.row
    have hcm := own_capM ho.row
    unfold maxLen at hcm
    obtain ⟨g, hg, hgl, hgc⟩ := own_cells ho.row (by omega)
    subst hg
    have hlt : m < cs.length := by omega
    obtain ⟨ap, cp, ps, e0, e1, e2, e3, e4⟩ := comps_at ho.comps hlt
    have c0 := hgc _ _ e0
    have c1 := hgc _ _ e1
    have c2 := hgc _ _ e2
    have HL : Hid ((cs.take (m + 1)).reverse = cs[m] :: (cs.take m).reverse) := by unfold Hid; rw [List.take_succ_eq_append_getElem hlt, List.reverse_append]; rfl
    have HCP : Hid (CpRow w ap cp ps cs[m]) := ⟨e3, e4, ho.fine _ (List.getElem_mem hlt)⟩
    have hpl := ho.short _ (List.getElem_mem hlt)
    have HM : Hid (m ≠ 0 → (cs.take m).reverse ≠ []) := fun h0 h1 => by
      have h2 : (cs.take m).reverse.length = 0 := by rw [h1]; rfl
      rw [List.length_reverse, List.length_take] at h2
      omega
    have HM0 : Hid (m = 0 → (cs.take m).reverse = []) := fun h0 => by rw [h0]; rfl
    have hgs : ((m : Int) + 1 - 1) = m := by omega
    clear h ho e0 e1 e2 e3 e4 hgc
    generalize cs[m] = x at c0 c1 c2 HL HCP hpl
    have HCP1 : Hid (CpRow (w.alloc (.cells #[.int .u8 x.sg, .int .u8 x.ty, .slice ap x.ps.length cp] 190)) ap cp ps x) := ⟨HCP.out.1.alloc _, HCP.out.2⟩
    have HB1 : Hid (Below w.heap.size w (w.alloc (.cells #[.int .u8 x.sg, .int .u8 x.ty, .slice ap x.ps.length cp] 190))) := (Below.refl _ _).alloc (Nat.le_refl _) _
    have HT1 : Hid (TRd (w.alloc (.cells #[.int .u8 x.sg, .int .u8 x.ty, .slice ap x.ps.length cp] 190)) b a c els) := HT.out.below HB1.out
    go_enter Tryz.func209, Tryz.ntmps209
    go_wp2_with fail
    refine (pcomp_any _ b a c els n x ap cp ps HT1.out HCP1.out hpl).mono ?_
    rintro e w1 ⟨rfl, hB⟩
    have hz1 : w.heap.size < w1.heap.size := by have := hB.size; simp at this; omega
    have q0 : w1.cell? ⟨w.heap.size, 0, none⟩ = some (.int .u8 x.sg) := (hB.cell (p := ⟨w.heap.size, 0, none⟩) (by simp)).trans (cell_of_blk (heap_alloc_new w _) rfl)
    have HB2 : Hid (Below w.heap.size w w1) := HB1.out.trans (hB.mono (by simp))
    have HT2 : Hid (TRd w1 b a c els) := HT.out.below HB2.out
    clear hB c0 c1 c2 HCP1 HCP HT1 HB1
    cases hr : compP els x n with
    | false =>
      have HR : Hid (PBool w (chainR els (cs.take (m + 1)).reverse n) (.returned (.bool false)) w1) := ⟨by rw [HL.out, chain_one (Or.inl hr), hr], HB2.out⟩
      clear hr
      go_wp2
      go_ret
      exact HR.out
    | true =>
      by_cases hm0 : m = 0
      · have HR : Hid (PBool w (chainR els (cs.take (m + 1)).reverse n) (.returned (.bool true)) w1) := ⟨by rw [HL.out, chain_one (Or.inr (HM0.out hm0)), hr], HB2.out⟩
        clear hr
        have gm : ((m : Int) == 0) = true := by simp [hm0]
        clear hm0 HM HM0
        go_wp2
        go_ret
        exact HR.out
      · have HS : Hid (chainR els (cs.take (m + 1)).reverse n = (signedP els x.sg n).any (chainR els (cs.take m).reverse)) := by unfold Hid; rw [HL.out, chain_all hr (HM.out hm0)]
        have gm : ((m : Int) == 0) = false := by rw [beq_eq_false_iff_ne]; omega
        have hsl := signed_len els x.sg n
        clear hr hm0 HM HM0 HL
        go_wp2_with fail
        refine (psigned_any w1 b a c els n x.sg HT2.out).mono ?_
        rintro e w2 ⟨a2, c2, rfl, k1, k2, k3, hB⟩
        have HB3 : Hid (Below w.heap.size w w2) := HB2.out.trans (hB.mono HB2.out.size)
        have HI : Hid (RowI w2 a2 (signedP els x.sg n)) := k3
        clear hB k3 HB2 HT2 q0
        generalize signedP els x.sg n = l at HI HS hsl k1 ⊢
        generalize (cs.take m).reverse = r at IH HS
        go_wp2_with fail
        go_loopg [44] l.length (fun gk iv wr => ∃ i : Nat, iv = .int .i64 i ∧ i ≤ l.length ∧ l.length - i ≤ gk ∧ Hid (Below w.heap.size w wr ∧ Below w2.heap.size w2 wr ∧ ∀ j (_ : j < l.length), j < i → chainR els r l[j] = false))
        case atStart => exact ⟨0, rfl, Nat.zero_le _, by omega, HB3.out, Below.refl _ _, fun j _ h => by omega⟩
        case round =>
          obtain ⟨i, rfl, hi, hgk, HN⟩ := hrel
          have hbz := HN.out.1.size
          by_cases hli : i < l.length
          · have hd : decide ((i : Int) < (l.length : Int)) = true := by simp; omega
            obtain ⟨g2, hg2, hgl2, hq2⟩ := HI.out i hli
            subst hg2
            have q1 := (HN.out.2.1.cell (p := ⟨g2, i, none⟩) hgl2).trans hq2
            rw [List.getElem?_eq_getElem hli] at q1
            replace q1 : wr.cell? ⟨g2, i, none⟩ = some (.int .i64 l[i]) := q1
            have HNX : Hid (chainR els r l[i] = false → ∀ j (_ : j < l.length), j < i + 1 → chainR els r l[j] = false) := fun hm j hj h1 => by
              by_cases e : j = i
              · subst e; exact hm
              · exact HN.out.2.2 j hj (by omega)
            have HY : Hid (chainR els r l[i] = true → l.any (chainR els r) = true) := fun h => by
              rw [List.any_eq_true]
              exact ⟨l[i], List.getElem_mem hli, h⟩
            clear hq2
            generalize l[i] = o at q1 HNX HY
            have HT3 : Hid (TRd wr b a c els ∧ ClRow wr (some ⟨g, 0, none⟩) cc xs cs) := ⟨HT.out.below HN.out.1, HO.out.below HN.out.1⟩
            go_wp2_with fail
            refine (IH.out wr o HT3.out.1 HT3.out.2).mono ?_
            rintro e w3 ⟨rfl, hB3⟩
            have HB4 : Hid (Below w.heap.size w w3 ∧ Below w2.heap.size w2 w3) := ⟨HN.out.1.trans (hB3.mono hbz), HN.out.2.1.trans (hB3.mono HN.out.2.1.size)⟩
            clear hB3 q1 HT3
            cases hr : chainR els r o with
            | true =>
              have HR : Hid (PBool w (chainR els (cs.take (m + 1)).reverse n) (.returned (.bool true)) w3) := ⟨by rw [HS.out, HY.out hr], HB4.out.1⟩
              clear hr
              go_wp2
              go_ret
              exact HR.out
            | false =>
              have HN2 : Hid (Below w.heap.size w w3 ∧ Below w2.heap.size w2 w3 ∧ ∀ j (_ : j < l.length), j < i + 1 → chainR els r l[j] = false) := ⟨HB4.out.1, HB4.out.2, HNX.out hr⟩
              clear hr
              go_wp2
              go_roundg (l.length - (i + 1))
              case measure => omega
              case rel => exact ⟨i + 1, by go_num, by omega, Nat.le_refl _, HN2⟩
          · have hd : decide ((i : Int) < (l.length : Int)) = false := by simp; omega
            have HR : Hid (PBool w (chainR els (cs.take (m + 1)).reverse n) (.returned (.bool false)) wr) := by
              refine ⟨?_, HN.out.1⟩
              have : l.any (chainR els r) = false := by
                rw [List.any_eq_false]
                intro o ho
                obtain ⟨j, hj, rfl⟩ := List.getElem_of_mem ho
                rw [HN.out.2.2 j hj (by omega)]
                simp
              rw [HS.out, this]
            go_wp2
            go_ret
            exact HR.out
theorem pselector_any (w : World) (n : Int) (ac : Option Addr) (cc : Nat) (xs : List Value) (cs : List PCp) (h : TRd w b a c els) (ho : ClRow w ac cc xs cs) :
    Calls Tryz.prog 195 #[.agg #[.slice ac cs.length cc], .pointer (some ⟨b, 1, none⟩), .int .i64 n] w fun e w' => PBool w (matchP els cs n) e w' := by
  have HB1 : Hid (Below w.heap.size w (w.alloc (.cells #[.slice ac cs.length cc] 141))) := (Below.refl _ _).alloc (Nat.le_refl _) _
  have HT : Hid (TRd (w.alloc (.cells #[.slice ac cs.length cc] 141)) b a c els ∧ ClRow (w.alloc (.cells #[.slice ac cs.length cc] 141)) ac cc xs cs) := ⟨h.below HB1.out, ho.below HB1.out⟩
  have HM : Hid (matchP els cs n = chainR els (cs.take cs.length).reverse n) := by unfold Hid; rw [List.take_length]; rfl
  clear h ho
  go_enter Tryz.func195, Tryz.ntmps195
  go_wp2_with fail
  refine (pchain_any b a c els ac cc xs cs cs.length _ n (Nat.le_refl _) HT.out.1 HT.out.2).mono ?_
  rintro e w1 ⟨rfl, hB⟩
  have HR : Hid (PBool w (matchP els cs n) (.returned (.bool (chainR els (cs.take cs.length).reverse n))) w1) := ⟨by rw [HM.out], HB1.out.trans (hB.mono (by simp))⟩
  clear hB HM
  generalize chainR els (cs.take cs.length).reverse n = r at HR ⊢
  go_wp2
  go_ret
  exact HR.out
end
end Go.Proofs.YtblfffbmklkhmaaGreat
