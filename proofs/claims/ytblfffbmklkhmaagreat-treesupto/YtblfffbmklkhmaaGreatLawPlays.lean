/- The statements' own walk: the script. Own work. -/
import Derived.Test.YtblfffbmklkhmaaGreatLawStep
namespace Go.Proofs.YtblfffbmklkhmaaGreat
open Go.RowKit

/-- The script's cells. -/
structure Scr (w : World) (b off len : Nat) (K A X Y Z : Nat → Int) (S T : Nat → ByteArray) (O : Nat → Bool) : Prop where
  c0 : ∀ i, i < len → w.cell? ⟨b, off + i * 8, none⟩ = some (.int .i64 (K i))
  c1 : ∀ i, i < len → w.cell? ⟨b, off + i * 8 + 1, none⟩ = some (.int .i64 (A i))
  c2 : ∀ i, i < len → w.cell? ⟨b, off + i * 8 + 2, none⟩ = some (.int .i64 (X i))
  c3 : ∀ i, i < len → w.cell? ⟨b, off + i * 8 + 3, none⟩ = some (.int .i64 (Y i))
  c4 : ∀ i, i < len → w.cell? ⟨b, off + i * 8 + 4, none⟩ = some (.int .i64 (Z i))
  c5 : ∀ i, i < len → w.cell? ⟨b, off + i * 8 + 5, none⟩ = some (.string (S i))
  c6 : ∀ i, i < len → w.cell? ⟨b, off + i * 8 + 6, none⟩ = some (.string (T i))
  c7 : ∀ i, i < len → w.cell? ⟨b, off + i * 8 + 7, none⟩ = some (.bool (O i))
  small : ∀ i, i < len → (S i).size ≤ maxLen
  lt : b < w.heap.size

set_option maxRecDepth 100000 in
set_option maxHeartbeats 2000000 in
theorem plays_check (w : World) (b off len cap : Nat) (K A X Y Z : Nat → Int) (S T : Nat → ByteArray) (O : Nat → Bool) (h : Scr w b off len K A X Y Z S T O) (hm : len ≤ maxLen) :
    Calls Tryz.prog 15 #[.slice (some ⟨b, off, none⟩) len cap, .int .i64 1, .int .i64 1] w fun e w' => StepPost w e w' := by
  unfold maxLen at hm
  have hblt := h.lt
  have HS : Hid (Scr w b off len K A X Y Z S T O) := h
  clear h
  go_enter Tryz.func15, Tryz.ntmps15
  go_wp2_with fail
  go_loopg [8] len (fun gk iv wr => ∃ i : Nat, iv = .int .i64 i ∧ i ≤ len ∧ len - i ≤ gk ∧ Wd wr w.heap.size ∧ Below w.heap.size w wr)
  case atStart => exact ⟨0, rfl, Nat.zero_le _, by omega, heap_alloc_new w _, (Below.refl _ _).alloc (Nat.le_refl _) _⟩
  case round =>
    obtain ⟨i, rfl, hi, hgk, hW, hB⟩ := hrel
    have HW : Hid (Wd wr w.heap.size) := hW
    clear hW
    by_cases hlt : i < len
    · have hd : decide ((i : Int) < (len : Int)) = true := by simp; omega
      have q0 := (hB.cell (p := ⟨b, off + i * 8, none⟩) hblt).trans (HS.out.c0 i hlt)
      have q1 := (hB.cell (p := ⟨b, off + i * 8 + 1, none⟩) hblt).trans (HS.out.c1 i hlt)
      have q2 := (hB.cell (p := ⟨b, off + i * 8 + 2, none⟩) hblt).trans (HS.out.c2 i hlt)
      have q3 := (hB.cell (p := ⟨b, off + i * 8 + 3, none⟩) hblt).trans (HS.out.c3 i hlt)
      have q4 := (hB.cell (p := ⟨b, off + i * 8 + 4, none⟩) hblt).trans (HS.out.c4 i hlt)
      have q5 := (hB.cell (p := ⟨b, off + i * 8 + 5, none⟩) hblt).trans (HS.out.c5 i hlt)
      have q6 := (hB.cell (p := ⟨b, off + i * 8 + 6, none⟩) hblt).trans (HS.out.c6 i hlt)
      have q7 := (hB.cell (p := ⟨b, off + i * 8 + 7, none⟩) hblt).trans (HS.out.c7 i hlt)
      have hsm := HS.out.small i hlt
      generalize K i = k0 at q0
      generalize A i = k1 at q1
      generalize X i = k2 at q2
      generalize Y i = k3 at q3
      generalize Z i = k4 at q4
      generalize S i = s at q5 hsm
      generalize T i = t at q6
      generalize O i = o at q7
      by_cases hk1 : 1 ≤ k0
      · by_cases hk2 : k0 ≤ 1
        · obtain rfl : k0 = 1 := by omega
          go_wp2_with fail
          refine (step_check _ (some ⟨w.heap.size, 0, none⟩) k1 k2 k3 k4 s t o hsm).mono ?_
          rintro e w2 ⟨rfl, hb2⟩
          have hz := hB.size
          have hW2 : Wd w2 w.heap.size := (hb2.block _ (by have := (Array.getElem?_eq_some_iff.1 HW.out).1; omega)).trans HW.out
          have hB2 : Below w.heap.size w w2 := hB.trans (hb2.mono hz)
          have HW2 : Hid (Wd w2 w.heap.size) := hW2
          clear q0 q1 q2 q3 q4 q5 q6 q7 hW2 hb2
          go_wp2
          go_roundg (len - (i + 1))
          case measure => omega
          case rel => exact ⟨i + 1, by go_num, by omega, Nat.le_refl _, HW2, hB2⟩
        · have hd2 : decide (k0 ≤ 1) = false := by simpa using hk2
          have hd1 : decide (1 ≤ k0) = true := by simpa using hk1
          go_wp2
          go_roundg (len - (i + 1))
          case measure => omega
          case rel => exact ⟨i + 1, by go_num, by omega, Nat.le_refl _, HW, hB⟩
      · have hd1 : decide (1 ≤ k0) = false := by simpa using hk1
        go_wp2
        go_roundg (len - (i + 1))
        case measure => omega
        case rel => exact ⟨i + 1, by go_num, by omega, Nat.le_refl _, HW, hB⟩
    · have hd : decide ((i : Int) < (len : Int)) = false := by simp; omega
      go_wp2_with fail
      refine (ends_any _ w.heap.size 1 HW.out).mono ?_
      rintro e w2 ⟨rfl, rfl⟩
      go_wp2_with fail
      refine (looks_any _ w.heap.size HW.out).mono ?_
      rintro e w3 ⟨rfl, rfl⟩
      go_wp2_with fail
      go_ret
      exact ⟨rfl, hB⟩

set_option maxRecDepth 100000 in
set_option maxHeartbeats 2000000 in
theorem plays_empty (w : World) (ao : Option Addr) (cap : Nat) (lo hi : Int) :
    Calls Tryz.prog 15 #[.slice ao 0 cap, .int .i64 lo, .int .i64 hi] w fun e w' => StepPost w e w' := by
  go_enter Tryz.func15, Tryz.ntmps15
  go_wp2_with fail
  refine wp_loop_rounds 1 ?_
  rw [rounds_succ]
  go_wp2_with fail
  have hW : Wd (w.alloc (.cells #[.slice none 0 0, .slice none 0 0, .slice none 0 0, .int .i64 0] 67)) w.heap.size := heap_alloc_new w _
  refine (ends_any _ w.heap.size hi hW).mono ?_
  rintro e w2 ⟨rfl, rfl⟩
  go_wp2_with fail
  refine (looks_any _ w.heap.size hW).mono ?_
  rintro e w3 ⟨rfl, rfl⟩
  go_wp2_with fail
  go_ret
  exact ⟨rfl, (Below.refl _ _).alloc (Nat.le_refl _) _⟩

set_option maxHeartbeats 1000000 in
theorem checks_any (w : World) (b off len cap : Nat) (K A X Y Z : Nat → Int) (S T : Nat → ByteArray) (O : Nat → Bool) (h : Scr w b off len K A X Y Z S T O) (hm : len ≤ maxLen) :
    Calls Tryz.prog 3 #[.slice (some ⟨b, off, none⟩) len cap] w fun e w' => StepPost w e w' := by
  have HS : Hid (Scr w b off len K A X Y Z S T O) := h
  clear h
  go_enter Tryz.func3, Tryz.ntmps3
  go_wp2_with fail
  refine (plays_check _ b off len cap K A X Y Z S T O HS.out hm).mono ?_
  rintro e w1 ⟨rfl, hb⟩
  go_wp2_with fail
  go_ret
  exact ⟨rfl, hb⟩

set_option maxHeartbeats 1000000 in
theorem checks_empty (w : World) (ao : Option Addr) (cap : Nat) :
    Calls Tryz.prog 3 #[.slice ao 0 cap] w fun e w' => StepPost w e w' := by
  go_enter Tryz.func3, Tryz.ntmps3
  go_wp2_with fail
  refine (plays_empty _ ao cap 1 1).mono ?_
  rintro e w1 ⟨rfl, hb⟩
  go_wp2_with fail
  go_ret
  exact ⟨rfl, hb⟩

end Go.Proofs.YtblfffbmklkhmaaGreat
