/- Read, Check: the program's answer. Own work. -/
import Derived.Test.YtblfffbmklkhmaaGreatSheet
import Derived.RegionTactic
namespace Go.Proofs.YtblfffbmklkhmaaGreat
open Go.RowKit

/-- The document's answer to Check. -/
def chk (s : ByteArray) : Int × Int :=
  if 400 < s.size then (1, 0) else if 0 ≤ (V s 0 ⟨0, 0, -1⟩ 0).1 then (2, (V s 0 ⟨0, 0, -1⟩ 0).1) else if (V s 0 ⟨0, 0, -1⟩ 0).2 = -1 then (0, 0) else (3, (V s 0 ⟨0, 0, -1⟩ 0).2)

def ReadPost (w : World) (s : ByteArray) (e : Ending) (w' : World) : Prop :=
  ∃ (a : Option Addr) (n c : Nat), e = .returned (.tuple #[.agg #[.slice a n c], .int .i64 (chk s).1, .int .i64 (chk s).2]) ∧ Below w.heap.size w w' ∧
    ((chk s).1 = 0 → ∃ rs xs, n = rs.length ∧ w'.ownsRow w.heap.size 138 3 (.slice a n c) n xs ∧ Ruls w' w.heap.size xs rs ∧ RulsAt s 0 s.size rs)

theorem At.below {w w0 w1 : World} {b : Nat} {s : ByteArray} {j : Nat} {m : Int} (h : At w0 w1 b s j m) (hw : Below w.heap.size w w0) (hb : w.heap.size ≤ b) : Below w.heap.size w w1 :=
  hw.grown h.gb hw.size (fun k e => by injection e with e; omega)

set_option maxHeartbeats 2000000 in
theorem read_any (w : World) (s : ByteArray) (hs : s.size ≤ maxLen) :
    Calls Tryz.prog 42 #[.string s] w fun e w' => ReadPost w s e w' := by
  unfold maxLen at hs
  by_cases h400 : 400 < s.size
  · have HC : Hid (chk s = (1, 0)) := by unfold Hid chk; rw [if_pos h400]
    go_enter Tryz.func42, Tryz.ntmps42
    go_wp2
    refine bodyPost_ret (v := .tuple #[.agg #[.slice none 0 0], .int .i64 1, .int .i64 0]) (by simp [results, Tryz.results42, go_sem]) rfl ⟨none, 0, 0, by rw [HC.out], ?_, ?_⟩
    · exact (Below.refl _ _).alloc (Nat.le_refl _) _
    · rw [HC.out]; intro h; simp at h
  · have h400' : s.size ≤ 400 := by omega
    have hr : Rd ((w.alloc (.cells #[.slice none 0 0] 82)).alloc (.cells #[.string s, .int .i64 0, .int .i64 (-1)] 146)) (w.heap.size + 1) s 0 (-1) := by
      refine ⟨?_, Nat.zero_le _, h400', by omega, by omega⟩
      have := heap_alloc_new (w.alloc (.cells #[.slice none 0 0] 82)) (.cells #[.string s, .int .i64 0, .int .i64 (-1)] 146)
      simpa using this
    have hb0 : Below w.heap.size w ((w.alloc (.cells #[.slice none 0 0] 82)).alloc (.cells #[.string s, .int .i64 0, .int .i64 (-1)] 146)) := ((Below.refl _ _).alloc (Nat.le_refl _) _).alloc (by simp) _
    go_enter Tryz.func42, Tryz.ntmps42
    go_wp2_with fail
    refine (sheet_any _ (w.heap.size + 1) s (by exact hr)).mono ?_
    rintro e w1 (⟨a, c, rs, xs, m, rfl, ha, ho, hR, hf⟩ | ⟨j, m, rfl, ha, hf⟩)
    · have hb1 := ha.below hb0 (by omega)
      have hz1 : w.heap.size + 1 < w1.heap.size := by have := ha.size; simp at this; omega
      have hz1' : w.heap.size < w1.heap.size := by omega
      obtain ⟨hc, hz⟩ := ha.cells w.heap.size (by simp; omega) (by omega)
      have c2 := ha.rd.c2
      have ho' : w1.ownsRow (w.heap.size + 2) 138 3 (.slice a rs.length c) rs.length xs := own_mono ho (by simp)
      have hR' : Ruls w1 (w.heap.size + 2) xs rs := hR.mono (by simp)
      clear ho hR
      have hlo := ha.rd.lo
      by_cases hm : m = -1
      · subst hm
        have HC : Hid (chk s = (0, 0)) := by unfold Hid chk; rw [if_neg h400, hf.out.2]; simp
        have gd : ((-1 : Int) != -1) = false := by decide
        go_wp2
        refine bodyPost_ret (v := .tuple #[.agg #[.slice a rs.length c], .int .i64 0, .int .i64 0]) (by simp [results, Tryz.results42, go_sem, hc, hz1']) rfl ⟨a, rs.length, c, by rw [HC.out], ?_, fun _ => ⟨rs, xs, rfl, ?_, ?_, hf.out.1⟩⟩
        · exact (hb1.setCell (by simp) _).alloc (by simp [World.setCell]; omega) _
        · exact own_mono ((ownsRow_setCell_below ho' (by simp) _).alloc _) (by omega)
        · exact (hR'.keep (fun e _ => (keeps_set _ (by simp) _ _).trans (keeps_alloc _ _ _ _))).mono (by omega)
      · have HC : Hid (chk s = (3, m)) := by unfold Hid chk; rw [if_neg h400, hf.out.2]; simp [hm]
        have gd : (m != -1) = true := by simp [hm]
        clear hm
        go_wp2
        go_region
        all_goals go_wp2
        all_goals refine bodyPost_ret (v := .tuple #[.agg #[.slice none 0 0], .int .i64 3, .int .i64 m]) (by simp [results, Tryz.results42, go_sem, hc, hz1']) rfl ⟨none, 0, 0, by rw [HC.out], ?_, ?_⟩
        all_goals first | (rw [HC.out]; intro h; simp at h; done) | skip
        all_goals repeat' (first | exact hb1 | refine Below.drew ?_ | refine Below.alloc ?_ (by simp [World.setCell]; omega) _ | refine Below.setCell ?_ (by simp) _)
    · have hb1 := ha.below hb0 (by omega)
      have hz1 : w.heap.size + 1 < w1.heap.size := by have := ha.size; simp at this; omega
      have hz1' : w.heap.size < w1.heap.size := by omega
      obtain ⟨hc, hz⟩ := ha.cells w.heap.size (by simp; omega) (by omega)
      have c1 := ha.rd.c1
      have HC : Hid (chk s = (2, (j : Int))) := by unfold Hid chk; rw [if_neg h400, hf.out]; simp
      go_wp2
      go_region
      all_goals go_wp2
      all_goals refine bodyPost_ret (v := .tuple #[.agg #[.slice none 0 0], .int .i64 2, .int .i64 j]) (by simp [results, Tryz.results42, go_sem, hc, hz1']) rfl ⟨none, 0, 0, by rw [HC.out], ?_, ?_⟩
      all_goals first | (rw [HC.out]; intro h; simp at h; done) | skip
      all_goals repeat' (first | exact hb1 | refine Below.drew ?_ | refine Below.alloc ?_ (by simp [World.setCell]; omega) _ | refine Below.setCell ?_ (by simp) _)

/-- Behind Check. -/
def CheckPost (w : World) (s : ByteArray) (e : Ending) (w' : World) : Prop := e = .returned (.tuple #[.int .i64 (chk s).1, .int .i64 (chk s).2]) ∧ Below w.heap.size w w'

set_option maxHeartbeats 1000000 in
theorem check_any (w : World) (s : ByteArray) (hs : s.size ≤ maxLen) :
    Calls Tryz.prog 52 #[.string s] w fun e w' => CheckPost w s e w' := by
  go_enter Tryz.func52, Tryz.ntmps52
  go_wp2_with fail
  refine (read_any _ s hs).mono ?_
  rintro e w1 ⟨a, n, c, rfl, hb, _⟩
  have hz := hb.size
  go_wp2_with fail
  go_ret2
  exact ⟨rfl, hb.alloc hz _⟩

end Go.Proofs.YtblfffbmklkhmaaGreat
