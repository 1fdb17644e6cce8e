/- The statements' own walk: one step. Own work. -/
import Derived.Test.YtblfffbmklkhmaaGreatRefRead
namespace Go.Proofs.YtblfffbmklkhmaaGreat
open Go.RowKit

set_option maxHeartbeats 400000 in
theorem num_any (w : World) (n : Int) : Calls Tryz.prog 54 #[.int .i64 n] w fun e w' => e = .returned (.int .i64 n) ∧ w' = w := by
  go_enter Tryz.func54, Tryz.ntmps54
  go_wp2
  go_ret
  exact ⟨rfl, rfl⟩

theorem bcell {W w1 : World} (hb : Below W.heap.size W w1) (B : Nat) (h : B < W.heap.size) : (∀ o, w1.cell? ⟨B, o, none⟩ = W.cell? ⟨B, o, none⟩) ∧ (∀ o, w1.frozen? ⟨B, o, none⟩ = W.frozen? ⟨B, o, none⟩) :=
  ⟨fun o => hb.cell (p := ⟨B, o, none⟩) h, fun o => hb.frozen (p := ⟨B, o, none⟩) h⟩

def StepPost (w : World) (e : Ending) (w' : World) : Prop := e = .returned (.bool true) ∧ Below w.heap.size w w'

set_option maxRecDepth 100000 in
set_option maxHeartbeats 2000000 in
theorem step_check (w : World) (p : Option Addr) (k1 k2 k3 k4 : Int) (s t : ByteArray) (o : Bool) (hs : s.size ≤ maxLen) :
    Calls Tryz.prog 33 #[.pointer p, .agg #[.int .i64 1, .int .i64 k1, .int .i64 k2, .int .i64 k3, .int .i64 k4, .string s, .string t, .bool o]] w fun e w' => StepPost w e w' := by
  go_enter Tryz.func33, Tryz.ntmps33
  go_wp2_with fail
  refine (check_any _ s hs).mono ?_
  rintro e w1 ⟨rfl, hb1⟩
  obtain ⟨hc, hf⟩ := bcell hb1 w.heap.size (by simp)
  have hz1 := hb1.size
  go_wp2_with fail
  refine (refcheck_any _ s hs).mono ?_
  rintro e w2 ⟨rfl, hb2⟩
  have hb3 : Below w.heap.size w w2 := (((Below.refl _ _).alloc (Nat.le_refl _) _).trans (hb1.mono (by simp))).trans (hb2.mono (by simp at hz1; omega))
  generalize (chk s).1 = x
  generalize (chk s).2 = y
  have hx : (x == x) = true := by simp
  have hy : (y == y) = true := by simp
  clear hc hf hb1 hb2
  go_wp2_with fail
  refine (num_any _ x).mono ?_
  rintro e w3 ⟨rfl, rfl⟩
  go_wp2_with fail
  refine (num_any _ x).mono ?_
  rintro e w4 ⟨rfl, rfl⟩
  go_wp2_with fail
  go_ret
  exact ⟨by simp, hb3⟩

/-- The statements' world, empty. -/
def Wd (w : World) (b : Nat) : Prop := w.heap[b]? = some (.cells #[.slice none 0 0, .slice none 0 0, .slice none 0 0, .int .i64 0] 67 (0, 0))

set_option maxHeartbeats 1000000 in
theorem ends_any (w : World) (b : Nat) (hi : Int) (h : Wd w b) :
    Calls Tryz.prog 34 #[.pointer (some ⟨b, 0, none⟩), .int .i64 hi] w fun e w' => e = .returned (.bool true) ∧ w' = w := by
  have c0 : w.cell? ⟨b, 0, none⟩ = some (.slice none 0 0) := cell_of_blk h rfl
  go_enter Tryz.func34, Tryz.ntmps34
  go_wp2
  refine wp_loop_rounds 1 ?_
  rw [rounds_succ]
  go_wp2
  go_ret
  exact ⟨rfl, rfl⟩

set_option maxHeartbeats 1000000 in
theorem looks_any (w : World) (b : Nat) (h : Wd w b) :
    Calls Tryz.prog 35 #[.pointer (some ⟨b, 0, none⟩)] w fun e w' => e = .returned (.bool true) ∧ w' = w := by
  have c1 : w.cell? ⟨b, 1, none⟩ = some (.slice none 0 0) := cell_of_blk h rfl
  go_enter Tryz.func35, Tryz.ntmps35
  go_wp2
  refine wp_loop_rounds 1 ?_
  rw [rounds_succ]
  go_wp2
  go_ret
  exact ⟨rfl, rfl⟩

end Go.Proofs.YtblfffbmklkhmaaGreat
