/- The reader's block, its frame. Own work. -/
import Derived.Test.YtblfffbmklkhmaaGreatRows
import Derived.WalkKit
import Derived.WalkSpells
import Derived.WalkLawsBesides
import Derived.Deep.QuietTactic
import Derived.BigQuiet
namespace Go.Proofs.YtblfffbmklkhmaaGreat
open Go.RowKit

/-- The reader's block: the text, the place, the first place above a bound. -/
structure Rd (w : World) (b : Nat) (s : ByteArray) (i : Nat) (m : Int) : Prop where
  blk : w.heap[b]? = some (.cells #[.string s, .int .i64 i, .int .i64 m] 146 (0, 0))
  le : i ≤ s.size
  top : s.size ≤ 400
  lo : -1 ≤ m
  hi : m ≤ 400

theorem cell_of_blk {w : World} {b k : Nat} {cs : Array Value} {t : TypeId} {z : Nat × Nat} {v : Value} (h : w.heap[b]? = some (.cells cs t z)) (hk : cs[k]? = some v) : w.cell? ⟨b, k, none⟩ = some v := by
  rw [cell_of_row w b k cs t z h]; exact hk

theorem frozen_of_blk {w : World} {b k : Nat} {cs : Array Value} {t : TypeId} (h : w.heap[b]? = some (.cells cs t (0, 0))) : w.frozen? ⟨b, k, none⟩ = false := by
  simp [World.frozen?, h]

theorem Rd.c0 {w : World} {b : Nat} {s : ByteArray} {i : Nat} {m : Int} (h : Rd w b s i m) : w.cell? ⟨b, 0, none⟩ = some (.string s) := cell_of_blk h.blk rfl
theorem Rd.c1 {w : World} {b : Nat} {s : ByteArray} {i : Nat} {m : Int} (h : Rd w b s i m) : w.cell? ⟨b, 1, none⟩ = some (.int .i64 i) := cell_of_blk h.blk rfl
theorem Rd.c2 {w : World} {b : Nat} {s : ByteArray} {i : Nat} {m : Int} (h : Rd w b s i m) : w.cell? ⟨b, 2, none⟩ = some (.int .i64 m) := cell_of_blk h.blk rfl
theorem Rd.fr {w : World} {b : Nat} {s : ByteArray} {i : Nat} {m : Int} (h : Rd w b s i m) (k : Nat) : w.frozen? ⟨b, k, none⟩ = false := frozen_of_blk h.blk

theorem heap_drewN (w : World) (n : Nat) : (w.drewN n).heap = w.heap := by
  simp

end Go.Proofs.YtblfffbmklkhmaaGreat
