/- What stays behind a call on the reader. Own work. -/
import Derived.Test.YtblfffbmklkhmaaGreatChars
namespace Go.Proofs.YtblfffbmklkhmaaGreat
open Go.RowKit

theorem gb_setNew {a w : World} {r : Option Nat} (h : a.grownBy w r) {p : Addr} (hp : a.heap.size ≤ p.block) (u : Value) : a.grownBy (w.setCell p u) r :=
  ⟨h.os, h.tape, h.output, by simpa [World.setCell] using h.size, fun k hk hn => (Below.heap_setCell _ _ _ _ (by omega)).trans (h.block k hk hn)⟩

theorem Rd.setOther {w : World} {b : Nat} {s : ByteArray} {i : Nat} {m : Int} (h : Rd w b s i m) {p : Addr} (hp : b ≠ p.block) (u : Value) : Rd (w.setCell p u) b s i m :=
  ⟨(Below.heap_setCell _ _ _ _ hp).trans h.blk, h.le, h.top, h.lo, h.hi⟩

theorem At.setNew {w w1 : World} {b : Nat} {s : ByteArray} {j : Nat} {m : Int} (h : At w w1 b s j m) (hb : b < w.heap.size) {p : Addr} (hp : w.heap.size ≤ p.block) (u : Value) : At w (w1.setCell p u) b s j m :=
  ⟨h.rd.setOther (by omega) u, gb_setNew h.gb hp u⟩

/-- What the call made of its own block ahead of the walk counts for nothing. -/
theorem At.ofAlloc {w w1 : World} {b : Nat} {s : ByteArray} {j : Nat} {m : Int} {o : Obj} (h : At (w.alloc o) w1 b s j m) : At w w1 b s j m :=
  ⟨h.rd, gb_trans (World.grownBy_alloc w o _) h.gb⟩

/-- The cells of a block that is not the reader's. -/
theorem At.cells {w w1 : World} {b : Nat} {s : ByteArray} {j : Nat} {m : Int} (h : At w w1 b s j m) (B : Nat) (hB : B < w.heap.size) (hn : B ≠ b) :
    (∀ o, w1.cell? ⟨B, o, none⟩ = w.cell? ⟨B, o, none⟩) ∧ (∀ o, w1.frozen? ⟨B, o, none⟩ = w.frozen? ⟨B, o, none⟩) :=
  ⟨fun o => World.cell?_of_block (a := ⟨B, o, none⟩) (h.gb.block B hB (by simp; omega)), fun o => World.frozen?_of_block (a := ⟨B, o, none⟩) (h.gb.block B hB (by simp; omega))⟩

theorem At.size {w w1 : World} {b : Nat} {s : ByteArray} {j : Nat} {m : Int} (h : At w w1 b s j m) : w.heap.size ≤ w1.heap.size := h.gb.size

set_option maxHeartbeats 400000 in
theorem letterPart_any (w : World) (b : Nat) (s : ByteArray) (i : Nat) (m kd : Int) (h : Rd w b s i m) :
    Calls Tryz.prog 224 #[.pointer (some ⟨b, 0, none⟩), .int .i64 kd] w fun e w' =>
      (e = .returned (.tuple #[.agg #[.bool false, .int .i64 kd, .int .u8 (bt s i), .int .i64 0, .int .i64 0], .bool true]) ∧ At w w' b s (i + 1) m ∧ Hid (isL (bt s i) = true ∧ i < s.size)) ∨
      (e = .returned (.tuple #[.agg #[.bool false, .int .i64 kd, .int .u8 0, .int .i64 0, .int .i64 0], .bool false]) ∧ At w w' b s i m ∧ Hid (isL (bt s i) = false)) := by
  have hb := h.lt
  go_enter Tryz.func224, Tryz.ntmps224
  go_wp2_with fail
  refine (letter_any _ b s i m (by exact h.alloc _)).mono ?_
  rintro e w1 (⟨rfl, ha, hf⟩ | ⟨rfl, ha, hf⟩)
  · obtain ⟨hc, hz⟩ := ha.cells w.heap.size (by simp) (by omega)
    go_wp2_with fail
    exact bodyPost_ret (v := .tuple #[.agg #[.bool false, .int .i64 kd, .int .u8 (bt s i), .int .i64 0, .int .i64 0], .bool true]) (by simp [results, Tryz.results224, go_sem, hc]) rfl
      (Or.inl ⟨rfl, (((((ha.ofAlloc.setNew hb (Nat.le_refl _) _).setNew hb (Nat.le_refl _) _).setNew hb (Nat.le_refl _) _).setNew hb (Nat.le_refl _) _).setNew hb (Nat.le_refl _) _), hf⟩)
  · obtain ⟨hc, hz⟩ := ha.cells w.heap.size (by simp) (by omega)
    go_wp2_with fail
    exact bodyPost_ret (v := .tuple #[.agg #[.bool false, .int .i64 kd, .int .u8 0, .int .i64 0, .int .i64 0], .bool false]) (by simp [results, Tryz.results224, go_sem, hc]) rfl
      (Or.inr ⟨rfl, (((((ha.ofAlloc.setNew hb (Nat.le_refl _) _).setNew hb (Nat.le_refl _) _).setNew hb (Nat.le_refl _) _).setNew hb (Nat.le_refl _) _).setNew hb (Nat.le_refl _) _), hf⟩)

end Go.Proofs.YtblfffbmklkhmaaGreat
