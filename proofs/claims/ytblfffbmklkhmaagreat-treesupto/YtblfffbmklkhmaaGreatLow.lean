/- The reader's small steps. Own work. -/
import Derived.Test.YtblfffbmklkhmaaGreatBase
import Derived.Test.YtblfffbmklkhmaaGreatAuto
namespace Go.Proofs.YtblfffbmklkhmaaGreat
open Go.RowKit

theorem gb_refl (w : World) (r : Option Nat) : w.grownBy w r := ⟨rfl, rfl, rfl, Nat.le_refl _, fun _ _ _ => rfl⟩
theorem gb_drewN {a w : World} {r : Option Nat} (h : a.grownBy w r) (n : Nat) : a.grownBy (w.drewN n) r := ⟨h.os, h.tape, h.output, h.size, h.block⟩
theorem gb_drew {a w : World} {r : Option Nat} (h : a.grownBy w r) : a.grownBy w.drew r := ⟨h.os, h.tape, h.output, h.size, h.block⟩
theorem gb_trans {a b c : World} {r : Option Nat} (h : a.grownBy b r) (k : b.grownBy c r) : a.grownBy c r :=
  ⟨k.os.trans h.os, k.tape.trans h.tape, k.output.trans h.output, Nat.le_trans h.size k.size, fun i hi hn => (k.block i (Nat.lt_of_lt_of_le hi h.size) hn).trans (h.block i hi hn)⟩
theorem gb_set {a w : World} {b : Nat} (h : a.grownBy w (some b)) (o : Nat) (u : Value) : a.grownBy (w.setCell ⟨b, o, none⟩ u) (some b) :=
  gb_trans h ⟨rfl, rfl, rfl, by simp [World.setCell], fun k _ hk => Below.heap_setCell _ _ _ _ (fun e => hk (by rw [e]))⟩
theorem gb_alloc {a w : World} {r : Option Nat} (h : a.grownBy w r) (o : Obj) : a.grownBy (w.alloc o) r := gb_trans h (World.grownBy_alloc w o r)

theorem Rd.drewN {w : World} {b : Nat} {s : ByteArray} {i : Nat} {m : Int} (h : Rd w b s i m) (n : Nat) : Rd (w.drewN n) b s i m := ⟨by simpa using h.blk, h.le, h.top, h.lo, h.hi⟩
theorem Rd.drew {w : World} {b : Nat} {s : ByteArray} {i : Nat} {m : Int} (h : Rd w b s i m) : Rd w.drew b s i m := ⟨h.blk, h.le, h.top, h.lo, h.hi⟩
theorem Rd.lt {w : World} {b : Nat} {s : ByteArray} {i : Nat} {m : Int} (h : Rd w b s i m) : b < w.heap.size := (Array.getElem?_eq_some_iff.1 h.blk).1

theorem heap_setCell_row {w : World} {b o : Nat} {cs : Array Value} {t : TypeId} {z : Nat × Nat} (h : w.heap[b]? = some (.cells cs t z)) (u : Value) :
    (w.setCell ⟨b, o, none⟩ u).heap[b]? = some (.cells (cs.setIfInBounds o u) t z) := by
  simp only [World.setCell, Array.getElem?_modify, if_true, h]
  rfl

theorem Rd.setAt {w : World} {b : Nat} {s : ByteArray} {i : Nat} {m : Int} (h : Rd w b s i m) {j : Nat} (hj : j ≤ s.size) {v : Int} (hv : v = j) : Rd (w.setCell ⟨b, 1, none⟩ (.int .i64 v)) b s j m := by
  subst hv
  refine ⟨?_, hj, h.top, h.lo, h.hi⟩
  rw [heap_setCell_row h.blk]
  rfl

theorem Rd.setMany {w : World} {b : Nat} {s : ByteArray} {i : Nat} {m : Int} (h : Rd w b s i m) : Rd (w.setCell ⟨b, 2, none⟩ (.int .i64 i)) b s i i := by
  refine ⟨?_, h.le, h.top, by omega, by have := h.le; have := h.top; omega⟩
  rw [heap_setCell_row h.blk]
  rfl

/-- Behind a call on the reader: it stands at j, m is what it was or has become, all else is as it was. -/
structure At (w w' : World) (b : Nat) (s : ByteArray) (j : Nat) (m : Int) : Prop where
  rd : Rd w' b s j m
  gb : w.grownBy w' (some b)

set_option maxHeartbeats 400000 in
theorem ended_any (w : World) (b : Nat) (s : ByteArray) (i : Nat) (m : Int) (h : Rd w b s i m) :
    Calls Tryz.prog 122 #[.pointer (some ⟨b, 0, none⟩)] w fun e w' => e = .returned (.bool (decide (s.size ≤ i))) ∧ ∃ n, w' = w.drewN n := by
  have c0 := h.c0
  have c1 := h.c1
  have hle := h.le
  have htop := h.top
  go_enter Tryz.func122, Tryz.ntmps122
  go_wp2
  go_quiet (fail)
  go_wp2
  go_ret
  exact ⟨by simp, ⟨_, rfl⟩⟩

set_option maxHeartbeats 400000 in
theorem peek_any (w : World) (b : Nat) (s : ByteArray) (i : Nat) (m : Int) (h : Rd w b s i m) :
    Calls Tryz.prog 204 #[.pointer (some ⟨b, 0, none⟩)] w fun e w' => e = .returned (.int .u8 (bt s i)) ∧ ∃ n, w' = w.drewN n := by
  have c0 := h.c0
  have c1 := h.c1
  have hle := h.le
  have htop := h.top
  have h0 : decide ((i : Int) < 0) = false := by simp
  by_cases hlt : i < s.size
  · have hd : decide (s.size ≤ i) = false := by simpa using hlt
    rw [bt_at s i hlt]
    go_enter Tryz.func204, Tryz.ntmps204
    go_wp2
    go_quiet (fail)
    go_wp2
    go_quiet (fail)
    go_wp2
    go_ret
    exact ⟨by simp, ⟨_, World.drewN_drewN _ _ _⟩⟩
  · rw [bt_end s i (by omega)]
    have hd : s.size ≤ i := by omega
    go_enter Tryz.func204, Tryz.ntmps204
    go_wp2
    go_quiet (fail)
    go_wp2
    go_ret
    exact ⟨by simp, ⟨_, rfl⟩⟩

end Go.Proofs.YtblfffbmklkhmaaGreat
