/- Own work. -/
import Derived.Test.YtblfffbmklkhmaaGreatRows
import Derived.WalkKit
import Derived.WalkSpells
import Derived.WalkLawsBesides
import Derived.Deep.QuietTactic
import Derived.BigQuiet
namespace Go.Proofs.YtblfffbmklkhmaaGreat
open Go.RowKit
/-- The reader's block: the text, the place, the first place above a bound. -/
structure Rd (w : World) (b : Nat) (s : ByteArray) (i : Nat) (m : Int) : Prop where
  blk : w.heap[b]? = some (.cells #[.string s, .int .i64 i, .int .i64 m] 146 (0, 0))
  le : i ≤ s.size
  top : s.size ≤ 400
  lo : -1 ≤ m
  hi : m ≤ 400
theorem cell_of_blk {w : World} {b k : Nat} {cs : Array Value} {t : TypeId} {z : Nat × Nat} {v : Value} (h : w.heap[b]? = some (.cells cs t z)) (hk : cs[k]? = some v) : w.cell? ⟨b, k, none⟩ = some v := by
  rw [cell_of_row w b k cs t z h]; exact hk
theorem frozen_of_blk {w : World} {b k : Nat} {cs : Array Value} {t : TypeId} (h : w.heap[b]? = some (.cells cs t (0, 0))) : w.frozen? ⟨b, k, none⟩ = false := by
  simp [World.frozen?, h]
theorem Rd.c0 {w : World} {b : Nat} {s : ByteArray} {i : Nat} {m : Int} (h : Rd w b s i m) : w.cell? ⟨b, 0, none⟩ = some (.string s) := cell_of_blk h.blk rfl
theorem Rd.c1 {w : World} {b : Nat} {s : ByteArray} {i : Nat} {m : Int} (h : Rd w b s i m) : w.cell? ⟨b, 1, none⟩ = some (.int .i64 i) := cell_of_blk h.blk rfl
theorem Rd.c2 {w : World} {b : Nat} {s : ByteArray} {i : Nat} {m : Int} (h : Rd w b s i m) : w.cell? ⟨b, 2, none⟩ = some (.int .i64 m) := cell_of_blk h.blk rfl
theorem Rd.fr {w : World} {b : Nat} {s : ByteArray} {i : Nat} {m : Int} (h : Rd w b s i m) (k : Nat) : w.frozen? ⟨b, k, none⟩ = false := frozen_of_blk h.blk
end Go.Proofs.YtblfffbmklkhmaaGreat

namespace Go.Proofs.YtblfffbmklkhmaaGreat
/-- The byte at a place; 0 behind the end. -/
def bt (s : ByteArray) (i : Nat) : Nat := if h : i < s.size then s[i].toNat else 0
theorem bt_lt (s : ByteArray) (i : Nat) : bt s i < 256 := by
  unfold bt; split
  · exact s[i].toNat_lt
  · omega
theorem bt_end (s : ByteArray) (i : Nat) (h : s.size ≤ i) : bt s i = 0 := by
  unfold bt; rw [dif_neg (by omega)]
theorem bt_at (s : ByteArray) (i : Nat) (h : i < s.size) : bt s i = s[i].toNat := by
  unfold bt; rw [dif_pos h]
def isL (c : Nat) : Bool := decide (97 ≤ c ∧ c ≤ 122)
def isD (c : Nat) : Bool := decide (48 ≤ c ∧ c ≤ 57)
def isV (c : Nat) : Bool := decide (88 ≤ c ∧ c ≤ 90)
def isP (c : Nat) : Bool := decide (65 ≤ c ∧ c ≤ 70) || isV c
def isS (c : Nat) : Bool := decide (c = 32 ∨ c = 62 ∨ c = 43 ∨ c = 126)
def isA (c : Nat) : Bool := decide (c = 46 ∨ c = 35 ∨ c = 58 ∨ c = 33)
def partN (c : Nat) : Int := if c = 46 ∨ c = 35 then 4 else if c = 58 then 5 else -1
def closeN (c : Nat) : Int := if c = 59 then 10 else if c = 125 then 0 else -1
def markN (c : Nat) : Int := if c = 33 then 16 else closeN c
def compN (c : Nat) : Int := if isL c = true ∨ c = 42 then 3 else if c = 33 then 8 else partN c
def moreN (c : Nat) : Int := if c = 33 then 8 else if isS c = true ∨ c = 44 then 2 else if c = 123 then 9 else partN c
def propN (c : Nat) : Int := if isP c = true then 11 else -1
def wh (b : Bool) (n : Int) : Int := if b = true then n else -1
/-- What may come behind a byte (18: a rule whose beginning has been noted). -/
def nxt (m : Int) (c : Nat) : Int :=
  if m = 0 then (if c = 64 then 1 else compN c)
  else if m = 18 then (if c = 64 then 1 else compN c)
  else if m = 1 then wh (isD c) 2
  else if m = 2 then compN c
  else if m = 3 then moreN c
  else if m = 4 then wh (isL c) 3
  else if m = 5 then (if c = 110 then 6 else wh (decide (c = 102 ∨ c = 108 ∨ c = 101)) 3)
  else if m = 6 then wh (isD c) 7
  else if m = 7 then wh (isD c) 3
  else if m = 8 then (if isL c = true then 3 else partN c)
  else if m = 9 then (if c = 125 then 0 else propN c)
  else if m = 10 then propN c
  else if m = 11 then wh (decide (c = 58)) 12
  else if m = 12 then (if isD c = true then 13 else if c = 36 then 17 else wh (decide (c = 105 ∨ c = 114 ∨ c = 117)) 15)
  else if m = 13 then (if isD c = true then 14 else markN c)
  else if m = 14 then (if isD c = true then 15 else markN c)
  else if m = 15 then markN c
  else if m = 16 then closeN c
  else if m = 17 then wh (isV c) 15
  else -1
/-- The counts: rules, compounds of the selector, the first place above a bound (-1: none). -/
structure Cn where
  nr : Nat
  nc : Nat
  mn : Int
def note (mn : Int) (i : Nat) : Int := if mn = -1 then i else mn
def noteIf (b : Bool) (mn : Int) (i : Nat) : Int := if b = true then note mn i else mn
def cnt (m : Int) (c i : Nat) (k : Cn) : Cn :=
  if m = 0 then ⟨k.nr + 1, 1, noteIf (decide (k.nr = 20)) k.mn i⟩
  else if m = 18 ∨ m = 1 then ⟨k.nr, 1, k.mn⟩
  else if m = 3 then (if isS c = true then ⟨k.nr, k.nc + 1, noteIf (decide (k.nc = 4)) k.mn (i + 1)⟩ else if c = 44 then ⟨k.nr, 1, k.mn⟩ else k)
  else k
def Vf (s : ByteArray) : Nat → Int → Cn → Nat → Int × Int
  | 0, m, k, i => if m = 0 then (-1, k.mn) else ((i : Int), -1)
  | f + 1, m, k, i => if nxt m (bt s i) = -1 then ((i : Int), -1) else Vf s f (nxt m (bt s i)) (cnt m (bt s i) i k) (i + 1)
/-- What comes of a text from a place on: the place of the first wrong byte (-1: none), the first place above a bound. -/
def V (s : ByteArray) (m : Int) (k : Cn) (i : Nat) : Int × Int := Vf s (s.size - i) m k i
theorem V_go {s : ByteArray} {m m' : Int} {k : Cn} {i : Nat} (hi : i < s.size) (h : nxt m (bt s i) = m') (hm : m' ≠ -1) : V s m k i = V s m' (cnt m (bt s i) i k) (i + 1) := by
  unfold V
  obtain ⟨f, hf⟩ : ∃ f, s.size - i = f + 1 := ⟨s.size - i - 1, by omega⟩
  rw [hf, show s.size - (i + 1) = f from by omega]
  show (if nxt m (bt s i) = -1 then _ else _) = _
  rw [if_neg (by rw [h]; exact hm), h]
theorem V_stop {s : ByteArray} {m : Int} {k : Cn} {i : Nat} (hi : i < s.size) (h : nxt m (bt s i) = -1) : V s m k i = ((i : Int), -1) := by
  unfold V
  obtain ⟨f, hf⟩ : ∃ f, s.size - i = f + 1 := ⟨s.size - i - 1, by omega⟩
  rw [hf]
  show (if nxt m (bt s i) = -1 then _ else _) = _
  rw [if_pos h]
theorem V_end {s : ByteArray} {m : Int} {k : Cn} {i : Nat} (hi : s.size ≤ i) : V s m k i = if m = 0 then (-1, k.mn) else ((i : Int), -1) := by
  unfold V
  rw [show s.size - i = 0 from by omega]
  rfl
/-- A byte that cannot stand there, or the end. -/
theorem V_no {s : ByteArray} {m : Int} {k : Cn} {i : Nat} (hm : m ≠ 0) (h : nxt m (bt s i) = -1) : V s m k i = ((i : Int), -1) := by
  by_cases hi : i < s.size
  · exact V_stop hi h
  · rw [V_end (by omega), if_neg hm]
theorem nxt_zero (m : Int) : nxt m 0 = -1 := by
  simp [nxt, compN, moreN, partN, propN, markN, closeN, wh, isD, isL, isV, isP, isS]
/-- Two modes that take the byte alike. -/
theorem V_same {s : ByteArray} {m m' : Int} {k k' : Cn} {i : Nat} (hm : m ≠ 0) (hm' : m' ≠ 0) (h : nxt m (bt s i) = nxt m' (bt s i)) (hk : cnt m (bt s i) i k = cnt m' (bt s i) i k') : V s m k i = V s m' k' i := by
  by_cases hn : nxt m (bt s i) = -1
  · rw [V_no hm hn, V_no hm' (by rw [← h]; exact hn)]
  · by_cases hi : i < s.size
    · rw [V_go hi rfl hn, V_go (m := m') hi h.symm hn, hk]
    · exact absurd (by rw [bt_end s i (by omega)]; exact nxt_zero m) hn
theorem V_rule {s : ByteArray} {k : Cn} {i : Nat} (hi : i < s.size) : V s 0 k i = V s 18 ⟨k.nr + 1, 1, noteIf (decide (k.nr = 20)) k.mn i⟩ i := by
  by_cases hn : nxt 0 (bt s i) = -1
  · rw [V_stop hi hn, V_stop (m := 18) hi (by simpa [nxt] using hn)]
  · rw [V_go hi rfl hn, V_go (m := 18) (m' := nxt 0 (bt s i)) hi (by simp [nxt]) hn]
    simp [cnt]
end Go.Proofs.YtblfffbmklkhmaaGreat

namespace Go.Proofs.YtblfffbmklkhmaaGreat
open Go.RowKit
theorem gb_refl (w : World) (r : Option Nat) : w.grownBy w r := ⟨rfl, rfl, rfl, Nat.le_refl _, fun _ _ _ => rfl⟩
theorem gb_drewN {a w : World} {r : Option Nat} (h : a.grownBy w r) (n : Nat) : a.grownBy (w.drewN n) r := ⟨h.os, h.tape, h.output, h.size, h.block⟩
theorem gb_trans {a b c : World} {r : Option Nat} (h : a.grownBy b r) (k : b.grownBy c r) : a.grownBy c r :=
  ⟨k.os.trans h.os, k.tape.trans h.tape, k.output.trans h.output, Nat.le_trans h.size k.size, fun i hi hn => (k.block i (Nat.lt_of_lt_of_le hi h.size) hn).trans (h.block i hi hn)⟩
theorem gb_set {a w : World} {b : Nat} (h : a.grownBy w (some b)) (o : Nat) (u : Value) : a.grownBy (w.setCell ⟨b, o, none⟩ u) (some b) :=
  gb_trans h ⟨rfl, rfl, rfl, by simp [World.setCell], fun k _ hk => Below.heap_setCell _ _ _ _ (fun e => hk (by rw [e]))⟩
theorem gb_alloc {a w : World} {r : Option Nat} (h : a.grownBy w r) (o : Obj) : a.grownBy (w.alloc o) r := gb_trans h (World.grownBy_alloc w o r)
theorem Rd.drewN {w : World} {b : Nat} {s : ByteArray} {i : Nat} {m : Int} (h : Rd w b s i m) (n : Nat) : Rd (w.drewN n) b s i m := ⟨by simpa using h.blk, h.le, h.top, h.lo, h.hi⟩
theorem Rd.lt {w : World} {b : Nat} {s : ByteArray} {i : Nat} {m : Int} (h : Rd w b s i m) : b < w.heap.size := (Array.getElem?_eq_some_iff.1 h.blk).1
theorem heap_setCell_row {w : World} {b o : Nat} {cs : Array Value} {t : TypeId} {z : Nat × Nat} (h : w.heap[b]? = some (.cells cs t z)) (u : Value) :
    (w.setCell ⟨b, o, none⟩ u).heap[b]? = some (.cells (cs.setIfInBounds o u) t z) := by
  simp only [World.setCell, Array.getElem?_modify, if_true, h]
  rfl
theorem Rd.setAt {w : World} {b : Nat} {s : ByteArray} {i : Nat} {m : Int} (h : Rd w b s i m) {j : Nat} (hj : j ≤ s.size) {v : Int} (hv : v = j) : Rd (w.setCell ⟨b, 1, none⟩ (.int .i64 v)) b s j m := by
  subst hv
  refine ⟨?_, hj, h.top, h.lo, h.hi⟩
  rw [heap_setCell_row h.blk]
  rfl
theorem Rd.setMany {w : World} {b : Nat} {s : ByteArray} {i : Nat} {m : Int} (h : Rd w b s i m) : Rd (w.setCell ⟨b, 2, none⟩ (.int .i64 i)) b s i i := by
  refine ⟨?_, h.le, h.top, by omega, by have := h.le; have := h.top; omega⟩
  rw [heap_setCell_row h.blk]
  rfl
/-- Behind a call on the reader: it stands at j, m is what it was or has become, all else is as it was. -/
structure At (w w' : World) (b : Nat) (s : ByteArray) (j : Nat) (m : Int) : Prop where
  rd : Rd w' b s j m
  gb : w.grownBy w' (some b)
set_option maxHeartbeats 400000 in
theorem ended_any (w : World) (b : Nat) (s : ByteArray) (i : Nat) (m : Int) (h : Rd w b s i m) :
    Calls Tryz.prog 122 #[.pointer (some ⟨b, 0, none⟩)] w fun e w' => e = .returned (.bool (decide (s.size ≤ i))) ∧ ∃ n, w' = w.drewN n := by
  have c0 := h.c0
  have c1 := h.c1
  have hle := h.le
  have htop := h.top
  go_enter Tryz.func122, Tryz.ntmps122
  go_wp2
  go_quiet (fail)
  go_wp2
  go_ret
  exact ⟨by simp, ⟨_, rfl⟩⟩
set_option maxHeartbeats 400000 in
theorem peek_any (w : World) (b : Nat) (s : ByteArray) (i : Nat) (m : Int) (h : Rd w b s i m) :
    Calls Tryz.prog 204 #[.pointer (some ⟨b, 0, none⟩)] w fun e w' => e = .returned (.int .u8 (bt s i)) ∧ ∃ n, w' = w.drewN n := by
  have c0 := h.c0
  have c1 := h.c1
  have hle := h.le
  have htop := h.top
  have h0 : decide ((i : Int) < 0) = false := by simp
  by_cases hlt : i < s.size
  · have hd : decide (s.size ≤ i) = false := by simpa using hlt
    rw [bt_at s i hlt]
    go_enter Tryz.func204, Tryz.ntmps204
    go_wp2
    go_quiet (fail)
    go_wp2
    go_quiet (fail)
    go_wp2
    go_ret
    exact ⟨by simp, ⟨_, World.drewN_drewN _ _ _⟩⟩
  · rw [bt_end s i (by omega)]
    have hd : s.size ≤ i := by omega
    go_enter Tryz.func204, Tryz.ntmps204
    go_wp2
    go_quiet (fail)
    go_wp2
    go_ret
    exact ⟨by simp, ⟨_, rfl⟩⟩
end Go.Proofs.YtblfffbmklkhmaaGreat

namespace Go.Proofs.YtblfffbmklkhmaaGreat
open Go.RowKit
set_option maxHeartbeats 400000 in
theorem noteMany_any (w : World) (b : Nat) (s : ByteArray) (i : Nat) (m : Int) (h : Rd w b s i m) :
    Calls Tryz.prog 123 #[.pointer (some ⟨b, 0, none⟩)] w fun e w' => e = .returned (.tuple #[]) ∧ At w w' b s i (note m i) := by
  have c1 := h.c1
  have c2 := h.c2
  have f2 := h.fr 2
  by_cases hm : m = -1
  · subst hm
    have hd : ((-1 : Int) == -1) = true := rfl
    go_enter Tryz.func123, Tryz.ntmps123
    go_wp2
    go_end0
    exact ⟨rfl, by simpa [note] using h.setMany, gb_set (gb_refl _ _) _ _⟩
  · have hd : (m == -1) = false := by simp [hm]
    go_enter Tryz.func123, Tryz.ntmps123
    go_wp2
    go_end0
    exact ⟨rfl, by simpa [note, hm] using h, gb_refl _ _⟩
set_option maxHeartbeats 400000 in
theorem takeBetween_any (w : World) (b : Nat) (s : ByteArray) (i : Nat) (m : Int) (lo hi : Int) (h : Rd w b s i m) (hlo : 1 ≤ lo) :
    Calls Tryz.prog 191 #[.pointer (some ⟨b, 0, none⟩), .int .u8 lo, .int .u8 hi] w fun e w' =>
      (e = .returned (.tuple #[.int .u8 (bt s i), .bool true]) ∧ At w w' b s (i + 1) m ∧ Hid (lo ≤ (bt s i : Int) ∧ (bt s i : Int) ≤ hi ∧ i < s.size)) ∨
        (e = .returned (.tuple #[.int .u8 0, .bool false]) ∧ At w w' b s i m ∧ Hid (¬ (lo ≤ (bt s i : Int) ∧ (bt s i : Int) ≤ hi))) := by
  have c1 := h.c1
  have f1 := h.fr 1
  have hle := h.le
  have htop := h.top
  have hb := bt_lt s i
  by_cases hlt : i < s.size
  · have hd : decide (s.size ≤ i) = false := by simpa using hlt
    by_cases h1 : lo ≤ (bt s i : Int)
    · by_cases h2 : (bt s i : Int) ≤ hi
      · go_enter Tryz.func191, Tryz.ntmps191
        go_wp2_with fail
        refine (ended_any _ b s i m (by exact h)).mono ?_
        rintro e w1 ⟨rfl, n1, rfl⟩
        go_wp2_with fail
        refine (peek_any _ b s i m (by exact h.drewN _)).mono ?_
        rintro e w2 ⟨rfl, n2, rfl⟩
        go_wp2_with fail
        go_ret2
        exact Or.inl ⟨rfl, ⟨(by first | exact ((h.drewN _).drewN _).setAt (by omega) (by omega) | exact (h.drewN _).setAt (by omega) (by omega)), gb_set (by first | exact gb_drewN (gb_drewN (gb_refl _ _) _) _ | exact gb_drewN (gb_refl _ _) _) _ _⟩, ⟨h1, h2, hlt⟩⟩
      · go_enter Tryz.func191, Tryz.ntmps191
        go_wp2_with fail
        refine (ended_any _ b s i m (by exact h)).mono ?_
        rintro e w1 ⟨rfl, n1, rfl⟩
        go_wp2_with fail
        refine (peek_any _ b s i m (by exact h.drewN _)).mono ?_
        rintro e w2 ⟨rfl, n2, rfl⟩
        go_wp2_with fail
        go_ret2
        exact Or.inr ⟨rfl, ⟨(by first | exact ((h.drewN _).drewN _) | exact (h.drewN _)), (by first | exact gb_drewN (gb_drewN (gb_refl _ _) _) _ | exact gb_drewN (gb_refl _ _) _)⟩, (by unfold Hid; omega)⟩
    · go_enter Tryz.func191, Tryz.ntmps191
      go_wp2_with fail
      refine (ended_any _ b s i m (by exact h)).mono ?_
      rintro e w1 ⟨rfl, n1, rfl⟩
      go_wp2_with fail
      refine (peek_any _ b s i m (by exact h.drewN _)).mono ?_
      rintro e w2 ⟨rfl, n2, rfl⟩
      go_wp2_with fail
      go_ret2
      exact Or.inr ⟨rfl, ⟨(by first | exact ((h.drewN _).drewN _) | exact (h.drewN _)), (by first | exact gb_drewN (gb_drewN (gb_refl _ _) _) _ | exact gb_drewN (gb_refl _ _) _)⟩, (by unfold Hid; omega)⟩
  · have hd : s.size ≤ i := by omega
    have h0 := bt_end s i hd
    have h0' : ¬ (lo ≤ (bt s i : Int) ∧ (bt s i : Int) ≤ hi) := by omega
    clear h0
    go_enter Tryz.func191, Tryz.ntmps191
    go_wp2_with fail
    refine (ended_any _ b s i m (by exact h)).mono ?_
    rintro e w1 ⟨rfl, n1, rfl⟩
    go_wp2_with fail
    go_ret2
    exact Or.inr ⟨rfl, ⟨h.drewN _, gb_drewN (gb_refl _ _) _⟩, h0'⟩
end Go.Proofs.YtblfffbmklkhmaaGreat

namespace Go.Proofs.YtblfffbmklkhmaaGreat
open Go.RowKit
theorem At.trans {w w1 w2 : World} {b : Nat} {s : ByteArray} {j k : Nat} {m n : Int} (h : At w w1 b s j m) (h2 : At w1 w2 b s k n) : At w w2 b s k n := ⟨h2.rd, gb_trans h.gb h2.gb⟩
theorem At.drewN {w w1 : World} {b : Nat} {s : ByteArray} {j : Nat} {m : Int} (h : At w w1 b s j m) (n : Nat) : At w (w1.drewN n) b s j m := ⟨h.rd.drewN n, gb_drewN h.gb n⟩
theorem Rd.at0 {w : World} {b : Nat} {s : ByteArray} {j : Nat} {m : Int} (h : Rd w b s j m) : At w w b s j m := ⟨h, gb_refl _ _⟩
theorem At.setAt {w w1 : World} {b : Nat} {s : ByteArray} {i j : Nat} {m : Int} (h : At w w1 b s i m) (hj : j ≤ s.size) {v : Int} (hv : v = j) : At w (w1.setCell ⟨b, 1, none⟩ (.int .i64 v)) b s j m := ⟨h.rd.setAt hj hv, gb_set h.gb _ _⟩
theorem Rd.alloc {w : World} {b : Nat} {s : ByteArray} {i : Nat} {m : Int} (h : Rd w b s i m) (o : Obj) : Rd (w.alloc o) b s i m := ⟨(Below.heap_alloc w o b h.lt).trans h.blk, h.le, h.top, h.lo, h.hi⟩
theorem At.alloc {w w1 : World} {b : Nat} {s : ByteArray} {j : Nat} {m : Int} (h : At w w1 b s j m) (o : Obj) : At w (w1.alloc o) b s j m := ⟨h.rd.alloc o, gb_alloc h.gb o⟩
set_option maxHeartbeats 400000 in
theorem take_any (w : World) (b : Nat) (s : ByteArray) (i : Nat) (m : Int) (lo : Int) (h : Rd w b s i m) (hlo : 1 ≤ lo) :
    Calls Tryz.prog 177 #[.pointer (some ⟨b, 0, none⟩), .int .u8 lo] w fun e w' =>
      (e = .returned (.bool true) ∧ At w w' b s (i + 1) m ∧ Hid ((bt s i : Int) = lo ∧ i < s.size)) ∨ (e = .returned (.bool false) ∧ At w w' b s i m ∧ Hid ((bt s i : Int) ≠ lo)) := by
  go_enter Tryz.func177, Tryz.ntmps177
  go_wp2_with fail
  refine (takeBetween_any _ b s i m lo lo (by exact h) hlo).mono ?_
  rintro e w1 (⟨rfl, ha, hf⟩ | ⟨rfl, ha, hf⟩)
  · go_wp2_with fail
    go_ret
    exact Or.inl ⟨rfl, ha, (by unfold Hid at *; omega)⟩
  · go_wp2_with fail
    go_ret
    exact Or.inr ⟨rfl, ha, (by unfold Hid at *; omega)⟩
set_option maxHeartbeats 400000 in
theorem letter_any (w : World) (b : Nat) (s : ByteArray) (i : Nat) (m : Int) (h : Rd w b s i m) :
    Calls Tryz.prog 205 #[.pointer (some ⟨b, 0, none⟩)] w fun e w' =>
      (e = .returned (.tuple #[.int .u8 (bt s i), .bool true]) ∧ At w w' b s (i + 1) m ∧ Hid (isL (bt s i) = true ∧ i < s.size)) ∨
      (e = .returned (.tuple #[.int .u8 0, .bool false]) ∧ At w w' b s i m ∧ Hid (isL (bt s i) = false)) := by
  go_enter Tryz.func205, Tryz.ntmps205
  go_wp2_with fail
  refine (takeBetween_any _ b s i m 97 122 (by exact h) (by decide)).mono ?_
  rintro e w1 (⟨rfl, ha, hf⟩ | ⟨rfl, ha, hf⟩)
  · go_wp2_with fail
    go_ret2
    exact Or.inl ⟨rfl, ha, (by unfold Hid at *; simp only [isL, decide_eq_true_eq]; omega)⟩
  · go_wp2_with fail
    go_ret2
    exact Or.inr ⟨rfl, ha, (by unfold Hid at *; simp only [isL, decide_eq_false_iff_not]; omega)⟩
set_option maxHeartbeats 400000 in
theorem variable_any (w : World) (b : Nat) (s : ByteArray) (i : Nat) (m : Int) (h : Rd w b s i m) :
    Calls Tryz.prog 214 #[.pointer (some ⟨b, 0, none⟩)] w fun e w' =>
      (e = .returned (.tuple #[.int .u8 (bt s i), .bool true]) ∧ At w w' b s (i + 1) m ∧ Hid (isV (bt s i) = true ∧ i < s.size)) ∨
      (e = .returned (.tuple #[.int .u8 0, .bool false]) ∧ At w w' b s i m ∧ Hid (isV (bt s i) = false)) := by
  go_enter Tryz.func214, Tryz.ntmps214
  go_wp2_with fail
  refine (takeBetween_any _ b s i m 88 90 (by exact h) (by decide)).mono ?_
  rintro e w1 (⟨rfl, ha, hf⟩ | ⟨rfl, ha, hf⟩)
  · go_wp2_with fail
    go_ret2
    exact Or.inl ⟨rfl, ha, (by unfold Hid at *; simp only [isV, decide_eq_true_eq]; omega)⟩
  · go_wp2_with fail
    go_ret2
    exact Or.inr ⟨rfl, ha, (by unfold Hid at *; simp only [isV, decide_eq_false_iff_not]; omega)⟩
set_option maxHeartbeats 400000 in
theorem property_any (w : World) (b : Nat) (s : ByteArray) (i : Nat) (m : Int) (h : Rd w b s i m) :
    Calls Tryz.prog 207 #[.pointer (some ⟨b, 0, none⟩)] w fun e w' =>
      (e = .returned (.tuple #[.int .u8 (bt s i), .bool true]) ∧ At w w' b s (i + 1) m ∧ Hid (isP (bt s i) = true ∧ i < s.size)) ∨
      (e = .returned (.tuple #[.int .u8 0, .bool false]) ∧ At w w' b s i m ∧ Hid (isP (bt s i) = false)) := by
  go_enter Tryz.func207, Tryz.ntmps207
  go_wp2_with fail
  refine (takeBetween_any _ b s i m 65 70 (by exact h) (by decide)).mono ?_
  rintro e w1 (⟨rfl, ha, hf⟩ | ⟨rfl, ha, hf⟩)
  · go_wp2_with fail
    go_ret2
    exact Or.inl ⟨rfl, ha, (by unfold Hid at *; simp only [isP, isV, Bool.or_eq_true, decide_eq_true_eq]; omega)⟩
  · go_wp2_with fail
    refine (variable_any _ b s i m (by exact ha.rd)).mono ?_
    rintro e w2 (⟨rfl, ha', hf'⟩ | ⟨rfl, ha', hf'⟩)
    · go_wp2_with fail
      go_ret2
      exact Or.inl ⟨rfl, ha.trans ha', (by unfold Hid at *; simp only [isP, hf'.1, Bool.or_true]; exact ⟨trivial, hf'.2⟩)⟩
    · go_wp2_with fail
      go_ret2
      exact Or.inr ⟨rfl, ha.trans ha', (by unfold Hid at *; simp only [isP, hf', Bool.or_false, decide_eq_false_iff_not]; omega)⟩
set_option maxHeartbeats 400000 in
theorem digit_any (w : World) (b : Nat) (s : ByteArray) (i : Nat) (m : Int) (h : Rd w b s i m) :
    Calls Tryz.prog 178 #[.pointer (some ⟨b, 0, none⟩)] w fun e w' =>
      (e = .returned (.tuple #[.int .i64 ((bt s i : Int) - 48), .bool true]) ∧ At w w' b s (i + 1) m ∧ Hid (isD (bt s i) = true ∧ i < s.size)) ∨
      (e = .returned (.tuple #[.int .i64 0, .bool false]) ∧ At w w' b s i m ∧ Hid (isD (bt s i) = false)) := by
  go_enter Tryz.func178, Tryz.ntmps178
  go_wp2_with fail
  refine (takeBetween_any _ b s i m 48 57 (by exact h) (by decide)).mono ?_
  rintro e w1 (⟨rfl, ha, hf⟩ | ⟨rfl, ha, hf⟩)
  · have hlo : 48 ≤ (bt s i : Int) := hf.out.1
    have hhi : (bt s i : Int) ≤ 57 := hf.out.2.1
    go_wp2_with fail
    go_ret2
    exact Or.inl ⟨rfl, ha, (by unfold Hid at *; simp only [isD, decide_eq_true_eq]; omega)⟩
  · go_wp2_with fail
    go_ret2
    exact Or.inr ⟨rfl, ha, (by unfold Hid at *; simp only [isD, decide_eq_false_iff_not]; omega)⟩
theorem sgn_of {c : Nat} (h : ((c : Int) == 32) = true ∨ ((c : Int) == 62) = true ∨ ((c : Int) == 43) = true ∨ ((c : Int) == 126) = true) : isS c = true := by
  simp only [beq_iff_eq] at h; simp only [isS, decide_eq_true_eq]; omega
theorem sgn_not {c : Nat} (h1 : ((c : Int) == 32) = false) (h2 : ((c : Int) == 62) = false) (h3 : ((c : Int) == 43) = false) (h4 : ((c : Int) == 126) = false) : isS c = false := by
  simp only [beq_eq_false_iff_ne] at h1 h2 h3 h4; simp only [isS, decide_eq_false_iff_not]; omega
set_option maxHeartbeats 400000 in
theorem sign_any (w : World) (b : Nat) (s : ByteArray) (i : Nat) (m : Int) (h : Rd w b s i m) :
    Calls Tryz.prog 193 #[.pointer (some ⟨b, 0, none⟩)] w fun e w' =>
      (e = .returned (.tuple #[.int .u8 (bt s i), .bool true]) ∧ At w w' b s (i + 1) m ∧ Hid (isS (bt s i) = true ∧ i < s.size)) ∨
      (e = .returned (.tuple #[.int .u8 0, .bool false]) ∧ At w w' b s i m ∧ Hid (isS (bt s i) = false)) := by
  have c1 := h.c1
  have f1 := h.fr 1
  have hle := h.le
  have htop := h.top
  have hsz : isS (bt s i) = true → i < s.size := by
    intro e
    by_cases hi : i < s.size
    · exact hi
    · rw [bt_end s i (by omega)] at e; simp [isS] at e
  have HZ : Hid (isS (bt s i) = true → i < s.size) := hsz
  clear hsz
  go_enter Tryz.func193, Tryz.ntmps193
  go_wp2_with fail
  refine (peek_any _ b s i m (by exact h)).mono ?_
  rintro e w1 ⟨rfl, n1, rfl⟩
  go_wp2_with fail
  all_goals go_ret2
  · exact Or.inl ⟨rfl, At.setAt (h.at0.drewN _) (by have := HZ.out (sgn_of (Or.inl ‹_›)); omega) (by omega), ⟨sgn_of (Or.inl ‹_›), HZ.out (sgn_of (Or.inl ‹_›))⟩⟩
  · exact Or.inl ⟨rfl, At.setAt (h.at0.drewN _) (by have := HZ.out (sgn_of (Or.inr (Or.inl ‹_›))); omega) (by omega), ⟨sgn_of (Or.inr (Or.inl ‹_›)), HZ.out (sgn_of (Or.inr (Or.inl ‹_›)))⟩⟩
  · exact Or.inl ⟨rfl, At.setAt (h.at0.drewN _) (by have := HZ.out (sgn_of (Or.inr (Or.inr (Or.inl ‹_›)))); omega) (by omega), ⟨sgn_of (Or.inr (Or.inr (Or.inl ‹_›))), HZ.out (sgn_of (Or.inr (Or.inr (Or.inl ‹_›))))⟩⟩
  · exact Or.inl ⟨rfl, At.setAt (h.at0.drewN _) (by have := HZ.out (sgn_of (Or.inr (Or.inr (Or.inr ‹_›)))); omega) (by omega), ⟨sgn_of (Or.inr (Or.inr (Or.inr ‹_›))), HZ.out (sgn_of (Or.inr (Or.inr (Or.inr ‹_›))))⟩⟩
  · exact Or.inr ⟨rfl, h.at0.drewN _, sgn_not ‹_› ‹_› ‹_› ‹_›⟩
theorem ahd_of {c : Nat} (h : ((c : Int) == 46) = true ∨ ((c : Int) == 35) = true ∨ ((c : Int) == 58) = true ∨ ((c : Int) == 33) = true) : isA c = true := by
  simp only [beq_iff_eq] at h; simp only [isA, decide_eq_true_eq]; omega
theorem ahd_not {c : Nat} (h1 : ((c : Int) == 46) = false) (h2 : ((c : Int) == 35) = false) (h3 : ((c : Int) == 58) = false) (h4 : ((c : Int) == 33) = false) : isA c = false := by
  simp only [beq_eq_false_iff_ne] at h1 h2 h3 h4; simp only [isA, decide_eq_false_iff_not]; omega
set_option maxHeartbeats 400000 in
theorem partAhead_any (w : World) (b : Nat) (s : ByteArray) (i : Nat) (m : Int) (h : Rd w b s i m) :
    Calls Tryz.prog 212 #[.pointer (some ⟨b, 0, none⟩)] w fun e w' =>
      e = .returned (.bool (isA (bt s i))) ∧ At w w' b s i m := by
  go_enter Tryz.func212, Tryz.ntmps212
  go_wp2_with fail
  refine (peek_any _ b s i m (by exact h)).mono ?_
  rintro e w1 ⟨rfl, n1, rfl⟩
  go_wp2_with fail
  all_goals go_ret
  · exact ⟨by rw [ahd_of (Or.inl ‹_›)]; rfl, h.at0.drewN _⟩
  · exact ⟨by rw [ahd_of (Or.inr (Or.inl ‹_›))]; rfl, h.at0.drewN _⟩
  · exact ⟨by rw [ahd_of (Or.inr (Or.inr (Or.inl ‹_›)))]; rfl, h.at0.drewN _⟩
  · exact ⟨by rw [ahd_of (Or.inr (Or.inr (Or.inr ‹_›)))]; rfl, h.at0.drewN _⟩
  · exact ⟨by rw [ahd_not ‹_› ‹_› ‹_› ‹_›]; rfl, h.at0.drewN _⟩
end Go.Proofs.YtblfffbmklkhmaaGreat

namespace Go.Proofs.YtblfffbmklkhmaaGreat
open Go.RowKit
theorem gb_setNew {a w : World} {r : Option Nat} (h : a.grownBy w r) {p : Addr} (hp : a.heap.size ≤ p.block) (u : Value) : a.grownBy (w.setCell p u) r :=
  ⟨h.os, h.tape, h.output, by simpa [World.setCell] using h.size, fun k hk hn => (Below.heap_setCell _ _ _ _ (by omega)).trans (h.block k hk hn)⟩
theorem Rd.setOther {w : World} {b : Nat} {s : ByteArray} {i : Nat} {m : Int} (h : Rd w b s i m) {p : Addr} (hp : b ≠ p.block) (u : Value) : Rd (w.setCell p u) b s i m :=
  ⟨(Below.heap_setCell _ _ _ _ hp).trans h.blk, h.le, h.top, h.lo, h.hi⟩
theorem At.setNew {w w1 : World} {b : Nat} {s : ByteArray} {j : Nat} {m : Int} (h : At w w1 b s j m) (hb : b < w.heap.size) {p : Addr} (hp : w.heap.size ≤ p.block) (u : Value) : At w (w1.setCell p u) b s j m :=
  ⟨h.rd.setOther (by omega) u, gb_setNew h.gb hp u⟩
/-- What the call made of its own block ahead of the walk counts for nothing. -/
theorem At.ofAlloc {w w1 : World} {b : Nat} {s : ByteArray} {j : Nat} {m : Int} {o : Obj} (h : At (w.alloc o) w1 b s j m) : At w w1 b s j m :=
  ⟨h.rd, gb_trans (World.grownBy_alloc w o _) h.gb⟩
/-- The cells of a block that is not the reader's. -/
theorem At.cells {w w1 : World} {b : Nat} {s : ByteArray} {j : Nat} {m : Int} (h : At w w1 b s j m) (B : Nat) (hB : B < w.heap.size) (hn : B ≠ b) :
    (∀ o, w1.cell? ⟨B, o, none⟩ = w.cell? ⟨B, o, none⟩) ∧ (∀ o, w1.frozen? ⟨B, o, none⟩ = w.frozen? ⟨B, o, none⟩) :=
  ⟨fun o => World.cell?_of_block (a := ⟨B, o, none⟩) (h.gb.block B hB (by simp; omega)), fun o => World.frozen?_of_block (a := ⟨B, o, none⟩) (h.gb.block B hB (by simp; omega))⟩
theorem At.size {w w1 : World} {b : Nat} {s : ByteArray} {j : Nat} {m : Int} (h : At w w1 b s j m) : w.heap.size ≤ w1.heap.size := h.gb.size
set_option maxHeartbeats 400000 in
theorem letterPart_any (w : World) (b : Nat) (s : ByteArray) (i : Nat) (m kd : Int) (h : Rd w b s i m) :
    Calls Tryz.prog 224 #[.pointer (some ⟨b, 0, none⟩), .int .i64 kd] w fun e w' =>
      (e = .returned (.tuple #[.agg #[.bool false, .int .i64 kd, .int .u8 (bt s i), .int .i64 0, .int .i64 0], .bool true]) ∧ At w w' b s (i + 1) m ∧ Hid (isL (bt s i) = true ∧ i < s.size)) ∨
      (e = .returned (.tuple #[.agg #[.bool false, .int .i64 kd, .int .u8 0, .int .i64 0, .int .i64 0], .bool false]) ∧ At w w' b s i m ∧ Hid (isL (bt s i) = false)) := by
  have hb := h.lt
  go_enter Tryz.func224, Tryz.ntmps224
  go_wp2_with fail
  refine (letter_any _ b s i m (by exact h.alloc _)).mono ?_
  rintro e w1 (⟨rfl, ha, hf⟩ | ⟨rfl, ha, hf⟩)
  · obtain ⟨hc, hz⟩ := ha.cells w.heap.size (by simp) (by omega)
    go_wp2_with fail
    exact bodyPost_ret (v := .tuple #[.agg #[.bool false, .int .i64 kd, .int .u8 (bt s i), .int .i64 0, .int .i64 0], .bool true]) (by simp [results, Tryz.results224, go_sem, hc]) rfl
      (Or.inl ⟨rfl, (((((ha.ofAlloc.setNew hb (Nat.le_refl _) _).setNew hb (Nat.le_refl _) _).setNew hb (Nat.le_refl _) _).setNew hb (Nat.le_refl _) _).setNew hb (Nat.le_refl _) _), hf⟩)
  · obtain ⟨hc, hz⟩ := ha.cells w.heap.size (by simp) (by omega)
    go_wp2_with fail
    exact bodyPost_ret (v := .tuple #[.agg #[.bool false, .int .i64 kd, .int .u8 0, .int .i64 0, .int .i64 0], .bool false]) (by simp [results, Tryz.results224, go_sem, hc]) rfl
      (Or.inr ⟨rfl, (((((ha.ofAlloc.setNew hb (Nat.le_refl _) _).setNew hb (Nat.le_refl _) _).setNew hb (Nat.le_refl _) _).setNew hb (Nat.le_refl _) _).setNew hb (Nat.le_refl _) _), hf⟩)
end Go.Proofs.YtblfffbmklkhmaaGreat
