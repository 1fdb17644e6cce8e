/- The sheet's bytes gone through by what may come next, with the counts that the bounds ask for. Plain mathematics; own work. -/
import Derived.WalkKit
namespace Go.Proofs.YtblfffbmklkhmaaGreat

/-- The byte at a place; 0 behind the end. -/
def bt (s : ByteArray) (i : Nat) : Nat := if h : i < s.size then s[i].toNat else 0

theorem bt_lt (s : ByteArray) (i : Nat) : bt s i < 256 := by
  unfold bt; split
  · exact s[i].toNat_lt
  · omega

theorem bt_end (s : ByteArray) (i : Nat) (h : s.size ≤ i) : bt s i = 0 := by
  unfold bt; rw [dif_neg (by omega)]

theorem bt_at (s : ByteArray) (i : Nat) (h : i < s.size) : bt s i = s[i].toNat := by
  unfold bt; rw [dif_pos h]

def isL (c : Nat) : Bool := decide (97 ≤ c ∧ c ≤ 122)
def isD (c : Nat) : Bool := decide (48 ≤ c ∧ c ≤ 57)
def isV (c : Nat) : Bool := decide (88 ≤ c ∧ c ≤ 90)
def isP (c : Nat) : Bool := decide (65 ≤ c ∧ c ≤ 70) || isV c
def isS (c : Nat) : Bool := decide (c = 32 ∨ c = 62 ∨ c = 43 ∨ c = 126)
def isA (c : Nat) : Bool := decide (c = 46 ∨ c = 35 ∨ c = 58 ∨ c = 33)

def partN (c : Nat) : Int := if c = 46 ∨ c = 35 then 4 else if c = 58 then 5 else -1
def closeN (c : Nat) : Int := if c = 59 then 10 else if c = 125 then 0 else -1
def markN (c : Nat) : Int := if c = 33 then 16 else closeN c
def compN (c : Nat) : Int := if isL c = true ∨ c = 42 then 3 else if c = 33 then 8 else partN c
def moreN (c : Nat) : Int := if c = 33 then 8 else if isS c = true ∨ c = 44 then 2 else if c = 123 then 9 else partN c
def propN (c : Nat) : Int := if isP c = true then 11 else -1
def wh (b : Bool) (n : Int) : Int := if b = true then n else -1

/-- What may come behind a byte (18: a rule whose beginning has been noted). -/
def nxt (m : Int) (c : Nat) : Int :=
  if m = 0 then (if c = 64 then 1 else compN c)
  else if m = 18 then (if c = 64 then 1 else compN c)
  else if m = 1 then wh (isD c) 2
  else if m = 2 then compN c
  else if m = 3 then moreN c
  else if m = 4 then wh (isL c) 3
  else if m = 5 then (if c = 110 then 6 else wh (decide (c = 102 ∨ c = 108 ∨ c = 101)) 3)
  else if m = 6 then wh (isD c) 7
  else if m = 7 then wh (isD c) 3
  else if m = 8 then (if isL c = true then 3 else partN c)
  else if m = 9 then (if c = 125 then 0 else propN c)
  else if m = 10 then propN c
  else if m = 11 then wh (decide (c = 58)) 12
  else if m = 12 then (if isD c = true then 13 else if c = 36 then 17 else wh (decide (c = 105 ∨ c = 114 ∨ c = 117)) 15)
  else if m = 13 then (if isD c = true then 14 else markN c)
  else if m = 14 then (if isD c = true then 15 else markN c)
  else if m = 15 then markN c
  else if m = 16 then closeN c
  else if m = 17 then wh (isV c) 15
  else -1

/-- The counts: rules, compounds of the selector, the first place above a bound (-1: none). -/
structure Cn where
  nr : Nat
  nc : Nat
  mn : Int

def note (mn : Int) (i : Nat) : Int := if mn = -1 then i else mn
def noteIf (b : Bool) (mn : Int) (i : Nat) : Int := if b = true then note mn i else mn

def cnt (m : Int) (c i : Nat) (k : Cn) : Cn :=
  if m = 0 then ⟨k.nr + 1, 1, noteIf (decide (k.nr = 20)) k.mn i⟩
  else if m = 18 ∨ m = 1 then ⟨k.nr, 1, k.mn⟩
  else if m = 3 then (if isS c = true then ⟨k.nr, k.nc + 1, noteIf (decide (k.nc = 4)) k.mn (i + 1)⟩ else if c = 44 then ⟨k.nr, 1, k.mn⟩ else k)
  else k

def Vf (s : ByteArray) : Nat → Int → Cn → Nat → Int × Int
  | 0, m, k, i => if m = 0 then (-1, k.mn) else ((i : Int), -1)
  | f + 1, m, k, i => if nxt m (bt s i) = -1 then ((i : Int), -1) else Vf s f (nxt m (bt s i)) (cnt m (bt s i) i k) (i + 1)

/-- What comes of a text from a place on: the place of the first wrong byte (-1: none), the first place above a bound. -/
def V (s : ByteArray) (m : Int) (k : Cn) (i : Nat) : Int × Int := Vf s (s.size - i) m k i

theorem V_go {s : ByteArray} {m m' : Int} {k : Cn} {i : Nat} (hi : i < s.size) (h : nxt m (bt s i) = m') (hm : m' ≠ -1) : V s m k i = V s m' (cnt m (bt s i) i k) (i + 1) := by
  unfold V
  obtain ⟨f, hf⟩ : ∃ f, s.size - i = f + 1 := ⟨s.size - i - 1, by omega⟩
  rw [hf, show s.size - (i + 1) = f from by omega]
  show (if nxt m (bt s i) = -1 then _ else _) = _
  rw [if_neg (by rw [h]; exact hm), h]

theorem V_stop {s : ByteArray} {m : Int} {k : Cn} {i : Nat} (hi : i < s.size) (h : nxt m (bt s i) = -1) : V s m k i = ((i : Int), -1) := by
  unfold V
  obtain ⟨f, hf⟩ : ∃ f, s.size - i = f + 1 := ⟨s.size - i - 1, by omega⟩
  rw [hf]
  show (if nxt m (bt s i) = -1 then _ else _) = _
  rw [if_pos h]

theorem V_end {s : ByteArray} {m : Int} {k : Cn} {i : Nat} (hi : s.size ≤ i) : V s m k i = if m = 0 then (-1, k.mn) else ((i : Int), -1) := by
  unfold V
  rw [show s.size - i = 0 from by omega]
  rfl

/-- A byte that cannot stand there, or the end. -/
theorem V_no {s : ByteArray} {m : Int} {k : Cn} {i : Nat} (hm : m ≠ 0) (h : nxt m (bt s i) = -1) : V s m k i = ((i : Int), -1) := by
  by_cases hi : i < s.size
  · exact V_stop hi h
  · rw [V_end (by omega), if_neg hm]

theorem nxt_zero (m : Int) : nxt m 0 = -1 := by
  simp [nxt, compN, moreN, partN, propN, markN, closeN, wh, isD, isL, isV, isP, isS]

/-- Two modes that take the byte alike. -/
theorem V_same {s : ByteArray} {m m' : Int} {k k' : Cn} {i : Nat} (hm : m ≠ 0) (hm' : m' ≠ 0) (h : nxt m (bt s i) = nxt m' (bt s i)) (hk : cnt m (bt s i) i k = cnt m' (bt s i) i k') : V s m k i = V s m' k' i := by
  by_cases hn : nxt m (bt s i) = -1
  · rw [V_no hm hn, V_no hm' (by rw [← h]; exact hn)]
  · by_cases hi : i < s.size
    · rw [V_go hi rfl hn, V_go (m := m') hi h.symm hn, hk]
    · exact absurd (by rw [bt_end s i (by omega)]; exact nxt_zero m) hn

theorem V_rule {s : ByteArray} {k : Cn} {i : Nat} (hi : i < s.size) : V s 0 k i = V s 18 ⟨k.nr + 1, 1, noteIf (decide (k.nr = 20)) k.mn i⟩ i := by
  by_cases hn : nxt 0 (bt s i) = -1
  · rw [V_stop hi hn, V_stop (m := 18) hi (by simpa [nxt] using hn)]
  · rw [V_go hi rfl hn, V_go (m := 18) (m' := nxt 0 (bt s i)) hi (by simp [nxt]) hn]
    simp [cnt]

end Go.Proofs.YtblfffbmklkhmaaGreat
