/- The parts of a compound. Own work. -/
import Derived.Test.YtblfffbmklkhmaaGreatSimple
import Derived.Deep.LoopGhost
namespace Go.Proofs.YtblfffbmklkhmaaGreat
open Go.RowKit

theorem Tryz.info192 : (Tryz.prog.info? 192).map (fun i => (i.zero, i.size, i.bytes)) = some (some (.agg #[.bool false, .int .i64 0, .int .u8 0, .int .i64 0, .int .i64 0]), 5, 40) := by kernel_rfl

/-- The cells hold parts of these kinds. -/
def Kinds : List Value → List PPt → Prop
  | xs, [] => xs = []
  | xs, p :: ks => ∃ ys, xs = .bool p.nt :: .int .i64 p.kd :: .int .u8 p.lt :: .int .i64 p.st :: .int .i64 p.sr :: ys ∧ Kinds ys ks

theorem Kinds.snoc {xs : List Value} {ks : List PPt} (h : Kinds xs ks) (nt : Bool) (kd lt st sr : Int) : Kinds (xs ++ [.bool nt, .int .i64 kd, .int .u8 lt, .int .i64 st, .int .i64 sr]) (ks ++ [⟨nt, kd, lt, st, sr⟩]) := by
  induction ks generalizing xs with
  | nil => simp only [Kinds] at h; subst h; exact ⟨[], rfl, rfl⟩
  | cons k ks ih =>
    obtain ⟨ys, rfl, hy⟩ := h
    exact ⟨_, rfl, ih hy⟩

/-- From i to j there are parts of these kinds. -/
def PartsAt (s : ByteArray) : Nat → Nat → List PPt → Prop
  | i, j, [] => i = j
  | i, j, kd :: ks => isA (bt s i) = true ∧ ∃ l, goodPart s i kd l ∧ PartsAt s l j ks

theorem PartsAt.snoc {s : ByteArray} {i j l : Nat} {ks : List PPt} {kd : PPt} (h : PartsAt s i j ks) (ha : isA (bt s j) = true) (hg : goodPart s j kd l) : PartsAt s i l (ks ++ [kd]) := by
  induction ks generalizing i with
  | nil => simp only [PartsAt] at h; subst h; exact ⟨ha, l, hg, rfl⟩
  | cons k ks ih =>
    obtain ⟨h1, l', h2, h3⟩ := h
    exact ⟨h1, l', h2, ih h3⟩

theorem good_lt {s : ByteArray} {i j : Nat} {kd : PPt} (h0 : goodPart s i kd j) : i < j := by
  have h := h0.2
  have h1 : ∀ n, 2 ≤ sl s n := by intro n; unfold sl; split <;> omega
  unfold goodSimple at h
  have := h1 i
  have := h1 (i + 1)
  split at h
  · split at h <;> omega
  · omega

structure PartsRel (w : World) (b : Nat) (s : ByteArray) (i : Nat) (m : Int) (gk : Nat) (v : Value) (wr : World) (j : Nat) (ks : List PPt) (xs : List Value) : Prop where
  at' : At w wr b s j m
  own : wr.ownsRow w.heap.size 192 5 v ks.length xs
  kinds : Kinds xs ks
  sim : Sim s 3 i 3 j
  le : i ≤ j
  few : ks.length ≤ j - i
  parts : PartsAt s i j ks
  gk : s.size - j ≤ gk

def PartsPost (w : World) (b : Nat) (s : ByteArray) (i : Nat) (m : Int) (e : Ending) (w' : World) : Prop :=
  (∃ (a : Option Addr) (c : Nat) (ks : List PPt) (xs : List Value) (j : Nat), e = .returned (.tuple #[.slice a ks.length c, .bool true]) ∧ At w w' b s j m ∧ w'.ownsRow w.heap.size 192 5 (.slice a ks.length c) ks.length xs ∧
    Hid (Kinds xs ks ∧ Sim s 3 i 3 j ∧ i ≤ j ∧ isA (bt s j) = false ∧ PartsAt s i j ks)) ∨
  (∃ j, e = .returned (.tuple #[.slice none 0 0, .bool false]) ∧ At w w' b s j m ∧ Hid (Bad s 3 i j ∧ isA (bt s i) = true))

theorem own_shape {w : World} {base : Nat} {e : TypeId} {size : Nat} {v : Value} {n : Nat} {xs : List Value} (h : w.ownsRow base e size v n xs) : ∃ a c, v = .slice a n c := by
  rcases h.2 with ⟨rfl, rfl⟩ | ⟨g, cap, cur, rfl, _⟩
  · exact ⟨none, 0, rfl⟩
  · exact ⟨_, _, rfl⟩

/-- What is owned from base on stays owned behind a call on the reader. -/
theorem At.owns {w w1 : World} {b : Nat} {s : ByteArray} {j : Nat} {m : Int} (h : At w w1 b s j m) {base : Nat} {e : TypeId} {size : Nat} {v : Value} {n : Nat} {xs : List Value} (ho : w.ownsRow base e size v n xs) (hb : b < base) : w1.ownsRow base e size v n xs := by
  refine ho.kept h.gb ?_
  cases hv : v.ownBlock with
  | none => exact Or.inl rfl
  | some g => right; intro e; injection e with e; have := (ho.lt g hv).1; omega

theorem new_cells (w : World) (B : Nat) (hB : B = w.heap.size) (cs : Array Value) (t : TypeId) (l : List Value) (hl : cs.toList = l) :
    ∀ j u, l[j]? = some u → (w.alloc (.cells cs t)).cell? ((⟨B, 0, none⟩ : Addr).add j) = some u := by
  intro j u hu
  subst hB hl
  have hadd : (⟨w.heap.size, 0, none⟩ : Addr).add j = ⟨w.heap.size, j, none⟩ := by unfold Addr.add; split <;> simp_all
  rw [hadd, cell_of_row _ _ _ cs t (0, 0) (heap_alloc_new w _)]
  simpa using hu

theorem one5 (a : Bool) (b c d e : Int) : ∀ u ∈ [Value.bool a, Value.int .i64 b, Value.int .u8 c, Value.int .i64 d, Value.int .i64 e], u.oneCell' = true := by
  intro u hu
  simp only [List.mem_cons, List.not_mem_nil, or_false] at hu
  rcases hu with rfl | rfl | rfl | rfl | rfl <;> rfl

/-- Behind an append onto a list of the call's own. -/
theorem At.app {w w2 w3 : World} {b : Nat} {s : ByteArray} {j : Nat} {m : Int} (h : At w w2 b s j m) (hb : b < w.heap.size) {e : TypeId} {size : Nat} {v : Value} {n : Nat} {xs : List Value}
    (ho : w2.ownsRow w.heap.size e size v n xs) (hg : w2.grownBy w3 v.ownBlock) : At w w3 b s j m := by
  have hne : ∀ k, k < w.heap.size → some k ≠ v.ownBlock := by
    intro k hk e
    have := (ho.lt k e.symm).1
    omega
  refine ⟨⟨(hg.block b h.rd.lt (hne b hb)).trans h.rd.blk, h.rd.le, h.rd.top, h.rd.lo, h.rd.hi⟩, ?_⟩
  exact ⟨hg.os.trans h.gb.os, hg.tape.trans h.gb.tape, hg.output.trans h.gb.output, Nat.le_trans h.gb.size hg.size,
    fun k hk hn => (hg.block k (Nat.lt_of_lt_of_le hk h.gb.size) (hne k hk)).trans (h.gb.block k hk hn)⟩

theorem parts_first {s : ByteArray} {i j : Nat} {ks : List PPt} (h : PartsAt s i j ks) (hA : isA (bt s j) = true) : isA (bt s i) = true := by
  cases ks with
  | nil => simp only [PartsAt] at h; subst h; exact hA
  | cons k ks => exact h.1

set_option maxHeartbeats 1000000 in
theorem parts_any (w : World) (b : Nat) (s : ByteArray) (i : Nat) (m : Int) (h : Rd w b s i m) :
    Calls Tryz.prog 206 #[.pointer (some ⟨b, 0, none⟩)] w fun e w' => PartsPost w b s i m e w' := by
  have hb := h.lt
  have htop := h.top
  obtain ⟨i0, hi, hz0, hz1, hz2⟩ := info_parts Tryz.info192
  go_enter Tryz.func206, Tryz.ntmps206
  go_wp2_with fail
  go_loopg [4] (s.size - i) (fun gk v wr => ∃ j ks xs, PartsRel w b s i m gk v wr j ks xs)
  case atStart => exact ⟨i, [], [], h.at0, World.ownsRow_nil _ _ _ _, rfl, fun _ => rfl, Nat.le_refl _, by simp, rfl, Nat.le_refl _⟩
  case round =>
    obtain ⟨j, ks, xs, R⟩ := hrel
    have hle := R.at'.rd.le
    go_wp2_with fail
    refine (partAhead_any _ b s j m (by exact R.at'.rd)).mono ?_
    rintro e w1 ⟨rfl, ha⟩
    by_cases hA : isA (bt s j) = true
    · have HA : Hid (isA (bt s j) = true) := hA
      rw [hA]
      clear hA
      go_wp2_with fail
      refine (part_any _ b s j m (by exact ha.rd) HA.out).mono ?_
      rintro e w2 (⟨nt, kd, lt, st, sr, l, rfl, ha2, hf2⟩ | ⟨nt, kd, lt, st, sr, l, rfl, ha2, hf2⟩)
      · have own2 := (ha.trans ha2).owns R.own (by omega)
        have hsz2 := ((R.at'.trans ha).trans ha2).size
        have hlen := R.few
        go_wp2_with (at_builtin; refine wpList_append_own _ rfl (.tmp 16) (.tmp 18) 188 rfl w.heap.size 192 i0 (.agg #[.bool false, .int .i64 0, .int .u8 0, .int .i64 0, .int .i64 0]) 5 40 Tryz.underlying188 hi hz0 hz1 hz2 rfl (by decide) _ _ _ rfl ((own2.alloc _).alloc _) ⟨w2.heap.size + 1, 0, none⟩ 1 1 [.bool nt, .int .i64 kd, .int .u8 lt, .int .i64 st, .int .i64 sr] rfl rfl ?c1 ?c2 ?c3 ?c4 ?c5 ?_)
        case c1 => exact new_cells (w2.alloc _) _ (by simp) _ _ _ rfl
        case c2 => exact one5 _ _ _ _ _
        case c3 => unfold maxLen; omega
        case c4 => omega
        case c5 => simp; omega
        · intro v' w3 hown3 hg3 _
          have R3 : PartsRel w b s i m (s.size - l) v' w3 l (ks ++ [⟨nt, kd, lt, st, sr⟩]) (xs ++ [.bool nt, .int .i64 kd, .int .u8 lt, .int .i64 st, .int .i64 sr]) := by
            obtain ⟨q1, q2, q3⟩ := hf2.out
            have := good_lt q3
            exact ⟨((((R.at'.trans ha).trans ha2).alloc _).alloc _).app hb ((own2.alloc _).alloc _) hg3, by simpa using hown3, R.kinds.snoc _ _ _ _ _, R.sim.trans q1, by have := R.le; omega, by have := R.few; have := R.le; simp; omega, R.parts.snoc HA.out q3, Nat.le_refl _⟩
          have hgk := R.gk
          have hjl : j < l := good_lt hf2.out.2.2
          have hls := hf2.out.2.1
          clear hown3 hg3 own2 R
          go_wp2
          go_roundg (s.size - l)
          case measure => omega
          case rel => exact ⟨l, _, _, R3⟩
      · go_wp2_with fail
        go_ret2
        exact Or.inr ⟨l, rfl, ((R.at'.trans ha).trans ha2).alloc _, R.sim.bad hf2.out, parts_first R.parts HA.out⟩
    · have hAf : isA (bt s j) = false := by simpa using hA
      rw [hAf]
      have HA : Hid (isA (bt s j) = false) := hAf
      clear hA hAf
      obtain ⟨a, c, hv⟩ := own_shape R.own
      have R2 := R
      rw [hv] at R2
      rw [hv]
      go_wp2
      go_ret2
      exact Or.inl ⟨a, c, ks, xs, j, rfl, R2.at'.trans ha, ha.owns R2.own hb, R2.kinds, R2.sim, R2.le, HA.out, R2.parts⟩

end Go.Proofs.YtblfffbmklkhmaaGreat
