/- The script, opened. Own work. -/
import Derived.Test.YtblfffbmklkhmaaGreatLawPlays
import Derived.ProofKit
import Derived.Deep.Slices
import Derived.OpenShut
namespace Go.Proofs.YtblfffbmklkhmaaGreat
open Go.ChangeShapes Go.WideShapes Go.ChangeAt Go.RowKit

theorem Tryz.own : ownKnob Tryz.prog.godebug = none := by kernel_rfl
theorem Tryz.laidOut : laidOutB Tryz.prog = true := by kernel_rfl
theorem Tryz.cells69 : Tryz.prog.cellsOf 69 = 8 := by kernel_rfl
theorem Tryz.cells3 : Tryz.prog.cellsOf 3 = 1 := by kernel_rfl
theorem Tryz.cells9 : Tryz.prog.cellsOf 9 = 1 := by kernel_rfl
theorem Tryz.cells4 : Tryz.prog.cellsOf 4 = 1 := by kernel_rfl

theorem eight {α : Type} (l : List α) (h : l.length = 8) : ∃ a b c d e f g i, l = [a, b, c, d, e, f, g, i] := by
  match l, h with
  | [a, b, c, d, e, f, g, i], _ => exact ⟨a, b, c, d, e, f, g, i, rfl⟩

theorem open_script {H : Type} {enc : TypeId × Value → H} {W : World} {a0 : Option Addr} {len cap fuel : Nat} {x : DataW H × List MemPlace} (h : DataW.trod enc Tryz.prog W 0 (fun _ => true) true fuel 22 [.slice a0 len cap] = some x) :
    len = 0 ∨ ∃ b off K A X Y Z S T O, a0 = some ⟨b, off, none⟩ ∧ Scr W b off len K A X Y Z S T O ∧ len ≤ maxLen := by
  rcases Go.Deep.open_slice Tryz.underlying22 h with ⟨hcs, _⟩ | ⟨a, len', cap', m, n, D, Pl, hcs, _, hl, hm, hmm, _, hx⟩
  · left
    simp only [List.cons.injEq, Value.slice.injEq, and_true] at hcs
    exact hcs.2.1
  · simp only [List.cons.injEq, Value.slice.injEq, and_true] at hcs
    obtain ⟨rfl, rfl, rfl⟩ := hcs
    by_cases h0 : len = 0
    · exact Or.inl h0
    right
    simp only [if_true] at hmm
    rw [Tryz.cells69] at hx
    have each : ∀ i, i < len → ∃ q : (Int × Int × Int × Int × Int) × ByteArray × ByteArray × Bool,
        W.cell? (a.add (i * 8)) = some (.int .i64 q.1.1) ∧ W.cell? (a.add (i * 8 + 1)) = some (.int .i64 q.1.2.1) ∧ W.cell? (a.add (i * 8 + 2)) = some (.int .i64 q.1.2.2.1) ∧ W.cell? (a.add (i * 8 + 3)) = some (.int .i64 q.1.2.2.2.1) ∧
        W.cell? (a.add (i * 8 + 4)) = some (.int .i64 q.1.2.2.2.2) ∧ W.cell? (a.add (i * 8 + 5)) = some (.string q.2.1) ∧ W.cell? (a.add (i * 8 + 6)) = some (.string q.2.2.1) ∧ W.cell? (a.add (i * 8 + 7)) = some (.bool q.2.2.2) ∧ q.2.1.size ≤ maxLen := by
      intro i hi
      obtain ⟨cs', h1, h2⟩ := hx i (by omega)
      obtain ⟨_, hlen, hcell⟩ := World.cells?_some h1
      obtain ⟨xs, k, _, _, _, hxl, hf⟩ := DataW.trod_struct Tryz.underlying69 h2
      obtain ⟨v0, v1, v2, v3, v4, v5, v6, v7, rfl⟩ := eight cs' hlen
      obtain ⟨y0, y1, y2, y3, y4, y5, y6, y7, rfl⟩ := eight xs (by rw [hxl]; rfl)
      have g0 := hf 0 _ rfl
      have g1 := hf 1 _ rfl
      have g2 := hf 2 _ rfl
      have g3 := hf 3 _ rfl
      have g4 := hf 4 _ rfl
      have g5 := hf 5 _ rfl
      have g6 := hf 6 _ rfl
      have g7 := hf 7 _ rfl
      simp [Tryz.cells3, Tryz.cells9, Tryz.cells4] at g0 g1 g2 g3 g4 g5 g6 g7
      obtain ⟨n0, e0, _, _⟩ := DataW.trod_int Tryz.underlying3 g0
      obtain ⟨n1, e1, _, _⟩ := DataW.trod_int Tryz.underlying3 g1
      obtain ⟨n2, e2, _, _⟩ := DataW.trod_int Tryz.underlying3 g2
      obtain ⟨n3, e3, _, _⟩ := DataW.trod_int Tryz.underlying3 g3
      obtain ⟨n4, e4, _, _⟩ := DataW.trod_int Tryz.underlying3 g4
      obtain ⟨s5, e5, _, z5⟩ := DataW.trod_string Tryz.underlying9 g5
      obtain ⟨s6, e6, _, _⟩ := DataW.trod_string Tryz.underlying9 g6
      obtain ⟨b7, e7, _⟩ := DataW.trod_bool Tryz.underlying4 g7
      simp only [List.cons.injEq, and_true] at e0 e1 e2 e3 e4 e5 e6 e7
      subst e0 e1 e2 e3 e4 e5 e6 e7
      have c0 := hcell 0 (by omega)
      have c1 := hcell 1 (by omega)
      have c2 := hcell 2 (by omega)
      have c3 := hcell 3 (by omega)
      have c4 := hcell 4 (by omega)
      have c5 := hcell 5 (by omega)
      have c6 := hcell 6 (by omega)
      have c7 := hcell 7 (by omega)
      rw [Go.Deep.add_add] at c0 c1 c2 c3 c4 c5 c6 c7
      exact ⟨((n0, n1, n2, n3, n4), s5, s6, b7), by simpa using c0, by simpa using c1, by simpa using c2, by simpa using c3, by simpa using c4, by simpa using c5, by simpa using c6, by simpa using c7, z5⟩
    obtain ⟨q, hq⟩ := Go.Deep.choose_lt each
    obtain ⟨b, off, spot⟩ := a
    have hspot : spot = none := by simpa [Addr.add] using World.cell?_spot (hq 0 (by omega)).1
    subst hspot
    have hlt : b < W.heap.size := by simpa [Addr.add] using World.block_lt_of_cell? W _ (hq 0 (by omega)).1
    refine ⟨b, off, fun i => (q i).1.1, fun i => (q i).1.2.1, fun i => (q i).1.2.2.1, fun i => (q i).1.2.2.2.1, fun i => (q i).1.2.2.2.2, fun i => (q i).2.1, fun i => (q i).2.2.1, fun i => (q i).2.2.2, rfl, ⟨?_, ?_, ?_, ?_, ?_, ?_, ?_, ?_, fun i hi => (hq i hi).2.2.2.2.2.2.2.2, hlt⟩, by omega⟩
    all_goals intro i hi
    · have := (hq i hi).1; rw [Go.WideShapes.add_plain] at this; exact this
    · have := (hq i hi).2.1; rw [Go.WideShapes.add_plain, ← Nat.add_assoc] at this; exact this
    · have := (hq i hi).2.2.1; rw [Go.WideShapes.add_plain, ← Nat.add_assoc] at this; exact this
    · have := (hq i hi).2.2.2.1; rw [Go.WideShapes.add_plain, ← Nat.add_assoc] at this; exact this
    · have := (hq i hi).2.2.2.2.1; rw [Go.WideShapes.add_plain, ← Nat.add_assoc] at this; exact this
    · have := (hq i hi).2.2.2.2.2.1; rw [Go.WideShapes.add_plain, ← Nat.add_assoc] at this; exact this
    · have := (hq i hi).2.2.2.2.2.2.1; rw [Go.WideShapes.add_plain, ← Nat.add_assoc] at this; exact this
    · have := (hq i hi).2.2.2.2.2.2.2.1; rw [Go.WideShapes.add_plain, ← Nat.add_assoc] at this; exact this

end Go.Proofs.YtblfffbmklkhmaaGreat
