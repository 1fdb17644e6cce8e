/- The document's tree: what lies in memory; Find, Parent. Own work. -/
import Derived.Test.YtblfffbmklkhmaaGreatWeigh
import Derived.Test.YtblfffbmklkhmaaGreatRefIn
namespace Go.Proofs.YtblfffbmklkhmaaGreat
open Go.RowKit

/-- An element of the document's list. -/
structure REl where
  blk : Nat
  num : Nat
  kids : List Nat
  kd : ByteArray
  cl : ByteArray
  nm : ByteArray
  ks : Value
  sh : Bool

def REl.cells (e : REl) : Array Value := #[.int .i64 e.num, .string e.kd, .string e.cl, .string e.nm, e.ks, .bool e.sh]

structure RD (w : World) (d : Nat) (els : List REl) (made : Nat) (hp : Option Addr) (vT : Value) (has : Bool) (vL : Value) : Prop where
  doc : w.heap[d]? = some (.cells #[.pointer hp, vL, .int .i64 made, vT, .bool has] 121 (0, 0))
  row : w.ownsRow 0 171 1 vL els.length (els.map fun e => .pointer (some ⟨e.blk, 0, none⟩))
  el : ∀ e ∈ els, w.heap[e.blk]? = some (.cells e.cells 176 (0, 0))
  kid : ∀ e ∈ els, w.ownsRow 0 3 1 e.ks e.kids.length (e.kids.map fun k : Nat => .int .i64 (k : Int))
  few : els.length ≤ 24
  kfew : ∀ e ∈ els, e.kids.length ≤ 24

theorem RD.c1 {w : World} {d : Nat} {els : List REl} {made : Nat} {hp : Option Addr} {vT : Value} {has : Bool} {vL : Value} (h : RD w d els made hp vT has vL) : w.cell? ⟨d, 1, none⟩ = some vL := cell_of_blk h.doc rfl
theorem RD.shape {w : World} {d : Nat} {els : List REl} {made : Nat} {hp : Option Addr} {vT : Value} {has : Bool} {vL : Value} (h : RD w d els made hp vT has vL) : ∃ a c, vL = .slice a els.length c := own_shape h.row
theorem RD.at' {w : World} {d : Nat} {els : List REl} {made : Nat} {hp : Option Addr} {vT : Value} {has : Bool} {a : Option Addr} {c : Nat} (h : RD w d els made hp vT has (.slice a els.length c)) {i : Nat} (hi : i < els.length) :
    ∃ g, a = some ⟨g, 0, none⟩ ∧ w.cell? ⟨g, i, none⟩ = some (.pointer (some ⟨els[i].blk, 0, none⟩)) := by
  obtain ⟨g, hg, _, hc⟩ := own_cells h.row (by omega)
  exact ⟨g, hg, hc i _ (by simp [hi])⟩
theorem el_cells {w : World} {e : REl} (h : w.heap[e.blk]? = some (.cells e.cells 176 (0, 0))) : w.cell? ⟨e.blk, 0, none⟩ = some (.int .i64 e.num) ∧ w.cell? ⟨e.blk, 4, none⟩ = some e.ks := ⟨cell_of_blk h rfl, cell_of_blk h rfl⟩

/-- The element of a number. -/
def findR (els : List REl) (n : Int) : Option REl := els.find? fun e => decide ((e.num : Int) = n)
def ptrOf (o : Option REl) : Value := .pointer (o.map fun e => ⟨e.blk, 0, none⟩)

theorem find_skip {els : List REl} {n : Int} {i : Nat} (hi : i < els.length) (hno : ∀ j (hj : j < els.length), j < i → ((els[j].num : Int) = n) → False) (h : (els[i].num : Int) = n) : findR els n = some els[i] := by
  unfold findR
  rw [List.find?_eq_some_iff_getElem]
  refine ⟨by simpa using h, i, hi, rfl, fun j hj => ?_⟩
  have := hno j (by omega) hj
  simpa using this
theorem find_none {els : List REl} {n : Int} (hno : ∀ j (hj : j < els.length), ((els[j].num : Int) = n) → False) : findR els n = none := by
  unfold findR
  rw [List.find?_eq_none]
  intro e he
  obtain ⟨j, hj, rfl⟩ := List.getElem_of_mem he
  simpa using hno j hj

set_option maxRecDepth 100000 in
set_option maxHeartbeats 2000000 in
theorem find_any (w : World) (d : Nat) (els : List REl) (made : Nat) (hp : Option Addr) (vT : Value) (has : Bool) (vL : Value) (n : Int) (h : RD w d els made hp vT has vL) :
    Calls Tryz.prog 92 #[.pointer (some ⟨d, 0, none⟩), .int .i64 n] w fun e w' => e = .returned (ptrOf (findR els n)) ∧ w' = w := by
  obtain ⟨a, c, hv⟩ := h.shape
  subst hv
  have d1 := h.c1
  have hfew := h.few
  have HR : Hid (RD w d els made hp vT has (.slice a els.length c)) := h
  clear h
  go_enter Tryz.func92, Tryz.ntmps92
  go_wp2
  go_loop [5] (fun iv => ∃ i : Nat, iv = .int .i64 i ∧ i ≤ els.length ∧ Hid (∀ j (hj : j < els.length), j < i → ((els[j].num : Int) = n) → False)) (fun iv => els.length - (intOf iv).toNat)
  case atStart => exact ⟨0, rfl, Nat.zero_le _, fun j hj h => by omega⟩
  case round =>
    obtain ⟨i, rfl, hi, HN⟩ := hrel
    by_cases hlt : i < els.length
    · have hd : decide ((i : Int) < (els.length : Int)) = true := by simp; omega
      obtain ⟨g, hg, q1⟩ := HR.out.at' hlt
      subst hg
      obtain ⟨q2, _⟩ := el_cells (HR.out.el els[i] (List.getElem_mem hlt))
      have HF : Hid ((els[i].num : Int) = n → findR els n = some els[i]) := find_skip hlt HN.out
      have HG : Hid (∀ x, els[i] = x → els[i] = x) := fun _ h => h
      obtain ⟨x, hx⟩ : ∃ x, els[i] = x := ⟨_, rfl⟩
      have HX : Hid (els[i] = x) := hx
      rw [hx] at q1 q2
      have HF2 : Hid ((x.num : Int) = n → findR els n = some x) := by rw [← hx]; exact HF.out
      clear hx HG HF
      by_cases hn : (x.num : Int) = n
      · have gn : ((x.num : Int) == n) = true := by simp [hn]
        have HE := HF2.out hn
        have HE2 : Hid (findR els n = some x) := HE
        clear hn HE HF2
        go_wp2
        go_ret
        rw [HE2.out]
        exact ⟨rfl, rfl⟩
      · have gn : ((x.num : Int) == n) = false := by simp [hn]
        have HN2 : Hid (∀ j (hj : j < els.length), j < i + 1 → ((els[j].num : Int) = n) → False) := fun j hj h1 h2 => by
          by_cases e : j = i
          · subst e
            rw [HX.out] at h2
            exact hn h2
          · exact HN.out j hj (by omega) h2
        clear hn HF2
        go_wp2
        go_round
        case rel => exact ⟨i + 1, by go_num, by omega, HN2⟩
        case measure => simp [intOf]; omega
    · have hd : decide ((i : Int) < (els.length : Int)) = false := by simp; omega
      have HE2 : Hid (findR els n = none) := find_none (fun j hj h => HN.out j hj (by omega) h)
      go_wp2
      go_ret
      rw [HE2.out]
      exact ⟨rfl, rfl⟩

end Go.Proofs.YtblfffbmklkhmaaGreat
