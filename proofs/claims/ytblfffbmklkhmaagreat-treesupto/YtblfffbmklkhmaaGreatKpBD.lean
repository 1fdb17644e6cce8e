/- Own work. -/
import Derived.Test.YtblfffbmklkhmaaGreatAskAB
import Derived.Test.YtblfffbmklkhmaaGreatProgOQ
import Derived.Test.YtblfffbmklkhmaaGreatLocX
import Derived.Test.YtblfffbmklkhmaaGreatWeighX
import Derived.Test.YtblfffbmklkhmaaGreatProgRV
namespace Go.Proofs.YtblfffbmklkhmaaGreat
open Go.RowKit

def kCells (x : Int × List Int) : List Value := .int .i64 x.1 :: intsZ x.2
def flatK (kl : List (Int × List Int)) : List Value := kl.flatMap kCells
theorem kCells_len {x : Int × List Int} (h : x.2.length = 9) : (kCells x).length = 10 := by
  unfold kCells
  rw [List.length_cons, List.length_map, h]
theorem kCells_one (x : Int × List Int) : ∀ v ∈ kCells x, v.oneCell' = true := by
  intro v hv
  unfold kCells at hv
  rcases List.mem_cons.1 hv with rfl | hv
  · rfl
  · obtain ⟨y, _, rfl⟩ := List.mem_map.1 hv
    rfl
theorem flatK_len {kl : List (Int × List Int)} (h : ∀ x ∈ kl, x.2.length = 9) : (flatK kl).length = kl.length * 10 := by
  induction kl with
  | nil => rfl
  | cons x l ih =>
    have h1 := kCells_len (h x List.mem_cons_self)
    have h2 := ih (fun e he => h e (List.mem_cons_of_mem _ he))
    unfold flatK at h2 ⊢
    rw [List.flatMap_cons, List.length_append, h1, h2, List.length_cons]
    omega
theorem flatK_at {kl : List (Int × List Int)} (h : ∀ x ∈ kl, x.2.length = 9) {i j : Nat} (hi : i < kl.length) (hj : j < 10) : (flatK kl)[i * 10 + j]? = (kCells kl[i])[j]? := by
  induction kl generalizing i with
  | nil => simp at hi
  | cons x l ih =>
    have h1 := kCells_len (h x List.mem_cons_self)
    unfold flatK
    rw [List.flatMap_cons]
    cases i with
    | zero =>
      rw [List.getElem?_append_left (by omega)]
      simp
    | succ i =>
      rw [List.getElem?_append_right (by omega), h1, show (i + 1) * 10 + j - 10 = i * 10 + j from by omega]
      have := ih (fun e he => h e (List.mem_cons_of_mem _ he)) (i := i) (by simpa using hi)
      unfold flatK at this
      rw [this]
      simp
theorem flatK_snoc (L : List (Int × List Int)) (x : Int × List Int) : flatK (L ++ [x]) = flatK L ++ kCells x := by simp [flatK]

/-- The kept styles in memory. -/
structure KL (w : World) (v : Value) (kl : List (Int × List Int)) : Prop where
  row : w.ownsRow 0 196 10 v kl.length (flatK kl)
  nine : ∀ x ∈ kl, x.2.length = 9
theorem KL.below {w w' : World} {v : Value} {kl : List (Int × List Int)} (h : KL w v kl) (hB : Below w.heap.size w w') : KL w' v kl := ⟨own_below h.row hB, h.nine⟩
theorem KL.shape {w : World} {v : Value} {kl : List (Int × List Int)} (h : KL w v kl) : ∃ a c, v = .slice a kl.length c := own_shape h.row
theorem Tryz.sizeK : (Tryz.prog.info? 196).map (·.size) = some 10 := by kernel_rfl
theorem Tryz.infoK : ∃ (i : TypeInfo) (z : Value), Tryz.prog.info? 196 = some i ∧ i.zero = some z ∧ i.size = 10 ∧ i.bytes = 80 ∧ z.cells.size = 10 := by
  have h : (Tryz.prog.info? 196).map (fun i => (i.zero.map (·.cells.size), i.size, i.bytes)) = some (some 10, 10, 80) := by kernel_rfl
  cases hq : Tryz.prog.info? 196 with
  | none => rw [hq] at h; cases h
  | some i =>
    rw [hq] at h
    simp only [Option.map_some, Option.some.injEq, Prod.mk.injEq] at h
    cases hz : i.zero with
    | none => rw [hz] at h; cases h.1
    | some z =>
      rw [hz] at h
      simp only [Option.map_some, Option.some.injEq] at h
      exact ⟨i, z, rfl, hz, h.2.1, h.2.2, h.1⟩

/-- One of them at a place. -/
structure KAt (w : World) (g o : Nat) (cs : List Value) (n : Int) : Prop where
  rng : w.rangeAt g o cs
  len : cs.length = 10
  one : ∀ v ∈ cs, v.oneCell' = true
  c0 : cs[0]? = some (.int .i64 n)
section
variable {w : World} {g o : Nat} {cs : List Value} {n : Int}
theorem KAt.size (h : KAt w g o cs n) : (Tryz.prog.info? 196).map (·.size) = some cs.length := by rw [h.len]; exact Tryz.sizeK
theorem KAt.size' (h : KAt w g o cs n) : (Tryz.prog.info? 196).map (·.size) = some cs.toArray.size := by rw [List.size_toArray]; exact h.size
theorem KAt.same (h : KAt w g o cs n) : 10 = cs.toArray.size := by rw [List.size_toArray, h.len]
theorem KAt.all (h : KAt w g o cs n) : cs.toArray.all (·.oneCell') = true := all_oneCell_toArray h.one
theorem KAt.info (h : KAt w g o cs n) {m : Nat} (hn : m = 10) : m = cs.toArray.size := by rw [hn]; exact h.same
theorem KAt.pos (h : KAt w g o cs n) : 0 < cs.toArray.size := by rw [← h.same]; omega
theorem KAt.small (h : KAt w g o cs n) : cs.toArray.size ≤ 1000 := by rw [← h.same]; omega
theorem KAt.len1 (h : KAt w g o cs n) : cs.length = 1 * 10 := by rw [h.len]
theorem KAt.below {wr : World} {base : Nat} (h : KAt w g o cs n) (hB : Below base w wr) (hg : g < base) : KAt wr g o cs n := ⟨range_below hB hg h.rng, h.len, h.one, h.c0⟩
theorem KAt.new (h : KAt w g o cs n) (w' : World) : KAt (w'.alloc (.cells cs.toArray 196)) w'.heap.size 0 cs n := by
  refine ⟨fun j v hv => ?_, h.len, h.one, h.c0⟩
  rw [Nat.zero_add, cell_of_row _ _ j cs.toArray 196 (0, 0) (heap_alloc_new w' _)]
  simpa using hv
end
theorem KL.el {w : World} {a : Option Addr} {c : Nat} {kl : List (Int × List Int)} (h : KL w (.slice a kl.length c) kl) {i : Nat} (hi : i < kl.length) : ∃ g, a = some ⟨g, 0, none⟩ ∧ g < w.heap.size ∧ KAt w g (i * 10) (kCells kl[i]) kl[i].1 := by
  obtain ⟨g, hg, hgl, hc⟩ := own_cells h.row (by omega)
  have hl := kCells_len (h.nine _ (List.getElem_mem hi))
  refine ⟨g, hg, hgl, fun j v hv => hc _ _ ?_, hl, kCells_one _, rfl⟩
  have hj : j < 10 := by
    have := (List.getElem?_eq_some_iff.1 hv).1
    omega
  rw [flatK_at h.nine hi hj]
  exact hv

section
set_option maxRecDepth 100000
set_option maxHeartbeats 4000000

theorem pisIn_any (w : World) (al : Option Addr) (cl : Nat) (L : List Int) (n : Int) (h : RowI w al L) (hL : L.length ≤ 1000) : Calls Tryz.prog 121 #[.slice al L.length cl, .int .i64 n] w fun e w' => PBool w (L.contains n) e w' := by
  have HI : Hid (RowI w al L) := h
  clear h
  go_enter Tryz.func121, Tryz.ntmps121
  go_wp2_with fail
  go_loopg [9] L.length (fun gk iv wr => ∃ i : Nat, iv = .int .i64 i ∧ i ≤ L.length ∧ L.length - i ≤ gk ∧ Hid (Below w.heap.size w wr ∧ ∀ j (_ : j < L.length), j < i → ¬ L[j] = n))
  case atStart => exact ⟨0, rfl, Nat.zero_le _, by omega, Below.refl _ _, fun j _ h => by omega⟩
  case round =>
    obtain ⟨i, rfl, hi, hgk, HN⟩ := hrel
    by_cases hli : i < L.length
    · have hd : decide ((i : Int) < (L.length : Int)) = true := by simp; omega
      obtain ⟨g2, hg2, hgl2, hq2⟩ := HI.out i hli
      subst hg2
      have q1 := (HN.out.1.cell (p := ⟨g2, i, none⟩) hgl2).trans hq2
      rw [List.getElem?_eq_getElem hli] at q1
      replace q1 : wr.cell? ⟨g2, i, none⟩ = some (.int .i64 L[i]) := q1
      have HNX : Hid (¬ L[i] = n → ∀ j (_ : j < L.length), j < i + 1 → ¬ L[j] = n) := fun hm j hj h1 => by
        by_cases e : j = i
        · subst e; exact hm
        · exact HN.out.2 j hj (by omega)
      have HY : Hid (L[i] = n → L.contains n = true) := fun h => by
        rw [List.contains_iff_mem]
        exact h ▸ List.getElem_mem hli
      clear hq2
      generalize L[i] = o at q1 HNX HY
      by_cases ho : o = n
      · have go : (o == n) = true := by simp [ho]
        have HR : Hid (PBool w (L.contains n) (.returned (.bool true)) wr) := ⟨by rw [HY.out ho], HN.out.1⟩
        clear ho
        go_wp2
        go_ret
        exact HR.out
      · have go : (o == n) = false := by simp [ho]
        have HN2 : Hid (Below w.heap.size w wr ∧ ∀ j (_ : j < L.length), j < i + 1 → ¬ L[j] = n) := ⟨HN.out.1, HNX.out ho⟩
        clear ho
        go_wp2
        go_roundg (L.length - (i + 1))
        case measure => omega
        case rel => exact ⟨i + 1, by go_num, by omega, Nat.le_refl _, HN2⟩
    · have hd : decide ((i : Int) < (L.length : Int)) = false := by simp; omega
      have HR : Hid (PBool w (L.contains n) (.returned (.bool false)) wr) := by
        refine ⟨?_, HN.out.1⟩
        have : L.contains n = false := by
          rw [Bool.eq_false_iff]
          intro h
          rw [List.contains_iff_mem] at h
          obtain ⟨j, hj, h1⟩ := List.getElem_of_mem h
          exact HN.out.2 j hj (by omega) h1
        rw [this]
      go_wp2
      go_ret
      exact HR.out

def dropK (L : List Int) (kl : List (Int × List Int)) : List (Int × List Int) := kl.filter fun x => !L.contains x.1
theorem dropK_take {L : List Int} {kl : List (Int × List Int)} {i : Nat} (h : i < kl.length) : dropK L (kl.take (i + 1)) = if L.contains kl[i].1 = true then dropK L (kl.take i) else dropK L (kl.take i) ++ [kl[i]] := by
  unfold dropK
  rw [List.take_succ_eq_append_getElem h, List.filter_append]
  cases hu : L.contains kl[i].1 with
  | true => simp only [List.filter_cons, hu, Bool.not_true]; simp
  | false => simp only [List.filter_cons, hu, Bool.not_false]; simp
theorem dropK_len (L : List Int) (kl : List (Int × List Int)) : (dropK L kl).length ≤ kl.length := List.length_filter_le _ _

/-- In the midst of Drop. -/
structure KI (base : Nat) (W wr : World) (v : Value) (L : List (Int × List Int)) : Prop where
  own : wr.ownsRow base 196 10 v L.length (flatK L)
  below : Below base W wr
theorem KI.app {base : Nat} {W wr : World} {v : Value} {L : List (Int × List Int)} (h : KI base W wr v L) {w2 w3 : World} {v3 : Value} {x : Int × List Int} (hb : Below base W w2) (hz : base ≤ w2.heap.size) (hg : w2.grownBy w3 v.ownBlock) (ho : w3.ownsRow base 196 10 v3 (L.length + 1) (flatK L ++ kCells x)) : KI base W w3 v3 (L ++ [x]) := by
  refine ⟨?_, hb.grown hg hz (fun k hk => (h.own.lt k hk).1)⟩
  rw [flatK_snoc, List.length_append]
  exact ho

def PDropPost (w : World) (b : Nat) (kl : List (Int × List Int)) (e : Ending) (w' : World) : Prop :=
  e = .returned (.tuple #[]) ∧ ∃ (w1 : World) (a : Option Addr) (c : Nat), Below w.heap.size w w1 ∧ w1.ownsRow w.heap.size 196 10 (.slice a kl.length c) kl.length (flatK kl) ∧ w' = w1.setCell ⟨b, 3, none⟩ (.slice a kl.length c)

theorem pdrop_any (w : World) (b : Nat) (cur : Array Value) (v : Value) (kl : List (Int × List Int)) (al : Option Addr) (cl : Nat) (L : List Int) (hb : w.heap[b]? = some (.cells cur 90 (0, 0))) (hv3 : cur[3]? = some v) (h : KL w v kl) (hfew : kl.length ≤ 24) (hI : RowI w al L) (hL : L.length ≤ 1000) :
    Calls Tryz.prog 76 #[.pointer (some ⟨b, 3, none⟩), .slice al L.length cl] w fun e w' => PDropPost w b (dropK L kl) e w' := by
  obtain ⟨i0, z0, hi, iz, is, ib, izs⟩ := Tryz.infoK
  obtain ⟨a, c, hv⟩ := h.shape
  subst hv
  have HBK : Hid (w.heap[b]? = some (.cells cur 90 (0, 0))) := hb
  have HP : Hid (KL w (.slice a kl.length c) kl) := h
  have HIL : Hid (RowI w al L) := hI
  have hbl : b < w.heap.size := (Array.getElem?_eq_some_iff.1 hb).1
  have q3 : w.cell? ⟨b, 3, none⟩ = some (.slice a kl.length c) := cell_of_blk hb hv3
  have HV3 : Hid (cur[3]? = some (.slice a kl.length c)) := hv3
  clear h hI hb hv3
  have HW0 : Hid (KI w.heap.size w w (.slice none 0 0) (dropK L (kl.take 0))) := ⟨World.ownsRow_nil _ _ _ _, Below.refl _ _⟩
  go_enter Tryz.func76, Tryz.ntmps76
  go_wp2_with fail
  go_loopg [4, 12] kl.length (fun gk v iv wr => ∃ i : Nat, iv = .int .i64 i ∧ i ≤ kl.length ∧ kl.length - i ≤ gk ∧ Hid (KI w.heap.size w wr v (dropK L (kl.take i))))
  case atStart => exact ⟨0, rfl, Nat.zero_le _, by omega, HW0⟩
  case round =>
    obtain ⟨i, rfl, hil, hgk, HN⟩ := hrel
    obtain ⟨a2, c2, hv2⟩ := own_shape HN.out.own
    subst hv2
    have hll : (dropK L (kl.take i)).length ≤ 24 := by
      have h1 := dropK_len L (kl.take i)
      have h2 : (kl.take i).length ≤ kl.length := List.length_take_le' _ _
      omega
    have hbz := HN.out.below.size
    by_cases hlt : i < kl.length
    · have hd : decide ((i : Int) < (kl.length : Int)) = true := by simp; omega
      obtain ⟨g, hg, hgl, he⟩ := HP.out.el hlt
      subst hg
      have HE : Hid (KAt wr g (i * 10) (kCells kl[i]) kl[i].1) := he.below HN.out.below hgl
      have HST : Hid (dropK L (kl.take (i + 1)) = if L.contains kl[i].1 = true then dropK L (kl.take i) else dropK L (kl.take i) ++ [kl[i]]) := dropK_take hlt
      clear he
      generalize kl[i] = y at HE HST
      obtain ⟨cs, hcs⟩ : ∃ cs, kCells y = cs := ⟨_, rfl⟩
      have HCY : Hid (kCells y = cs) := hcs
      rw [hcs] at HE
      clear hcs
      have c0 : cs[0]? = some (.int .i64 y.1) := HE.out.c0
      generalize dropK L (kl.take i) = R at HN HST hll ⊢
      have HEY1 : Hid (KAt (wr.alloc (.cells cs.toArray 196)) wr.heap.size 0 cs y.1) := HE.out.new wr
      have HI1 : Hid (RowI (wr.alloc (.cells cs.toArray 196)) al L) := HIL.out.below (HN.out.below.alloc hbz _)
      go_wp2_with (first | (refine wpList_load_mid rfl 196 _ rfl g (i * 10) rfl cs _ HE.out.rng Tryz.underlying196 rfl HE.out.size ?_) | (refine wpList_store_new rfl 196 _ _ rfl _ cs.toArray 196 rfl rfl HE.out.size' HE.out.same HE.out.all ?_))
      refine (pisIn_any (wr.alloc (.cells cs.toArray 196)) al cl L y.1 HI1.out hL).mono ?_
      rintro e w3 ⟨rfl, hB3⟩
      have hz3 : wr.heap.size + 1 ≤ w3.heap.size := by have := hB3.size; simpa using this
      have HB3 : Hid (Below (wr.heap.size + 1) (wr.alloc (.cells cs.toArray 196)) w3) := by simpa [Hid] using hB3
      have HN3 : Hid (KI w.heap.size w w3 (.slice a2 R.length c2) R) := ⟨own_below (HN.out.own.alloc _) hB3, (HN.out.below.alloc hbz _).trans (hB3.mono (by simp; omega))⟩
      have HEY3 : Hid (KAt w3 wr.heap.size 0 cs y.1) := HEY1.out.below HB3.out (by omega)
      clear hB3 HN HEY1 HE HB3 HI1 c0
      cases hr : L.contains y.1 with
      | true =>
        have HW5 : Hid (KI w.heap.size w w3 (.slice a2 R.length c2) (dropK L (kl.take (i + 1)))) := by
          rw [HST.out, if_pos hr]
          exact HN3.out
        clear HST hr
        go_wp2
        go_roundg (kl.length - (i + 1))
        case measure => omega
        case rel => exact ⟨i + 1, by go_num, by omega, Nat.le_refl _, HW5⟩
      | false =>
        have HST2 : Hid (dropK L (kl.take (i + 1)) = R ++ [y]) := by
          unfold Hid
          rw [HST.out, if_neg (by rw [hr]; decide)]
        clear HST hr
        go_wp2_with (first | (refine wpList_load_mid rfl 196 _ rfl (wr.heap.size) (0) rfl cs _ HEY3.out.rng Tryz.underlying196 rfl HEY3.out.size ?_) | (refine wpList_buildOneAt w3.heap.size rfl rfl 86 196 _ rfl cs.toArray rfl i0 z0 Tryz.underlying86 hi iz (HEY3.out.info is) (HEY3.out.pos) (HEY3.out.small) ?_) | (at_builtin; refine wpList_append_own _ rfl (.tmp 21) (.tmp 23) 86 rfl (w.heap.size) 196 i0 z0 10 80 Tryz.underlying86 hi iz is ib izs (by decide) _ _ _ rfl (HN3.out.own.alloc _) ⟨w3.heap.size, 0, none⟩ 1 1 cs rfl HEY3.out.len1 ?c1 HEY3.out.one ?c3 ?c4 ?c5 ?_))
        case c1 => exact new_cells w3 _ rfl _ _ _ (by simp)
        case c3 => unfold maxLen; omega
        case c4 => omega
        case c5 => simp; omega
        intro v5 w5 own5 hg5 _
        have HW5 : Hid (KI w.heap.size w w5 v5 (dropK L (kl.take (i + 1)))) := by
          rw [HST2.out]
          exact HN3.out.app (HN3.out.below.alloc (by omega) _) (by simp; omega) hg5 (by rw [HCY.out]; exact own5)
        clear own5 hg5 HN3 HEY3
        go_wp2
        go_roundg (kl.length - (i + 1))
        case measure => omega
        case rel => exact ⟨i + 1, by go_num, by omega, Nat.le_refl _, HW5⟩
    · have hd : decide ((i : Int) < (kl.length : Int)) = false := by simp; omega
      obtain rfl : i = kl.length := by omega
      rw [List.take_length] at HN hll ⊢
      have hb1 : wr.heap[b]? = some (.cells cur 90 (0, 0)) := (HN.out.below.block b hbl).trans HBK.out
      have e1 : wr.cell? ⟨b, 3, none⟩ = some (.slice a kl.length c) := cell_of_blk hb1 HV3.out
      have ez : wr.frozen? ⟨b, 3, none⟩ = false := frozen_of_blk hb1
      have HE : Hid (PDropPost w b (dropK L kl) (.returned (.tuple #[])) (wr.setCell ⟨b, 3, none⟩ (.slice a2 (dropK L kl).length c2))) := ⟨rfl, wr, a2, c2, HN.out.below, HN.out.own, rfl⟩
      clear hb1 q3
      generalize (dropK L kl).length = n5 at HE hll ⊢
      go_wp2
      go_end0
      exact HE.out
end

end Go.Proofs.YtblfffbmklkhmaaGreat

namespace Go.Proofs.YtblfffbmklkhmaaGreat
open Go.RowKit

def withinB (els : List PEl) (y t : Int) : Bool := (List.range els.length).any fun j => decide (upP els j y = t)
theorem withinB_iff {els : List PEl} {y t : Int} : withinB els y t = true ↔ ∃ k, k < els.length ∧ upP els k y = t := by
  unfold withinB
  rw [List.any_eq_true]
  constructor
  · rintro ⟨j, hj, h⟩
    exact ⟨j, List.mem_range.1 hj, by simpa using h⟩
  · rintro ⟨j, hj, h⟩
    exact ⟨j, List.mem_range.2 hj, by simpa using h⟩
def reachOf (els l : List PEl) (t : Int) : List Int := (l.filter fun y => withinB els y.num t).map fun y => (y.num : Int)
def reachD (els l : List PEl) (par : Int) : List Int := l.flatMap fun t => if t.par = par then reachOf els els t.num else []
def reachP (els : List PEl) (n : Int) : List Int := match findP els n with | none => [] | some x => reachD els (els.drop (idxP els n)) x.par
theorem reachOf_take {els l : List PEl} {i : Nat} (h : i < l.length) (t : Int) : reachOf els (l.take (i + 1)) t = if withinB els l[i].num t = true then reachOf els (l.take i) t ++ [(l[i].num : Int)] else reachOf els (l.take i) t := by
  unfold reachOf
  rw [List.take_succ_eq_append_getElem h, List.filter_append]
  cases hu : withinB els l[i].num t <;> simp [hu]
theorem reachD_take {els l : List PEl} {i : Nat} (h : i < l.length) (par : Int) : reachD els (l.take (i + 1)) par = if l[i].par = par then reachD els (l.take i) par ++ reachOf els els l[i].num else reachD els (l.take i) par := by
  unfold reachD
  rw [List.take_succ_eq_append_getElem h, List.flatMap_append]
  split
  · rename_i h1
    simp [h1]
  · rename_i h1
    simp [h1]
theorem reachOf_len (els l : List PEl) (t : Int) : (reachOf els l t).length ≤ l.length := by
  unfold reachOf
  rw [List.length_map]
  exact List.length_filter_le _ _
theorem reachD_len (els : List PEl) (par : Int) : ∀ l : List PEl, (reachD els l par).length ≤ l.length * els.length
  | [] => Nat.zero_le _
  | t :: l => by
    have ih := reachD_len els par l
    have h1 := reachOf_len els els t.num
    have e : (t :: l).length * els.length = els.length + l.length * els.length := by rw [List.length_cons, Nat.succ_mul, Nat.add_comm]
    have e2 : reachD els (t :: l) par = (if t.par = par then reachOf els els t.num else []) ++ reachD els l par := rfl
    rw [e, e2, List.length_append]
    split
    · omega
    · simp only [List.length_nil]; omega
theorem reachP_len {els : List PEl} (h : els.length ≤ 24) (n : Int) : (reachP els n).length ≤ 1000 := by
  unfold reachP
  split
  · simp
  · rename_i x _
    have h1 := reachD_len els x.par (els.drop (idxP els n))
    have h2 : (els.drop (idxP els n)).length * els.length ≤ 24 * 24 := Nat.mul_le_mul (by rw [List.length_drop]; omega) h
    omega
theorem reachP_mem {els : List PEl} (hn : (els.map PEl.num).Nodup) {n : Int} {k : Nat} (h : ReachIn els n k) : (k : Int) ∈ reachP els n := by
  obtain ⟨i, x, hx, hxn, t, ht, htp, y, hy, hyk, hw⟩ := h
  have hf : findP els n = some x := by
    cases hf : findP els n with
    | none => exact absurd hxn (findP_none hf (List.mem_of_getElem? hx))
    | some z =>
      obtain ⟨hz, hzn⟩ := findP_some hf
      rw [pel_inj hn hz (List.mem_of_getElem? hx) (by omega)]
  have hi := idx_of hn hx
  rw [hxn] at hi
  unfold reachP
  rw [hf]
  show (k : Int) ∈ reachD els (els.drop (idxP els n)) x.par
  rw [hi]
  unfold reachD
  rw [List.mem_flatMap]
  refine ⟨t, ht, ?_⟩
  rw [if_pos htp]
  unfold reachOf
  rw [List.mem_map]
  exact ⟨y, List.mem_filter.2 ⟨hy, withinB_iff.2 hw⟩, by rw [hyk]⟩

/-- A new list of numbers. -/
def PRowI (w : World) (l : List Int) (e : Ending) (w' : World) : Prop := ∃ (a : Option Addr) (c : Nat), e = .returned (.slice a l.length c) ∧ w'.ownsRow w.heap.size 3 1 (.slice a l.length c) l.length (intsZ l) ∧ Below w.heap.size w w'

section
set_option maxRecDepth 100000
set_option maxHeartbeats 4000000
variable (w : World) (b : Nat) (a : Option Addr) (c : Nat) (els : List PEl) (n : Int)

theorem preach_any (h : TRd w b a c els) : Calls Tryz.prog 75 #[.pointer (some ⟨b, 1, none⟩), .int .i64 n] w fun e w' => PRowI w (reachP els n) e w' := by
  obtain ⟨i0, hi0, iz0, iz1, iz2⟩ := info_parts Tryz.info3
  have HT : Hid (TRd w b a c els) := h
  have hfew := h.few
  clear h
  go_enter Tryz.func75, Tryz.ntmps75
  go_wp2_with fail
  refine (pfind_any w b _ els n HT.out.cell HT.out.pl HT.out.few).mono ?_
  rintro e w1 ⟨hB, ⟨hf, rfl⟩ | ⟨ip, x, hx, hf, rfl⟩⟩
  · have HE : Hid (PRowI w (reachP els n) (.returned (.slice none 0 0)) w1) := by
      have : reachP els n = [] := by unfold reachP; rw [hf]
      rw [this]
      exact ⟨none, 0, rfl, World.ownsRow_nil _ _ _ _, hB⟩
    clear hf hB
    go_wp2
    go_ret
    exact HE.out
  · have hip : ip < els.length := (List.getElem?_eq_some_iff.1 hx).1
    have hxe : els[ip] = x := (List.getElem?_eq_some_iff.1 hx).2
    have HA : Hid (reachP els n = reachD els (els.drop ip) x.par) := by
      unfold Hid reachP
      rw [hf]
      have h1 := (findP_some hf).2
      have h2 := idx_of HT.out.nums hx
      rw [h1] at h2
      show reachD els (els.drop (idxP els n)) x.par = _
      rw [h2]
    have T1 := HT.out.below hB
    have hcap := own_cap T1.pl.row
    have hcm : c ≤ maxLen := own_capM T1.pl.row
    obtain ⟨g, hg, hgl, he⟩ := T1.pl.el hip
    subst hg
    have q1 := he.cell1
    rw [hxe] at q1
    have q0 := T1.cell
    have hil : (ip : Int) < (els.length : Int) := by omega
    have HB1 : Hid (Below w.heap.size w w1) := hB
    have hsz : (Tryz.prog.info? 134).map (·.size) = some 31 := Tryz.size134
    unfold maxLen at hcm
    clear hf hB hx hxe he T1
    generalize x.par = par at HA q1
    have hbl := HT.out.lt
    go_wp2_with fail
    · obtain ⟨m, hm⟩ : ∃ m, els.length - ip = m := ⟨_, rfl⟩
      have hml : m ≤ 24 := by omega
      have HM : Hid (els.length - ip = m) := hm
      have HDL : Hid ((els.drop ip).length = m) := by unfold Hid; rw [List.length_drop]; exact hm
      rw [hm]
      clear hm q0 q1
      go_loopg [8, 36] m (fun gk v iv wr => ∃ i : Nat, iv = .int .i64 i ∧ i ≤ m ∧ m - i ≤ gk ∧ Hid (wr.ownsRow w.heap.size 3 1 v (reachD els ((els.drop ip).take i) par).length (intsZ (reachD els ((els.drop ip).take i) par)) ∧ Below w.heap.size w wr))
      case atStart => exact ⟨0, rfl, Nat.zero_le _, by omega, World.ownsRow_nil _ _ _ _, HB1.out⟩
      case round =>
        obtain ⟨i, rfl, hi, hgk, HN⟩ := hrel
        obtain ⟨wo, rfl⟩ : ∃ wo, wo = wr := ⟨_, rfl⟩
        obtain ⟨a2, c2, hv2⟩ := own_shape HN.out.1
        subst hv2
        have hRL : (reachD els ((els.drop ip).take i) par).length ≤ 576 := by
          have h1 := reachD_len els par ((els.drop ip).take i)
          have h2 : ((els.drop ip).take i).length * els.length ≤ 24 * 24 := Nat.mul_le_mul (by rw [List.length_take]; omega) hfew
          omega
        have hbz := HN.out.2.size
        by_cases hlt : i < m
        · have hd : decide ((i : Int) < (m : Int)) = true := by simp; omega
          have hlt2 : ip + i < els.length := by have := HM.out; omega
          obtain ⟨g2, hg2, hgl2, he⟩ := HT.out.pl.el hlt2
          injection hg2 with hg2
          injection hg2 with hg2 _ _
          subst hg2
          have HE : Hid (ElAt wo g (ip * 31 + i * 31) els[ip + i].cells els[ip + i].num els[ip + i].par) := by
            rw [show ip * 31 + i * 31 = (ip + i) * 31 from by omega]
            exact he.below HN.out.2 hgl2
          have HST : Hid (reachD els ((els.drop ip).take (i + 1)) par = if els[ip + i].par = par then reachD els ((els.drop ip).take i) par ++ reachOf els els els[ip + i].num else reachD els ((els.drop ip).take i) par) := by
            have h1 := reachD_take (els := els) (l := els.drop ip) (i := i) (by rw [HDL.out]; exact hlt) par
            rw [List.getElem_drop] at h1
            exact h1
          have q0 : wo.cell? ⟨b, 1, none⟩ = some (.slice (some ⟨g, 0, none⟩) els.length c) := (HN.out.2.cell (p := ⟨b, 1, none⟩) hbl).trans HT.out.cell
          have hblr : b < wo.heap.size := by omega
          clear he
          generalize els[ip + i].par = py at HE HST
          generalize els[ip + i].num = ny at HE HST
          generalize els[ip + i].cells = cs at HE
          have c0 : cs[0]? = some (.int .i64 ny) := HE.out.c0
          have c1 : cs[1]? = some (.int .i64 py) := HE.out.c1
          generalize reachD els ((els.drop ip).take i) par = R at HN HST hRL ⊢
          by_cases hp : py = par
          · have gp : (py != par) = false := by simp [hp]
            have HST2 : Hid (reachD els ((els.drop ip).take (i + 1)) par = R ++ reachOf els els ny) := by unfold Hid; rw [HST.out, if_pos hp]
            have HBK : Hid ((wo.alloc (.cells cs.toArray 134)).heap[wo.heap.size]? = some (.cells cs.toArray 134)) := heap_alloc_new wo _
            have HN1 : Hid ((wo.alloc (.cells cs.toArray 134)).ownsRow w.heap.size 3 1 (.slice a2 R.length c2) (R ++ reachOf els (els.take 0) ny).length (intsZ (R ++ reachOf els (els.take 0) ny)) ∧ Below w.heap.size w (wo.alloc (.cells cs.toArray 134))) := by
              have : R ++ reachOf els (els.take 0) ny = R := by simp [reachOf]
              rw [this]
              exact ⟨HN.out.1.alloc _, HN.out.2.alloc hbz _⟩
            clear hp HST HN
            go_wp2_with (first | (refine wpList_load_mid rfl 134 _ rfl g (ip * 31 + i * 31) rfl cs _ HE.out.rng Tryz.underlying134 rfl HE.out.size ?_) | (refine wpList_store_new rfl 134 _ _ rfl _ cs.toArray 134 rfl rfl HE.out.size' HE.out.same HE.out.all ?_))
            go_loopg [8, 49] els.length (fun gk v kv wr => ∃ k : Nat, kv = .int .i64 k ∧ k ≤ els.length ∧ els.length - k ≤ gk ∧ Hid ((wr.ownsRow w.heap.size 3 1 v (R ++ reachOf els (els.take k) ny).length (intsZ (R ++ reachOf els (els.take k) ny)) ∧ Below w.heap.size w wr) ∧ wr.heap[wo.heap.size]? = some (.cells cs.toArray 134)))
            case atStart => exact ⟨0, rfl, Nat.zero_le _, by omega, HN1.out, HBK.out⟩
            case round =>
              obtain ⟨k, rfl, hk, hgk2, HJ⟩ := hrel
              obtain ⟨a3, c3, hv3⟩ := own_shape HJ.out.1.1
              subst hv3
              have hRL3 : (R ++ reachOf els (els.take k) ny).length ≤ 600 := by
                have h1 := reachOf_len els (els.take k) ny
                have h2 : (els.take k).length ≤ els.length := List.length_take_le' _ _
                rw [List.length_append]
                omega
              have hjz := HJ.out.1.2.size
              obtain ⟨L, hLd⟩ : ∃ L, R ++ reachOf els (els.take k) ny = L := ⟨_, rfl⟩
              have HLD : Hid (R ++ reachOf els (els.take k) ny = L) := hLd
              rw [hLd] at HJ hRL3 ⊢
              clear hLd
              by_cases hlk : k < els.length
              · have hd2 : decide ((k : Int) < (els.length : Int)) = true := by simp; omega
                obtain ⟨g3, hg3, hgl3, he3⟩ := HT.out.pl.el hlk
                injection hg3 with hg3
                injection hg3 with hg3 _ _
                subst hg3
                have HE3 : Hid (ElAt wr g (k * 31) els[k].cells els[k].num els[k].par) := he3.below HJ.out.1.2 hgl3
                have HST3 : Hid (reachOf els (els.take (k + 1)) ny = if withinB els els[k].num ny = true then reachOf els (els.take k) ny ++ [(els[k].num : Int)] else reachOf els (els.take k) ny) := reachOf_take hlk ny
                have q10 : wr.cell? ⟨wo.heap.size, 0, none⟩ = some (.int .i64 ny) := cell_of_blk HJ.out.2 (by simpa using c0)
                have hwl : wo.heap.size < wr.heap.size := (Array.getElem?_eq_some_iff.1 HJ.out.2).1
                clear he3
                generalize els[k].num = nk at HE3 HST3
                generalize els[k].par = pk at HE3
                generalize els[k].cells = cs3 at HE3
                have c03 : cs3[0]? = some (.int .i64 nk) := HE3.out.c0
                have HT3 : Hid (TRd (wr.alloc (.cells cs3.toArray 134)) b (some ⟨g, 0, none⟩) c els) := HT.out.below (HJ.out.1.2.alloc hjz _)
                have HEY : Hid (ElAt (wr.alloc (.cells cs3.toArray 134)) wr.heap.size 0 cs3 nk pk) := HE3.out.new wr
                go_wp2_with (first | (refine wpList_load_mid rfl 134 _ rfl g (k * 31) rfl cs3 _ HE3.out.rng Tryz.underlying134 rfl HE3.out.size ?_) | (refine wpList_store_new rfl 134 _ _ rfl _ cs3.toArray 134 rfl rfl HE3.out.size' HE3.out.same HE3.out.all ?_))
                refine (pwithin_any (wr.alloc (.cells cs3.toArray 134)) b _ els nk ny HT3.out.cell HT3.out.pl hfew).mono ?_
                rintro e w3 ⟨hB3, r, rfl, hr⟩
                have HR : Hid (r = true ↔ withinB els nk ny = true) := hr.trans withinB_iff.symm
                have hz3 : wr.heap.size + 1 ≤ w3.heap.size := by have := hB3.size; simpa using this
                have HB3 : Hid (Below (wr.heap.size + 1) (wr.alloc (.cells cs3.toArray 134)) w3) := by simpa [Hid] using hB3
                have HJ3 : Hid ((w3.ownsRow w.heap.size 3 1 (.slice a3 L.length c3) L.length (intsZ L) ∧ Below w.heap.size w w3) ∧ w3.heap[wo.heap.size]? = some (.cells cs.toArray 134)) :=
                  ⟨⟨own_below (HJ.out.1.1.alloc _) hB3, (HJ.out.1.2.alloc hjz _).trans (hB3.mono (by simp; omega))⟩, (hB3.block wo.heap.size (by simp; omega)).trans ((Below.heap_alloc _ _ _ hwl).trans HJ.out.2)⟩
                have HEY3 : Hid (ElAt w3 wr.heap.size 0 cs3 nk pk) := HEY.out.below HB3.out (by omega)
                have q12 : w3.cell? ⟨wr.heap.size, 0, none⟩ = some (.int .i64 nk) := HEY3.out.rng 0 _ HEY3.out.c0
                clear hB3 hr HB3 HJ HEY HT3 HE3 q10 c03 HEY3
                cases r with
                | false =>
                  have HJ5 : Hid ((w3.ownsRow w.heap.size 3 1 (.slice a3 L.length c3) (R ++ reachOf els (els.take (k + 1)) ny).length (intsZ (R ++ reachOf els (els.take (k + 1)) ny)) ∧ Below w.heap.size w w3) ∧ w3.heap[wo.heap.size]? = some (.cells cs.toArray 134)) := by
                    rw [HST3.out, if_neg (fun hx => by have := HR.out.2 hx; cases this), HLD.out]
                    exact HJ3.out
                  clear HST3 HR HJ3
                  go_wp2
                  go_roundg (els.length - (k + 1))
                  case measure => omega
                  case rel => exact ⟨k + 1, by go_num, by omega, Nat.le_refl _, HJ5⟩
                | true =>
                  have HST4 : Hid (R ++ reachOf els (els.take (k + 1)) ny = L ++ [(nk : Int)]) := by
                    unfold Hid
                    rw [HST3.out, if_pos (HR.out.1 rfl), ← HLD.out, List.append_assoc]
                  clear HST3 HR
                  go_wp2_with (first | (at_builtin; refine wpList_append_own _ rfl (.tmp 59) (.tmp 62) 40 rfl w.heap.size 3 i0 (.int .i64 0) 1 8 Tryz.underlying40 hi0 iz0 iz1 iz2 rfl (by decide) _ _ _ rfl (HJ3.out.1.1.alloc _) ⟨w3.heap.size, 0, none⟩ 1 1 [.int .i64 (nk : Int)] rfl rfl ?c1 ?c2 ?c3 ?c4 ?c5 ?_))
                  case c1 => exact new_cells w3 _ rfl _ _ _ rfl
                  case c2 => exact one_z nk
                  case c3 => unfold maxLen; omega
                  case c4 => omega
                  case c5 => simp; omega
                  intro v5 w5 own5 hg5 _
                  have HJ5 : Hid ((w5.ownsRow w.heap.size 3 1 v5 (R ++ reachOf els (els.take (k + 1)) ny).length (intsZ (R ++ reachOf els (els.take (k + 1)) ny)) ∧ Below w.heap.size w w5) ∧ w5.heap[wo.heap.size]? = some (.cells cs.toArray 134)) := by
                    rw [HST4.out]
                    refine ⟨⟨by simpa [intsZ] using own5, (HJ3.out.1.2.alloc (by omega) _).grown hg5 (by simp; omega) (fun k hk => (HJ3.out.1.1.lt k hk).1)⟩, ?_⟩
                    exact (hg5.block wo.heap.size (by simp; omega) (fun e => own_ne_type HJ3.out.1.1 HJ3.out.2 (by decide) e.symm)).trans ((Below.heap_alloc _ _ _ (by omega)).trans HJ3.out.2)
                  clear own5 hg5 HJ3 q12
                  go_wp2
                  go_roundg (els.length - (k + 1))
                  case measure => omega
                  case rel => exact ⟨k + 1, by go_num, by omega, Nat.le_refl _, HJ5⟩
              · have hd2 : decide ((k : Int) < (els.length : Int)) = false := by simp; omega
                obtain rfl : k = els.length := by omega
                have HN5 : Hid (wr.ownsRow w.heap.size 3 1 (.slice a3 L.length c3) (reachD els ((els.drop ip).take (i + 1)) par).length (intsZ (reachD els ((els.drop ip).take (i + 1)) par)) ∧ Below w.heap.size w wr) := by
                  have h1 := HLD.out
                  rw [List.take_length] at h1
                  rw [HST2.out, h1]
                  exact HJ.out.1
                clear HJ
                go_wp2
                go_roundg (m - (i + 1))
                case measure => omega
                case rel => exact ⟨i + 1, by go_num, by omega, Nat.le_refl _, HN5⟩
          · have gp : (py != par) = true := by simp [hp]
            have HN5 : Hid ((wo.alloc (.cells cs.toArray 134)).ownsRow w.heap.size 3 1 (.slice a2 R.length c2) (reachD els ((els.drop ip).take (i + 1)) par).length (intsZ (reachD els ((els.drop ip).take (i + 1)) par)) ∧ Below w.heap.size w (wo.alloc (.cells cs.toArray 134))) := by
              rw [HST.out, if_neg hp]
              exact ⟨HN.out.1.alloc _, HN.out.2.alloc hbz _⟩
            clear hp HST
            go_wp2_with (first | (refine wpList_load_mid rfl 134 _ rfl g (ip * 31 + i * 31) rfl cs _ HE.out.rng Tryz.underlying134 rfl HE.out.size ?_) | (refine wpList_store_new rfl 134 _ _ rfl _ cs.toArray 134 rfl rfl HE.out.size' HE.out.same HE.out.all ?_))
            go_roundg (m - (i + 1))
            case measure => omega
            case rel => exact ⟨i + 1, by go_num, by omega, Nat.le_refl _, HN5⟩
        · have hd : decide ((i : Int) < (m : Int)) = false := by simp; omega
          obtain rfl : i = m := by omega
          have HDT : Hid ((els.drop ip).take i = els.drop ip) := by
            unfold Hid
            rw [List.take_of_length_le (by rw [HDL.out]; exact Nat.le_refl _)]
          rw [HDT.out, ← HA.out] at HN hRL ⊢
          go_wp2
          go_ret
          exact ⟨a2, c2, rfl, HN.out.1, HN.out.2⟩
end

end Go.Proofs.YtblfffbmklkhmaaGreat

namespace Go.Proofs.YtblfffbmklkhmaaGreat
open Go.RowKit

/-- A cell within a list's own memory is written. -/
theorem own_put {w : World} {base : Nat} {e : TypeId} {sz g n c : Nat} {xs : List Value} (h : w.ownsRow base e sz (.slice (some ⟨g, 0, none⟩) n c) n xs) {i : Nat} (_hi : i < xs.length) (u : Value) : (w.setCell ⟨g, i, none⟩ u).ownsRow base e sz (.slice (some ⟨g, 0, none⟩) n c) n (xs.set i u) := by
  refine ⟨by rw [List.length_set]; exact h.1, ?_⟩
  rcases h.2 with ⟨h1, _⟩ | ⟨g', cap, cur, hv, hb, hg, h3, h4, h5, h6⟩
  · cases h1
  · injection hv with h7 _ h8
    injection h7 with h7
    injection h7 with h7 _ _
    subst h7 h8
    refine Or.inr ⟨g, c, cur.setIfInBounds i u, rfl, hb, heap_setCell_row hg u, h3, h4, by rw [Array.size_setIfInBounds]; exact h5, ?_⟩
    have hl := h.1
    rw [Array.toList_setIfInBounds, ← h6, List.take_set]
theorem own_blk {w : World} {base : Nat} {e : TypeId} {sz g n c : Nat} {xs : List Value} (h : w.ownsRow base e sz (.slice (some ⟨g, 0, none⟩) n c) n xs) : ∃ cur : Array Value, w.heap[g]? = some (.cells cur e (0, 0)) ∧ xs.length ≤ cur.size := by
  rcases h.2 with ⟨h1, _⟩ | ⟨g', cap, cur, hv, hb, hg, h3, h4, h5, h6⟩
  · cases h1
  · injection hv with h7 _ h8
    injection h7 with h7
    injection h7 with h7 _ _
    subst h7
    refine ⟨cur, hg, ?_⟩
    rw [h.1, h5]
    exact Nat.mul_le_mul_right _ h3

/-- One cell of an element is another one. -/
def PEl.put (x : PEl) (j : Nat) (u : Value) : PEl := ⟨x.num, x.par, x.rest.set j u⟩
theorem put_cells (x : PEl) (j : Nat) (u : Value) : (x.put j u).cells = x.cells.set (j + 2) u := rfl
theorem PEl.ok.put {x : PEl} (h : x.ok) (j : Nat) {u : Value} (hu : u.oneCell' = true) : (x.put j u).ok := by
  refine ⟨by show (x.rest.set j u).length = 29; rw [List.length_set]; exact h.1, fun v hv => ?_⟩
  rcases List.mem_or_eq_of_mem_set hv with hv | rfl
  · exact h.2 v hv
  · exact hu
theorem flat_set {els : List PEl} (h : ∀ e ∈ els, e.ok) {i j : Nat} (hi : i < els.length) (hj : j < 29) (u : Value) : flatP (els.set i (els[i].put j u)) = (flatP els).set (i * 31 + (j + 2)) u := by
  induction els generalizing i with
  | nil => simp at hi
  | cons x l ih =>
    have h1 := (h x List.mem_cons_self).len
    have e0 : flatP (x :: l) = x.cells ++ flatP l := rfl
    cases i with
    | zero =>
      have e1 : flatP ((x :: l).set 0 ((x :: l)[0].put j u)) = (x.put j u).cells ++ flatP l := rfl
      rw [e1, e0, put_cells, List.set_append_left _ _ (by omega)]
      simp
    | succ i =>
      have hi' : i < l.length := by simpa using hi
      have e1 : flatP ((x :: l).set (i + 1) ((x :: l)[i + 1].put j u)) = x.cells ++ flatP (l.set i (l[i].put j u)) := rfl
      rw [e1, e0, List.set_append_right _ _ (by omega), ih (fun e he => h e (List.mem_cons_of_mem _ he)) hi', h1, show (i + 1) * 31 + (j + 2) - 31 = i * 31 + (j + 2) from by omega]
theorem PL.put {w : World} {g c : Nat} {els : List PEl} (h : PL w (.slice (some ⟨g, 0, none⟩) els.length c) els) {i j : Nat} (hi : i < els.length) (hj : j < 29) {u : Value} (hu : u.oneCell' = true) : PL (w.setCell ⟨g, i * 31 + (j + 2), none⟩ u) (.slice (some ⟨g, 0, none⟩) els.length c) (els.set i (els[i].put j u)) := by
  have hl : (flatP els).length = els.length * 31 := flat_len h.ok
  refine ⟨?_, fun e he => ?_⟩
  · rw [flat_set h.ok hi hj, List.length_set]
    exact own_put h.row (by rw [hl]; omega) u
  · rcases List.mem_or_eq_of_mem_set he with he | rfl
    · exact h.ok e he
    · exact (h.ok _ (List.getElem_mem hi)).put j hu
/-- The tree hangs on the numbers alone. -/
def PEl.pr (e : PEl) : Int × Nat := (e.par, e.num)
theorem kidsP_pr (els : List PEl) (n : Int) : kidsP els n = ((els.map PEl.pr).filter fun p => decide (p.1 = n)).map Prod.snd := by
  unfold kidsP
  rw [List.filter_map, List.map_map]
  rfl
theorem PT.pairs {els els' : List PEl} {T : Tree} (h : PT els T) (hp : els'.map PEl.pr = els.map PEl.pr) : PT els' T := by
  have hm : ∀ e ∈ els', ∃ f ∈ els, f.num = e.num ∧ f.par = e.par := fun e he => by
    have : e.pr ∈ els.map PEl.pr := by rw [← hp]; exact List.mem_map.2 ⟨e, he, rfl⟩
    obtain ⟨f, hf, hfe⟩ := List.mem_map.1 this
    injection hfe with h1 h2
    exact ⟨f, hf, h2, h1⟩
  have hm' : ∀ e ∈ els, ∃ f ∈ els', f.num = e.num := fun e he => by
    have : e.pr ∈ els'.map PEl.pr := by rw [hp]; exact List.mem_map.2 ⟨e, he, rfl⟩
    obtain ⟨f, hf, hfe⟩ := List.mem_map.1 this
    injection hfe with h1 h2
    exact ⟨f, hf, h2⟩
  have hnum : els'.map PEl.num = els.map PEl.num := by
    have e1 : ∀ l : List PEl, l.map PEl.num = (l.map PEl.pr).map Prod.snd := fun l => by rw [List.map_map]; rfl
    rw [e1, e1, hp]
  refine ⟨by rw [hnum]; exact h.nums, fun e he => ?_, fun n l hl => ?_, fun n l hl => ?_, fun e he h0 => ?_⟩
  · obtain ⟨f, hf, h1, _⟩ := hm e he
    obtain ⟨l, hl⟩ := h.to' f hf
    exact ⟨l, by rw [← h1]; exact hl⟩
  · obtain ⟨e, he, h1⟩ := h.of' n l hl
    obtain ⟨f, hf, h2⟩ := hm' e he
    exact ⟨f, hf, h2.trans h1⟩
  · rw [h.kids n l hl, kidsP_pr, kidsP_pr, hp]
  · obtain ⟨f, hf, h1, h2⟩ := hm e he
    rw [← h2]
    exact h.root f hf (h1.trans h0)
theorem put_pairs {els : List PEl} {i : Nat} (hi : i < els.length) (j : Nat) (u : Value) : (els.set i (els[i].put j u)).map PEl.pr = els.map PEl.pr := by
  rw [List.map_set]
  apply List.ext_getElem?
  intro k
  by_cases hk : i = k
  · subst hk
    rw [List.getElem?_set_self (by simpa using hi), List.getElem?_map, List.getElem?_eq_getElem hi]
    rfl
  · rw [List.getElem?_set_ne hk]
theorem mem_put {els : List PEl} (hn : (els.map PEl.num).Nodup) {i : Nat} (hi : i < els.length) {z y : PEl} (_hz : z.num = els[i].num) (hy : y ∈ els.set i z) : y = z ∨ (y ∈ els ∧ y.num ≠ els[i].num) := by
  obtain ⟨k, hk, rfl⟩ := List.getElem_of_mem hy
  rw [List.length_set] at hk
  by_cases h : i = k
  · subst h
    left
    rw [List.getElem_set_self]
  · right
    rw [List.getElem_set_ne h]
    refine ⟨List.getElem_mem hk, fun e => h ?_⟩
    have h1 := idx_of hn (List.getElem?_eq_getElem hi)
    have h2 := idx_of hn (List.getElem?_eq_getElem hk)
    rw [e, h1] at h2
    exact h2
theorem MkO.put {els : List PEl} {M : Nat → Mk} (h : MkO els M) (hn : (els.map PEl.num).Nodup) {i : Nat} (hi : i < els.length) {z : PEl} {m : Mk} (hz : z.num = els[i].num) (hs : Shp z) (hm : kindP z = m.kd ∧ (∀ i, i < 26 → classP z i = m.cl i) ∧ nameP z = m.nm) : MkO (els.set i z) (setM M els[i].num m) := by
  refine ⟨fun y hy => ?_, fun y hy => ?_⟩
  · unfold setM
    rcases mem_put hn hi hz hy with rfl | ⟨h1, h2⟩
    · rw [if_pos hz]; exact hm
    · rw [if_neg h2]; exact h.1 y h1
  · rcases mem_put hn hi hz hy with rfl | ⟨h1, _⟩
    · exact hs
    · exact h.2 y h1
theorem PB3.put {w : World} {b : Nat} {vS : Value × Value} {g c : Nat} {els : List PEl} {T : Tree} {made : Nat} (h : PB3 w b vS (.slice (some ⟨g, 0, none⟩) els.length c) els T made) {i j : Nat} (hi : i < els.length) (hj : j < 29) {u : Value} (hu : u.oneCell' = true) : PB3 (w.setCell ⟨g, i * 31 + (j + 2), none⟩ u) b vS (.slice (some ⟨g, 0, none⟩) els.length c) (els.set i (els[i].put j u)) T made := by
  have hgb : b ≠ g := fun e => own_ne_type h.pl.row h.doc (by decide) (by rw [e]; rfl)
  refine ⟨(Below.heap_setCell w ⟨g, i * 31 + (j + 2), none⟩ _ b hgb).trans h.doc, ?_, h.pt.pairs (put_pairs hi j u), by rw [List.length_set]; exact h.few⟩
  exact h.pl.put hi hj hu

def PClsPost (w : World) (b : Nat) (vS : Value × Value) (v : Value) (els : List PEl) (T : Tree) (made : Nat) (n : Int) (s : ByteArray) (on : Bool) (e : Ending) (w' : World) : Prop :=
  ∃ (lt y : Int) (els' : List PEl), e = .returned (.tuple #[.int .u8 lt, .int .i64 y]) ∧ y = clsErr T n s ∧ PB3 w' b vS v els' T made ∧ Fr w w' (fun k => v.ownBlock = some k) ∧ (y ≠ 0 → els' = els) ∧ ∀ M, MkO els M → y = 0 → MkO els' (setM M n.toNat (clsMk (M n.toNat) s on)) ∧ (lt = bt s 0 ∨ (97 ≤ bt s 0 ∧ (M n.toNat).cl (bt s 0 - 97) = on))
theorem letter_is {s : ByteArray} (h : isLetter s = true) : ∃ k, k < 26 ∧ bt s 0 = 97 + k := by
  unfold isLetter isL at h
  simp only [Bool.and_eq_true, decide_eq_true_eq] at h
  exact ⟨bt s 0 - 97, by omega, by omega⟩
theorem put_cls {x : PEl} (h : x.ok) (hs : Shp x) {k : Nat} (hk : k < 26) (on : Bool) : Shp (x.put (1 + k) (.bool on)) ∧ kindP (x.put (1 + k) (.bool on)) = kindP x ∧ (∀ i, i < 26 → classP (x.put (1 + k) (.bool on)) i = if i = k then on else classP x i) ∧ nameP (x.put (1 + k) (.bool on)) = nameP x := by
  have h9 := h.1
  have g0 : (x.put (1 + k) (.bool on)).rest[0]? = x.rest[0]? := List.getElem?_set_ne (by omega)
  have g7 : (x.put (1 + k) (.bool on)).rest[27]? = x.rest[27]? := List.getElem?_set_ne (by omega)
  have g8 : (x.put (1 + k) (.bool on)).rest[28]? = x.rest[28]? := List.getElem?_set_ne (by omega)
  have gi : ∀ i, i < 26 → (x.put (1 + k) (.bool on)).rest[1 + i]? = if i = k then some (.bool on) else x.rest[1 + i]? := fun i hi => by
    split
    · rename_i e
      rw [e]
      exact List.getElem?_set_self (by omega)
    · exact List.getElem?_set_ne (by omega)
  refine ⟨⟨by rw [g0]; exact hs.kind, fun i hi => ?_, by rw [g7]; exact hs.name, by rw [g8]; exact hs.shown⟩, by unfold kindP; rw [g0], fun i hi => ?_, by unfold nameP; rw [g7]⟩
  · rw [gi i hi]
    split
    · exact ⟨on, rfl⟩
    · exact hs.cls i hi
  · unfold classP
    rw [gi i hi]
    by_cases e : i = k
    · rw [if_pos e, if_pos e]
    · rw [if_neg e, if_neg e]
theorem put_nam {x : PEl} (h : x.ok) (hs : Shp x) (z : Int) : Shp (x.put 27 (.int .u8 z)) ∧ kindP (x.put 27 (.int .u8 z)) = kindP x ∧ (∀ i, i < 26 → classP (x.put 27 (.int .u8 z)) i = classP x i) ∧ nameP (x.put 27 (.int .u8 z)) = z := by
  have h9 := h.1
  have g0 : (x.put 27 (.int .u8 z)).rest[0]? = x.rest[0]? := List.getElem?_set_ne (by omega)
  have g7 : (x.put 27 (.int .u8 z)).rest[27]? = some (.int .u8 z) := List.getElem?_set_self (by omega)
  have g8 : (x.put 27 (.int .u8 z)).rest[28]? = x.rest[28]? := List.getElem?_set_ne (by omega)
  have gi : ∀ i, i < 26 → (x.put 27 (.int .u8 z)).rest[1 + i]? = x.rest[1 + i]? := fun i hi => List.getElem?_set_ne (by omega)
  refine ⟨⟨by rw [g0]; exact hs.kind, fun i hi => by rw [gi i hi]; exact hs.cls i hi, ⟨z, g7⟩, by rw [g8]; exact hs.shown⟩, by unfold kindP; rw [g0], fun i hi => by unfold classP; rw [gi i hi], by unfold nameP; rw [g7]⟩
theorem put_shw {x : PEl} (h : x.ok) (hs : Shp x) (on : Bool) : Shp (x.put 28 (.bool on)) ∧ kindP (x.put 28 (.bool on)) = kindP x ∧ (∀ i, i < 26 → classP (x.put 28 (.bool on)) i = classP x i) ∧ nameP (x.put 28 (.bool on)) = nameP x := by
  have h9 := h.1
  have g0 : (x.put 28 (.bool on)).rest[0]? = x.rest[0]? := List.getElem?_set_ne (by omega)
  have g7 : (x.put 28 (.bool on)).rest[27]? = x.rest[27]? := List.getElem?_set_ne (by omega)
  have g8 : (x.put 28 (.bool on)).rest[28]? = some (.bool on) := List.getElem?_set_self (by omega)
  have gi : ∀ i, i < 26 → (x.put 28 (.bool on)).rest[1 + i]? = x.rest[1 + i]? := fun i hi => List.getElem?_set_ne (by omega)
  refine ⟨⟨by rw [g0]; exact hs.kind, fun i hi => by rw [gi i hi]; exact hs.cls i hi, by rw [g7]; exact hs.name, ⟨on, g8⟩⟩, by unfold kindP; rw [g0], fun i hi => by unfold classP; rw [gi i hi], by unfold nameP; rw [g7]⟩

theorem ba_empty (s : ByteArray) : s.toList.isEmpty = (s.size == 0) := by
  rw [ByteArray.toList_eq]
  obtain ⟨⟨l⟩⟩ := s
  cases l <;> rfl

section
set_option maxRecDepth 100000
set_option maxHeartbeats 4000000
variable (w : World) (b : Nat) (vS : Value × Value) (v : Value) (els : List PEl) (T : Tree) (made : Nat) (n : Int) (s : ByteArray)

theorem pcls_any (on : Bool) (h : PB3 w b vS v els T made) (hw : TW T made) (hsh : ∀ x ∈ els, Shp x) : Calls Tryz.prog 80 #[.pointer (some ⟨b, 1, none⟩), .int .i64 n, .string s, .bool on] w fun e w' => PClsPost w b vS v els T made n s on e w' := by
  have HB : Hid (PB3 w b vS v els T made ∧ TW T made ∧ ∀ x ∈ els, Shp x) := ⟨h, hw, hsh⟩
  have hfew := h.few
  have HERR : Hid (∀ (y : Int) (w' : World), Below w.heap.size w w' → y ≠ 0 → clsErr T n s = y → PClsPost w b vS v els T made n s on (.returned (.tuple #[.int .u8 0, .int .i64 y])) w') := fun y w' hb hy he =>
    ⟨0, y, els, rfl, he.symm, HB.out.1.below hb, (Fr.refl w _).below hb, fun _ => rfl, fun _ _ h0 => absurd h0 hy⟩
  clear h hw hsh
  go_enter Tryz.func80, Tryz.ntmps80
  go_wp2_with fail
  refine (pfind_any w b v els n HB.out.1.c1 HB.out.1.pl hfew).mono ?_
  rintro e w1 ⟨hB1, ⟨hf, rfl⟩ | ⟨ip, xp, hxp, hf, rfl⟩⟩
  · have HE := HERR.out 5 w1 hB1 (by decide) (by unfold clsErr; rw [HB.out.1.pt.find_none hf])
    clear hf
    go_wp2
    go_ret2
    exact HE
  · have HF : Hid (tFind T n = some (kidsP els n) ∧ n = xp.num) := ⟨(HB.out.1.pt.find_some HB.out.2.1 hf).1, (HB.out.1.pt.find_some HB.out.2.1 hf).2.2⟩
    have HIX : Hid (els[ip]? = some xp) := hxp
    have hip : ip < els.length := (List.getElem?_eq_some_iff.1 hxp).1
    clear hf hxp
    go_wp2_with fail
    refine (pone_any w1 s).mono ?_
    rintro e w2 ⟨cc, rfl, hdr, hcb, _⟩
    have hB2 : Below w.heap.size w w2 := hB1.trans (hdr.below.mono hB1.size)
    clear hB1 hdr
    cases hl : isLetter s with
    | false =>
      have HE := HERR.out 4 w2 hB2 (by decide) (by unfold clsErr; rw [HF.out.1]; show (if _ then _ else _) = _; rw [if_pos hl])
      clear hl hcb
      go_wp2
      go_ret2
      exact HE
    | true =>
      have HOK : Hid (clsErr T n s = 0) := by unfold Hid clsErr; rw [HF.out.1]; show (if _ then _ else _) = _; rw [if_neg (by rw [hl]; decide)]
      obtain ⟨k, hk, hbk⟩ := letter_is hl
      have hcc : cc = 97 + (k : Int) := by rw [hcb hl, hbk]; omega
      have HBT : Hid (bt s 0 = 97 + k) := hbk
      subst hcc
      clear hl hcb hbk
      obtain ⟨av, cv, hvv⟩ := HB.out.1.pl.shape
      subst hvv
      have HB2 : Hid (PB3 w2 b vS (.slice av els.length cv) els T made) := HB.out.1.below hB2
      obtain ⟨g, hg, hgl, hr⟩ := HB2.out.pl.at' hip
      subst hg
      have hxe : els[ip] = xp := (List.getElem?_eq_some_iff.1 HIX.out).2
      have q2 : w2.cell? ⟨g, ip * 31 + 3 + k, none⟩ = some (.bool (classP xp k)) := by rw [← hxe, Nat.add_assoc]; exact hr (3 + k) _ ((HB.out.2.2 _ (List.getElem_mem hip)).cl hk)
      have q0 := HB2.out.c1
      obtain ⟨cur, hcur, _⟩ := own_blk HB2.out.pl.row
      have qf : ∀ j, w2.frozen? ⟨g, j, none⟩ = false := fun _ => frozen_of_blk hcur
      have hil : (ip : Int) < (els.length : Int) := by omega
      have HXN : Hid (els[ip] = xp ∧ n.toNat = els[ip].num) := ⟨hxe, by rw [hxe]; have := HF.out.2; omega⟩
      clear hr hxe hcur
      by_cases hc : classP xp k = on
      · have gc : (classP xp k == on) = true := by simp [hc]
        have HE : Hid (PClsPost w b vS (.slice (some ⟨g, 0, none⟩) els.length cv) els T made n s on (.returned (.tuple #[.int .u8 0, .int .i64 0])) w2) := by
          refine ⟨0, 0, els, rfl, HOK.out.symm, HB2.out, (Fr.refl w _).below hB2, fun _ => rfl, fun M hM _ => ?_⟩
          have hx : xp ∈ els := List.mem_of_getElem? HIX.out
          have hnum : n.toNat = xp.num := by have := HF.out.2; omega
          have hmx := hM.1 xp hx
          have hcl : (M xp.num).cl k = on := by rw [← hmx.2.1 k hk]; exact hc
          refine ⟨hM.ext (fun y _ => ?_), Or.inr ⟨by have := HBT.out; omega, by rw [hnum, HBT.out, show 97 + k - 97 = k from by omega]; exact hcl⟩⟩
          unfold setM
          split
          · rename_i e
            rw [e, hnum]
            unfold clsMk
            have : (fun i => if i + 97 = bt s 0 then on else (M xp.num).cl i) = (M xp.num).cl := by
              funext i
              split
              · rename_i e2
                have e3 : i = k := by have := HBT.out; omega
                rw [e3]
                exact hcl.symm
              · rfl
            rw [this]
          · rfl
        clear hc
        generalize classP xp k = old at q2 gc
        go_wp2
        go_ret2
        exact HE.out
      · have gc : (classP xp k == on) = false := by simp [hc]
        have HB5 : Hid (PB3 (w2.setCell ⟨g, ip * 31 + (1 + k + 2), none⟩ (.bool on)) b vS (.slice (some ⟨g, 0, none⟩) els.length cv) (els.set ip (els[ip].put (1 + k) (.bool on))) T made) := HB2.out.put hip (by omega) rfl
        have HE : Hid (PClsPost w b vS (.slice (some ⟨g, 0, none⟩) els.length cv) els T made n s on (.returned (.tuple #[.int .u8 (97 + (k : Int)), .int .i64 0])) (w2.setCell ⟨g, ip * 31 + 3 + k, none⟩ (.bool on))) := by
          rw [show ip * 31 + 3 + k = ip * 31 + (1 + k + 2) from by omega]
          refine ⟨97 + (k : Int), 0, _, rfl, HOK.out.symm, HB5.out, ((Fr.refl w (fun k => (Value.slice (some ⟨g, 0, none⟩) els.length cv).ownBlock = some k)).below hB2).set (p := ⟨g, ip * 31 + (1 + k + 2), none⟩) (Or.inl rfl) _, fun h => absurd rfl h, fun M hM _ => ⟨?_, Or.inl (by rw [HBT.out]; omega)⟩⟩
          rw [HXN.out.2]
          have hx := List.getElem_mem hip
          have hmx := hM.1 _ hx
          obtain ⟨p1, p2, p3, p4⟩ := put_cls (HB.out.1.pl.ok _ hx) (hM.2 _ hx) hk on
          refine hM.put HB.out.1.pt.nums hip rfl p1 ⟨by rw [p2]; exact hmx.1, fun i hi => ?_, by rw [p4]; exact hmx.2.2⟩
          rw [p3 i hi]
          show _ = if i + 97 = bt s 0 then on else _
          by_cases e : i = k
          · rw [if_pos e, if_pos (by rw [HBT.out]; omega)]
          · rw [if_neg e, if_neg (by rw [HBT.out]; omega)]
            exact hmx.2.1 i hi
        clear hc HB5
        generalize classP xp k = old at q2 gc
        go_wp2
        go_ret2
        exact HE.out

def PNamPost (w : World) (b : Nat) (vS : Value × Value) (v : Value) (els : List PEl) (T : Tree) (made : Nat) (n : Int) (s : ByteArray) (e : Ending) (w' : World) : Prop :=
  ∃ (old now y : Int) (els' : List PEl), e = .returned (.tuple #[.int .u8 old, .int .u8 now, .int .i64 y]) ∧ y = namErr T n s ∧ PB3 w' b vS v els' T made ∧ Fr w w' (fun k => v.ownBlock = some k) ∧ (y ≠ 0 → els' = els ∧ old = now) ∧ ∀ M, MkO els M → y = 0 → MkO els' (setM M n.toNat (namMk (M n.toNat) s)) ∧ old = (M n.toNat).nm ∧ now = (namMk (M n.toNat) s).nm

theorem pnam_any (h : PB3 w b vS v els T made) (hw : TW T made) (hsh : ∀ x ∈ els, Shp x) : Calls Tryz.prog 39 #[.pointer (some ⟨b, 1, none⟩), .int .i64 n, .string s] w fun e w' => PNamPost w b vS v els T made n s e w' := by
  have HB : Hid (PB3 w b vS v els T made ∧ TW T made ∧ ∀ x ∈ els, Shp x) := ⟨h, hw, hsh⟩
  have hfew := h.few
  have HERR : Hid (∀ (y : Int) (w' : World), Below w.heap.size w w' → y ≠ 0 → namErr T n s = y → PNamPost w b vS v els T made n s (.returned (.tuple #[.int .u8 0, .int .u8 0, .int .i64 y])) w') := fun y w' hb hy he =>
    ⟨0, 0, y, els, rfl, he.symm, HB.out.1.below hb, (Fr.refl w _).below hb, fun _ => ⟨rfl, rfl⟩, fun _ _ h0 => absurd h0 hy⟩
  clear h hw hsh
  go_enter Tryz.func39, Tryz.ntmps39
  go_wp2_with fail
  refine (pfind_any w b v els n HB.out.1.c1 HB.out.1.pl hfew).mono ?_
  rintro e w1 ⟨hB1, ⟨hf, rfl⟩ | ⟨ip, xp, hxp, hf, rfl⟩⟩
  · have HE := HERR.out 5 w1 hB1 (by decide) (by unfold namErr; rw [HB.out.1.pt.find_none hf])
    clear hf
    go_wp2
    go_ret3
    exact HE
  · have HF : Hid (tFind T n = some (kidsP els n) ∧ n = xp.num) := ⟨(HB.out.1.pt.find_some HB.out.2.1 hf).1, (HB.out.1.pt.find_some HB.out.2.1 hf).2.2⟩
    have HIX : Hid (els[ip]? = some xp) := hxp
    have hip : ip < els.length := (List.getElem?_eq_some_iff.1 hxp).1
    clear hf hxp
    go_wp2_with fail
    refine (pone_any w1 s).mono ?_
    rintro e w2 ⟨cc, rfl, hdr, hcb, hc0⟩
    have hB2 : Below w.heap.size w w2 := hB1.trans (hdr.below.mono hB1.size)
    clear hB1 hdr
    by_cases hbad : s.size ≠ 0 ∧ isLetter s = false
    · have HE := HERR.out 4 w2 hB2 (by decide) (by unfold namErr; rw [HF.out.1]; show (if _ then _ else _) = _; rw [if_pos hbad])
      have hs1 : s.toList.isEmpty = false := by
        rw [ba_empty, beq_eq_false_iff_ne]
        exact hbad.1
      have hs2 := hbad.2
      rw [hs2]
      clear hbad hcb hc0 hs2
      go_wp2
      go_ret3
      exact HE
    · have HOK : Hid (namErr T n s = 0) := by unfold Hid namErr; rw [HF.out.1]; show (if _ then _ else _) = _; rw [if_neg hbad]
      have HCC : Hid (cc = if s.size = 0 then (0 : Int) else (bt s 0 : Int)) := by
        unfold Hid
        by_cases h0 : s.size = 0
        · rw [if_pos h0]; exact hc0 h0
        · rw [if_neg h0]
          refine hcb ?_
          cases hl : isLetter s with
          | true => rfl
          | false => exact absurd ⟨h0, hl⟩ hbad
      obtain ⟨av, cv, hvv⟩ := HB.out.1.pl.shape
      subst hvv
      have HB2 : Hid (PB3 w2 b vS (.slice av els.length cv) els T made) := HB.out.1.below hB2
      obtain ⟨g, hg, hgl, hr⟩ := HB2.out.pl.at' hip
      subst hg
      have hxe : els[ip] = xp := (List.getElem?_eq_some_iff.1 HIX.out).2
      have q2 : w2.cell? ⟨g, ip * 31 + 29, none⟩ = some (.int .u8 (nameP xp)) := by rw [← hxe]; exact hr 29 _ (HB.out.2.2 _ (List.getElem_mem hip)).nm
      have q0 := HB2.out.c1
      obtain ⟨cur, hcur, _⟩ := own_blk HB2.out.pl.row
      have qf : ∀ j, w2.frozen? ⟨g, j, none⟩ = false := fun _ => frozen_of_blk hcur
      have hil : (ip : Int) < (els.length : Int) := by omega
      have HXN : Hid (els[ip] = xp ∧ n.toNat = els[ip].num) := ⟨hxe, by rw [hxe]; have := HF.out.2; omega⟩
      have HB5 : Hid (PB3 (w2.setCell ⟨g, ip * 31 + 29, none⟩ (.int .u8 cc)) b vS (.slice (some ⟨g, 0, none⟩) els.length cv) (els.set ip (els[ip].put 27 (.int .u8 cc))) T made) := HB2.out.put hip (by omega) rfl
      have HE : Hid (PNamPost w b vS (.slice (some ⟨g, 0, none⟩) els.length cv) els T made n s (.returned (.tuple #[.int .u8 (nameP xp), .int .u8 cc, .int .i64 0])) (w2.setCell ⟨g, ip * 31 + 29, none⟩ (.int .u8 cc))) := by
        refine ⟨nameP xp, cc, 0, _, rfl, HOK.out.symm, HB5.out, ((Fr.refl w (fun k => (Value.slice (some ⟨g, 0, none⟩) els.length cv).ownBlock = some k)).below hB2).set (p := ⟨g, ip * 31 + 29, none⟩) (Or.inl rfl) _, fun h => absurd rfl h, fun M hM _ => ?_⟩
        rw [HXN.out.2]
        have hx := List.getElem_mem hip
        have hmx := hM.1 _ hx
        obtain ⟨p1, p2, p3, p4⟩ := put_nam (HB.out.1.pl.ok _ hx) (hM.2 _ hx) cc
        refine ⟨hM.put HB.out.1.pt.nums hip rfl p1 ⟨by rw [p2]; exact hmx.1, fun i hi => by rw [p3 i hi]; exact hmx.2.1 i hi, by rw [p4]; exact HCC.out⟩, by rw [← HXN.out.1]; exact hmx.2.2, HCC.out⟩
      clear hr hxe hcur HB5 hcb hc0
      generalize nameP xp = old at q2 HE
      cases hl : isLetter s with
      | true =>
        clear hl hbad
        go_wp2
        go_ret3
        exact HE.out
      | false =>
        have hs1 : s.toList.isEmpty = true := by
          have h0 : s.size = 0 := by
            by_cases h0 : s.size = 0
            · exact h0
            · exact absurd ⟨h0, hl⟩ hbad
          rw [ba_empty, h0]
          rfl
        clear hl hbad
        go_wp2
        go_ret3
        exact HE.out
end

end Go.Proofs.YtblfffbmklkhmaaGreat
