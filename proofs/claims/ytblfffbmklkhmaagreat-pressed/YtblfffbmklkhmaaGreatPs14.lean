/- Own work. -/
import Derived.Test.YtblfffbmklkhmaaGreatPs6
import Derived.Test.YtblfffbmklkhmaaGreatPs9
import Derived.Test.YtblfffbmklkhmaaGreatPs13
import Derived.Deep.RegionHeld3
namespace Go.Proofs.YtblfffbmklkhmaaGreat
open Go.RowKit
def partLen (s : ByteArray) (i : Nat) : Nat := if bt s i = 33 then (if isL (bt s (i + 1)) = true then 2 else 1 + sl s (i + 1)) else sl s i
theorem good_fun {s : ByteArray} {i j : Nat} {p : PPt} (h : goodPart s i p j) : p = partOf s i ∧ j = i + partLen s i := by
  refine ⟨h.1, ?_⟩
  have h2 := h.2
  unfold partLen
  by_cases h33 : bt s i = 33
  · rw [if_pos h33] at h2 ⊢
    by_cases hl : isL (bt s (i + 1)) = true
    · rw [if_pos hl] at h2 ⊢
      exact h2.2
    · rw [if_neg hl] at h2 ⊢
      have := h2.2.2.2.1
      omega
  · rw [if_neg h33] at h2 ⊢
    exact h2.2.2.2.1
def partsF (s : ByteArray) : Nat → Nat → List PPt × Nat
  | 0, i => ([], i)
  | f + 1, i => if isA (bt s i) = true then (partOf s i :: (partsF s f (i + partLen s i)).1, (partsF s f (i + partLen s i)).2) else ([], i)
theorem parts_fun {s : ByteArray} : ∀ {ks : List PPt} {i j : Nat} (f : Nat), PartsAt s i j ks → isA (bt s j) = false → ks.length ≤ f → partsF s f i = (ks, j)
  | [], i, j, f, h, hA, _ => by
    simp only [PartsAt] at h
    subst h
    cases f with
    | zero => rfl
    | succ f => unfold partsF; rw [if_neg (by rw [hA]; simp)]
  | k :: ks, i, j, f, ⟨h1, l, h2, h3⟩, hA, hf => by
    cases f with
    | zero => simp at hf
    | succ f =>
      obtain ⟨rfl, rfl⟩ := good_fun h2
      unfold partsF
      rw [if_pos h1, parts_fun f h3 hA (by simpa using hf)]
def compH (s : ByteArray) (i : Nat) : Nat × Nat := if isL (bt s i) = true then (bt s i, i + 1) else if bt s i = 42 then (0, i + 1) else (0, i)
/-- Type, parts, end. -/
def compF (s : ByteArray) (f i : Nat) : Nat × List PPt × Nat := ((compH s i).1, partsF s f (compH s i).2)
theorem parts_count {s : ByteArray} : ∀ {ks : List PPt} {i j : Nat}, PartsAt s i j ks → ks.length ≤ j - i
  | [], _, _, _ => by simp
  | _ :: _, _, _, ⟨_, _, h1, h2⟩ => by
    have := good_lt h1
    have := parts_count h2
    have := (parts_le h2).1
    simp only [List.length_cons]
    omega
theorem comp_fun {s : ByteArray} {i j ty : Nat} {ks : List PPt} {f : Nat} (h : CompAt s i j ty ks) (hA : isA (bt s j) = false) (hf : j ≤ f) : compF s f i = (ty, ks, j) := by
  unfold compF compH
  rcases h with ⟨h1, h2, h3⟩ | ⟨h0, h1, h2, h3⟩ | ⟨h0, h1, h2, h3, _⟩
  · have := parts_count h3
    rw [if_pos h1, parts_fun f h3 hA (by omega), h2]
  · have := parts_count h3
    rw [if_neg (by rw [h0]; simp), if_pos h1, parts_fun f h3 hA (by omega), h2]
  · have := parts_count h3
    rw [if_neg (by rw [h0]; simp), if_neg h1, parts_fun f h3 hA (by omega), h2]
def selF (s : ByteArray) (n i0 : Nat) : Nat → Nat → List PCp × Nat
  | 0, i => ([], i)
  | f + 1, i => if isS (bt s (compF s n i).2.2) = true then (⟨sgOf s i0 i, (compF s n i).1, (compF s n i).2.1⟩ :: (selF s n i0 f ((compF s n i).2.2 + 1)).1, (selF s n i0 f ((compF s n i).2.2 + 1)).2) else ([⟨sgOf s i0 i, (compF s n i).1, (compF s n i).2.1⟩], (compF s n i).2.2)
theorem sel_fun {s : ByteArray} {n i0 l j ty : Nat} {ks : List PPt} (hc : CompAt s l j ty ks) (hA : isA (bt s j) = false) (hS : isS (bt s j) = false) (hlj : l < j) (hn : j ≤ n) : ∀ {pre : List PCp} {i : Nat} (f : Nat), SelPre s i0 i l pre → pre.length < f → selF s n i0 f i = (pre ++ [⟨sgOf s i0 l, ty, ks⟩], j)
  | [], i, f, h, hf => by
    simp only [SelPre] at h
    subst h
    cases f with
    | zero => simp at hf
    | succ f =>
      unfold selF
      rw [comp_fun hc hA hn, if_neg (by rw [hS]; simp)]
      rfl
  | x :: cs, i, f, ⟨l', h1, h2, h3, h4, h5, h6⟩, hf => by
    cases f with
    | zero => simp at hf
    | succ f =>
      have := selpre_le h5
      unfold selF
      rw [comp_fun h1 h3 (by omega : l' ≤ n), if_pos h4, sel_fun hc hA hS hlj hn f h5 (by simpa using hf)]
      obtain ⟨sg, tx, px⟩ := x
      replace h6 : sg = sgOf s i0 i := h6
      rw [h6]
      rfl
theorem selpre_count {s : ByteArray} : ∀ {cs : List PCp} {i0 i j : Nat}, SelPre s i0 i j cs → cs.length ≤ j - i
  | [], _, _, _, _ => by simp
  | _ :: _, _, _, _, ⟨l, _, h2, _, _, h5, _⟩ => by
    have := selpre_count h5
    have := selpre_le h5
    simp only [List.length_cons]
    omega
theorem selat_fun {s : ByteArray} {i j n : Nat} {cs : List PCp} (h : SelAt s i j cs) (hn : j ≤ n) : selF s n i n i = (cs, j) := by
  obtain ⟨pre, l, ty, ks, rfl, h2, h3, h4, h5, h6⟩ := h
  have := selpre_count h2
  exact sel_fun h3 h5 h6 h4 hn n h2 (by omega)
def selsF (s : ByteArray) (n : Nat) : Nat → Nat → List (List PCp) × Nat
  | 0, i => ([], i)
  | f + 1, i => if bt s (selF s n i n i).2 = 44 then ((selF s n i n i).1 :: (selsF s n f ((selF s n i n i).2 + 1)).1, (selsF s n f ((selF s n i n i).2 + 1)).2) else ([(selF s n i n i).1], (selF s n i n i).2)
theorem sels_fun {s : ByteArray} {n l j : Nat} {cs : List PCp} (hc : SelAt s l j cs) (h44 : bt s j ≠ 44) (hn : j ≤ n) (hlj : l < j) : ∀ {pre : List (List PCp)} {i : Nat} (f : Nat), SelsPre s i l pre → pre.length < f → selsF s n f i = (pre ++ [cs], j)
  | [], i, f, h, hf => by
    simp only [SelsPre] at h
    subst h
    cases f with
    | zero => simp at hf
    | succ f =>
      unfold selsF
      rw [selat_fun hc hn, if_neg h44]
      rfl
  | x :: ss, i, f, ⟨l', h1, h2, h3, h4⟩, hf => by
    cases f with
    | zero => simp at hf
    | succ f =>
      have := selspre_le h4
      unfold selsF
      rw [selat_fun h1 (by omega : l' ≤ n), if_pos h3, sels_fun hc h44 hn hlj f h4 (by simpa using hf)]
      rfl
theorem selspre_count {s : ByteArray} : ∀ {ss : List (List PCp)} {i j : Nat}, SelsPre s i j ss → ss.length ≤ j - i
  | [], _, _, _ => by simp
  | _ :: _, _, _, ⟨l, _, h2, _, h5⟩ => by
    have := selspre_count h5
    have := selspre_le h5
    simp only [List.length_cons]
    omega
theorem selsat_fun {s : ByteArray} {i j n : Nat} {ss : List (List PCp)} (h : SelsAt s i j ss) (hn : j ≤ n) : selsF s n n i = (ss, j) := by
  obtain ⟨pre, l, cs, rfl, h2, h3, h4, h5⟩ := h
  have := selspre_count h2
  exact sels_fun h3 h5 hn h4 n h2 (by omega)
def digsF (s : ByteArray) (i : Nat) : Nat := if isD (bt s (i + 1)) = true then (if isD (bt s (i + 2)) = true then 3 else 2) else 1
/-- Kind, number, variable, end. -/
def valF (s : ByteArray) (i : Nat) : Int × Int × Int × Nat :=
  if bt s i = 105 then (2, 0, 0, i + 1) else if bt s i = 114 then (3, 0, 0, i + 1) else if bt s i = 117 then (4, 0, 0, i + 1) else if bt s i = 36 then (5, 0, bt s (i + 1), i + 2) else (1, numV s i (digsF s i), 0, i + digsF s i)
theorem val_fun {s : ByteArray} {i j : Nat} {kd nv vr : Int} (h : ValAt s i j kd nv vr) : valF s i = (kd, nv, vr, j) := by
  unfold valF
  rcases h with ⟨h1, rfl, rfl, rfl, rfl⟩ | ⟨h1, rfl, rfl, rfl, rfl⟩ | ⟨h1, rfl, rfl, rfl, rfl⟩ | ⟨h1, rfl, rfl, rfl, _, rfl⟩ | ⟨rfl, h2, rfl, h4, h5, h6, h7⟩
  · rw [if_pos h1]
  · rw [if_neg (by omega), if_pos h1]
  · rw [if_neg (by omega), if_neg (by omega), if_pos h1]
  · rw [if_neg (by omega), if_neg (by omega), if_neg (by omega), if_pos h1]
  · have h0 := dig_of (h6 i (Nat.le_refl _) h4)
    rw [if_neg (by omega), if_neg (by omega), if_neg (by omega), if_neg (by omega)]
    have hd : digsF s i = j - i := by
      unfold digsF
      by_cases a : i + 1 < j
      · rw [if_pos (h6 _ (by omega) a)]
        by_cases b : i + 2 < j
        · rw [if_pos (h6 _ (by omega) b)]; omega
        · obtain rfl : j = i + 2 := by omega
          rcases h7 with h7 | h7
          · omega
          · rw [if_neg (by rw [h7]; simp)]; omega
      · obtain rfl : j = i + 1 := by omega
        rcases h7 with h7 | h7
        · omega
        · rw [if_neg (by rw [h7]; simp)]; omega
    rw [hd, h2, show i + (j - i) = j from by omega]
def declF (s : ByteArray) (i : Nat) : PDc × Nat :=
  (⟨bt s i, (valF s (i + 2)).1, (valF s (i + 2)).2.1, (valF s (i + 2)).2.2.1, decide (bt s (valF s (i + 2)).2.2.2 = 33)⟩, (valF s (i + 2)).2.2.2 + if bt s (valF s (i + 2)).2.2.2 = 33 then 1 else 0)
theorem decl_fun {s : ByteArray} {i j : Nat} {d : PDc} (h : DeclAt s i j d) : declF s i = (d, j) := by
  obtain ⟨_, h2, _, k, h4, _, h6⟩ := h
  obtain ⟨pr, kd, nu, va, im⟩ := d
  unfold declF
  rw [val_fun h4]
  replace h2 : pr = bt s i := h2
  subst h2
  rcases h6 with ⟨h7, h8, h9⟩ | ⟨h7, h8, h9⟩
  · replace h7 : im = true := h7
    simp [h7, h8, h9]
  · replace h7 : im = false := h7
    simp [h7, h8, h9]
def dcsF (s : ByteArray) : Nat → Nat → List PDc × Nat
  | 0, i => ([], i)
  | f + 1, i => if bt s (declF s i).2 = 59 then ((declF s i).1 :: (dcsF s f ((declF s i).2 + 1)).1, (dcsF s f ((declF s i).2 + 1)).2) else ([(declF s i).1], (declF s i).2)
theorem dcs_fun {s : ByteArray} {l j : Nat} {d : PDc} (hc : DeclAt s l j d) (h59 : bt s j ≠ 59) : ∀ {pre : List PDc} {i : Nat} (f : Nat), DcPre s i l pre → pre.length < f → dcsF s f i = (pre ++ [d], j)
  | [], i, f, h, hf => by
    simp only [DcPre] at h
    subst h
    cases f with
    | zero => simp at hf
    | succ f =>
      unfold dcsF
      rw [decl_fun hc, if_neg h59]
      rfl
  | x :: ss, i, f, ⟨l', h1, h2, h3, h4⟩, hf => by
    cases f with
    | zero => simp at hf
    | succ f =>
      unfold dcsF
      rw [decl_fun h1, if_pos h3, dcs_fun hc h59 f h4 (by simpa using hf)]
      rfl
theorem dcpre_count {s : ByteArray} : ∀ {ds : List PDc} {i j : Nat}, DcPre s i j ds → i ≤ j ∧ ds.length ≤ j - i
  | [], _, _, h => by simp only [DcPre] at h; subst h; simp
  | _ :: _, _, _, ⟨l, _, h2, _, h5⟩ => by
    have := dcpre_count h5
    simp only [List.length_cons]
    omega
theorem dcsat_fun {s : ByteArray} {i j n : Nat} {ds : List PDc} (h : DcsAt s i j ds) (hn : j ≤ n) : dcsF s n i = (ds, j) := by
  obtain ⟨pre, l, d, rfl, h2, h3, h4, h5⟩ := h
  have := dcpre_count h2
  exact dcs_fun h3 h5 n h2 (by omega)
def blkF (s : ByteArray) (n i : Nat) : List PDc × Nat := if bt s (i + 1) = 125 then ([], i + 2) else ((dcsF s n (i + 1)).1, (dcsF s n (i + 1)).2 + 1)
theorem blk_fun {s : ByteArray} {i j n : Nat} {ds : List PDc} (h : BlkAt s i j ds) (hn : j ≤ n) : blkF s n i = (ds, j) := by
  unfold blkF
  rcases h.2 with ⟨h1, rfl, rfl⟩ | ⟨h1, k, h2, h3, rfl⟩
  · rw [if_pos h1]
  · rw [if_neg h1, dcsat_fun h2 (by omega)]
def layF (s : ByteArray) (i : Nat) : Nat := if bt s i = 64 then i + 2 else i
def ruleF (s : ByteArray) (n i : Nat) : PRu × Nat :=
  (⟨layV s i, (selsF s n n (layF s i)).1, (blkF s n (selsF s n n (layF s i)).2).1⟩, (blkF s n (selsF s n n (layF s i)).2).2)
theorem rule_fun {s : ByteArray} {i j n : Nat} {r : PRu} (h : RuleAt s i j r) (hn : j ≤ n) : ruleF s n i = (r, j) := by
  obtain ⟨l, q, h1, h2, h3, h4, h5, h6, h7, h8⟩ := h
  have hl : layF s i = l := by
    unfold layF
    rcases h1 with ⟨a, b⟩ | ⟨a, b⟩
    · rw [if_pos a, b]
    · rw [if_neg a, b]
  unfold ruleF
  rw [hl, selsat_fun h2 (by omega), blk_fun h8 hn, ← h7]
def rulsF (s : ByteArray) (n : Nat) : Nat → Nat → List PRu
  | 0, _ => []
  | f + 1, i => if i < s.size then (ruleF s n i).1 :: rulsF s n f (ruleF s n i).2 else []
theorem rulsat_le {s : ByteArray} : ∀ {rs : List PRu} {i j : Nat}, RulsAt s i j rs → i ≤ j
  | [], _, _, h => by simp only [RulsAt] at h; omega
  | _ :: _, _, _, ⟨_, _, h2, h5⟩ => by have := rulsat_le h5; omega
theorem ruls_fun {s : ByteArray} {n : Nat} (hn : s.size ≤ n) : ∀ {rs : List PRu} {i : Nat} (f : Nat), RulsAt s i s.size rs → s.size - i ≤ f → rulsF s n f i = rs
  | [], i, f, h, _ => by
    simp only [RulsAt] at h
    subst h
    cases f with
    | zero => rfl
    | succ f => unfold rulsF; rw [if_neg (Nat.lt_irrefl _)]
  | r :: rs, i, f, ⟨l, h1, h2, h3⟩, hf => by
    have := rulsat_le h3
    cases f with
    | zero => omega
    | succ f =>
      unfold rulsF
      rw [if_pos (by omega), rule_fun h1 (by omega), ruls_fun hn f h3 (by omega)]
/-- The rules of a sheet. -/
def sheetOf (s : ByteArray) : List PRu := rulsF s 400 400 0
theorem sheet_fun {s : ByteArray} (h4 : s.size ≤ 400) {rs : List PRu} (h : RulsAt s 0 s.size rs) : sheetOf s = rs := ruls_fun h4 400 h (by omega)
end Go.Proofs.YtblfffbmklkhmaaGreat

namespace Go.Proofs.YtblfffbmklkhmaaGreat
open Go.RowKit
/-- The digits are within bounds. -/
def PPt.fine (p : PPt) : Prop := (-48 ≤ p.st ∧ p.st ≤ 207) ∧ (-48 ≤ p.sr ∧ p.sr ≤ 207)
theorem place_fine (s : ByteArray) (i : Nat) : (placeOf s i).fine := by
  have h1 := bt_lt s (i + 1)
  have h2 := bt_lt s (i + 2)
  unfold placeOf
  (repeat' split) <;> (refine ⟨⟨?_, ?_⟩, ⟨?_, ?_⟩⟩ <;> simp <;> omega)
theorem simp_fine (s : ByteArray) (i : Nat) : (simpOf s i).fine := by
  unfold simpOf
  split
  · refine ⟨⟨?_, ?_⟩, ⟨?_, ?_⟩⟩ <;> simp
  · split
    · refine ⟨⟨?_, ?_⟩, ⟨?_, ?_⟩⟩ <;> simp
    · exact place_fine s _
theorem part_fine (s : ByteArray) (i : Nat) : (partOf s i).fine := by
  unfold partOf
  split
  · split
    · refine ⟨⟨?_, ?_⟩, ⟨?_, ?_⟩⟩ <;> simp
    · exact simp_fine s _
  · exact simp_fine s _
theorem parts_fine {s : ByteArray} : ∀ {ks : List PPt} {i j : Nat}, PartsAt s i j ks → ∀ p ∈ ks, p.fine
  | [], _, _, _ => fun p hp => by cases hp
  | _ :: _, _, _, ⟨_, _, h2, h3⟩ => fun p hp => by
    rcases List.mem_cons.1 hp with rfl | hp
    · rw [(good_fun h2).1]; exact part_fine s _
    · exact parts_fine h3 p hp
/-- A declaration's letters are bytes. -/
def PDc.fine (d : PDc) : Prop := (0 ≤ d.pr ∧ d.pr ≤ 255) ∧ (0 ≤ d.va ∧ d.va ≤ 255)
/-- The rules of a sheet in memory. -/
structure RsRow (w : World) (ar : Option Addr) (cr : Nat) (xs : List Value) (rs : List PRu) : Prop where
  row : w.ownsRow 0 138 3 (.slice ar rs.length cr) rs.length xs
  ruls : Ruls w 0 xs rs
  few : rs.length ≤ 400
  short : ∀ r ∈ rs, r.ss.length ≤ 400 ∧ ∀ cs ∈ r.ss, Short cs
  fine : ∀ r ∈ rs, ∀ cs ∈ r.ss, ∀ x ∈ cs, ∀ p ∈ x.ps, p.fine
  decl : ∀ r ∈ rs, r.ds.length ≤ 400 ∧ ∀ d ∈ r.ds, d.fine
theorem RsRow.below {w w' : World} {ar : Option Addr} {cr : Nat} {xs : List Value} {rs : List PRu} (h : RsRow w ar cr xs rs) (hB : Below w.heap.size w w') : RsRow w' ar cr xs rs :=
  ⟨own_below h.row hB, h.ruls.keep (fun _ _ => keeps_below hB _ _), h.few, h.short, h.fine, h.decl⟩
theorem comp_fine {s : ByteArray} {i j ty : Nat} {ks : List PPt} (h : CompAt s i j ty ks) : ∀ p ∈ ks, p.fine := by
  rcases h with ⟨_, _, h⟩ | ⟨_, _, _, h⟩ | ⟨_, _, _, h, _⟩ <;> exact parts_fine h
theorem selpre_fine {s : ByteArray} : ∀ {cs : List PCp} {i0 i j : Nat}, SelPre s i0 i j cs → ∀ x ∈ cs, ∀ p ∈ x.ps, p.fine
  | [], _, _, _, _ => fun x hx => by cases hx
  | y :: cs, _, i, j, ⟨l, h1, _, _, _, h5, _⟩ => fun x hx => by
    rcases List.mem_cons.1 hx with rfl | hx
    · exact comp_fine h1
    · exact selpre_fine h5 x hx
theorem sel_fine {s : ByteArray} {i j : Nat} {cs : List PCp} (h : SelAt s i j cs) : ∀ x ∈ cs, ∀ p ∈ x.ps, p.fine := by
  obtain ⟨pre, l, ty, ks, rfl, h2, h3, _⟩ := h
  intro x hx
  rcases List.mem_append.1 hx with hx | hx
  · exact selpre_fine h2 x hx
  · rw [List.mem_singleton] at hx
    subst hx
    exact comp_fine h3
theorem selspre_fine {s : ByteArray} : ∀ {ss : List (List PCp)} {i j : Nat}, SelsPre s i j ss → ∀ cs ∈ ss, ∀ x ∈ cs, ∀ p ∈ x.ps, p.fine
  | [], _, _, _ => fun x hx => by cases hx
  | cs :: ss, i, j, ⟨l, h1, _, _, h5⟩ => fun x hx => by
    rcases List.mem_cons.1 hx with rfl | hx
    · exact sel_fine h1
    · exact selspre_fine h5 x hx
theorem sels_fine {s : ByteArray} {i j : Nat} {ss : List (List PCp)} (h : SelsAt s i j ss) : ∀ cs ∈ ss, ∀ x ∈ cs, ∀ p ∈ x.ps, p.fine := by
  obtain ⟨pre, l, cs, rfl, h2, h3, _⟩ := h
  intro x hx
  rcases List.mem_append.1 hx with hx | hx
  · exact selspre_fine h2 x hx
  · rw [List.mem_singleton] at hx
    subst hx
    exact sel_fine h3
theorem decl_fine {s : ByteArray} {i j : Nat} {d : PDc} (h : DeclAt s i j d) : d.fine := by
  obtain ⟨_, h2, _, k, hv, _⟩ := h
  have b1 := bt_lt s i
  have b2 := bt_lt s (i + 2 + 1)
  refine ⟨by rw [h2]; omega, ?_⟩
  rcases hv with h | h | h | h | h
  · rw [h.2.2.2.1]; omega
  · rw [h.2.2.2.1]; omega
  · rw [h.2.2.2.1]; omega
  · rw [h.2.2.2.1]; omega
  · rw [h.2.2.1]; omega
theorem dcpre_fine {s : ByteArray} : ∀ {ds : List PDc} {i j : Nat}, DcPre s i j ds → i + ds.length ≤ j ∧ ∀ d ∈ ds, d.fine
  | [], _, _, h => ⟨by simp only [DcPre] at h; simp; omega, fun x hx => by cases hx⟩
  | d :: ds, i, j, ⟨l, h1, h2, _, h5⟩ => by
    obtain ⟨a, b⟩ := dcpre_fine h5
    refine ⟨by rw [List.length_cons]; omega, fun x hx => ?_⟩
    rcases List.mem_cons.1 hx with rfl | hx
    · exact decl_fine h1
    · exact b x hx
theorem blk_fine {s : ByteArray} {i j : Nat} {ds : List PDc} (h : BlkAt s i j ds) (hj : j ≤ 400) : ds.length ≤ 400 ∧ ∀ d ∈ ds, d.fine := by
  rcases h.2 with ⟨_, rfl, _⟩ | ⟨_, k, ⟨pre, l, d, rfl, h2, h3, h4, _⟩, _, rfl⟩
  · exact ⟨by simp, fun x hx => by cases hx⟩
  · obtain ⟨a, b⟩ := dcpre_fine h2
    refine ⟨by simp; omega, fun x hx => ?_⟩
    rcases List.mem_append.1 hx with hx | hx
    · exact b x hx
    · rw [List.mem_singleton] at hx
      subst hx
      exact decl_fine h3
theorem ruls_fine {s : ByteArray} : ∀ {rs : List PRu} {i j : Nat}, RulsAt s i j rs → j ≤ 400 → (∀ r ∈ rs, ∀ cs ∈ r.ss, ∀ x ∈ cs, ∀ p ∈ x.ps, p.fine) ∧ ∀ r ∈ rs, r.ds.length ≤ 400 ∧ ∀ d ∈ r.ds, d.fine
  | [], _, _, _, _ => ⟨fun x hx => (by cases hx), fun x hx => by cases hx⟩
  | r :: rs, i, j, ⟨l, h1, h2, h5⟩, hj => by
    have hl := ruls_le h5
    obtain ⟨a, b⟩ := ruls_fine h5 hj
    obtain ⟨p, q, _, a2, _, _, _, _, _, a9⟩ := h1
    refine ⟨fun x hx => ?_, fun x hx => ?_⟩
    · rcases List.mem_cons.1 hx with rfl | hx
      · exact sels_fine a2
      · exact a x hx
    · rcases List.mem_cons.1 hx with rfl | hx
      · exact blk_fine a9 (by omega)
      · exact b x hx
def clsErr (T : Tree) (n : Int) (s : ByteArray) : Int := match tFind T n with | none => 5 | some _ => if isLetter s = false then 4 else 0
def namErr (T : Tree) (n : Int) (s : ByteArray) : Int := match tFind T n with | none => 5 | some _ => if s.size ≠ 0 ∧ isLetter s = false then 4 else 0
/-- A sheet that lies in the blocks G. -/
def SheetIn (w : World) (G : Nat → Prop) (v : Value) (rs : List PRu) : Prop :=
  ∃ (ar : Option Addr) (cr : Nat) (xs : List Value), v = .slice ar rs.length cr ∧ ∀ w' : World, (∀ k, G k → k < w.heap.size → w'.heap[k]? = w.heap[k]?) → RsRow w' ar cr xs rs
theorem SheetIn.keep {w w' : World} {G : Nat → Prop} {v : Value} {rs : List PRu} (h : SheetIn w G v rs) (hk : ∀ k, G k → k < w.heap.size → w'.heap[k]? = w.heap[k]?) (hz : w.heap.size ≤ w'.heap.size) : SheetIn w' G v rs := by
  obtain ⟨ar, cr, xs, hv, h⟩ := h
  exact ⟨ar, cr, xs, hv, fun w2 h2 => h w2 (fun k hg hl => (h2 k hg (by omega)).trans (hk k hg hl))⟩
theorem SheetIn.row {w : World} {G : Nat → Prop} {v : Value} {rs : List PRu} (h : SheetIn w G v rs) : ∃ (ar : Option Addr) (cr : Nat) (xs : List Value), v = .slice ar rs.length cr ∧ RsRow w ar cr xs rs := by
  obtain ⟨ar, cr, xs, hv, h⟩ := h
  exact ⟨ar, cr, xs, hv, h w (fun _ _ _ => rfl)⟩
theorem chk_400 {s : ByteArray} (h : (chk s).1 = 0) : s.size ≤ 400 := by
  unfold chk at h
  split at h
  · cases h
  · omega
/-- Out of what Read tells. -/
theorem sheet_in {w w' : World} {s : ByteArray} {a : Option Addr} {n c : Nat} {rs : List PRu} {xs : List Value} (hc : (chk s).1 = 0) (hn : n = rs.length) (ho : w'.ownsRow w.heap.size 138 3 (.slice a n c) n xs) (hr : Ruls w' w.heap.size xs rs) (ht : RulsAt s 0 s.size rs) : SheetIn w' (fun k => w.heap.size ≤ k ∧ k < w'.heap.size) (.slice a n c) (sheetOf s) := by
  have h4 := chk_400 hc
  rw [sheet_fun h4 ht]
  subst hn
  obtain ⟨hl, hs⟩ := ruls_short ht h4
  obtain ⟨hf, hd⟩ := ruls_fine ht h4
  refine ⟨a, c, xs, rfl, fun w2 h2 => ?_⟩
  have hk : ∀ e, Keeps w' w2 w.heap.size e := fun e g cur hg hh => by
    have hgl := (Array.getElem?_eq_some_iff.1 hh).1
    exact (h2 g ⟨hg, hgl⟩ hgl).trans hh
  exact ⟨own_mono ((hk _).owns ho) (Nat.zero_le _), (hr.keep (fun e _ => hk e)).mono (Nat.zero_le _), by omega, hs, hf, hd⟩
end Go.Proofs.YtblfffbmklkhmaaGreat

namespace Go.Proofs.YtblfffbmklkhmaaGreat
open Go.RowKit
section
set_option maxRecDepth 100000
set_option maxHeartbeats 4000000
variable (w : World) (b : Nat) (a : Option Addr) (c : Nat) (els : List PEl) (n : Int)
theorem psimple_any (nt : Bool) (kd lt st sr : Int) (h : TRd w b a c els) (hp : PPt.fine ⟨nt, kd, lt, st, sr⟩) : Calls Tryz.prog 221 #[.agg #[.bool nt, .int .i64 kd, .int .u8 lt, .int .i64 st, .int .i64 sr], .pointer (some ⟨b, 1, none⟩), .int .i64 n] w fun e w' => PBool w (simpP els ⟨nt, kd, lt, st, sr⟩ n) e w' := by
  have HT : Hid (TRd (w.alloc (.cells #[.bool nt, .int .i64 kd, .int .u8 lt, .int .i64 st, .int .i64 sr] 192)) b a c els) := h.below ((Below.refl _ _).alloc (Nat.le_refl _) _)
  have HF : Hid (PPt.fine ⟨nt, kd, lt, st, sr⟩) := hp
  have hfew := h.few
  have hhl := aheadP_len els n
  have HB : Hid (∀ (r : Bool) w1, simpP els ⟨nt, kd, lt, st, sr⟩ n = r → Below (w.heap.size + 1) (w.alloc (.cells #[.bool nt, .int .i64 kd, .int .u8 lt, .int .i64 st, .int .i64 sr] 192)) w1 → PBool w (simpP els ⟨nt, kd, lt, st, sr⟩ n) (.returned (.bool r)) w1) := fun r w1 hr hb => ⟨by rw [hr], ((Below.refl _ _).alloc (Nat.le_refl _) _).trans (hb.mono (by omega))⟩
  have HS : Hid (simpP els ⟨nt, kd, lt, st, sr⟩ n = if kd = 1 then hasTypeP els n lt else if kd = 2 then hasClassP els n lt else if kd = 3 then hasNameP els n lt
    else if kd = 4 then decide (((aheadP els n).length : Int) + 1 = 1) else if kd = 5 then lastP els n else if kd = 6 then emptyP els n
    else if kd = 7 then nthP (((aheadP els n).length : Int) + 1) st sr else false) := rfl
  clear h hp
  by_cases h1 : kd = 1
  · have HR : Hid (simpP els ⟨nt, kd, lt, st, sr⟩ n = hasTypeP els n lt) := by unfold Hid; rw [HS.out, if_pos h1]
    have g1 : (kd == 1) = true := by simp [h1]
    clear h1 HS
    go_enter Tryz.func221, Tryz.ntmps221
    go_wp2_with fail
    refine (phasType_any _ b a c els n lt HT.out).mono ?_
    rintro e w1 ⟨rfl, hB⟩
    have HE := HB.out _ w1 HR.out (hB.mono (by simp))
    clear hB
    generalize hasTypeP els n lt = r at HE ⊢
    go_wp2
    go_ret
    exact HE
  have g1 : (kd == 1) = false := by simp [h1]
  by_cases h2 : kd = 2
  · have HR : Hid (simpP els ⟨nt, kd, lt, st, sr⟩ n = hasClassP els n lt) := by unfold Hid; rw [HS.out, if_neg h1, if_pos h2]
    have g2 : (kd == 2) = true := by simp [h2]
    clear h1 h2 HS
    go_enter Tryz.func221, Tryz.ntmps221
    go_wp2_with fail
    refine (phasClass_any _ b a c els n lt HT.out).mono ?_
    rintro e w1 ⟨rfl, hB⟩
    have HE := HB.out _ w1 HR.out (hB.mono (by simp))
    clear hB
    generalize hasClassP els n lt = r at HE ⊢
    go_wp2
    go_ret
    exact HE
  have g2 : (kd == 2) = false := by simp [h2]
  by_cases h3 : kd = 3
  · have HR : Hid (simpP els ⟨nt, kd, lt, st, sr⟩ n = hasNameP els n lt) := by unfold Hid; rw [HS.out, if_neg h1, if_neg h2, if_pos h3]
    have g3 : (kd == 3) = true := by simp [h3]
    clear h1 h2 h3 HS
    go_enter Tryz.func221, Tryz.ntmps221
    go_wp2_with fail
    refine (phasName_any _ b a c els n lt HT.out).mono ?_
    rintro e w1 ⟨rfl, hB⟩
    have HE := HB.out _ w1 HR.out (hB.mono (by simp))
    clear hB
    generalize hasNameP els n lt = r at HE ⊢
    go_wp2
    go_ret
    exact HE
  have g3 : (kd == 3) = false := by simp [h3]
  by_cases h4 : kd = 4
  · have HR : Hid (simpP els ⟨nt, kd, lt, st, sr⟩ n = ((((aheadP els n).length : Int) + 1) == 1)) := by unfold Hid; rw [HS.out, if_neg h1, if_neg h2, if_neg h3, if_pos h4]; rfl
    have g4 : (kd == 4) = true := by simp [h4]
    clear h1 h2 h3 h4 HS
    go_enter Tryz.func221, Tryz.ntmps221
    go_wp2_with fail
    refine (pplaceOf_any _ b a c els n HT.out).mono ?_
    rintro e w1 ⟨rfl, hB⟩
    have HE := HB.out _ w1 HR.out (hB.mono (by simp))
    clear hB HR
    obtain ⟨r, hr⟩ : ∃ r, (((aheadP els n).length : Int) + 1) = r := ⟨_, rfl⟩
    rw [hr] at HE ⊢
    clear hr
    go_wp2
    go_ret
    exact HE
  have g4 : (kd == 4) = false := by simp [h4]
  by_cases h5 : kd = 5
  · have HR : Hid (simpP els ⟨nt, kd, lt, st, sr⟩ n = lastP els n) := by unfold Hid; rw [HS.out, if_neg h1, if_neg h2, if_neg h3, if_neg h4, if_pos h5]
    have g5 : (kd == 5) = true := by simp [h5]
    clear h1 h2 h3 h4 h5 HS
    go_enter Tryz.func221, Tryz.ntmps221
    go_wp2_with fail
    refine (plast_any _ b a c els n HT.out).mono ?_
    rintro e w1 ⟨rfl, hB⟩
    have HE := HB.out _ w1 HR.out (hB.mono (by simp))
    clear hB
    generalize lastP els n = r at HE ⊢
    go_wp2
    go_ret
    exact HE
  have g5 : (kd == 5) = false := by simp [h5]
  by_cases h6 : kd = 6
  · have HR : Hid (simpP els ⟨nt, kd, lt, st, sr⟩ n = emptyP els n) := by unfold Hid; rw [HS.out, if_neg h1, if_neg h2, if_neg h3, if_neg h4, if_neg h5, if_pos h6]
    have g6 : (kd == 6) = true := by simp [h6]
    clear h1 h2 h3 h4 h5 h6 HS
    go_enter Tryz.func221, Tryz.ntmps221
    go_wp2_with fail
    refine (pempty_any _ b a c els n HT.out).mono ?_
    rintro e w1 ⟨rfl, hB⟩
    have HE := HB.out _ w1 HR.out (hB.mono (by simp))
    clear hB
    generalize emptyP els n = r at HE ⊢
    go_wp2
    go_ret
    exact HE
  have g6 : (kd == 6) = false := by simp [h6]
  by_cases h7 : kd = 7
  · have HR : Hid (simpP els ⟨nt, kd, lt, st, sr⟩ n = nthP (((aheadP els n).length : Int) + 1) st sr) := by unfold Hid; rw [HS.out, if_neg h1, if_neg h2, if_neg h3, if_neg h4, if_neg h5, if_neg h6, if_pos h7]
    have g7 : (kd == 7) = true := by simp [h7]
    clear h1 h2 h3 h4 h5 h6 h7 HS
    go_enter Tryz.func221, Tryz.ntmps221
    go_wp2_with fail
    refine (pplaceOf_any _ b a c els n HT.out).mono ?_
    rintro e w1 ⟨rfl, hB⟩
    have hz1 : w.heap.size < w1.heap.size := by have := hB.size; simp at this; omega
    have q3 : w1.cell? ⟨w.heap.size, 3, none⟩ = some (.int .i64 st) := (hB.cell (p := ⟨w.heap.size, 3, none⟩) (by simp)).trans (cell_of_blk (heap_alloc_new w _) rfl)
    have q4 : w1.cell? ⟨w.heap.size, 4, none⟩ = some (.int .i64 sr) := (hB.cell (p := ⟨w.heap.size, 4, none⟩) (by simp)).trans (cell_of_blk (heap_alloc_new w _) rfl)
    have HB1 : Hid (Below (w.heap.size + 1) (w.alloc (.cells #[.bool nt, .int .i64 kd, .int .u8 lt, .int .i64 st, .int .i64 sr] 192)) w1) := hB.mono (by simp)
    have hbz := HB1.out.size
    clear hB
    have hpl : 0 ≤ (((aheadP els n).length : Int) + 1) ∧ (((aheadP els n).length : Int) + 1) ≤ 100 := by omega
    go_wp2_with fail
    refine (pnth_any w1 _ st sr hpl HF.out.1 HF.out.2).mono ?_
    rintro e w2 ⟨rfl, hB2⟩
    have HE := HB.out _ w2 HR.out (HB1.out.trans (hB2.mono (by omega)))
    clear hB2
    generalize nthP (((aheadP els n).length : Int) + 1) st sr = r at HE ⊢
    go_wp2
    go_ret
    exact HE
  · have HR : Hid (simpP els ⟨nt, kd, lt, st, sr⟩ n = false) := by unfold Hid; rw [HS.out, if_neg h1, if_neg h2, if_neg h3, if_neg h4, if_neg h5, if_neg h6, if_neg h7]
    have g7 : (kd == 7) = false := by simp [h7]
    clear h1 h2 h3 h4 h5 h6 h7 HS
    have HE := HB.out _ _ HR.out (Below.refl _ _)
    go_enter Tryz.func221, Tryz.ntmps221
    go_wp2
    go_ret
    exact HE
end
end Go.Proofs.YtblfffbmklkhmaaGreat
