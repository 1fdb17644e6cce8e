/- Own work. -/
import Derived.Test.YtblfffbmklkhmaaGreatAw15
import Derived.Test.YtblfffbmklkhmaaGreatAw12
import Derived.Laws.IdiomStrings
namespace Go.Proofs.YtblfffbmklkhmaaGreat
open Go.RowKit
/-- The compounds of a selector in memory. -/
structure ClRow (w : World) (ac : Option Addr) (cc : Nat) (xs : List Value) (cs : List PCp) : Prop where
  row : w.ownsRow 0 190 3 (.slice ac cs.length cc) cs.length xs
  comps : Comps w 0 xs cs
  few : cs.length ≤ 400
  short : ∀ x ∈ cs, x.ps.length ≤ 400
  fine : ∀ x ∈ cs, ∀ p ∈ x.ps, p.fine
theorem ClRow.below {w w' : World} {ac : Option Addr} {cc : Nat} {xs : List Value} {cs : List PCp} (h : ClRow w ac cc xs cs) (hB : Below w.heap.size w w') : ClRow w' ac cc xs cs :=
  ⟨own_below h.row hB, h.comps.keep (keeps_below hB _ _), h.few, h.short, h.fine⟩
theorem chain_one {els : List PEl} {x : PCp} {r : List PCp} {n : Int} (h : compP els x n = false ∨ r = []) : chainR els (x :: r) n = compP els x n := by
  cases r with
  | nil => rfl
  | cons d r =>
    rcases h with h | h
    · show (compP els x n && _) = _
      rw [h]
      rfl
    · cases h
theorem chain_all {els : List PEl} {x : PCp} {r : List PCp} {n : Int} (h : compP els x n = true) (hr : r ≠ []) : chainR els (x :: r) n = (signedP els x.sg n).any (chainR els r) := by
  cases r with
  | nil => exact absurd rfl hr
  | cons d r =>
    show (compP els x n && _) = _
    rw [h]
    rfl
theorem signed_len (els : List PEl) (sg n : Int) : (signedP els sg n).length ≤ els.length := by
  have h1 : ∀ k m, (aboveP els k m).length ≤ k := by
    intro k
    induction k with
    | zero => intro m; simp [aboveP]
    | succ k ih =>
      intro m
      show (if parP els m = -1 then [] else _).length ≤ _
      split
      · simp
      · have := ih (parP els m); simp; omega
  have h2 := h1 els.length n
  have h3 := aheadP_len els n
  unfold signedP
  (repeat' split) <;> (try rw [List.length_take]) <;> (try simp) <;> omega
section
set_option maxRecDepth 100000
set_option maxHeartbeats 4000000
variable (b : Nat) (a : Option Addr) (c : Nat) (els : List PEl)
theorem pchain_any (ac : Option Addr) (cc : Nat) (xs : List Value) (cs : List PCp) : ∀ (m : Nat) (w : World) (n : Int), m ≤ cs.length → TRd w b a c els → ClRow w ac cc xs cs →
    Calls Tryz.prog 209 #[.slice ac m cc, .pointer (some ⟨b, 1, none⟩), .int .i64 n] w fun e w' => PBool w (chainR els (cs.take m).reverse n) e w'
  | 0, w, n, _, _, _ => by
    have HR : Hid (PBool w (chainR els (cs.take 0).reverse n) (.returned (.bool false)) w) := ⟨rfl, Below.refl _ _⟩
    go_enter Tryz.func209, Tryz.ntmps209
    go_wp2
    go_ret
    exact HR.out
  | m + 1, w, n, hm, h, ho => by
    have IH : Hid (∀ (w : World) (n : Int), TRd w b a c els → ClRow w ac cc xs cs → Calls Tryz.prog 209 #[.slice ac m cc, .pointer (some ⟨b, 1, none⟩), .int .i64 n] w fun e w' => PBool w (chainR els (cs.take m).reverse n) e w') := fun w n => pchain_any ac cc xs cs m w n (by omega)
    have HT : Hid (TRd w b a c els) := h
    have HO : Hid (ClRow w ac cc xs cs) := ho
    have hfew := h.few
    have hcf := ho.few
    have hcap := own_cap ho.row
    have hcm := own_capM ho.row
    unfold maxLen at hcm
    obtain ⟨g, hg, hgl, hgc⟩ := own_cells ho.row (by omega)
    subst hg
    have hlt : m < cs.length := by omega
    obtain ⟨ap, cp, ps, e0, e1, e2, e3, e4⟩ := comps_at ho.comps hlt
    have c0 := hgc _ _ e0
    have c1 := hgc _ _ e1
    have c2 := hgc _ _ e2
    have HL : Hid ((cs.take (m + 1)).reverse = cs[m] :: (cs.take m).reverse) := by unfold Hid; rw [List.take_succ_eq_append_getElem hlt, List.reverse_append]; rfl
    have HCP : Hid (CpRow w ap cp ps cs[m]) := ⟨e3, e4, ho.fine _ (List.getElem_mem hlt)⟩
    have hpl := ho.short _ (List.getElem_mem hlt)
    have HM : Hid (m ≠ 0 → (cs.take m).reverse ≠ []) := fun h0 h1 => by
      have h2 : (cs.take m).reverse.length = 0 := by rw [h1]; rfl
      rw [List.length_reverse, List.length_take] at h2
      omega
    have HM0 : Hid (m = 0 → (cs.take m).reverse = []) := fun h0 => by rw [h0]; rfl
    have hgs : ((m : Int) + 1 - 1) = m := by omega
    clear h ho e0 e1 e2 e3 e4 hgc
    generalize cs[m] = x at c0 c1 c2 HL HCP hpl
    have HCP1 : Hid (CpRow (w.alloc (.cells #[.int .u8 x.sg, .int .u8 x.ty, .slice ap x.ps.length cp] 190)) ap cp ps x) := ⟨HCP.out.1.alloc _, HCP.out.2⟩
    have HB1 : Hid (Below w.heap.size w (w.alloc (.cells #[.int .u8 x.sg, .int .u8 x.ty, .slice ap x.ps.length cp] 190))) := (Below.refl _ _).alloc (Nat.le_refl _) _
    have HT1 : Hid (TRd (w.alloc (.cells #[.int .u8 x.sg, .int .u8 x.ty, .slice ap x.ps.length cp] 190)) b a c els) := HT.out.below HB1.out
    go_enter Tryz.func209, Tryz.ntmps209
    go_wp2_with fail
    refine (pcomp_any _ b a c els n x ap cp ps HT1.out HCP1.out hpl).mono ?_
    rintro e w1 ⟨rfl, hB⟩
    have hz1 : w.heap.size < w1.heap.size := by have := hB.size; simp at this; omega
    have q0 : w1.cell? ⟨w.heap.size, 0, none⟩ = some (.int .u8 x.sg) := (hB.cell (p := ⟨w.heap.size, 0, none⟩) (by simp)).trans (cell_of_blk (heap_alloc_new w _) rfl)
    have HB2 : Hid (Below w.heap.size w w1) := HB1.out.trans (hB.mono (by simp))
    have HT2 : Hid (TRd w1 b a c els) := HT.out.below HB2.out
    clear hB c0 c1 c2 HCP1 HCP HT1 HB1
    cases hr : compP els x n with
    | false =>
      have HR : Hid (PBool w (chainR els (cs.take (m + 1)).reverse n) (.returned (.bool false)) w1) := ⟨by rw [HL.out, chain_one (Or.inl hr), hr], HB2.out⟩
      clear hr
      go_wp2
      go_ret
      exact HR.out
    | true =>
      by_cases hm0 : m = 0
      · have HR : Hid (PBool w (chainR els (cs.take (m + 1)).reverse n) (.returned (.bool true)) w1) := ⟨by rw [HL.out, chain_one (Or.inr (HM0.out hm0)), hr], HB2.out⟩
        clear hr
        have gm : ((m : Int) == 0) = true := by simp [hm0]
        clear hm0 HM HM0
        go_wp2
        go_ret
        exact HR.out
      · have HS : Hid (chainR els (cs.take (m + 1)).reverse n = (signedP els x.sg n).any (chainR els (cs.take m).reverse)) := by unfold Hid; rw [HL.out, chain_all hr (HM.out hm0)]
        have gm : ((m : Int) == 0) = false := by rw [beq_eq_false_iff_ne]; omega
        have hsl := signed_len els x.sg n
        clear hr hm0 HM HM0 HL
        go_wp2_with fail
        refine (psigned_any w1 b a c els n x.sg HT2.out).mono ?_
        rintro e w2 ⟨a2, c2, rfl, k1, k2, k3, hB⟩
        have HB3 : Hid (Below w.heap.size w w2) := HB2.out.trans (hB.mono HB2.out.size)
        have HI : Hid (RowI w2 a2 (signedP els x.sg n)) := k3
        clear hB k3 HB2 HT2 q0
        generalize signedP els x.sg n = l at HI HS hsl k1 ⊢
        generalize (cs.take m).reverse = r at IH HS
        go_wp2_with fail
        go_loopg [44] l.length (fun gk iv wr => ∃ i : Nat, iv = .int .i64 i ∧ i ≤ l.length ∧ l.length - i ≤ gk ∧ Hid (Below w.heap.size w wr ∧ Below w2.heap.size w2 wr ∧ ∀ j (_ : j < l.length), j < i → chainR els r l[j] = false))
        case atStart => exact ⟨0, rfl, Nat.zero_le _, by omega, HB3.out, Below.refl _ _, fun j _ h => by omega⟩
        case round =>
          obtain ⟨i, rfl, hi, hgk, HN⟩ := hrel
          have hbz := HN.out.1.size
          by_cases hli : i < l.length
          · have hd : decide ((i : Int) < (l.length : Int)) = true := by simp; omega
            obtain ⟨g2, hg2, hgl2, hq2⟩ := HI.out i hli
            subst hg2
            have q1 := (HN.out.2.1.cell (p := ⟨g2, i, none⟩) hgl2).trans hq2
            rw [List.getElem?_eq_getElem hli] at q1
            replace q1 : wr.cell? ⟨g2, i, none⟩ = some (.int .i64 l[i]) := q1
            have HNX : Hid (chainR els r l[i] = false → ∀ j (_ : j < l.length), j < i + 1 → chainR els r l[j] = false) := fun hm j hj h1 => by
              by_cases e : j = i
              · subst e; exact hm
              · exact HN.out.2.2 j hj (by omega)
            have HY : Hid (chainR els r l[i] = true → l.any (chainR els r) = true) := fun h => by
              rw [List.any_eq_true]
              exact ⟨l[i], List.getElem_mem hli, h⟩
            clear hq2
            generalize l[i] = o at q1 HNX HY
            have HT3 : Hid (TRd wr b a c els ∧ ClRow wr (some ⟨g, 0, none⟩) cc xs cs) := ⟨HT.out.below HN.out.1, HO.out.below HN.out.1⟩
            go_wp2_with fail
            refine (IH.out wr o HT3.out.1 HT3.out.2).mono ?_
            rintro e w3 ⟨rfl, hB3⟩
            have HB4 : Hid (Below w.heap.size w w3 ∧ Below w2.heap.size w2 w3) := ⟨HN.out.1.trans (hB3.mono hbz), HN.out.2.1.trans (hB3.mono HN.out.2.1.size)⟩
            clear hB3 q1 HT3
            cases hr : chainR els r o with
            | true =>
              have HR : Hid (PBool w (chainR els (cs.take (m + 1)).reverse n) (.returned (.bool true)) w3) := ⟨by rw [HS.out, HY.out hr], HB4.out.1⟩
              clear hr
              go_wp2
              go_ret
              exact HR.out
            | false =>
              have HN2 : Hid (Below w.heap.size w w3 ∧ Below w2.heap.size w2 w3 ∧ ∀ j (_ : j < l.length), j < i + 1 → chainR els r l[j] = false) := ⟨HB4.out.1, HB4.out.2, HNX.out hr⟩
              clear hr
              go_wp2
              go_roundg (l.length - (i + 1))
              case measure => omega
              case rel => exact ⟨i + 1, by go_num, by omega, Nat.le_refl _, HN2⟩
          · have hd : decide ((i : Int) < (l.length : Int)) = false := by simp; omega
            have HR : Hid (PBool w (chainR els (cs.take (m + 1)).reverse n) (.returned (.bool false)) wr) := by
              refine ⟨?_, HN.out.1⟩
              have : l.any (chainR els r) = false := by
                rw [List.any_eq_false]
                intro o ho
                obtain ⟨j, hj, rfl⟩ := List.getElem_of_mem ho
                rw [HN.out.2.2 j hj (by omega)]
                simp
              rw [HS.out, this]
            go_wp2
            go_ret
            exact HR.out
theorem pselector_any (w : World) (n : Int) (ac : Option Addr) (cc : Nat) (xs : List Value) (cs : List PCp) (h : TRd w b a c els) (ho : ClRow w ac cc xs cs) :
    Calls Tryz.prog 195 #[.agg #[.slice ac cs.length cc], .pointer (some ⟨b, 1, none⟩), .int .i64 n] w fun e w' => PBool w (matchP els cs n) e w' := by
  have HB1 : Hid (Below w.heap.size w (w.alloc (.cells #[.slice ac cs.length cc] 141))) := (Below.refl _ _).alloc (Nat.le_refl _) _
  have HT : Hid (TRd (w.alloc (.cells #[.slice ac cs.length cc] 141)) b a c els ∧ ClRow (w.alloc (.cells #[.slice ac cs.length cc] 141)) ac cc xs cs) := ⟨h.below HB1.out, ho.below HB1.out⟩
  have HM : Hid (matchP els cs n = chainR els (cs.take cs.length).reverse n) := by unfold Hid; rw [List.take_length]; rfl
  clear h ho
  go_enter Tryz.func195, Tryz.ntmps195
  go_wp2_with fail
  refine (pchain_any b a c els ac cc xs cs cs.length _ n (Nat.le_refl _) HT.out.1 HT.out.2).mono ?_
  rintro e w1 ⟨rfl, hB⟩
  have HR : Hid (PBool w (matchP els cs n) (.returned (.bool (chainR els (cs.take cs.length).reverse n))) w1) := ⟨by rw [HM.out], HB1.out.trans (hB.mono (by simp))⟩
  clear hB HM
  generalize chainR els (cs.take cs.length).reverse n = r at HR ⊢
  go_wp2
  go_ret
  exact HR.out
end
end Go.Proofs.YtblfffbmklkhmaaGreat

namespace Go.Proofs.YtblfffbmklkhmaaGreat
open Go.RowKit
def flatW (W : List Clm) : List Value := W.flatMap Clm.cells
theorem flatW_len (W : List Clm) : (flatW W).length = W.length * 7 := by
  induction W with
  | nil => rfl
  | cons x l ih =>
    unfold flatW at ih ⊢
    rw [List.flatMap_cons, List.length_append, ih, List.length_cons]
    show 7 + _ = _
    omega
theorem flatW_at {W : List Clm} {i j : Nat} (hi : i < W.length) (hj : j < 7) : (flatW W)[i * 7 + j]? = W[i].cells[j]? := by
  induction W generalizing i with
  | nil => simp at hi
  | cons x l ih =>
    have h1 : x.cells.length = 7 := rfl
    unfold flatW
    rw [List.flatMap_cons]
    cases i with
    | zero =>
      rw [List.getElem?_append_left (by omega)]
      simp
    | succ i =>
      rw [List.getElem?_append_right (by omega), h1, show (i + 1) * 7 + j - 7 = i * 7 + j from by omega]
      have := ih (i := i) (by simpa using hi)
      unfold flatW at this
      rw [this]
      simp
/-- The variables of the claims are bytes. -/
def FineW (W : List Clm) : Prop := W.length = 9 ∧ ∀ c ∈ W, 0 ≤ c.va ∧ c.va ≤ 255
def POpt (w : World) (r : Option Nat) (e : Ending) (w' : World) : Prop := e = .returned (.tuple #[.int .i64 ((r.getD 0 : Nat) : Int), .bool r.isSome]) ∧ Below w.heap.size w w'
/-- A block of new memory, of these cells. -/
theorem new_at (w : World) (C : Array Value) (t : TypeId) {k : Nat} {v : Value} (h : C[k]? = some v) : (w.alloc (.cells C t)).cell? ⟨w.heap.size, k, none⟩ = some v := by
  rw [cell_of_row _ _ k C t (0, 0) (heap_alloc_new w _)]
  exact h
section
set_option maxRecDepth 100000
set_option maxHeartbeats 4000000
variable (w : World)
theorem pplace_of_any (p : Int) (hp : 0 ≤ p ∧ p ≤ 255) : Calls Tryz.prog 154 #[.int .u8 p] w fun e w' => POpt w (placeOfP p) e w' := by
  obtain ⟨hp0, hp1⟩ := hp
  by_cases h1 : 65 ≤ p
  · by_cases h2 : p < 71
    · have HR : Hid (POpt w (placeOfP p) (.returned (.tuple #[.int .i64 (p - 65), .bool true])) w) := by
        unfold placeOfP
        rw [if_pos ⟨h1, h2⟩]
        refine ⟨?_, Below.refl _ _⟩
        have : (((p - 65).toNat : Nat) : Int) = p - 65 := by omega
        show _ = Ending.returned (.tuple #[.int .i64 (((p - 65).toNat : Nat) : Int), .bool true])
        rw [this]
      have d1 : decide (65 ≤ p) = true := by simpa using h1
      have d2 : decide (p < 71) = true := by simpa using h2
      go_enter Tryz.func154, Tryz.ntmps154
      go_wp2
      go_ret2
      exact HR.out
    · have d1 : decide (65 ≤ p) = true := by simpa using h1
      have d2 : decide (p < 71) = false := by simpa using h2
      by_cases h3 : 88 ≤ p
      · have d3 : decide (88 ≤ p) = true := by simpa using h3
        by_cases h4 : p < 91
        · have d4 : decide (p < 91) = true := by simpa using h4
          have HR : Hid (POpt w (placeOfP p) (.returned (.tuple #[.int .i64 (6 + (p - 88)), .bool true])) w) := by
            unfold placeOfP
            rw [if_neg (by omega), if_pos ⟨h3, h4⟩]
            refine ⟨?_, Below.refl _ _⟩
            have : ((6 + (p - 88).toNat : Nat) : Int) = 6 + (p - 88) := by omega
            show _ = Ending.returned (.tuple #[.int .i64 ((6 + (p - 88).toNat : Nat) : Int), .bool true])
            rw [this]
          go_enter Tryz.func154, Tryz.ntmps154
          go_wp2
          go_ret2
          exact HR.out
        · have d4 : decide (p < 91) = false := by simpa using h4
          have HR : Hid (POpt w (placeOfP p) (.returned (.tuple #[.int .i64 0, .bool false])) w) := by
            unfold placeOfP
            rw [if_neg (by omega), if_neg (by omega)]
            exact ⟨rfl, Below.refl _ _⟩
          go_enter Tryz.func154, Tryz.ntmps154
          go_wp2
          go_ret2
          exact HR.out
      · have d3 : decide (88 ≤ p) = false := by simpa using h3
        have HR : Hid (POpt w (placeOfP p) (.returned (.tuple #[.int .i64 0, .bool false])) w) := by
          unfold placeOfP
          rw [if_neg (by omega), if_neg (by omega)]
          exact ⟨rfl, Below.refl _ _⟩
        go_enter Tryz.func154, Tryz.ntmps154
        go_wp2
        go_ret2
        exact HR.out
  · have d1 : decide (65 ≤ p) = false := by simpa using h1
    have d3 : decide (88 ≤ p) = false := by simp; omega
    have HR : Hid (POpt w (placeOfP p) (.returned (.tuple #[.int .i64 0, .bool false])) w) := by
      unfold placeOfP
      rw [if_neg (by omega), if_neg (by omega)]
      exact ⟨rfl, Below.refl _ _⟩
    go_enter Tryz.func154, Tryz.ntmps154
    go_wp2
    go_ret2
    exact HR.out
/-- The place of the property that a text names. -/
def propP (s : ByteArray) : Option Nat := if s.size = 1 then placeOfP (bt s 0) else none
theorem pproperty_any (s : ByteArray) : Calls Tryz.prog 114 #[.string s] w fun e w' => POpt w (propP s) e w' := by
  by_cases h1 : s.size = 1
  · have HP : Hid (propP s = placeOfP (bt s 0)) := by unfold Hid propP; rw [if_pos h1]
    have g1 : ((s.size : Int) != 1) = false := by simp [h1]
    have hb : bt s 0 < 256 := bt_lt s 0
    have h0 : 0 < s.size := by omega
    have hq : s[0].toNat = bt s 0 := by unfold bt; simp [h0]
    clear h1
    go_enter Tryz.func114, Tryz.ntmps114
    go_wp2_with fail
    refine (pplace_of_any w (bt s 0) ⟨by omega, by omega⟩).mono ?_
    rintro e w1 ⟨rfl, hB⟩
    have HR : Hid (POpt w (propP s) (.returned (.tuple #[.int .i64 (((placeOfP (bt s 0)).getD 0 : Nat) : Int), .bool (placeOfP (bt s 0)).isSome])) w1) := by unfold Hid; rw [HP.out]; exact ⟨rfl, hB⟩
    clear hB HP hq
    generalize (placeOfP (bt s 0)).getD 0 = r at HR ⊢
    generalize (placeOfP (bt s 0)).isSome = r2 at HR ⊢
    go_wp2
    go_ret2
    exact HR.out
  · have HP : Hid (POpt w (propP s) (.returned (.tuple #[.int .i64 0, .bool false])) w) := by unfold Hid propP; rw [if_neg h1]; exact ⟨rfl, Below.refl _ _⟩
    have g1 : ((s.size : Int) != 1) = true := by simp; omega
    clear h1
    go_enter Tryz.func114, Tryz.ntmps114
    go_wp2
    go_ret2
    exact HP.out
theorem pdown_any (p : Nat) : Calls Tryz.prog 197 #[.int .i64 p] w fun e w' => PBool w (downP p) e w' := by
  by_cases h1 : p < 3
  · have d1 : decide ((p : Int) < 3) = true := by simp; omega
    have HR : Hid (PBool w (downP p) (.returned (.bool true)) w) := ⟨by unfold downP; rw [decide_eq_true (by omega)], Below.refl _ _⟩
    clear h1
    go_enter Tryz.func197, Tryz.ntmps197
    go_wp2
    go_ret
    exact HR.out
  · have d1 : decide ((p : Int) < 3) = false := by simp; omega
    by_cases h2 : 6 ≤ p
    · have d2 : decide ((6 : Int) ≤ p) = true := by simp; omega
      have HR : Hid (PBool w (downP p) (.returned (.bool true)) w) := ⟨by unfold downP; rw [decide_eq_true (by omega)], Below.refl _ _⟩
      clear h1 h2
      go_enter Tryz.func197, Tryz.ntmps197
      go_wp2
      go_ret
      exact HR.out
    · have d2 : decide ((6 : Int) ≤ p) = false := by simp; omega
      have HR : Hid (PBool w (downP p) (.returned (.bool false)) w) := ⟨by unfold downP; rw [decide_eq_false (by omega)], Below.refl _ _⟩
      clear h1 h2
      go_enter Tryz.func197, Tryz.ntmps197
      go_wp2
      go_ret
      exact HR.out
theorem pbeats_any (th im : Bool) (ly wt kd nu va : Int) (th2 im2 : Bool) (ly2 wt2 kd2 nu2 va2 : Int) : Calls Tryz.prog 196 #[.agg #[.bool th, .bool im, .int .i64 ly, .int .i64 wt, .int .i64 kd, .int .i64 nu, .int .u8 va], .agg #[.bool th2, .bool im2, .int .i64 ly2, .int .i64 wt2, .int .i64 kd2, .int .i64 nu2, .int .u8 va2]] w fun e w' => PBool w (beatsP ⟨th, im, ly, wt, kd, nu, va⟩ ⟨th2, im2, ly2, wt2, kd2, nu2, va2⟩) e w' := by
  have HB : Hid (Below w.heap.size w ((w.alloc (.cells #[.bool th, .bool im, .int .i64 ly, .int .i64 wt, .int .i64 kd, .int .i64 nu, .int .u8 va] 221)).alloc (.cells #[.bool th2, .bool im2, .int .i64 ly2, .int .i64 wt2, .int .i64 kd2, .int .i64 nu2, .int .u8 va2] 221))) := ((Below.refl _ _).alloc (Nat.le_refl _) _).alloc (by simp) _
  cases th2 with
  | false =>
    have HR : Hid (PBool w (beatsP ⟨th, im, ly, wt, kd, nu, va⟩ ⟨false, im2, ly2, wt2, kd2, nu2, va2⟩) (.returned (.bool true)) _) := ⟨rfl, HB.out⟩
    go_enter Tryz.func196, Tryz.ntmps196
    go_wp2
    go_ret
    exact HR.out
  | true =>
    by_cases hi : im = im2
    · subst hi
      by_cases hl : ly = ly2
      · have HR : Hid (PBool w (beatsP ⟨th, im, ly, wt, kd, nu, va⟩ ⟨true, im, ly2, wt2, kd2, nu2, va2⟩) (.returned (.bool (decide (wt2 ≤ wt)))) _) := ⟨by unfold beatsP; simp [hl], HB.out⟩
        have gl : (ly != ly2) = false := by simp [hl]
        have gi : (im != im) = false := by cases im <;> rfl
        clear hl
        go_enter Tryz.func196, Tryz.ntmps196
        go_wp2
        go_ret
        exact HR.out
      · have HR : Hid (PBool w (beatsP ⟨th, im, ly, wt, kd, nu, va⟩ ⟨true, im, ly2, wt2, kd2, nu2, va2⟩) (.returned (.bool (decide (ly < ly2) == im))) _) := ⟨by unfold beatsP; simp [hl], HB.out⟩
        have gl : (ly != ly2) = true := by simp [hl]
        have gi : (im != im) = false := by cases im <;> rfl
        clear hl
        go_enter Tryz.func196, Tryz.ntmps196
        go_wp2
        go_ret
        exact HR.out
    · have HR : Hid (PBool w (beatsP ⟨th, im, ly, wt, kd, nu, va⟩ ⟨true, im2, ly2, wt2, kd2, nu2, va2⟩) (.returned (.bool im)) _) := ⟨by unfold beatsP; simp [hi], HB.out⟩
      cases im <;> cases im2
      · exact absurd rfl hi
      · clear hi
        go_enter Tryz.func196, Tryz.ntmps196
        go_wp2
        go_ret
        exact HR.out
      · clear hi
        go_enter Tryz.func196, Tryz.ntmps196
        go_wp2
        go_ret
        exact HR.out
      · exact absurd rfl hi
theorem pnext_any (W : List Clm) (hF : FineW W) (p : Nat) (hp : p < 9) : Calls Tryz.prog 184 #[.agg (flatW W).toArray, .int .i64 p] w fun e w' => POpt w (nextP W p) e w' := by
  have hW := hF.1
  have hv := hF.2 (W[p]'(by omega)) (List.getElem_mem _)
  have HB : Hid (Below w.heap.size w (w.alloc (.cells (flatW W).toArray 223))) := (Below.refl _ _).alloc (Nat.le_refl _) _
  have q0 : (w.alloc (.cells (flatW W).toArray 223)).cell? ⟨w.heap.size, p * 7 + 4, none⟩ = some (.int .i64 W[p].kd) := new_at w _ _ (by rw [List.getElem?_toArray, flatW_at (by omega) (by omega)]; rfl)
  have q1 : (w.alloc (.cells (flatW W).toArray 223)).cell? ⟨w.heap.size, p * 7 + 4 + 2, none⟩ = some (.int .u8 W[p].va) := new_at w _ _ (by rw [List.getElem?_toArray, show p * 7 + 4 + 2 = p * 7 + 6 from rfl, flatW_at (by omega) (by omega)]; rfl)
  have HN : Hid (nextP W p = if W[p].kd = 5 then placeOfP W[p].va else none) := by unfold Hid nextP; rw [List.getD_eq_getElem?_getD, List.getElem?_eq_getElem (by omega)]; rfl
  have hpl : (p : Int) < 9 := by omega
  clear hF
  generalize W[p].kd = kd at q0 HN
  generalize W[p].va = va at q1 HN hv
  generalize (flatW W).toArray = C at q0 q1 HB ⊢
  by_cases hk : kd = 5
  · have HN2 : Hid (nextP W p = placeOfP va) := by unfold Hid; rw [HN.out, if_pos hk]
    have gk : (kd != 5) = false := by simp [hk]
    clear hk HN
    go_enter Tryz.func184, Tryz.ntmps184
    go_wp2_with fail
    refine (pplace_of_any _ va hv).mono ?_
    rintro e w1 ⟨rfl, hB⟩
    have HR : Hid (POpt w (nextP W p) (.returned (.tuple #[.int .i64 (((placeOfP va).getD 0 : Nat) : Int), .bool (placeOfP va).isSome])) w1) := by unfold Hid; rw [HN2.out]; exact ⟨rfl, HB.out.trans (hB.mono (by simp))⟩
    clear hB HN2
    generalize (placeOfP va).getD 0 = r at HR ⊢
    generalize (placeOfP va).isSome = r2 at HR ⊢
    go_wp2
    go_ret2
    exact HR.out
  · have HR : Hid (POpt w (nextP W p) (.returned (.tuple #[.int .i64 0, .bool false])) (w.alloc (.cells C 223))) := by unfold Hid; rw [HN.out, if_neg hk]; exact ⟨rfl, HB.out⟩
    have gk : (kd != 5) = true := by simp [hk]
    clear hk HN
    go_enter Tryz.func184, Tryz.ntmps184
    go_wp2
    go_ret2
    exact HR.out
end
end Go.Proofs.YtblfffbmklkhmaaGreat

namespace Go.Proofs.YtblfffbmklkhmaaGreat
open Go.RowKit
/-- Which of n things a raw number speaks of. -/
def pickZ (c : Int) (n : Nat) : Nat := (if c < 0 then -(c + 1) else c).toNat % n
theorem pickZ_lt (c : Int) {n : Nat} (h : 0 < n) : pickZ c n < n := Nat.mod_lt _ h
def Fit (c : Int) : Prop := -9223372036854775808 ≤ c ∧ c ≤ 9223372036854775807
def letB (k : Nat) : ByteArray := ⟨#[UInt8.ofNat (97 + k % 26)]⟩
section
set_option maxRecDepth 100000
set_option maxHeartbeats 1500000
variable (w : World)
theorem kpick_any (c : Int) (n : Nat) (hc : Fit c) (hn : 0 < n) (hm : n ≤ 1000) : Calls Tryz.prog 17 #[.int .i64 c, .int .i64 n] w fun e w' => e = .returned (.int .i64 (pickZ c n : Nat)) ∧ w' = w := by
  obtain ⟨h1, h2⟩ := hc
  have hnz : ((n : Int) == 0) = false := by rw [beq_eq_false_iff_ne]; omega
  have hn1 : (n : Int) ≠ 0 := by omega
  by_cases h : c < 0
  · have d1 : decide (c < 0) = true := by simpa using h
    have HR : Hid (Ending.returned (.int .i64 (-((c + 1).tmod (n : Int)))) = .returned (.int .i64 ((pickZ c n : Nat) : Int))) := by
      have e1 : -((c + 1).tmod (n : Int)) = ((pickZ c n : Nat) : Int) := by
        unfold pickZ
        rw [if_pos h, Int.natCast_emod, ← Int.neg_tmod, Int.tmod_eq_emod_of_nonneg (by omega)]
        congr 1
        omega
      unfold Hid
      rw [e1]
    go_enter Tryz.func17, Tryz.ntmps17
    go_wp2
    go_ret
    exact ⟨HR.out, rfl⟩
  · have d1 : decide (c < 0) = false := by simpa using h
    have HR : Hid (Ending.returned (.int .i64 (c % (n : Int))) = .returned (.int .i64 ((pickZ c n : Nat) : Int))) := by
      have e1 : c % (n : Int) = ((pickZ c n : Nat) : Int) := by
        unfold pickZ
        rw [if_neg h, Int.natCast_emod]
        congr 1
        omega
      unfold Hid
      rw [e1]
    have hc0 : 0 ≤ c := by omega
    go_enter Tryz.func17, Tryz.ntmps17
    go_wp2
    go_ret
    exact ⟨HR.out, rfl⟩
theorem kletter_any (k b : Nat) (hk : k ≤ 3) (hb : b ≤ 25) : Calls Tryz.prog 25 #[.int .i64 k, .int .i64 b] w fun e w' => e = .returned (.string (letB (k + b))) ∧ Below w.heap.size w w' := by
  have hcv : (convert 75 9 (.slice (some ⟨w.heap.size, 0, none⟩) 1 1)).run Tryz.prog (w.alloc (.cells #[.int .u8 (97 + ((k : Int) + (b : Int)) % 26)] 5)) = .ok (.string (letB (k + b))) (w.alloc (.cells #[.int .u8 (97 + ((k : Int) + (b : Int)) % 26)] 5)) :=
    run_convert_bytes_back _ 75 9 5 ⟨w.heap.size, 0, none⟩ 1 [UInt8.ofNat (97 + (k + b) % 26)] Tryz.underlying75 Tryz.underlying5 Tryz.underlying9 (fun j hj => by
      obtain rfl : j = 0 := by simpa using hj
      rw [show (⟨w.heap.size, 0, none⟩ : Addr).add 0 = ⟨w.heap.size, 0, none⟩ from Addr.add_mid _ _ _, new_at w _ _ rfl]
      have e : (((UInt8.ofNat (97 + (k + b) % 26)).toNat : Nat) : Int) = 97 + ((k : Int) + (b : Int)) % 26 := by rw [UInt8.toNat_ofNat']; omega
      show some (Value.int .u8 (97 + ((k : Int) + (b : Int)) % 26)) = some (.int .u8 (((UInt8.ofNat (97 + (k + b) % 26)).toNat : Nat) : Int))
      rw [e])
  have HB : Hid (Below w.heap.size w (w.alloc (.cells #[.int .u8 (97 + ((k : Int) + (b : Int)) % 26)] 5))) := (Below.refl _ _).alloc (Nat.le_refl _) _
  go_enter Tryz.func25, Tryz.ntmps25
  go_wp2
  go_ret
  exact ⟨rfl, HB.out⟩
theorem noneOf_le (l : List Nat) (v : Int) : (noneOf v l).length ≤ l.length := List.length_filter_le _ _
def KRow (w : World) (l : List Nat) (e : Ending) (w' : World) : Prop := ∃ (a : Option Addr) (c : Nat), e = .returned (.slice a l.length c) ∧ w'.ownsRow w.heap.size 3 1 (.slice a l.length c) l.length (ints l) ∧ Below w.heap.size w w'
theorem ints_at {l : List Nat} {i : Nat} (h : i < l.length) : (ints l)[i]? = some (.int .i64 (l[i] : Nat)) := by simp [ints, h]
theorem kwithout_any (a : Option Addr) (c base : Nat) (l : List Nat) (v : Int) (ho : w.ownsRow base 3 1 (.slice a l.length c) l.length (ints l)) (hl : l.length ≤ 24) : Calls Tryz.prog 118 #[.slice a l.length c, .int .i64 v] w fun e w' => KRow w (noneOf v l) e w' := by
  obtain ⟨i0, hi, iz0, iz1, iz2⟩ := info_parts Tryz.info3
  have HO : Hid (w.ownsRow base 3 1 (.slice a l.length c) l.length (ints l)) := ho
  clear ho
  go_enter Tryz.func118, Tryz.ntmps118
  go_wp2_with fail
  go_loopg [5, 6] l.length (fun gk vv iv wr => ∃ i : Nat, iv = .int .i64 i ∧ i ≤ l.length ∧ l.length - i ≤ gk ∧ Hid (wr.ownsRow w.heap.size 3 1 vv (noneOf v (l.take i)).length (ints (noneOf v (l.take i))) ∧ Below w.heap.size w wr))
  case atStart => exact ⟨0, rfl, Nat.zero_le _, by omega, World.ownsRow_nil _ _ _ _, Below.refl _ _⟩
  case round =>
    obtain ⟨i, rfl, hil, hgk, HN⟩ := hrel
    obtain ⟨a2, c2, hv2⟩ := own_shape HN.out.1
    subst hv2
    have hbz := HN.out.2.size
    have hkl : (noneOf v (l.take i)).length ≤ 24 := by
      have h1 := noneOf_le (l.take i) v
      have h2 : (l.take i).length ≤ l.length := List.length_take_le' _ _
      omega
    by_cases hlt : i < l.length
    · have hd : decide ((i : Int) < (l.length : Int)) = true := by simp; omega
      obtain ⟨g, hg, hgl, hgc⟩ := own_cells HO.out (by omega)
      subst hg
      have q0 := (HN.out.2.cell (p := ⟨g, i, none⟩) hgl).trans (hgc _ _ (ints_at hlt))
      have HST : Hid (noneOf v (l.take (i + 1)) = noneOf v (l.take i) ++ if (l[i] : Int) = v then [] else [l[i]]) := noneOf_take hlt v
      clear hgc
      generalize l[i] = x at q0 HST
      obtain ⟨L', hL'⟩ : ∃ L', noneOf v (l.take (i + 1)) = L' := ⟨_, rfl⟩
      have HL' : Hid (noneOf v (l.take (i + 1)) = L') := hL'
      rw [hL'] at HST
      clear hL'
      generalize noneOf v (l.take i) = L at HN HST hkl ⊢
      by_cases hx : (x : Int) = v
      · have gx : ((x : Int) != v) = false := by simp [hx]
        have HN2 : Hid (wr.ownsRow w.heap.size 3 1 (.slice a2 L.length c2) L'.length (ints L') ∧ Below w.heap.size w wr) := by
          have : L' = L := by rw [HST.out, if_pos hx, List.append_nil]
          rw [this]
          exact HN.out
        clear hx HST HN
        go_wp2
        go_roundg (l.length - (i + 1))
        case measure => omega
        case rel => exact ⟨i + 1, by go_num, by omega, Nat.le_refl _, by unfold Hid; rw [HL'.out]; exact HN2.out⟩
      · have gx : ((x : Int) != v) = true := by simp [hx]
        have HE : Hid (L' = L ++ [x]) := by unfold Hid; rw [HST.out, if_neg hx]
        clear hx HST
        go_wp2_with (at_builtin; refine wpList_append_own _ rfl (.tmp 19) (.tmp 24) 40 rfl w.heap.size 3 i0 (.int .i64 0) 1 8 Tryz.underlying40 hi iz0 iz1 iz2 rfl (by decide) _ _ _ rfl (HN.out.1.alloc _) ⟨wr.heap.size, 0, none⟩ 1 1 [.int .i64 (x : Int)] rfl rfl ?c1 ?c2 ?c3 ?c4 ?c5 ?_)
        all_goals first | (intro v5 w5 own5 hg5 _; have HN5 : Hid (w5.ownsRow w.heap.size 3 1 v5 L'.length (ints L') ∧ Below w.heap.size w w5) := (by rw [HE.out]; exact ⟨by simpa [ints] using own5, (HN.out.2.alloc hbz _).grown hg5 (by simp; omega) (fun k hk => (HN.out.1.lt k hk).1)⟩); skip) | (exact new_cells wr _ rfl _ _ _ rfl) | exact one_z x | rfl | (unfold maxLen; omega) | omega | (simp; omega)
        clear own5 hg5 HN HE q0
        go_wp2
        go_roundg (l.length - (i + 1))
        case measure => omega
        case rel => exact ⟨i + 1, by go_num, by omega, Nat.le_refl _, by unfold Hid; rw [HL'.out]; exact HN5.out⟩
    · have hd : decide ((i : Int) < (l.length : Int)) = false := by simp; omega
      obtain rfl : i = l.length := by omega
      rw [List.take_length] at HN hkl ⊢
      have HR : Hid (KRow w (noneOf v l) (.returned (.slice a2 (noneOf v l).length c2)) wr) := ⟨a2, c2, rfl, HN.out.1, HN.out.2⟩
      generalize (noneOf v l).length = m at HR ⊢
      go_wp2
      go_ret
      exact HR.out
end
end Go.Proofs.YtblfffbmklkhmaaGreat
