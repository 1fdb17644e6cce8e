/- Own work. -/
import Derived.Test.YtblfffbmklkhmaaGreatPs43
import Derived.Test.YtblfffbmklkhmaaGreatPs38
import Derived.Test.YtblfffbmklkhmaaGreatPs14
namespace Go.Proofs.YtblfffbmklkhmaaGreat
open Go.RowKit
/-- A list of raw numbers in memory, or none. -/
def Il (w : World) (a : Option Addr) (len : Nat) (L : Nat → Int) : Prop :=
  ∀ i, i < len → ∃ g off, a = some ⟨g, off, none⟩ ∧ g < w.heap.size ∧ w.cell? ⟨g, off + i, none⟩ = some (.int .i64 (L i)) ∧ Fit (L i)
theorem Il.below {w w' : World} {a : Option Addr} {len : Nat} {L : Nat → Int} (h : Il w a len L) (hB : Below w.heap.size w w') : Il w' a len L := fun i hi => by
  obtain ⟨g, off, h1, h2, h3, h4⟩ := h i hi
  exact ⟨g, off, h1, Nat.lt_of_lt_of_le h2 hB.size, (hB.cell (p := ⟨g, off + i, none⟩) h2).trans h3, h4⟩
def sheetStep (len : Nat) (L : Nat → Int) (by' : Nat) (mild : Bool) (most : Nat) (p : ByteArray × Nat) : ByteArray × Nat :=
  (if p.1.size + (wRuleF len L by' mild p.2).1.size ≤ most then p.1 ++ (wRuleF len L by' mild p.2).1 else p.1, (wRuleF len L by' mild p.2).2)
def sheetLoop (len : Nat) (L : Nat → Int) (by' : Nat) (mild : Bool) (most : Nat) : Nat → ByteArray × Nat → ByteArray × Nat
  | 0, p => p
  | k + 1, p => sheetLoop len L by' mild most k (sheetStep len L by' mild most p)
def wSheetF (len : Nat) (L : Nat → Int) (by' : Nat) (mild : Bool) (most : Nat) : ByteArray := (sheetLoop len L by' mild most (nx len L 9 0).1 (⟨#[]⟩, (nx len L 9 0).2)).1
section
variable {len : Nat} {L : Nat → Int} {by' : Nat} {mild : Bool} {most : Nat}
theorem sheetStep_ok (p : ByteArray × Nat) (hp : p.1.size ≤ most) : (sheetStep len L by' mild most p).1.size ≤ most ∧ (sheetStep len L by' mild most p).2 ≤ p.2 + 120 := by
  have h := wRuleF_ok (len := len) (L := L) (by' := by') (mild := mild) p.2
  refine ⟨?_, h.2⟩
  show (if _ then _ else _ : ByteArray).size ≤ _
  split
  · rw [ByteArray.size_append]; assumption
  · exact hp
theorem sheetLoop_size : ∀ (k : Nat) (p : ByteArray × Nat), p.1.size ≤ most → (sheetLoop len L by' mild most k p).1.size ≤ most
  | 0, _, hp => hp
  | k + 1, p, hp => sheetLoop_size k _ (sheetStep_ok p hp).1
theorem wSheetF_size : (wSheetF len L by' mild most).size ≤ most := sheetLoop_size _ _ (Nat.zero_le _)
end
section
set_option maxRecDepth 100000
set_option maxHeartbeats 4000000
variable (w : World) (a : Option Addr) (len cap : Nat) (L : Nat → Int) (by' : Nat) (mild : Bool) (most : Nat)
theorem ksheet_any (h : Il w a len L) (hlen : len ≤ 4611686018427387904) (hby : by' ≤ 25) (hmost : most ≤ 400) : Calls Tryz.prog 27 #[.slice a len cap, .int .i64 by', .bool mild, .int .i64 most] w fun e w' => e = .returned (.string (wSheetF len L by' mild most)) ∧ Below w.heap.size w w' := by
  have HI0 : Hid (Il w a len L) := h
  have HW0 : Hid (∀ w1, w1.heap = w.heap.push (.cells #[.slice a len cap, .int .i64 0, .int .i64 by', .bool mild] 100 (0, 0)) → Wr w1 w.heap.size a len cap L 0 by' mild) := fun w1 hw1 => by
    refine ⟨?_, fun i hi => ?_, fun i hi => ?_, hlen⟩
    · rw [hw1, Array.getElem?_push_size]; rfl
    · obtain ⟨g, off, h1, h2, h3, h4⟩ := h i hi
      refine ⟨g, off, h1, by omega, by rw [hw1, Array.size_push]; omega, ?_⟩
      have hb : w1.heap[g]? = w.heap[g]? := by rw [hw1, Array.getElem?_push, if_neg (by omega)]
      unfold World.cell? at h3 ⊢
      rw [hb]
      exact h3
    · obtain ⟨g, off, h1, h2, h3, h4⟩ := h i hi
      exact h4
  clear h
  have HS0 : Hid (∀ r, nx len L 9 0 = r → wSheetF len L by' mild most = (sheetLoop len L by' mild most r.1 (⟨#[]⟩, r.2)).1) := fun r hr => by subst hr; rfl
  go_enter Tryz.func27, Tryz.ntmps27
  go_wp2_with fail
  have HWA := HW0.out (w.alloc (.cells #[.slice a len cap, .int .i64 0, .int .i64 by', .bool mild] 100)) rfl
  have HBA : Below w.heap.size w (w.alloc (.cells #[.slice a len cap, .int .i64 0, .int .i64 by', .bool mild] 100)) := (Below.refl _ w).alloc (Nat.le_refl _) _
  generalize w.alloc (.cells #[.slice a len cap, .int .i64 0, .int .i64 by', .bool mild] 100) = w1 at HWA HBA ⊢
  obtain ⟨q, hq⟩ : ∃ q, q = w.heap.size := ⟨_, rfl⟩
  have HQ : Hid (w.heap.size ≤ q) := Nat.le_of_eq hq.symm
  have HW1 : Hid (Wr w1 q a len cap L 0 by' mild ∧ Below w.heap.size w w1) := ⟨by rw [hq]; exact HWA, HBA⟩
  rw [← hq]
  clear HWA HBA HW0 HI0 hq
  have HN9 : Hid (Calls Tryz.prog 44 #[.pointer (some ⟨q, 0, none⟩), .int .i64 9] w1 fun e w' => WNext w1 q a len cap L by' mild (nx len L 9 0) e w') := wnext_any w1 q a len cap L 0 by' mild 9 HW1.out.1 (by decide) (by decide) (by omega)
  have l9 := nx_lt (len := len) (L := L) (n := 9) (at' := 0) (by decide)
  have m9 := nx_at (len := len) (L := L) (n := 9) (at' := 0)
  have HS1 := HS0.out _ rfl
  generalize nx len L 9 0 = r9 at HN9 l9 m9 HS1
  obtain ⟨kk, at1⟩ := r9
  simp only at l9 m9 HS1
  obtain ⟨R, hR⟩ : ∃ R, R = wSheetF len L by' mild most := ⟨_, rfl⟩
  rw [← hR] at HS1
  have HRE : Hid (R = wSheetF len L by' mild most) := hR
  clear hR
  refine HN9.out.mono ?_
  rintro e w2 ⟨rfl, hw2, hf2⟩
  have HL0 : Hid (∃ p : ByteArray × Nat, R = (sheetLoop len L by' mild most kk p).1 ∧ p.1 = ⟨#[]⟩ ∧ p.1.size ≤ most ∧ p.2 + 120 * kk ≤ 100000 ∧ Wr w2 q a len cap L p.2 by' mild ∧ Fr w1 w2 (fun k => k = q)) := ⟨(⟨#[]⟩, at1), HS1, rfl, Nat.zero_le _, by show at1 + 120 * kk ≤ _; omega, hw2, hf2⟩
  clear hw2 hf2 HS0 HS1 HN9
  go_wp2_with fail
  go_loopg [10, 11, 12] kk (fun gk sv kv rv wr => ∃ (m : Nat) (s : ByteArray), sv = .string s ∧ kv = .int .i64 m ∧ m ≤ 8 ∧ m ≤ gk ∧ Hid (∃ p : ByteArray × Nat, R = (sheetLoop len L by' mild most m p).1 ∧ p.1 = s ∧ p.1.size ≤ most ∧ p.2 + 120 * m ≤ 100000 ∧ Wr wr q a len cap L p.2 by' mild ∧ Fr w1 wr (fun k => k = q)))
  case atStart => exact ⟨kk, ⟨#[]⟩, rfl, rfl, by omega, Nat.le_refl _, HL0⟩
  case round =>
    obtain ⟨m, sx, rfl, rfl, hm2, hgk, HI⟩ := hrel
    obtain ⟨p, hp1, hp2, hp3, hp4, hp5, hp6⟩ := HI.out
    obtain ⟨ps, pat⟩ := p
    simp only at hp2 hp3 hp4 hp5
    subst hp2
    have HIW : Hid (R = (sheetLoop len L by' mild most m (ps, pat)).1 ∧ Wr wr q a len cap L pat by' mild ∧ Fr w1 wr (fun k => k = q)) := ⟨hp1, hp5, hp6⟩
    clear HI hp1 hp5 hp6
    cases m with
    | zero =>
      have HE : Hid (Ending.returned (.string ps) = .returned (.string (wSheetF len L by' mild most)) ∧ Below w.heap.size w wr) := by
        refine ⟨by rw [← HRE.out, HIW.out.1]; rfl, HW1.out.2.trans ?_⟩
        have hfr := HIW.out.2.2
        exact ⟨hfr.os, hfr.tape, hfr.output, hfr.size, fun k hk => hfr.block k (Nat.lt_of_lt_of_le hk HW1.out.2.size) (fun hkq => absurd HQ.out (by rw [← hkq]; omega))⟩
      go_wp2
      go_ret
      exact HE.out
    | succ m =>
      have hd : decide ((0 : Int) < (m : Int) + 1) = true := by rw [decide_eq_true_eq]; omega
      have HST : Hid (∀ c, wRuleF len L by' mild pat = c → sheetStep len L by' mild most (ps, pat) = (if ps.size + c.1.size ≤ most then ps ++ c.1 else ps, c.2)) := fun c hc => by subst hc; rfl
      have HSO := sheetStep_ok (len := len) (L := L) (by' := by') (mild := mild) (most := most) (ps, pat) hp3
      simp only at HSO
      have HNX : Hid (∀ wZ c, sheetStep len L by' mild most (ps, pat) = c → Wr wZ q a len cap L c.2 by' mild → Fr wr wZ (fun k => k = q) → ∃ p : ByteArray × Nat, R = (sheetLoop len L by' mild most m p).1 ∧ p.1 = c.1 ∧ p.1.size ≤ most ∧ p.2 + 120 * m ≤ 100000 ∧ Wr wZ q a len cap L p.2 by' mild ∧ Fr w1 wZ (fun k => k = q)) := fun wZ c hc h1 h2 => by
        subst hc
        exact ⟨sheetStep len L by' mild most (ps, pat), HIW.out.1, rfl, HSO.1, by omega, h1, HIW.out.2.2.q h2⟩
      have HRR : Hid (Calls Tryz.prog 45 #[.pointer (some ⟨q, 0, none⟩)] wr fun e w' => WStr wr q a len cap L by' mild (wRuleF len L by' mild pat) e w') := wrule_any wr q a len cap L pat by' mild HIW.out.2.1 (by omega) hby
      have zr := (wRuleF_ok (len := len) (L := L) (by' := by') (mild := mild) pat).1
      have HS4 := HST.out _ rfl
      clear HST HSO
      generalize wRuleF len L by' mild pat = c at HRR zr HS4
      obtain ⟨es, atn⟩ := c
      simp only at zr HS4
      have HS5 : Hid (sheetStep len L by' mild most (ps, pat) = (if ps.size + es.size ≤ most then ps ++ es else ps, atn)) := HS4
      clear HS4
      have z9 : (ps ++ es).size = ps.size + es.size := ByteArray.size_append
      by_cases hfit : ps.size + es.size ≤ most
      · have hfd : decide ((ps.size : Int) + (es.size : Int) ≤ (most : Int)) = true := by rw [decide_eq_true_eq]; omega
        go_wp2_with fail
        refine HRR.out.mono ?_
        rintro e wC ⟨rfl, hwC, hfC⟩
        have HI3 : Hid (∃ p : ByteArray × Nat, R = (sheetLoop len L by' mild most m p).1 ∧ p.1 = ps ++ es ∧ p.1.size ≤ most ∧ p.2 + 120 * m ≤ 100000 ∧ Wr wC q a len cap L p.2 by' mild ∧ Fr w1 wC (fun k => k = q)) := HNX.out wC (ps ++ es, atn) (by rw [HS5.out, if_pos hfit]) hwC hfC
        clear hwC hfC HNX HS5 HIW HRR
        go_wp2
        go_roundg m
        case measure => omega
        case rel => exact ⟨m, _, rfl, by go_num, by omega, Nat.le_refl _, HI3⟩
      · have hfd : decide ((ps.size : Int) + (es.size : Int) ≤ (most : Int)) = false := by rw [decide_eq_false_iff_not]; omega
        go_wp2_with fail
        refine HRR.out.mono ?_
        rintro e wC ⟨rfl, hwC, hfC⟩
        have HI3 : Hid (∃ p : ByteArray × Nat, R = (sheetLoop len L by' mild most m p).1 ∧ p.1 = ps ∧ p.1.size ≤ most ∧ p.2 + 120 * m ≤ 100000 ∧ Wr wC q a len cap L p.2 by' mild ∧ Fr w1 wC (fun k => k = q)) := HNX.out wC (ps, atn) (by rw [HS5.out, if_neg hfit]) hwC hfC
        clear hwC hfC HNX HS5 HIW HRR
        go_wp2
        go_roundg m
        case measure => omega
        case rel => exact ⟨m, _, rfl, by go_num, by omega, Nat.le_refl _, HI3⟩
end
end Go.Proofs.YtblfffbmklkhmaaGreat

namespace Go.Proofs.YtblfffbmklkhmaaGreat
open Go.ChangeShapes Go.WideShapes Go.ChangeAt Go.RowKit
theorem Tryz.bytes3 : Tryz.prog.bytesOf 3 = 8 := by kernel_rfl
theorem one_of {α : Type} (l : List α) (h : l.length = 1) : ∃ a, l = [a] := by
  match l, h with
  | [a], _ => exact ⟨a, rfl⟩
theorem open_ints {H : Type} {enc : TypeId × Value → H} {W : World} {a0 : Option Addr} {len cap fuel : Nat} {x : DataW H × List MemPlace} (h : DataW.trod enc Tryz.prog W 0 (fun _ => true) true fuel 40 [.slice a0 len cap] = some x) : ∃ L, Il W a0 len L := by
  rcases Go.Deep.open_slice Tryz.underlying40 h with ⟨hcs, _⟩ | ⟨a, len', cap', m, n, D, Pl, hcs, _, hl, hm, hmm, _, hx⟩
  · simp only [List.cons.injEq, Value.slice.injEq, and_true] at hcs
    exact ⟨fun _ => 0, fun i hi => by rw [hcs.2.1] at hi; exact absurd hi (Nat.not_lt_zero _)⟩
  · simp only [List.cons.injEq, Value.slice.injEq, and_true] at hcs
    obtain ⟨rfl, rfl, rfl⟩ := hcs
    simp only [if_true] at hmm
    rw [Tryz.cells3] at hx
    have each : ∀ i, i < len → ∃ q : Int, W.cell? (a.add (i * 1)) = some (.int .i64 q) ∧ Fit q := by
      intro i hi
      obtain ⟨cs', h1, h2⟩ := hx i (by omega)
      obtain ⟨_, hlen, hcell⟩ := World.cells?_some h1
      obtain ⟨v0, rfl⟩ := one_of cs' hlen
      obtain ⟨n0, e0, _, f0⟩ := DataW.trod_int Tryz.underlying3 h2
      simp only [List.cons.injEq, and_true] at e0
      subst e0
      have c0 := hcell 0 (by omega)
      rw [Go.Deep.add_add] at c0
      exact ⟨n0, by simpa using c0, fit_wf f0⟩
    obtain ⟨q, hq⟩ := Go.Deep.choose_lt each
    obtain ⟨b, off, spot⟩ := a
    refine ⟨q, fun i hi => ?_⟩
    have h1 := (hq i hi).1
    have g1 := (hq 0 (by omega)).1
    have hspot : spot = none := by simpa [Addr.add] using World.cell?_spot g1
    subst hspot
    have hlt : b < W.heap.size := by simpa [Addr.add] using World.block_lt_of_cell? W _ g1
    rw [Go.WideShapes.add_plain, Nat.mul_one] at h1
    exact ⟨b, off, rfl, hlt, h1, (hq i hi).2⟩
/-- The reach bounds a list's length. -/
theorem ints_short {H : Type} {enc : TypeId × Value → H} {W : World} {a0 : Option Addr} {len cap fuel : Nat} {d : DataW H} {p : List MemPlace} (h : DataW.trod enc Tryz.prog W 0 (fun _ => true) true fuel 40 [.slice a0 len cap] = some (d, p)) {ts : List TypeId} {ds : List (DataW H)} (j : Nat) (ht : ts[j]? = some 40) (hd : ds[j]? = some d)
    (hsz : (DataW.weightsEach Tryz.prog ts ds).all (· ≤ reachBytes) = true) : len ≤ 4611686018427387904 := by
  rcases Go.Deep.open_slice Tryz.underlying40 h with ⟨hcs, _⟩ | ⟨a, len', cap', m, n, D, Pl, hcs, _, hl, _, hmm, hd', _⟩
  · simp only [List.cons.injEq, Value.slice.injEq, and_true] at hcs
    omega
  · simp only [List.cons.injEq, Value.slice.injEq, and_true] at hcs
    obtain ⟨_, rfl, rfl⟩ := hcs
    injection hd' with hd' _
    subst hd'
    have h1 := sized_slice hsz (j := j) ht hd Tryz.underlying40
    rw [Tryz.bytes3, List.length_map, List.length_range, List.length_map, List.length_range] at h1
    have h2 := reachBytes_lt
    omega
theorem steps_short_at {H : Type} {enc : TypeId × Value → H} {W : World} {a0 : Option Addr} {len cap fuel : Nat} {d : DataW H} {p : List MemPlace} (h : DataW.trod enc Tryz.prog W 0 (fun _ => true) true fuel 25 [.slice a0 len cap] = some (d, p)) {ts : List TypeId} {ds : List (DataW H)} (j : Nat) (ht : ts[j]? = some 25) (hd : ds[j]? = some d)
    (hsz : (DataW.weightsEach Tryz.prog ts ds).all (· ≤ reachBytes) = true) : len ≤ 1000000000000000 := by
  rcases Go.Deep.open_slice Tryz.underlying25 h with ⟨hcs, _⟩ | ⟨a, len', cap', m, n, D, Pl, hcs, _, hl, _, hmm, hd', _⟩
  · simp only [List.cons.injEq, Value.slice.injEq, and_true] at hcs
    omega
  · simp only [List.cons.injEq, Value.slice.injEq, and_true] at hcs
    obtain ⟨_, rfl, rfl⟩ := hcs
    injection hd' with hd' _
    subst hd'
    have h1 := sized_slice hsz (j := j) ht hd Tryz.underlying25
    rw [Tryz.bytes78, List.length_map, List.length_range, List.length_map, List.length_range] at h1
    have h2 := reachBytes_lt
    omega
end Go.Proofs.YtblfffbmklkhmaaGreat

namespace Go.Proofs.YtblfffbmklkhmaaGreat
open Go.RowKit
/-- The text at a place. -/
def Txt (s : ByteArray) : Nat → List Nat → Prop
  | _, [] => True
  | i, c :: l => bt s i = c ∧ Txt s (i + 1) l
theorem txt_append {s : ByteArray} : ∀ (l l2 : List Nat) (i : Nat), Txt s i (l ++ l2) ↔ Txt s i l ∧ Txt s (i + l.length) l2
  | [], l2, i => by simp [Txt]
  | c :: l, l2, i => by
    show (bt s i = c ∧ Txt s (i + 1) (l ++ l2)) ↔ (bt s i = c ∧ Txt s (i + 1) l) ∧ Txt s (i + (l.length + 1)) l2
    rw [txt_append l l2 (i + 1), show i + 1 + l.length = i + (l.length + 1) from by omega, and_assoc]
def ltr (b j : Nat) : Nat := 97 + (j + b) % 26
theorem isL_ltr (b j : Nat) : isL (ltr b j) = true := by
  have h : (j + b) % 26 < 26 := Nat.mod_lt _ (by decide)
  unfold isL ltr
  rw [decide_eq_true_eq]
  omega
theorem ltr_lt (b j : Nat) : 97 ≤ ltr b j ∧ ltr b j ≤ 122 := by
  have h : (j + b) % 26 < 26 := Nat.mod_lt _ (by decide)
  unfold ltr
  omega
inductive KdA where
  | cls (j : Nat)
  | nam (j : Nat)
  | typ (j : Nat)
  | fst
  | lst
  | emp
  | nth (x y : Nat)
structure PtA where
  nt : Bool
  k : KdA
def renK (b : Nat) : KdA → List Nat
  | .cls j => [46, ltr b j]
  | .nam j => [35, ltr b j]
  | .typ j => [ltr b j]
  | .fst => [58, 102]
  | .lst => [58, 108]
  | .emp => [58, 101]
  | .nth x y => [58, 110, 48 + x, 48 + y]
def renP (b : Nat) (p : PtA) : List Nat := if p.nt = true then 33 :: renK b p.k else renK b p.k
def toK (b : Nat) (nt : Bool) : KdA → PPt
  | .cls j => ⟨nt, 2, ltr b j, 0, 0⟩
  | .nam j => ⟨nt, 3, ltr b j, 0, 0⟩
  | .typ j => ⟨nt, 1, ltr b j, 0, 0⟩
  | .fst => ⟨nt, 4, 0, 0, 0⟩
  | .lst => ⟨nt, 5, 0, 0, 0⟩
  | .emp => ⟨nt, 6, 0, 0, 0⟩
  | .nth x y => ⟨nt, 7, 0, x, y⟩
def toP (b : Nat) (p : PtA) : PPt := toK b p.nt p.k
def PtA.ok (p : PtA) : Prop := ∀ j, p.k = .typ j → p.nt = true
theorem simp_ren {s : ByteArray} {i b : Nat} : ∀ (k : KdA), (∀ j, k ≠ .typ j) → Txt s i (renK b k) → simpOf s i = toK b false k ∧ sl s i = (renK b k).length ∧ isA (bt s i) = true ∧ bt s i ≠ 33 ∧ isL (bt s i) = false
  | .cls j, _, ⟨h1, h2, _⟩ => by
    unfold simpOf sl
    rw [h1, if_pos rfl, h2, if_neg (by omega)]
    exact ⟨rfl, rfl, by decide, by decide, by decide⟩
  | .nam j, _, ⟨h1, h2, _⟩ => by
    unfold simpOf sl
    rw [h1, if_neg (by decide), if_pos rfl, h2, if_neg (by omega)]
    exact ⟨rfl, rfl, by decide, by decide, by decide⟩
  | .typ j, h, _ => absurd rfl (h j)
  | .fst, _, ⟨h1, h2, _⟩ => by
    unfold simpOf sl placeOf
    rw [h1, if_neg (by decide), if_neg (by decide), h2, if_pos rfl, if_neg (by omega)]
    exact ⟨rfl, rfl, by decide, by decide, by decide⟩
  | .lst, _, ⟨h1, h2, _⟩ => by
    unfold simpOf sl placeOf
    rw [h1, if_neg (by decide), if_neg (by decide), h2, if_neg (by decide), if_pos rfl, if_neg (by omega)]
    exact ⟨rfl, rfl, by decide, by decide, by decide⟩
  | .emp, _, ⟨h1, h2, _⟩ => by
    unfold simpOf sl placeOf
    rw [h1, if_neg (by decide), if_neg (by decide), h2, if_neg (by decide), if_neg (by decide), if_pos rfl, if_neg (by omega)]
    exact ⟨rfl, rfl, by decide, by decide, by decide⟩
  | .nth x y, _, ⟨h1, h2, h3, h4, _⟩ => by
    unfold simpOf sl placeOf
    rw [h1, if_neg (by decide), if_neg (by decide), h2, if_neg (by decide), if_neg (by decide), if_neg (by decide), if_pos ⟨rfl, rfl⟩]
    refine ⟨?_, rfl, by decide, by decide, by decide⟩
    rw [h3, show i + 1 + 2 = i + 1 + 1 + 1 from rfl, h4]
    show PPt.mk false 7 0 _ _ = PPt.mk false 7 0 _ _
    rw [show ((48 + x : Nat) : Int) - 48 = x from by omega, show ((48 + y : Nat) : Int) - 48 = y from by omega]
theorem toK_no (b : Nat) : ∀ k : KdA, (toK b false k).no = toK b true k
  | .cls _ => rfl
  | .nam _ => rfl
  | .typ _ => rfl
  | .fst => rfl
  | .lst => rfl
  | .emp => rfl
  | .nth _ _ => rfl
theorem part_ren {s : ByteArray} {i b : Nat} {p : PtA} (hp : p.ok) (h : Txt s i (renP b p)) : partOf s i = toP b p ∧ partLen s i = (renP b p).length ∧ isA (bt s i) = true ∧ isL (bt s i) = false ∧ bt s i ≠ 42 := by
  obtain ⟨nt, k⟩ := p
  unfold renP at h ⊢
  simp only at h ⊢
  cases nt with
  | false =>
    rw [if_neg (by simp)] at h ⊢
    have hk : ∀ j, k ≠ .typ j := fun j e => by have := hp j e; cases this
    obtain ⟨h1, h2, h3, h4, h5⟩ := simp_ren k hk h
    refine ⟨?_, ?_, h3, h5, fun e => ?_⟩
    · unfold partOf; rw [if_neg h4]; exact h1
    · unfold partLen; rw [if_neg h4]; exact h2
    · rw [e] at h3; exact absurd h3 (by decide)
  | true =>
    rw [if_pos rfl] at h ⊢
    obtain ⟨h0, h⟩ := h
    refine ⟨?_, ?_, by rw [h0]; decide, by rw [h0]; decide, by rw [h0]; decide⟩
    · unfold partOf
      rw [if_pos h0]
      by_cases hk : ∃ j, k = .typ j
      · obtain ⟨j, rfl⟩ := hk
        rw [if_pos (by rw [h.1]; exact isL_ltr b j), h.1]
        rfl
      · obtain ⟨h1, _, _, _, h5⟩ := simp_ren k (fun j e => hk ⟨j, e⟩) h
        rw [if_neg (by rw [h5]; simp), h1, toK_no]
        rfl
    · unfold partLen
      rw [if_pos h0]
      by_cases hk : ∃ j, k = .typ j
      · obtain ⟨j, rfl⟩ := hk
        rw [if_pos (by rw [h.1]; exact isL_ltr b j)]
        rfl
      · obtain ⟨_, h2, _, _, h5⟩ := simp_ren k (fun j e => hk ⟨j, e⟩) h
        rw [if_neg (by rw [h5]; simp), h2, List.length_cons]
        omega
theorem parts_ren {s : ByteArray} {b : Nat} : ∀ (ps : List PtA) (i f : Nat), (∀ p ∈ ps, p.ok) → Txt s i (ps.flatMap (renP b)) → isA (bt s (i + (ps.flatMap (renP b)).length)) = false → ps.length ≤ f → partsF s f i = (ps.map (toP b), i + (ps.flatMap (renP b)).length)
  | [], i, f, _, _, hA, _ => by
    have hA' : isA (bt s i) = false := hA
    cases f with
    | zero => rfl
    | succ f => unfold partsF; rw [if_neg (by rw [hA']; simp)]; rfl
  | p :: ps, i, f, hp, h, hA, hf => by
    rw [List.flatMap_cons, txt_append] at h
    obtain ⟨h1, h2, h3, _, _⟩ := part_ren (hp p List.mem_cons_self) h.1
    have hl : i + (renP b p).length + (ps.flatMap (renP b)).length = i + ((p :: ps).flatMap (renP b)).length := by rw [List.flatMap_cons, List.length_append]; omega
    cases f with
    | zero => simp at hf
    | succ f =>
      have ih := parts_ren ps (i + (renP b p).length) f (fun q hq => hp q (List.mem_cons_of_mem _ hq)) h.2 (by rw [hl]; exact hA) (by simpa using hf)
      unfold partsF
      rw [if_pos h3, h2, ih, h1, hl]
      rfl
structure CpA where
  hd : Option (Option Nat)
  ps : List PtA
def renH (b : Nat) : Option (Option Nat) → List Nat
  | none => []
  | some none => [42]
  | some (some j) => [ltr b j]
def toH (b : Nat) : Option (Option Nat) → Nat
  | some (some j) => ltr b j
  | _ => 0
def renC (b : Nat) (c : CpA) : List Nat := renH b c.hd ++ c.ps.flatMap (renP b)
def CpA.ok (c : CpA) : Prop := (∀ p ∈ c.ps, p.ok) ∧ (c.hd = none → c.ps ≠ [])
theorem renK_pos (b : Nat) (k : KdA) : 0 < (renK b k).length := by cases k <;> exact Nat.succ_pos _
theorem renP_pos (b : Nat) (p : PtA) : 0 < (renP b p).length := by
  unfold renP
  split
  · exact Nat.succ_pos _
  · exact renK_pos b _
theorem parts_pos (b : Nat) : ∀ ps : List PtA, ps.length ≤ (ps.flatMap (renP b)).length
  | [] => Nat.le_refl _
  | p :: ps => by
    have := parts_pos b ps
    have := renP_pos b p
    rw [List.flatMap_cons, List.length_append, List.length_cons]
    omega
theorem renC_pos (b : Nat) {c : CpA} (hc : c.ok) : 0 < (renC b c).length := by
  obtain ⟨hd, ps⟩ := c
  unfold renC
  rw [List.length_append]
  match hd, hc with
  | none, hc =>
    have h1 := parts_pos b ps
    have h2 := hc.2 rfl
    cases ps with
    | nil => exact absurd rfl h2
    | cons p ps => rw [List.length_cons] at h1; simp only; omega
  | some none, _ => show 0 < 1 + _; omega
  | some (some j), _ => show 0 < 1 + _; omega
theorem comp_ren {s : ByteArray} {b : Nat} {c : CpA} {i f : Nat} (hc : c.ok) (h : Txt s i (renC b c)) (hA : isA (bt s (i + (renC b c).length)) = false) (hf : c.ps.length ≤ f) : compF s f i = (toH b c.hd, c.ps.map (toP b), i + (renC b c).length) := by
  obtain ⟨hd, ps⟩ := c
  unfold renC at h hA ⊢
  simp only at h hA hf ⊢
  rw [txt_append] at h
  have hl : i + (renH b hd).length + (ps.flatMap (renP b)).length = i + (renH b hd ++ ps.flatMap (renP b)).length := by rw [List.length_append]; omega
  have hp := parts_ren ps (i + (renH b hd).length) f hc.1 h.2 (by rw [hl]; exact hA) hf
  rw [hl] at hp
  unfold compF
  have hH : compH s i = (toH b hd, i + (renH b hd).length) := by
    match hd, h.1, hc, h.2 with
    | none, _, hc, h2 =>
      cases ps with
      | nil => exact absurd rfl (hc.2 rfl)
      | cons p ps =>
        rw [List.flatMap_cons, txt_append] at h2
        obtain ⟨_, _, _, g4, g5⟩ := part_ren (hc.1 p List.mem_cons_self) h2.1
        have g4' : isL (bt s i) = false := g4
        have g5' : bt s i ≠ 42 := g5
        unfold compH
        rw [if_neg (by rw [g4']; simp), if_neg g5']
        rfl
    | some none, h1, _, _ =>
      unfold compH
      rw [h1.1, if_neg (by decide), if_pos rfl]
      rfl
    | some (some j), h1, _, _ =>
      unfold compH
      rw [h1.1, if_pos (isL_ltr b j)]
      rfl
  rw [hH]
  show ((toH b hd, i + (renH b hd).length).1, partsF s f (i + (renH b hd).length)) = _
  rw [hp]
structure SlA where
  c : CpA
  l : List (Nat × CpA)
def renL (b : Nat) (l : List (Nat × CpA)) : List Nat := l.flatMap fun x => x.1 :: renC b x.2
def renS (b : Nat) (x : SlA) : List Nat := renC b x.c ++ renL b x.l
def toC (b : Nat) (sg : Int) (c : CpA) : PCp := ⟨sg, toH b c.hd, c.ps.map (toP b)⟩
def toS (b : Nat) (x : SlA) : List PCp := toC b 0 x.c :: x.l.map fun y => toC b (y.1 : Int) y.2
def SlA.ok (x : SlA) : Prop := x.c.ok ∧ ∀ y ∈ x.l, y.2.ok ∧ isS y.1 = true
theorem isS_notA {c : Nat} (h : isS c = true) : isA c = false := by
  unfold isS at h
  rw [decide_eq_true_eq] at h
  unfold isA
  rw [decide_eq_false_iff_not]
  omega
theorem sel_ren {s : ByteArray} {b n i0 : Nat} : ∀ (l : List (Nat × CpA)) (c : CpA) (i f : Nat), c.ok → (∀ y ∈ l, y.2.ok ∧ isS y.1 = true) → Txt s i (renC b c ++ renL b l) → isA (bt s (i + (renC b c ++ renL b l).length)) = false → isS (bt s (i + (renC b c ++ renL b l).length)) = false → i0 ≤ i → (renC b c ++ renL b l).length ≤ n → l.length < f →
    selF s n i0 f i = (toC b (sgOf s i0 i) c :: l.map (fun y => toC b (y.1 : Int) y.2), i + (renC b c ++ renL b l).length)
  | [], c, i, f, hc, _, h, hA, hS, _, hn, hf => by
    have e : renC b c ++ renL b [] = renC b c := List.append_nil _
    rw [e] at h hA hS hn ⊢
    have hq := parts_pos b c.ps
    have hlen : (renC b c).length = (renH b c.hd).length + (c.ps.flatMap (renP b)).length := List.length_append
    have hcf := comp_ren (f := n) hc h hA (by omega)
    cases f with
    | zero => simp at hf
    | succ f =>
      unfold selF
      rw [hcf]
      simp only
      rw [if_neg (by rw [hS]; simp)]
      rfl
  | y :: l, c, i, f, hc, hl, h, hA, hS, hi, hn, hf => by
    have e : renL b (y :: l) = y.1 :: (renC b y.2 ++ renL b l) := by unfold renL; rw [List.flatMap_cons]; rfl
    rw [e] at h hA hS hn ⊢
    rw [txt_append] at h
    obtain ⟨hy, hs1⟩ := hl y List.mem_cons_self
    have hsg : bt s (i + (renC b c).length) = y.1 := h.2.1
    have hq := parts_pos b c.ps
    have hlen : (renC b c).length = (renH b c.hd).length + (c.ps.flatMap (renP b)).length := List.length_append
    have htot : (renC b c ++ y.1 :: (renC b y.2 ++ renL b l)).length = (renC b c).length + 1 + (renC b y.2 ++ renL b l).length := by rw [List.length_append, List.length_cons]; omega
    have hcf := comp_ren (f := n) hc h.1 (by rw [hsg]; exact isS_notA hs1) (by omega)
    have hpos := renC_pos b hc
    cases f with
    | zero => simp at hf
    | succ f =>
      have ha : i + (renC b c).length + 1 + (renC b y.2 ++ renL b l).length = i + (renC b c ++ y.1 :: (renC b y.2 ++ renL b l)).length := by rw [htot]; omega
      have ih := sel_ren (i0 := i0) (n := n) l y.2 (i + (renC b c).length + 1) f hy (fun z hz => hl z (List.mem_cons_of_mem _ hz)) h.2.2 (by rw [ha]; exact hA) (by rw [ha]; exact hS) (by omega) (by omega) (by simpa using hf)
      have hso : sgOf s i0 (i + (renC b c).length + 1) = (y.1 : Int) := by
        unfold sgOf
        rw [if_neg (by omega), Nat.add_sub_cancel, hsg]
      rw [hso, ha] at ih
      unfold selF
      rw [hcf]
      simp only
      rw [if_pos (by rw [hsg]; exact hs1), ih]
      rfl
end Go.Proofs.YtblfffbmklkhmaaGreat
