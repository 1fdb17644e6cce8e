/- Own work. -/
import Derived.Test.YtblfffbmklkhmaaGreatLz47
import Derived.Test.YtblfffbmklkhmaaGreatLz38
import Derived.Test.YtblfffbmklkhmaaGreatLz42
import Derived.Test.YtblfffbmklkhmaaGreatLz25
import Derived.Test.YtblfffbmklkhmaaGreatLz6
namespace Go.Proofs.YtblfffbmklkhmaaGreat
open Go.RowKit
/-- A list of raw numbers in memory, or none. -/
def Il (w : World) (a : Option Addr) (len : Nat) (L : Nat → Int) : Prop :=
  ∀ i, i < len → ∃ g off, a = some ⟨g, off, none⟩ ∧ g < w.heap.size ∧ w.cell? ⟨g, off + i, none⟩ = some (.int .i64 (L i)) ∧ Fit (L i)
theorem Il.below {w w' : World} {a : Option Addr} {len : Nat} {L : Nat → Int} (h : Il w a len L) (hB : Below w.heap.size w w') : Il w' a len L := fun i hi => by
  obtain ⟨g, off, h1, h2, h3, h4⟩ := h i hi
  exact ⟨g, off, h1, Nat.lt_of_lt_of_le h2 hB.size, (hB.cell (p := ⟨g, off + i, none⟩) h2).trans h3, h4⟩
def sheetStep (len : Nat) (L : Nat → Int) (by' : Nat) (mild : Bool) (most : Nat) (p : ByteArray × Nat) : ByteArray × Nat :=
  (if p.1.size + (wRuleF len L by' mild p.2).1.size ≤ most then p.1 ++ (wRuleF len L by' mild p.2).1 else p.1, (wRuleF len L by' mild p.2).2)
def sheetLoop (len : Nat) (L : Nat → Int) (by' : Nat) (mild : Bool) (most : Nat) : Nat → ByteArray × Nat → ByteArray × Nat
  | 0, p => p
  | k + 1, p => sheetLoop len L by' mild most k (sheetStep len L by' mild most p)
def wSheetF (len : Nat) (L : Nat → Int) (by' : Nat) (mild : Bool) (most : Nat) : ByteArray := (sheetLoop len L by' mild most (nx len L 9 0).1 (⟨#[]⟩, (nx len L 9 0).2)).1
section
variable {len : Nat} {L : Nat → Int} {by' : Nat} {mild : Bool} {most : Nat}
theorem sheetStep_ok (p : ByteArray × Nat) (hp : p.1.size ≤ most) : (sheetStep len L by' mild most p).1.size ≤ most ∧ (sheetStep len L by' mild most p).2 ≤ p.2 + 120 := by
  have h := wRuleF_ok (len := len) (L := L) (by' := by') (mild := mild) p.2
  refine ⟨?_, h.2⟩
  show (if _ then _ else _ : ByteArray).size ≤ _
  split
  · rw [ByteArray.size_append]; assumption
  · exact hp
theorem sheetLoop_size : ∀ (k : Nat) (p : ByteArray × Nat), p.1.size ≤ most → (sheetLoop len L by' mild most k p).1.size ≤ most
  | 0, _, hp => hp
  | k + 1, p, hp => sheetLoop_size k _ (sheetStep_ok p hp).1
theorem wSheetF_size : (wSheetF len L by' mild most).size ≤ most := sheetLoop_size _ _ (Nat.zero_le _)
end
section
set_option maxRecDepth 100000
set_option maxHeartbeats 4000000
variable (w : World) (a : Option Addr) (len cap : Nat) (L : Nat → Int) (by' : Nat) (mild : Bool) (most : Nat)
theorem ksheet_any (h : Il w a len L) (hlen : len ≤ 4611686018427387904) (hby : by' ≤ 25) (hmost : most ≤ 400) : Calls Tryz.prog 27 #[.slice a len cap, .int .i64 by', .bool mild, .int .i64 most] w fun e w' => e = .returned (.string (wSheetF len L by' mild most)) ∧ Below w.heap.size w w' := by
  have HI0 : Hid (Il w a len L) := h
  have HW0 : Hid (∀ w1, w1.heap = w.heap.push (.cells #[.slice a len cap, .int .i64 0, .int .i64 by', .bool mild] 100 (0, 0)) → Wr w1 w.heap.size a len cap L 0 by' mild) := fun w1 hw1 => by
    refine ⟨?_, fun i hi => ?_, fun i hi => ?_, hlen⟩
    · rw [hw1, Array.getElem?_push_size]; rfl
    · obtain ⟨g, off, h1, h2, h3, h4⟩ := h i hi
      refine ⟨g, off, h1, by omega, by rw [hw1, Array.size_push]; omega, ?_⟩
      have hb : w1.heap[g]? = w.heap[g]? := by rw [hw1, Array.getElem?_push, if_neg (by omega)]
      unfold World.cell? at h3 ⊢
      rw [hb]
      exact h3
    · obtain ⟨g, off, h1, h2, h3, h4⟩ := h i hi
      exact h4
  clear h
  have HS0 : Hid (∀ r, nx len L 9 0 = r → wSheetF len L by' mild most = (sheetLoop len L by' mild most r.1 (⟨#[]⟩, r.2)).1) := fun r hr => by subst hr; rfl
  go_enter Tryz.func27, Tryz.ntmps27
  go_wp2_with fail
  have HWA := HW0.out (w.alloc (.cells #[.slice a len cap, .int .i64 0, .int .i64 by', .bool mild] 100)) rfl
  have HBA : Below w.heap.size w (w.alloc (.cells #[.slice a len cap, .int .i64 0, .int .i64 by', .bool mild] 100)) := (Below.refl _ w).alloc (Nat.le_refl _) _
  generalize w.alloc (.cells #[.slice a len cap, .int .i64 0, .int .i64 by', .bool mild] 100) = w1 at HWA HBA ⊢
  obtain ⟨q, hq⟩ : ∃ q, q = w.heap.size := ⟨_, rfl⟩
  have HQ : Hid (w.heap.size ≤ q) := Nat.le_of_eq hq.symm
  have HW1 : Hid (Wr w1 q a len cap L 0 by' mild ∧ Below w.heap.size w w1) := ⟨by rw [hq]; exact HWA, HBA⟩
  rw [← hq]
  clear HWA HBA HW0 HI0 hq
  have HN9 : Hid (Calls Tryz.prog 44 #[.pointer (some ⟨q, 0, none⟩), .int .i64 9] w1 fun e w' => WNext w1 q a len cap L by' mild (nx len L 9 0) e w') := wnext_any w1 q a len cap L 0 by' mild 9 HW1.out.1 (by decide) (by decide) (by omega)
  have l9 := nx_lt (len := len) (L := L) (n := 9) (at' := 0) (by decide)
  have m9 := nx_at (len := len) (L := L) (n := 9) (at' := 0)
  have HS1 := HS0.out _ rfl
  generalize nx len L 9 0 = r9 at HN9 l9 m9 HS1
  obtain ⟨kk, at1⟩ := r9
  simp only at l9 m9 HS1
  obtain ⟨R, hR⟩ : ∃ R, R = wSheetF len L by' mild most := ⟨_, rfl⟩
  rw [← hR] at HS1
  have HRE : Hid (R = wSheetF len L by' mild most) := hR
  clear hR
  refine HN9.out.mono ?_
  rintro e w2 ⟨rfl, hw2, hf2⟩
  have HL0 : Hid (∃ p : ByteArray × Nat, R = (sheetLoop len L by' mild most kk p).1 ∧ p.1 = ⟨#[]⟩ ∧ p.1.size ≤ most ∧ p.2 + 120 * kk ≤ 100000 ∧ Wr w2 q a len cap L p.2 by' mild ∧ Fr w1 w2 (fun k => k = q)) := ⟨(⟨#[]⟩, at1), HS1, rfl, Nat.zero_le _, by show at1 + 120 * kk ≤ _; omega, hw2, hf2⟩
  clear hw2 hf2 HS0 HS1 HN9
  go_wp2_with fail
  go_loopg [10, 11, 12] kk (fun gk sv kv rv wr => ∃ (m : Nat) (s : ByteArray), sv = .string s ∧ kv = .int .i64 m ∧ m ≤ 8 ∧ m ≤ gk ∧ Hid (∃ p : ByteArray × Nat, R = (sheetLoop len L by' mild most m p).1 ∧ p.1 = s ∧ p.1.size ≤ most ∧ p.2 + 120 * m ≤ 100000 ∧ Wr wr q a len cap L p.2 by' mild ∧ Fr w1 wr (fun k => k = q)))
  case atStart => exact ⟨kk, ⟨#[]⟩, rfl, rfl, by omega, Nat.le_refl _, HL0⟩
  case round =>
    obtain ⟨m, sx, rfl, rfl, hm2, hgk, HI⟩ := hrel
    obtain ⟨p, hp1, hp2, hp3, hp4, hp5, hp6⟩ := HI.out
    obtain ⟨ps, pat⟩ := p
    simp only at hp2 hp3 hp4 hp5
    subst hp2
    have HIW : Hid (R = (sheetLoop len L by' mild most m (ps, pat)).1 ∧ Wr wr q a len cap L pat by' mild ∧ Fr w1 wr (fun k => k = q)) := ⟨hp1, hp5, hp6⟩
    clear HI hp1 hp5 hp6
    cases m with
    | zero =>
      have HE : Hid (Ending.returned (.string ps) = .returned (.string (wSheetF len L by' mild most)) ∧ Below w.heap.size w wr) := by
        refine ⟨by rw [← HRE.out, HIW.out.1]; rfl, HW1.out.2.trans ?_⟩
        have hfr := HIW.out.2.2
        exact ⟨hfr.os, hfr.tape, hfr.output, hfr.size, fun k hk => hfr.block k (Nat.lt_of_lt_of_le hk HW1.out.2.size) (fun hkq => absurd HQ.out (by rw [← hkq]; omega))⟩
      go_wp2
      go_ret
      exact HE.out
    | succ m =>
      have hd : decide ((0 : Int) < (m : Int) + 1) = true := by rw [decide_eq_true_eq]; omega
      have HST : Hid (∀ c, wRuleF len L by' mild pat = c → sheetStep len L by' mild most (ps, pat) = (if ps.size + c.1.size ≤ most then ps ++ c.1 else ps, c.2)) := fun c hc => by subst hc; rfl
      have HSO := sheetStep_ok (len := len) (L := L) (by' := by') (mild := mild) (most := most) (ps, pat) hp3
      simp only at HSO
      have HNX : Hid (∀ wZ c, sheetStep len L by' mild most (ps, pat) = c → Wr wZ q a len cap L c.2 by' mild → Fr wr wZ (fun k => k = q) → ∃ p : ByteArray × Nat, R = (sheetLoop len L by' mild most m p).1 ∧ p.1 = c.1 ∧ p.1.size ≤ most ∧ p.2 + 120 * m ≤ 100000 ∧ Wr wZ q a len cap L p.2 by' mild ∧ Fr w1 wZ (fun k => k = q)) := fun wZ c hc h1 h2 => by
        subst hc
        exact ⟨sheetStep len L by' mild most (ps, pat), HIW.out.1, rfl, HSO.1, by omega, h1, HIW.out.2.2.q h2⟩
      have HRR : Hid (Calls Tryz.prog 45 #[.pointer (some ⟨q, 0, none⟩)] wr fun e w' => WStr wr q a len cap L by' mild (wRuleF len L by' mild pat) e w') := wrule_any wr q a len cap L pat by' mild HIW.out.2.1 (by omega) hby
      have zr := (wRuleF_ok (len := len) (L := L) (by' := by') (mild := mild) pat).1
      have HS4 := HST.out _ rfl
      clear HST HSO
      generalize wRuleF len L by' mild pat = c at HRR zr HS4
      obtain ⟨es, atn⟩ := c
      simp only at zr HS4
      have HS5 : Hid (sheetStep len L by' mild most (ps, pat) = (if ps.size + es.size ≤ most then ps ++ es else ps, atn)) := HS4
      clear HS4
      have z9 : (ps ++ es).size = ps.size + es.size := ByteArray.size_append
      by_cases hfit : ps.size + es.size ≤ most
      · have hfd : decide ((ps.size : Int) + (es.size : Int) ≤ (most : Int)) = true := by rw [decide_eq_true_eq]; omega
        go_wp2_with fail
        refine HRR.out.mono ?_
        rintro e wC ⟨rfl, hwC, hfC⟩
        have HI3 : Hid (∃ p : ByteArray × Nat, R = (sheetLoop len L by' mild most m p).1 ∧ p.1 = ps ++ es ∧ p.1.size ≤ most ∧ p.2 + 120 * m ≤ 100000 ∧ Wr wC q a len cap L p.2 by' mild ∧ Fr w1 wC (fun k => k = q)) := HNX.out wC (ps ++ es, atn) (by rw [HS5.out, if_pos hfit]) hwC hfC
        clear hwC hfC HNX HS5 HIW HRR
        go_wp2
        go_roundg m
        case measure => omega
        case rel => exact ⟨m, _, rfl, by go_num, by omega, Nat.le_refl _, HI3⟩
      · have hfd : decide ((ps.size : Int) + (es.size : Int) ≤ (most : Int)) = false := by rw [decide_eq_false_iff_not]; omega
        go_wp2_with fail
        refine HRR.out.mono ?_
        rintro e wC ⟨rfl, hwC, hfC⟩
        have HI3 : Hid (∃ p : ByteArray × Nat, R = (sheetLoop len L by' mild most m p).1 ∧ p.1 = ps ∧ p.1.size ≤ most ∧ p.2 + 120 * m ≤ 100000 ∧ Wr wC q a len cap L p.2 by' mild ∧ Fr w1 wC (fun k => k = q)) := HNX.out wC (ps, atn) (by rw [HS5.out, if_neg hfit]) hwC hfC
        clear hwC hfC HNX HS5 HIW HRR
        go_wp2
        go_roundg m
        case measure => omega
        case rel => exact ⟨m, _, rfl, by go_num, by omega, Nat.le_refl _, HI3⟩
end
end Go.Proofs.YtblfffbmklkhmaaGreat

namespace Go.Proofs.YtblfffbmklkhmaaGreat
open Go.ChangeShapes Go.WideShapes Go.ChangeAt Go.RowKit
theorem Tryz.bytes3 : Tryz.prog.bytesOf 3 = 8 := by kernel_rfl
theorem one_of {α : Type} (l : List α) (h : l.length = 1) : ∃ a, l = [a] := by
  match l, h with
  | [a], _ => exact ⟨a, rfl⟩
theorem open_ints {H : Type} {enc : TypeId × Value → H} {W : World} {a0 : Option Addr} {len cap fuel : Nat} {x : DataW H × List MemPlace} (h : DataW.trod enc Tryz.prog W 0 (fun _ => true) true fuel 40 [.slice a0 len cap] = some x) : ∃ L, Il W a0 len L := by
  rcases Go.Deep.open_slice Tryz.underlying40 h with ⟨hcs, _⟩ | ⟨a, len', cap', m, n, D, Pl, hcs, _, hl, hm, hmm, _, hx⟩
  · simp only [List.cons.injEq, Value.slice.injEq, and_true] at hcs
    exact ⟨fun _ => 0, fun i hi => by rw [hcs.2.1] at hi; exact absurd hi (Nat.not_lt_zero _)⟩
  · simp only [List.cons.injEq, Value.slice.injEq, and_true] at hcs
    obtain ⟨rfl, rfl, rfl⟩ := hcs
    simp only [if_true] at hmm
    rw [Tryz.cells3] at hx
    have each : ∀ i, i < len → ∃ q : Int, W.cell? (a.add (i * 1)) = some (.int .i64 q) ∧ Fit q := by
      intro i hi
      obtain ⟨cs', h1, h2⟩ := hx i (by omega)
      obtain ⟨_, hlen, hcell⟩ := World.cells?_some h1
      obtain ⟨v0, rfl⟩ := one_of cs' hlen
      obtain ⟨n0, e0, _, f0⟩ := DataW.trod_int Tryz.underlying3 h2
      simp only [List.cons.injEq, and_true] at e0
      subst e0
      have c0 := hcell 0 (by omega)
      rw [Go.Deep.add_add] at c0
      exact ⟨n0, by simpa using c0, fit_wf f0⟩
    obtain ⟨q, hq⟩ := Go.Deep.choose_lt each
    obtain ⟨b, off, spot⟩ := a
    refine ⟨q, fun i hi => ?_⟩
    have h1 := (hq i hi).1
    have g1 := (hq 0 (by omega)).1
    have hspot : spot = none := by simpa [Addr.add] using World.cell?_spot g1
    subst hspot
    have hlt : b < W.heap.size := by simpa [Addr.add] using World.block_lt_of_cell? W _ g1
    rw [Go.WideShapes.add_plain, Nat.mul_one] at h1
    exact ⟨b, off, rfl, hlt, h1, (hq i hi).2⟩
/-- The reach bounds a list's length. -/
theorem ints_short {H : Type} {enc : TypeId × Value → H} {W : World} {a0 : Option Addr} {len cap fuel : Nat} {d : DataW H} {p : List MemPlace} (h : DataW.trod enc Tryz.prog W 0 (fun _ => true) true fuel 40 [.slice a0 len cap] = some (d, p)) {ts : List TypeId} {ds : List (DataW H)} (j : Nat) (ht : ts[j]? = some 40) (hd : ds[j]? = some d)
    (hsz : (DataW.weightsEach Tryz.prog ts ds).all (· ≤ reachBytes) = true) : len ≤ 4611686018427387904 := by
  rcases Go.Deep.open_slice Tryz.underlying40 h with ⟨hcs, _⟩ | ⟨a, len', cap', m, n, D, Pl, hcs, _, hl, _, hmm, hd', _⟩
  · simp only [List.cons.injEq, Value.slice.injEq, and_true] at hcs
    omega
  · simp only [List.cons.injEq, Value.slice.injEq, and_true] at hcs
    obtain ⟨_, rfl, rfl⟩ := hcs
    injection hd' with hd' _
    subst hd'
    have h1 := sized_slice hsz (j := j) ht hd Tryz.underlying40
    rw [Tryz.bytes3, List.length_map, List.length_range, List.length_map, List.length_range] at h1
    have h2 := reachBytes_lt
    omega
theorem steps_short_at {H : Type} {enc : TypeId × Value → H} {W : World} {a0 : Option Addr} {len cap fuel : Nat} {d : DataW H} {p : List MemPlace} (h : DataW.trod enc Tryz.prog W 0 (fun _ => true) true fuel 25 [.slice a0 len cap] = some (d, p)) {ts : List TypeId} {ds : List (DataW H)} (j : Nat) (ht : ts[j]? = some 25) (hd : ds[j]? = some d)
    (hsz : (DataW.weightsEach Tryz.prog ts ds).all (· ≤ reachBytes) = true) : len ≤ 1000000000000000 := by
  rcases Go.Deep.open_slice Tryz.underlying25 h with ⟨hcs, _⟩ | ⟨a, len', cap', m, n, D, Pl, hcs, _, hl, _, hmm, hd', _⟩
  · simp only [List.cons.injEq, Value.slice.injEq, and_true] at hcs
    omega
  · simp only [List.cons.injEq, Value.slice.injEq, and_true] at hcs
    obtain ⟨_, rfl, rfl⟩ := hcs
    injection hd' with hd' _
    subst hd'
    have h1 := sized_slice hsz (j := j) ht hd Tryz.underlying25
    rw [Tryz.bytes78, List.length_map, List.length_range, List.length_map, List.length_range] at h1
    have h2 := reachBytes_lt
    omega
end Go.Proofs.YtblfffbmklkhmaaGreat

namespace Go.Proofs.YtblfffbmklkhmaaGreat
open Go.RowKit
/-- Two groves in memory of their own, made since a world. -/
structure Two (DS : World → Value → Tree → Nat → (Nat → Mk) → List PRu → (Nat → Prop) → Prop) (w0 w : World) (g : Nat) (px vl : Value) (made b : Nat) (ns : List GN) (rs : List PRu) (Fg Fx : Nat → Prop) (g2 : Nat) (px2 vl2 : Value) (made2 b2 : Nat) (ns2 : List GN) (rs2 : List PRu) (Fg2 Fx2 : Nat → Prop) : Prop where
  one : GD DS w g px vl made b ns rs Fg Fx
  two : GD DS w g2 px2 vl2 made2 b2 ns2 rs2 Fg2 Fx2
  ap : ∀ k, Fg k ∨ Fx k → ¬ (Fg2 k ∨ Fx2 k)
  na : ∀ k, Fg k ∨ Fx k → w0.heap.size ≤ k
  nb : ∀ k, Fg2 k ∨ Fx2 k → w0.heap.size ≤ k
  bl : Below w0.heap.size w0 w
section
variable {DS : World → Value → Tree → Nat → (Nat → Mk) → List PRu → (Nat → Prop) → Prop} {w0 w w' : World} {g : Nat} {px vl : Value} {made b : Nat} {ns : List GN} {rs : List PRu} {Fg Fx : Nat → Prop} {g2 : Nat} {px2 vl2 : Value} {made2 b2 : Nat} {ns2 : List GN} {rs2 : List PRu} {Fg2 Fx2 : Nat → Prop}
theorem Two.swap (h : Two DS w0 w g px vl made b ns rs Fg Fx g2 px2 vl2 made2 b2 ns2 rs2 Fg2 Fx2) : Two DS w0 w g2 px2 vl2 made2 b2 ns2 rs2 Fg2 Fx2 g px vl made b ns rs Fg Fx :=
  ⟨h.two, h.one, fun k hk hx => h.ap k hx hk, h.nb, h.na, h.bl⟩
theorem Two.below (hP : DocOK DS) (h : Two DS w0 w g px vl made b ns rs Fg Fx g2 px2 vl2 made2 b2 ns2 rs2 Fg2 Fx2) (hB : Below w.heap.size w w') : Two DS w0 w' g px vl made b ns rs Fg Fx g2 px2 vl2 made2 b2 ns2 rs2 Fg2 Fx2 :=
  ⟨h.one.below hP hB, h.two.below hP hB, h.ap, h.na, h.nb, h.bl.trans (hB.mono h.bl.size)⟩
/-- A second grove is planted. -/
theorem two_plant (hP : DocOK DS) (h : GD DS w g px vl made b ns rs Fg Fx) (hna : ∀ k, Fg k ∨ Fx k → w0.heap.size ≤ k) (hbl : Below w0.heap.size w0 w) (h2 : GD DS w' g2 px2 vl2 made2 b2 ns2 rs2 Fg2 Fx2) (hin : ∀ k, Fg2 k ∨ Fx2 k → w.heap.size ≤ k) (hB : Below w.heap.size w w') : Two DS w0 w' g px vl made b ns rs Fg Fx g2 px2 vl2 made2 b2 ns2 rs2 Fg2 Fx2 :=
  ⟨h.below hP hB, h2, fun k hk hx => by have := h.here k hk; have := hin k hx; omega, hna, fun k hk => Nat.le_trans hbl.size (hin k hk), hbl.trans (hB.mono hbl.size)⟩
/-- The first one has turned. -/
theorem Two.turn (hP : DocOK DS) (h : Two DS w0 w g px vl made b ns rs Fg Fx g2 px2 vl2 made2 b2 ns2 rs2 Fg2 Fx2) {px' vl' : Value} {made' b' : Nat} {ns' : List GN} {rs' : List PRu} {Fg' Fx' G : Nat → Prop} (h1 : GD DS w' g px' vl' made' b' ns' rs' Fg' Fx') (hin : ∀ k, Fg' k ∨ Fx' k → (Fg k ∨ Fx k) ∨ w.heap.size ≤ k) (hG : ∀ k, G k → Fg k ∨ Fx k) (hf : Fr w w' G) : Two DS w0 w' g px' vl' made' b' ns' rs' Fg' Fx' g2 px2 vl2 made2 b2 ns2 rs2 Fg2 Fx2 :=
  ⟨h1, h.two.apart hP hf (fun k hk hx => h.ap k (hG k hx) hk), fun k hk hx => by
    rcases hin k hk with h2 | h2
    · exact h.ap k h2 hx
    · have := h.two.here k hx; omega, fun k hk => by
    rcases hin k hk with h2 | h2
    · exact h.na k h2
    · exact Nat.le_trans h.bl.size h2, h.nb, h.bl.trans ⟨hf.os, hf.tape, hf.output, hf.size, fun k hk => hf.block k (Nat.lt_of_lt_of_le hk h.bl.size) (fun hx => by have := h.na k (hG k hx); omega)⟩⟩
theorem Two.all (hP : DocOK DS) (h : Two DS w0 w g px vl made b ns rs Fg Fx g2 px2 vl2 made2 b2 ns2 rs2 Fg2 Fx2) {Fx' : Nat → Prop} (h1 : GDM DS w' g px vl made b (mOf b (ns.map GN.pl)) ns rs Fg Fx') (hin : ∀ k, Fx' k → Fx k ∨ w.heap.size ≤ k) (hf : Fr w w' Fx) : Two DS w0 w' g px vl made b ns rs Fg Fx' g2 px2 vl2 made2 b2 ns2 rs2 Fg2 Fx2 :=
  h.turn hP (GDM.gd h1) (fun k hk => by
    rcases hk with hk | hk
    · exact Or.inl (Or.inl hk)
    · rcases hin k hk with h2 | h2
      · exact Or.inl (Or.inr h2)
      · exact Or.inr h2) (fun _ hk => Or.inr hk) hf
theorem kgrow4_sc (hP : DocOK4 DS) {w0 : World} (w : World) (g : Nat) (px vl : Value) (made b : Nat) (ns : List GN) (rs : List PRu) (Fg Fx : Nat → Prop) (h : GD DS w g px vl made b ns rs Fg Fx) (last : Int) (hl11 : last ≤ 11) (hb : b ≤ 25) (a0 : Option Addr) (len cap : Nat) (K X Y Z : Nat → Int) (hs : Sc w0 a0 len K X Y Z) (hB : Below w0.heap.size w0 w) (hna : ∀ k, Fg k ∨ Fx k → w0.heap.size ≤ k) (hm : made + len ≤ 4611686018427387904) :
    Calls Tryz.prog 20 #[.pointer (some ⟨g, 0, none⟩), .slice a0 len cap, .int .i64 last] w fun e w' => KStepPost DS w (fun k => Fg k ∨ Fx k) g px b (growS b last K X Y Z (ns.map GN.pl) made len).1 (growS b last K X Y Z (ns.map GN.pl) made len).2 rs e w' := by
  rcases hs with rfl | ⟨b0, off, rfl, hs⟩
  · exact kgrow_none w g px vl made b ns rs Fg Fx h last a0 cap
  · refine kgrow4_any hP w g px vl made b ns rs Fg Fx h last hl11 hb b0 off len cap K X Y Z (hs.keep (hB.block b0 hs.lt)) (fun hk => ?_) hm
    have h1 := hna b0 hk
    have h2 := hs.lt
    omega
end
end Go.Proofs.YtblfffbmklkhmaaGreat

namespace Go.Proofs.YtblfffbmklkhmaaGreat
open Go.RowKit
def bl (s : ByteArray) : List Nat := s.data.toList.map UInt8.toNat
theorem bl_append (s t : ByteArray) : bl (s ++ t) = bl s ++ bl t := by
  unfold bl
  rw [ByteArray.data_append, Array.toList_append, List.map_append]
theorem bl_length (s : ByteArray) : (bl s).length = s.size := by
  unfold bl
  rw [List.length_map, Array.length_toList]
  rfl
theorem bl_at (s : ByteArray) (i : Nat) (h : i < (bl s).length) : bt s i = (bl s)[i] := by
  have h2 : i < s.size := by rw [bl_length] at h; exact h
  rw [bt_at s i h2]
  have h3 : (s.data.toList.map UInt8.toNat)[i]'(by rw [List.length_map, Array.length_toList]; exact h2) = s[i].toNat := by
    rw [List.getElem_map, Array.getElem_toList]
    rfl
  exact h3.symm
abbrev Q3 := Int × Nat × Nat
def stp (q : Q3) (c : Nat) : Option Q3 :=
  if nxt q.1 c = -1 then none
  else if q.1 = 0 then (if q.2.1 = 20 then none else some (nxt q.1 c, q.2.1 + 1, 1))
  else if q.1 = 18 ∨ q.1 = 1 then some (nxt q.1 c, q.2.1, 1)
  else if q.1 = 3 then (if isS c = true then (if q.2.2 = 4 then none else some (nxt q.1 c, q.2.1, q.2.2 + 1)) else if c = 44 then some (nxt q.1 c, q.2.1, 1) else some (nxt q.1 c, q.2.1, q.2.2))
  else some (nxt q.1 c, q.2.1, q.2.2)
def run : List Nat → Q3 → Option Q3
  | [], q => some q
  | c :: l, q => (stp q c).bind (run l)
theorem run_append : ∀ (l l2 : List Nat) (q : Q3), run (l ++ l2) q = (run l q).bind (run l2)
  | [], _, _ => rfl
  | c :: l, l2, q => by
    show (stp q c).bind (run (l ++ l2)) = ((stp q c).bind (run l)).bind (run l2)
    cases stp q c with
    | none => rfl
    | some q' => exact run_append l l2 q'
theorem run_two {l l2 : List Nat} {q q1 q2 : Q3} (h : run l q = some q1) (h2 : run l2 q1 = some q2) : run (l ++ l2) q = some q2 := by
  rw [run_append, h]; exact h2
theorem stp_cnt {q q' : Q3} {c : Nat} (i : Nat) (h : stp q c = some q') : nxt q.1 c = q'.1 ∧ q'.1 ≠ -1 ∧ cnt q.1 c i ⟨q.2.1, q.2.2, -1⟩ = ⟨q'.2.1, q'.2.2, -1⟩ := by
  obtain ⟨m, nr, nc⟩ := q
  obtain ⟨m', nr', nc'⟩ := q'
  unfold stp at h
  simp only at h ⊢
  by_cases h1 : nxt m c = -1
  · rw [if_pos h1] at h; cases h
  rw [if_neg h1] at h
  unfold cnt
  by_cases h0 : m = 0
  · rw [if_pos h0] at h
    by_cases h2 : nr = 20
    · rw [if_pos h2] at h; cases h
    · rw [if_neg h2] at h
      injection h with h
      injection h with ha hb
      injection hb with hb hc
      refine ⟨ha, by rw [← ha]; exact h1, ?_⟩
      rw [if_pos h0]
      simp only [noteIf, h2, decide_false]
      rw [if_neg (by simp), ← hb, ← hc]
  rw [if_neg h0] at h
  rw [if_neg h0]
  by_cases h18 : m = 18 ∨ m = 1
  · rw [if_pos h18] at h ⊢
    injection h with h
    injection h with ha hb
    injection hb with hb hc
    refine ⟨ha, by rw [← ha]; exact h1, ?_⟩
    rw [← hb, ← hc]
  rw [if_neg h18] at h
  rw [if_neg h18]
  by_cases h3 : m = 3
  · rw [if_pos h3] at h ⊢
    by_cases hs : isS c = true
    · rw [if_pos hs] at h ⊢
      by_cases h2 : nc = 4
      · rw [if_pos h2] at h; cases h
      · rw [if_neg h2] at h
        injection h with h
        injection h with ha hb
        injection hb with hb hc
        refine ⟨ha, by rw [← ha]; exact h1, ?_⟩
        simp only [noteIf, h2, decide_false]
        rw [if_neg (by simp), ← hb, ← hc]
    · rw [if_neg hs] at h ⊢
      by_cases h4 : c = 44
      · rw [if_pos h4] at h ⊢
        injection h with h
        injection h with ha hb
        injection hb with hb hc
        refine ⟨ha, by rw [← ha]; exact h1, ?_⟩
        rw [← hb, ← hc]
      · rw [if_neg h4] at h ⊢
        injection h with h
        injection h with ha hb
        injection hb with hb hc
        refine ⟨ha, by rw [← ha]; exact h1, ?_⟩
        rw [← hb, ← hc]
  · rw [if_neg h3] at h ⊢
    injection h with h
    injection h with ha hb
    injection hb with hb hc
    refine ⟨ha, by rw [← ha]; exact h1, ?_⟩
    rw [← hb, ← hc]
theorem run_V {s : ByteArray} : ∀ (l : List Nat) (q : Q3) (i : Nat) (r : Nat × Nat), (∀ j (hj : j < l.length), bt s (i + j) = l[j]) → i + l.length = s.size → run l q = some (0, r) → V s q.1 ⟨q.2.1, q.2.2, -1⟩ i = (-1, -1)
  | [], q, i, r, _, h2, h3 => by
    have h4 : q = (0, r) := by injection h3
    subst h4
    rw [V_end (by simpa using Nat.le_of_eq h2.symm), if_pos rfl]
  | c :: l, q, i, r, h1, h2, h3 => by
    have hc : bt s i = c := h1 0 (Nat.zero_lt_succ _)
    have hi : i < s.size := by rw [List.length_cons] at h2; omega
    cases hst : stp q c with
    | none => rw [run, hst] at h3; cases h3
    | some q' =>
      obtain ⟨g1, g2, g3⟩ := stp_cnt i hst
      rw [V_go (m' := q'.1) hi (by rw [hc]; exact g1) g2, hc, g3]
      refine run_V l q' (i + 1) r (fun j hj => ?_) (by rw [List.length_cons] at h2; omega) (by rw [run, hst] at h3; exact h3)
      have := h1 (j + 1) (by rw [List.length_cons]; omega)
      rw [List.getElem_cons_succ] at this
      rw [← this]
      congr 1
      omega
/-- A text that is run through whole is a sheet. -/
theorem chk_run {s : ByteArray} {r : Nat × Nat} (h4 : s.size ≤ 400) (h : run (bl s) (0, 0, 0) = some (0, r)) : chk s = (0, 0) := by
  have hV := run_V (s := s) (bl s) (0, 0, 0) 0 r (fun j hj => by rw [Nat.zero_add]; exact bl_at s j hj) (by rw [bl_length]; omega) h
  simp only at hV
  unfold chk
  rw [hV, if_neg (by omega), if_neg (by decide), if_pos rfl]
theorem bl_let (k : Nat) : bl (letB k) = [97 + k % 26] := by
  have h : k % 26 < 26 := Nat.mod_lt _ (by decide)
  show [(UInt8.ofNat (97 + k % 26)).toNat] = _
  rw [UInt8.toNat_ofNat', Nat.mod_eq_of_lt (by omega)]
theorem bl_dig {k : Nat} (h : k < 10) : bl (digB k) = [48 + k] := by
  show [(UInt8.ofNat (48 + k)).toNat] = _
  rw [UInt8.toNat_ofNat', Nat.mod_eq_of_lt (by omega)]
theorem isL_let (k : Nat) : isL (97 + k % 26) = true := by
  have h : k % 26 < 26 := Nat.mod_lt _ (by decide)
  unfold isL
  rw [decide_eq_true_eq]
  omega
theorem isD_dig {k : Nat} (h : k < 10) : isD (48 + k) = true := by
  unfold isD
  rw [decide_eq_true_eq]
  omega
theorem run_let4 (k nr nc : Nat) : run (bl (letB k)) (4, nr, nc) = some (3, nr, nc) := by
  rw [bl_let]
  have := isL_let k
  simp [run, stp, nxt, wh, this]
theorem run_let8 (k nr nc : Nat) : run (bl (letB k)) (8, nr, nc) = some (3, nr, nc) := by
  rw [bl_let]
  have := isL_let k
  simp [run, stp, nxt, this]
theorem run_let2 (k nr nc : Nat) : run (bl (letB k)) (2, nr, nc) = some (3, nr, nc) := by
  rw [bl_let]
  have := isL_let k
  simp [run, stp, nxt, compN, this]
theorem run_dig1 {k : Nat} (h : k < 10) (nr nc : Nat) : run (bl (digB k)) (1, nr, nc) = some (2, nr, 1) := by
  rw [bl_dig h]
  have := isD_dig h
  simp [run, stp, nxt, wh, this]
theorem run_dig6 {k : Nat} (h : k < 10) (nr nc : Nat) : run (bl (digB k)) (6, nr, nc) = some (7, nr, nc) := by
  rw [bl_dig h]
  have := isD_dig h
  simp [run, stp, nxt, wh, this]
theorem run_dig7 {k : Nat} (h : k < 10) (nr nc : Nat) : run (bl (digB k)) (7, nr, nc) = some (3, nr, nc) := by
  rw [bl_dig h]
  have := isD_dig h
  simp [run, stp, nxt, wh, this]
theorem run_dig12 {k : Nat} (h : k < 10) (nr nc : Nat) : run (bl (digB k)) (12, nr, nc) = some (13, nr, nc) := by
  rw [bl_dig h]
  have := isD_dig h
  simp [run, stp, nxt, this]
theorem run_dig13 {k : Nat} (h : k < 10) (nr nc : Nat) : run (bl (digB k)) (13, nr, nc) = some (14, nr, nc) := by
  rw [bl_dig h]
  have := isD_dig h
  simp [run, stp, nxt, this]
end Go.Proofs.YtblfffbmklkhmaaGreat
