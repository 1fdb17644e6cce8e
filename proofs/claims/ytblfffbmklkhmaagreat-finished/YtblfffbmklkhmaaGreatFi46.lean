/- Own work. -/
import Derived.Test.YtblfffbmklkhmaaGreatFi45
import Derived.Test.YtblfffbmklkhmaaGreatFi36
import Derived.Test.YtblfffbmklkhmaaGreatFi40
import Derived.Test.YtblfffbmklkhmaaGreatFi23
namespace Go.Proofs.YtblfffbmklkhmaaGreat
open Go.RowKit
/-- A list of raw numbers in memory, or none. -/
def Il (w : World) (a : Option Addr) (len : Nat) (L : Nat → Int) : Prop :=
  ∀ i, i < len → ∃ g off, a = some ⟨g, off, none⟩ ∧ g < w.heap.size ∧ w.cell? ⟨g, off + i, none⟩ = some (.int .i64 (L i)) ∧ Fit (L i)
theorem Il.below {w w' : World} {a : Option Addr} {len : Nat} {L : Nat → Int} (h : Il w a len L) (hB : Below w.heap.size w w') : Il w' a len L := fun i hi => by
  obtain ⟨g, off, h1, h2, h3, h4⟩ := h i hi
  exact ⟨g, off, h1, Nat.lt_of_lt_of_le h2 hB.size, (hB.cell (p := ⟨g, off + i, none⟩) h2).trans h3, h4⟩
def sheetStep (len : Nat) (L : Nat → Int) (by' : Nat) (mild : Bool) (most : Nat) (p : ByteArray × Nat) : ByteArray × Nat :=
  (if p.1.size + (wRuleF len L by' mild p.2).1.size ≤ most then p.1 ++ (wRuleF len L by' mild p.2).1 else p.1, (wRuleF len L by' mild p.2).2)
def sheetLoop (len : Nat) (L : Nat → Int) (by' : Nat) (mild : Bool) (most : Nat) : Nat → ByteArray × Nat → ByteArray × Nat
  | 0, p => p
  | k + 1, p => sheetLoop len L by' mild most k (sheetStep len L by' mild most p)
def wSheetF (len : Nat) (L : Nat → Int) (by' : Nat) (mild : Bool) (most : Nat) : ByteArray := (sheetLoop len L by' mild most (nx len L 9 0).1 (⟨#[]⟩, (nx len L 9 0).2)).1
section
variable {len : Nat} {L : Nat → Int} {by' : Nat} {mild : Bool} {most : Nat}
theorem sheetStep_ok (p : ByteArray × Nat) (hp : p.1.size ≤ most) : (sheetStep len L by' mild most p).1.size ≤ most ∧ (sheetStep len L by' mild most p).2 ≤ p.2 + 120 := by
  have h := wRuleF_ok (len := len) (L := L) (by' := by') (mild := mild) p.2
  refine ⟨?_, h.2⟩
  show (if _ then _ else _ : ByteArray).size ≤ _
  split
  · rw [ByteArray.size_append]; assumption
  · exact hp
theorem sheetLoop_size : ∀ (k : Nat) (p : ByteArray × Nat), p.1.size ≤ most → (sheetLoop len L by' mild most k p).1.size ≤ most
  | 0, _, hp => hp
  | k + 1, p, hp => sheetLoop_size k _ (sheetStep_ok p hp).1
theorem wSheetF_size : (wSheetF len L by' mild most).size ≤ most := sheetLoop_size _ _ (Nat.zero_le _)
end
section
set_option maxRecDepth 100000
set_option maxHeartbeats 4000000
variable (w : World) (a : Option Addr) (len cap : Nat) (L : Nat → Int) (by' : Nat) (mild : Bool) (most : Nat)
theorem ksheet_any (h : Il w a len L) (hlen : len ≤ 4611686018427387904) (hby : by' ≤ 25) (hmost : most ≤ 400) : Calls Tryz.prog 27 #[.slice a len cap, .int .i64 by', .bool mild, .int .i64 most] w fun e w' => e = .returned (.string (wSheetF len L by' mild most)) ∧ Below w.heap.size w w' := by
  have HI0 : Hid (Il w a len L) := h
  have HW0 : Hid (∀ w1, w1.heap = w.heap.push (.cells #[.slice a len cap, .int .i64 0, .int .i64 by', .bool mild] 100 (0, 0)) → Wr w1 w.heap.size a len cap L 0 by' mild) := fun w1 hw1 => by
    refine ⟨?_, fun i hi => ?_, fun i hi => ?_, hlen⟩
    · rw [hw1, Array.getElem?_push_size]; rfl
    · obtain ⟨g, off, h1, h2, h3, h4⟩ := h i hi
      refine ⟨g, off, h1, by omega, by rw [hw1, Array.size_push]; omega, ?_⟩
      have hb : w1.heap[g]? = w.heap[g]? := by rw [hw1, Array.getElem?_push, if_neg (by omega)]
      unfold World.cell? at h3 ⊢
      rw [hb]
      exact h3
    · obtain ⟨g, off, h1, h2, h3, h4⟩ := h i hi
      exact h4
  clear h
  have HS0 : Hid (∀ r, nx len L 9 0 = r → wSheetF len L by' mild most = (sheetLoop len L by' mild most r.1 (⟨#[]⟩, r.2)).1) := fun r hr => by subst hr; rfl
  go_enter Tryz.func27, Tryz.ntmps27
  go_wp2_with fail
  have HWA := HW0.out (w.alloc (.cells #[.slice a len cap, .int .i64 0, .int .i64 by', .bool mild] 100)) rfl
  have HBA : Below w.heap.size w (w.alloc (.cells #[.slice a len cap, .int .i64 0, .int .i64 by', .bool mild] 100)) := (Below.refl _ w).alloc (Nat.le_refl _) _
  generalize w.alloc (.cells #[.slice a len cap, .int .i64 0, .int .i64 by', .bool mild] 100) = w1 at HWA HBA ⊢
  obtain ⟨q, hq⟩ : ∃ q, q = w.heap.size := ⟨_, rfl⟩
  have HQ : Hid (w.heap.size ≤ q) := Nat.le_of_eq hq.symm
  have HW1 : Hid (Wr w1 q a len cap L 0 by' mild ∧ Below w.heap.size w w1) := ⟨by rw [hq]; exact HWA, HBA⟩
  rw [← hq]
  clear HWA HBA HW0 HI0 hq
  have HN9 : Hid (Calls Tryz.prog 44 #[.pointer (some ⟨q, 0, none⟩), .int .i64 9] w1 fun e w' => WNext w1 q a len cap L by' mild (nx len L 9 0) e w') := wnext_any w1 q a len cap L 0 by' mild 9 HW1.out.1 (by decide) (by decide) (by omega)
  have l9 := nx_lt (len := len) (L := L) (n := 9) (at' := 0) (by decide)
  have m9 := nx_at (len := len) (L := L) (n := 9) (at' := 0)
  have HS1 := HS0.out _ rfl
  generalize nx len L 9 0 = r9 at HN9 l9 m9 HS1
  obtain ⟨kk, at1⟩ := r9
  simp only at l9 m9 HS1
  obtain ⟨R, hR⟩ : ∃ R, R = wSheetF len L by' mild most := ⟨_, rfl⟩
  rw [← hR] at HS1
  have HRE : Hid (R = wSheetF len L by' mild most) := hR
  clear hR
  refine HN9.out.mono ?_
  rintro e w2 ⟨rfl, hw2, hf2⟩
  have HL0 : Hid (∃ p : ByteArray × Nat, R = (sheetLoop len L by' mild most kk p).1 ∧ p.1 = ⟨#[]⟩ ∧ p.1.size ≤ most ∧ p.2 + 120 * kk ≤ 100000 ∧ Wr w2 q a len cap L p.2 by' mild ∧ Fr w1 w2 (fun k => k = q)) := ⟨(⟨#[]⟩, at1), HS1, rfl, Nat.zero_le _, by show at1 + 120 * kk ≤ _; omega, hw2, hf2⟩
  clear hw2 hf2 HS0 HS1 HN9
  go_wp2_with fail
  go_loopg [10, 11, 12] kk (fun gk sv kv rv wr => ∃ (m : Nat) (s : ByteArray), sv = .string s ∧ kv = .int .i64 m ∧ m ≤ 8 ∧ m ≤ gk ∧ Hid (∃ p : ByteArray × Nat, R = (sheetLoop len L by' mild most m p).1 ∧ p.1 = s ∧ p.1.size ≤ most ∧ p.2 + 120 * m ≤ 100000 ∧ Wr wr q a len cap L p.2 by' mild ∧ Fr w1 wr (fun k => k = q)))
  case atStart => exact ⟨kk, ⟨#[]⟩, rfl, rfl, by omega, Nat.le_refl _, HL0⟩
  case round =>
    obtain ⟨m, sx, rfl, rfl, hm2, hgk, HI⟩ := hrel
    obtain ⟨p, hp1, hp2, hp3, hp4, hp5, hp6⟩ := HI.out
    obtain ⟨ps, pat⟩ := p
    simp only at hp2 hp3 hp4 hp5
    subst hp2
    have HIW : Hid (R = (sheetLoop len L by' mild most m (ps, pat)).1 ∧ Wr wr q a len cap L pat by' mild ∧ Fr w1 wr (fun k => k = q)) := ⟨hp1, hp5, hp6⟩
    clear HI hp1 hp5 hp6
    cases m with
    | zero =>
      have HE : Hid (Ending.returned (.string ps) = .returned (.string (wSheetF len L by' mild most)) ∧ Below w.heap.size w wr) := by
        refine ⟨by rw [← HRE.out, HIW.out.1]; rfl, HW1.out.2.trans ?_⟩
        have hfr := HIW.out.2.2
        exact ⟨hfr.os, hfr.tape, hfr.output, hfr.size, fun k hk => hfr.block k (Nat.lt_of_lt_of_le hk HW1.out.2.size) (fun hkq => absurd HQ.out (by rw [← hkq]; omega))⟩
      go_wp2
      go_ret
      exact HE.out
    | succ m =>
      have hd : decide ((0 : Int) < (m : Int) + 1) = true := by rw [decide_eq_true_eq]; omega
      have HST : Hid (∀ c, wRuleF len L by' mild pat = c → sheetStep len L by' mild most (ps, pat) = (if ps.size + c.1.size ≤ most then ps ++ c.1 else ps, c.2)) := fun c hc => by subst hc; rfl
      have HSO := sheetStep_ok (len := len) (L := L) (by' := by') (mild := mild) (most := most) (ps, pat) hp3
      simp only at HSO
      have HNX : Hid (∀ wZ c, sheetStep len L by' mild most (ps, pat) = c → Wr wZ q a len cap L c.2 by' mild → Fr wr wZ (fun k => k = q) → ∃ p : ByteArray × Nat, R = (sheetLoop len L by' mild most m p).1 ∧ p.1 = c.1 ∧ p.1.size ≤ most ∧ p.2 + 120 * m ≤ 100000 ∧ Wr wZ q a len cap L p.2 by' mild ∧ Fr w1 wZ (fun k => k = q)) := fun wZ c hc h1 h2 => by
        subst hc
        exact ⟨sheetStep len L by' mild most (ps, pat), HIW.out.1, rfl, HSO.1, by omega, h1, HIW.out.2.2.q h2⟩
      have HRR : Hid (Calls Tryz.prog 45 #[.pointer (some ⟨q, 0, none⟩)] wr fun e w' => WStr wr q a len cap L by' mild (wRuleF len L by' mild pat) e w') := wrule_any wr q a len cap L pat by' mild HIW.out.2.1 (by omega) hby
      have zr := (wRuleF_ok (len := len) (L := L) (by' := by') (mild := mild) pat).1
      have HS4 := HST.out _ rfl
      clear HST HSO
      generalize wRuleF len L by' mild pat = c at HRR zr HS4
      obtain ⟨es, atn⟩ := c
      simp only at zr HS4
      have HS5 : Hid (sheetStep len L by' mild most (ps, pat) = (if ps.size + es.size ≤ most then ps ++ es else ps, atn)) := HS4
      clear HS4
      have z9 : (ps ++ es).size = ps.size + es.size := ByteArray.size_append
      by_cases hfit : ps.size + es.size ≤ most
      · have hfd : decide ((ps.size : Int) + (es.size : Int) ≤ (most : Int)) = true := by rw [decide_eq_true_eq]; omega
        go_wp2_with fail
        refine HRR.out.mono ?_
        rintro e wC ⟨rfl, hwC, hfC⟩
        have HI3 : Hid (∃ p : ByteArray × Nat, R = (sheetLoop len L by' mild most m p).1 ∧ p.1 = ps ++ es ∧ p.1.size ≤ most ∧ p.2 + 120 * m ≤ 100000 ∧ Wr wC q a len cap L p.2 by' mild ∧ Fr w1 wC (fun k => k = q)) := HNX.out wC (ps ++ es, atn) (by rw [HS5.out, if_pos hfit]) hwC hfC
        clear hwC hfC HNX HS5 HIW HRR
        go_wp2
        go_roundg m
        case measure => omega
        case rel => exact ⟨m, _, rfl, by go_num, by omega, Nat.le_refl _, HI3⟩
      · have hfd : decide ((ps.size : Int) + (es.size : Int) ≤ (most : Int)) = false := by rw [decide_eq_false_iff_not]; omega
        go_wp2_with fail
        refine HRR.out.mono ?_
        rintro e wC ⟨rfl, hwC, hfC⟩
        have HI3 : Hid (∃ p : ByteArray × Nat, R = (sheetLoop len L by' mild most m p).1 ∧ p.1 = ps ∧ p.1.size ≤ most ∧ p.2 + 120 * m ≤ 100000 ∧ Wr wC q a len cap L p.2 by' mild ∧ Fr w1 wC (fun k => k = q)) := HNX.out wC (ps, atn) (by rw [HS5.out, if_neg hfit]) hwC hfC
        clear hwC hfC HNX HS5 HIW HRR
        go_wp2
        go_roundg m
        case measure => omega
        case rel => exact ⟨m, _, rfl, by go_num, by omega, Nat.le_refl _, HI3⟩
end
end Go.Proofs.YtblfffbmklkhmaaGreat

namespace Go.Proofs.YtblfffbmklkhmaaGreat
open Go.ChangeShapes Go.WideShapes Go.ChangeAt Go.RowKit
theorem Tryz.bytes3 : Tryz.prog.bytesOf 3 = 8 := by kernel_rfl
theorem one_of {α : Type} (l : List α) (h : l.length = 1) : ∃ a, l = [a] := by
  match l, h with
  | [a], _ => exact ⟨a, rfl⟩
theorem open_ints {H : Type} {enc : TypeId × Value → H} {W : World} {a0 : Option Addr} {len cap fuel : Nat} {x : DataW H × List MemPlace} (h : DataW.trod enc Tryz.prog W 0 (fun _ => true) true fuel 40 [.slice a0 len cap] = some x) : ∃ L, Il W a0 len L := by
  rcases Go.Deep.open_slice Tryz.underlying40 h with ⟨hcs, _⟩ | ⟨a, len', cap', m, n, D, Pl, hcs, _, hl, hm, hmm, _, hx⟩
  · simp only [List.cons.injEq, Value.slice.injEq, and_true] at hcs
    exact ⟨fun _ => 0, fun i hi => by rw [hcs.2.1] at hi; exact absurd hi (Nat.not_lt_zero _)⟩
  · simp only [List.cons.injEq, Value.slice.injEq, and_true] at hcs
    obtain ⟨rfl, rfl, rfl⟩ := hcs
    simp only [if_true] at hmm
    rw [Tryz.cells3] at hx
    have each : ∀ i, i < len → ∃ q : Int, W.cell? (a.add (i * 1)) = some (.int .i64 q) ∧ Fit q := by
      intro i hi
      obtain ⟨cs', h1, h2⟩ := hx i (by omega)
      obtain ⟨_, hlen, hcell⟩ := World.cells?_some h1
      obtain ⟨v0, rfl⟩ := one_of cs' hlen
      obtain ⟨n0, e0, _, f0⟩ := DataW.trod_int Tryz.underlying3 h2
      simp only [List.cons.injEq, and_true] at e0
      subst e0
      have c0 := hcell 0 (by omega)
      rw [Go.Deep.add_add] at c0
      exact ⟨n0, by simpa using c0, fit_wf f0⟩
    obtain ⟨q, hq⟩ := Go.Deep.choose_lt each
    obtain ⟨b, off, spot⟩ := a
    refine ⟨q, fun i hi => ?_⟩
    have h1 := (hq i hi).1
    have g1 := (hq 0 (by omega)).1
    have hspot : spot = none := by simpa [Addr.add] using World.cell?_spot g1
    subst hspot
    have hlt : b < W.heap.size := by simpa [Addr.add] using World.block_lt_of_cell? W _ g1
    rw [Go.WideShapes.add_plain, Nat.mul_one] at h1
    exact ⟨b, off, rfl, hlt, h1, (hq i hi).2⟩
/-- The reach bounds a list's length. -/
theorem ints_short {H : Type} {enc : TypeId × Value → H} {W : World} {a0 : Option Addr} {len cap fuel : Nat} {d : DataW H} {p : List MemPlace} (h : DataW.trod enc Tryz.prog W 0 (fun _ => true) true fuel 40 [.slice a0 len cap] = some (d, p)) {ts : List TypeId} {ds : List (DataW H)} (j : Nat) (ht : ts[j]? = some 40) (hd : ds[j]? = some d)
    (hsz : (DataW.weightsEach Tryz.prog ts ds).all (· ≤ reachBytes) = true) : len ≤ 4611686018427387904 := by
  rcases Go.Deep.open_slice Tryz.underlying40 h with ⟨hcs, _⟩ | ⟨a, len', cap', m, n, D, Pl, hcs, _, hl, _, hmm, hd', _⟩
  · simp only [List.cons.injEq, Value.slice.injEq, and_true] at hcs
    omega
  · simp only [List.cons.injEq, Value.slice.injEq, and_true] at hcs
    obtain ⟨_, rfl, rfl⟩ := hcs
    injection hd' with hd' _
    subst hd'
    have h1 := sized_slice hsz (j := j) ht hd Tryz.underlying40
    rw [Tryz.bytes3, List.length_map, List.length_range, List.length_map, List.length_range] at h1
    have h2 := reachBytes_lt
    omega
theorem steps_short_at {H : Type} {enc : TypeId × Value → H} {W : World} {a0 : Option Addr} {len cap fuel : Nat} {d : DataW H} {p : List MemPlace} (h : DataW.trod enc Tryz.prog W 0 (fun _ => true) true fuel 25 [.slice a0 len cap] = some (d, p)) {ts : List TypeId} {ds : List (DataW H)} (j : Nat) (ht : ts[j]? = some 25) (hd : ds[j]? = some d)
    (hsz : (DataW.weightsEach Tryz.prog ts ds).all (· ≤ reachBytes) = true) : len ≤ 1000000000000000 := by
  rcases Go.Deep.open_slice Tryz.underlying25 h with ⟨hcs, _⟩ | ⟨a, len', cap', m, n, D, Pl, hcs, _, hl, _, hmm, hd', _⟩
  · simp only [List.cons.injEq, Value.slice.injEq, and_true] at hcs
    omega
  · simp only [List.cons.injEq, Value.slice.injEq, and_true] at hcs
    obtain ⟨_, rfl, rfl⟩ := hcs
    injection hd' with hd' _
    subst hd'
    have h1 := sized_slice hsz (j := j) ht hd Tryz.underlying25
    rw [Tryz.bytes78, List.length_map, List.length_range, List.length_map, List.length_range] at h1
    have h2 := reachBytes_lt
    omega
end Go.Proofs.YtblfffbmklkhmaaGreat

namespace Go.Proofs.YtblfffbmklkhmaaGreat
open Go.RowKit
/-- A document that keeps just these. -/
def DSl (kl : List (Int × List Int)) (w : World) (px : Value) (T : Tree) (made : Nat) (M : Nat → Mk) (rs : List PRu) (F : Nat → Prop) : Prop := DSk w px T made M rs kl F
section
variable {kl : List (Int × List Int)} {w w' : World} {g : Nat} {px vl : Value} {made b : Nat} {ns : List GN} {rs : List PRu} {Fg Fx : Nat → Prop}
theorem gd_kept (h : GD DSd w g px vl made b ns rs Fg Fx) : ∃ kl, GD (DSl kl) w g px vl made b ns rs Fg Fx := by
  obtain ⟨kl, hk⟩ := h.ds
  exact ⟨kl, h.gr, h.pw, hk, h.inb, h.inn, h.inl, h.ink, h.gx, h.here⟩
theorem GD.lbelow (h : GD (DSl kl) w g px vl made b ns rs Fg Fx) (hB : Below w.heap.size w w') : GD (DSl kl) w' g px vl made b ns rs Fg Fx :=
  ⟨h.gr.below hB, h.pw, DSk.keep h.ds (fun k _ hl => hB.block k hl) hB.size, h.inb, h.inn, h.inl, h.ink, h.gx, fun k hk => Nat.lt_of_lt_of_le (h.here k hk) hB.size⟩
/-- The document has turned; since a world. -/
theorem GD.lnext (h : GD (DSl kl) w g px vl made b ns rs Fg Fx) {kl' : List (Int × List Int)} {w1 : World} (hB : Below w.heap.size w w1) (hd : DSk w' px (treeS (ns.map GN.pl)) made (mOf b (ns.map GN.pl)) rs kl' (More Fx w1)) (hf : Fr w1 w' Fx) : ∃ Fx', GD (DSl kl') w' g px vl made b ns rs Fg Fx' ∧ ∀ k, Fx' k → Fx k ∨ w.heap.size ≤ k := by
  have h1 := h.lbelow hB
  refine ⟨fun k => More Fx w1 k ∧ k < w'.heap.size, ⟨h1.gr.keep (fun k hl hk => hf.block k hl (h1.gx k (h1.mine hk))), h1.pw, hd.here, h1.inb, h1.inn, h1.inl, h1.ink, fun k hk hx => ?_, fun k hk => ?_⟩, fun k hk => ?_⟩
  · rcases hx.1 with h2 | h2
    · exact h1.gx k hk h2
    · have := h1.here k (Or.inl hk); omega
  · rcases hk with hk | hk
    · exact Nat.lt_of_lt_of_le (h1.here k (Or.inl hk)) hf.size
    · exact hk.2
  · rcases hk.1 with h2 | h2
    · exact Or.inl h2
    · exact Or.inr (Nat.le_trans hB.size h2)
end
theorem sto_right {T : Tree} {M : Nat → Mk} {rs : List PRu} {kl : List (Int × List Int)} (h : KOK T M rs kl) {n : Int} {s : ByteArray} (hf : (findK kl n).isSome = true) : stoVal T kl n s = qryVal T M rs n s := by
  unfold stoVal qryVal
  cases hk : findK kl n with
  | none => rw [hk] at hf; cases hf
  | some l =>
    have h1 := h.right _ (findK_some hk)
    have h2 : l = styleV (viewT T M) rs n := h1
    rw [h2]
    rfl
section
set_option maxRecDepth 100000
set_option maxHeartbeats 4000000
/-- All are fresh. -/
def AllF (kl : List (Int × List Int)) (ns : List GN) : Prop := ∀ n ∈ ns, (findK kl n.num).isSome = true
theorem kkept_any (w : World) (g : Nat) (px vl : Value) (made b : Nat) (ns : List GN) (rs : List PRu) (Fg Fx : Nat → Prop) (kl : List (Int × List Int)) (h : GD (DSl kl) w g px vl made b ns rs Fg Fx) (ha : AllF kl ns) :
    Calls Tryz.prog 32 #[.pointer (some ⟨g, 0, none⟩)] w fun e w' => e = .returned (.bool true) ∧ Fr w w' (fun k => Fg k ∨ Fx k) := by
  obtain ⟨pa, rfl⟩ : ∃ pa, px = .pointer (some pa) := by
    obtain ⟨b, _, _, _, _, h1, _⟩ := h.ds
    exact ⟨_, h1⟩
  obtain ⟨hln0, hln⟩ := h.len
  obtain ⟨ag, cg, hvl⟩ := own_shape h.gr.row
  subst hvl
  have HI0 : Hid (∃ kl Fx', GD (DSl kl) w g (.pointer (some pa)) (.slice ag ns.length cg) made b ns rs Fg Fx' ∧ AllF kl ns ∧ (∀ k, Fx' k → Fx k ∨ w.heap.size ≤ k) ∧ Fr w w (fun k => Fg k ∨ Fx k)) := ⟨kl, Fx, h, ha, fun k hk => Or.inl hk, Fr.refl _ _⟩
  clear h ha
  go_enter Tryz.func32, Tryz.ntmps32
  go_wp2_with fail
  go_loopg [3, 4, 5, 6, 7, 8, 9, 10] ns.length (fun gk iv s4 s5 s6 s7 s8 s9 s10 wr => ∃ i : Nat, iv = .int .i64 i ∧ i ≤ ns.length ∧ ns.length - i ≤ gk ∧ Hid (∃ kl Fx', GD (DSl kl) wr g (.pointer (some pa)) (.slice ag ns.length cg) made b ns rs Fg Fx' ∧ AllF kl ns ∧ (∀ k, Fx' k → Fx k ∨ w.heap.size ≤ k) ∧ Fr w wr (fun k => Fg k ∨ Fx k)))
  case atStart => exact ⟨0, rfl, Nat.zero_le _, by omega, HI0⟩
  case round =>
    obtain ⟨i, rfl, hi, hgk, HI⟩ := hrel
    obtain ⟨kl1, Fx1, hgd, haf, hin, hfr⟩ := HI.out
    have HG : Hid (GD (DSl kl1) wr g (.pointer (some pa)) (.slice ag ns.length cg) made b ns rs Fg Fx1 ∧ AllF kl1 ns ∧ (∀ k, Fx1 k → Fx k ∨ w.heap.size ≤ k) ∧ Fr w wr (fun k => Fg k ∨ Fx k)) := ⟨hgd, haf, hin, hfr⟩
    have u1 := hgd.gr.c1
    have hgl := hgd.gr.lt
    clear hgd haf hin hfr
    by_cases hlt : i < ns.length
    · have hd : decide ((i : Int) < (ns.length : Int)) = true := by simp; omega
      have hii : (i : Int) < (ns.length : Int) := by omega
      obtain ⟨r, hr, hrl, q2, _, _⟩ := HG.out.1.gr.at' hlt
      subst hr
      have HMX : Hid (ns[i] ∈ ns) := List.getElem_mem hlt
      obtain ⟨n, hni⟩ : ∃ n, ns[i] = n := ⟨_, rfl⟩
      rw [hni] at q2 HMX
      clear hni
      obtain ⟨n0', _, _, _, _, hnb⟩ := node_cells (HG.out.1.gr.nd n HMX.out)
      go_wp2_with fail
      go_loopg [5, 6, 7, 8, 9, 10] 9 (fun gk iv s6 s7 s8 s9 s10 wr => ∃ p : Nat, iv = .int .i64 p ∧ p ≤ 9 ∧ 9 - p ≤ gk ∧ Hid (∃ kl Fx', GD (DSl kl) wr g (.pointer (some pa)) (.slice (some ⟨r, 0, none⟩) ns.length cg) made b ns rs Fg Fx' ∧ AllF kl ns ∧ (∀ k, Fx' k → Fx k ∨ w.heap.size ≤ k) ∧ Fr w wr (fun k => Fg k ∨ Fx k)))
      case atStart => exact ⟨0, rfl, Nat.zero_le _, by omega, HI⟩
      case round =>
        clear HG HI u1 hgl q2 n0' hnb hrl
        obtain ⟨p, rfl, hp, hgk2, HI⟩ := hrel
        by_cases hlp : p < 9
        · have hdp : decide ((p : Int) < 9) = true := by simp; omega
          obtain ⟨kl1, Fx1, hgd, haf, hin, hfr⟩ := HI.out
          have HG : Hid (GD (DSl kl1) wr g (.pointer (some pa)) (.slice (some ⟨r, 0, none⟩) ns.length cg) made b ns rs Fg Fx1 ∧ AllF kl1 ns ∧ (∀ k, Fx1 k → Fx k ∨ w.heap.size ≤ k) ∧ Fr w wr (fun k => Fg k ∨ Fx k)) := ⟨hgd, haf, hin, hfr⟩
          have hgl := hgd.gr.lt
          clear hgd haf hin hfr HI
          have HER : Hid (qryErr (treeS (ns.map GN.pl)) n.num (prB p) = 0) := qryErr_in HG.out.1.pw (List.mem_map.2 ⟨n, HMX.out, rfl⟩ : n.pl ∈ ns.map GN.pl) hlp
          have HSV : Hid (stoVal (treeS (ns.map GN.pl)) kl1 n.num (prB p) = qryVal (treeS (ns.map GN.pl)) (mOf b (ns.map GN.pl)) rs n.num (prB p)) := sto_right (DSk.kok HG.out.1.ds) (HG.out.2.1 n HMX.out)
          have HFB : Hid ((findK kl1 n.num).isSome = true) := HG.out.2.1 n HMX.out
          have HDS3 : Hid (DSk wr.drew (.pointer (some pa)) (treeS (ns.map GN.pl)) made (mOf b (ns.map GN.pl)) rs kl1 Fx1) := DSk.keep HG.out.1.ds (fun k _ _ => rfl) (Nat.le_refl _)
          have HC4 : Hid (∀ wx, Below wr.drew.heap.size wr.drew wx → wx.cell? ⟨g, 0, none⟩ = some (.pointer (some pa))) := fun wx hf => by
            have e1 : wx.heap[g]? = wr.heap[g]? := hf.block g HG.out.1.gr.lt
            exact cell_of_blk (e1.trans HG.out.1.gr.blk) rfl
          have H04 : Hid (Below wr.drew.heap.size wr.drew wr.drew) := Below.refl _ _
          have hwr : IntKind.i64.wrap ((p : Int) + 1) = (p : Int) + 1 := by rw [IntKind.wrap_i64]; omega
          have hpa : (0 : Int) ≤ (p : Int) := by omega
          have hpb : (p : Int) ≤ (p : Int) + 1 := by omega
          have hpc : (p : Int) + 1 ≤ 9 := by omega
          have hpd : (p : Int) + 1 ≤ ((⟨#[65, 66, 67, 68, 69, 70, 88, 89, 90]⟩ : ByteArray).size : Int) := hpc
          have hpe : (0 : Int) ≤ (p : Int) + 1 := by omega
          have hpi : (p : Int) < 9 := by omega
          obtain ⟨V, hV⟩ : ∃ V, qryVal (treeS (ns.map GN.pl)) (mOf b (ns.map GN.pl)) rs n.num (prB p) = V := ⟨_, rfl⟩
          have HV : Hid (qryVal (treeS (ns.map GN.pl)) (mOf b (ns.map GN.pl)) rs n.num (prB p) = V) := hV
          clear hV
          go_upto_region 8 with fail
          go_cut [6, 7, 8] (fun v fv yv wx => v = .int .i64 V ∧ fv = .bool true ∧ yv = .int .i64 0 ∧ Hid (DSk wx (.pointer (some pa)) (treeS (ns.map GN.pl)) made (mOf b (ns.map GN.pl)) rs kl1 (fun k => Fx1 k ∧ k < wr.drew.heap.size) ∧ Below wr.drew.heap.size wr.drew wx))
          case first =>
            go_region_held3 (fun w' => w'.cell? ⟨g, 0, none⟩ = some (.pointer (some pa))) (first | exact HC4.out _ H04.out | exact HC4.out _ HX.out.2)
              (first | (go_at_call 51; refine (dsto_any _ (.pointer (some pa)) (treeS (ns.map GN.pl)) made (mOf b (ns.map GN.pl)) rs kl1 Fx1 n.num (prB p) HDS3.out).mono ?_; unfold DStoPost; rw [HER.out, HSV.out, HV.out, HFB.out]; rintro e w5 ⟨rfl, hds, hf5⟩; have HX : Hid (DSk w5 (.pointer (some pa)) (treeS (ns.map GN.pl)) made (mOf b (ns.map GN.pl)) rs kl1 (fun k => Fx1 k ∧ k < wr.drew.heap.size) ∧ Below wr.drew.heap.size wr.drew w5) := ⟨hds, hf5⟩; clear hds hf5))
            all_goals
              go_wp2_with fail
              go_meet
              exact ⟨rfl, rfl, rfl, HX⟩
          case rest =>
            obtain ⟨rfl, rfl, rfl, HX⟩ := hcut
            obtain ⟨W4, rfl⟩ : ∃ W4, W4 = wc := ⟨_, rfl⟩
            have HG4 : Hid (GD (DSl kl1) W4 g (.pointer (some pa)) (.slice (some ⟨r, 0, none⟩) ns.length cg) made b ns rs Fg Fx1) := HG.out.1.lbelow ⟨HX.out.2.os, HX.out.2.tape, HX.out.2.output, HX.out.2.size, HX.out.2.block⟩
            have HB4 : Hid (Below wr.heap.size wr W4) := ⟨HX.out.2.os, HX.out.2.tape, HX.out.2.output, HX.out.2.size, HX.out.2.block⟩
            clear HX HC4 H04 HDS3 HSV hgl
            have hgl := HG4.out.gr.lt
            have HDS3 : Hid (DSk W4.drew (.pointer (some pa)) (treeS (ns.map GN.pl)) made (mOf b (ns.map GN.pl)) rs kl1 Fx1) := DSk.keep HG4.out.ds (fun k _ _ => rfl) (Nat.le_refl _)
            have HC4 : Hid (∀ wx, Fr W4.drew wx Fx1 → wx.cell? ⟨g, 0, none⟩ = some (.pointer (some pa))) := fun wx hf => by
              have e1 : wx.heap[g]? = W4.heap[g]? := hf.block g HG4.out.gr.lt (HG4.out.gx g HG4.out.inb)
              exact cell_of_blk (e1.trans HG4.out.gr.blk) rfl
            have H04 : Hid (Fr W4.drew W4.drew Fx1) := Fr.refl _ _
            go_upto_region 9 with fail
            go_cut [9, 10] (fun v yv wx => v = .int .i64 V ∧ yv = .int .i64 0 ∧ Hid (DSk wx (.pointer (some pa)) (treeS (ns.map GN.pl)) made (mOf b (ns.map GN.pl)) rs (styleK (treeS (ns.map GN.pl)) (mOf b (ns.map GN.pl)) rs kl1 n.num) (More Fx1 W4.drew) ∧ Fr W4.drew wx Fx1))
            case first =>
              go_region_held3 (fun w' => w'.cell? ⟨g, 0, none⟩ = some (.pointer (some pa))) (first | exact HC4.out _ H04.out | exact HC4.out _ HX.out.2)
                (first | (go_at_call 37; refine (dqry_any _ (.pointer (some pa)) (treeS (ns.map GN.pl)) made (mOf b (ns.map GN.pl)) rs kl1 Fx1 n.num (prB p) HDS3.out).mono ?_; unfold DQryPost; rw [HER.out, HV.out, if_pos rfl]; rintro e w5 ⟨rfl, hds, hf5⟩; have HX : Hid (DSk w5 (.pointer (some pa)) (treeS (ns.map GN.pl)) made (mOf b (ns.map GN.pl)) rs (styleK (treeS (ns.map GN.pl)) (mOf b (ns.map GN.pl)) rs kl1 n.num) (More Fx1 W4.drew) ∧ Fr W4.drew w5 Fx1) := ⟨hds, hf5⟩; clear hds hf5))
              all_goals
                go_wp2_with fail
                go_meet
                exact ⟨rfl, rfl, HX⟩
            case rest =>
              obtain ⟨rfl, rfl, HX⟩ := hcut
              obtain ⟨W5, rfl⟩ : ∃ W5, W5 = wc := ⟨_, rfl⟩
              have HI5 : Hid (∃ kl Fx', GD (DSl kl) W5 g (.pointer (some pa)) (.slice (some ⟨r, 0, none⟩) ns.length cg) made b ns rs Fg Fx' ∧ AllF kl ns ∧ (∀ k, Fx' k → Fx k ∨ w.heap.size ≤ k) ∧ Fr w W5 (fun k => Fg k ∨ Fx k)) := by
                obtain ⟨Fx2, h1, h2⟩ := HG4.out.lnext (w1 := W4.drew) (Below.refl _ _).drew HX.out.1 HX.out.2
                have hfr4 : Fr w W4 (fun k => Fg k ∨ Fx k) := HG.out.2.2.2.below HB4.out
                refine ⟨_, Fx2, h1, fun m hm => style_mono (HG.out.2.1 m hm), fun k hk => ?_, ?_⟩
                · rcases h2 k hk with h3 | h3
                  · exact HG.out.2.2.1 k h3
                  · exact Or.inr (Nat.le_trans hfr4.size h3)
                · exact hfr4.drew1.comp HX.out.2 (fun k hk => (HG.out.2.2.1 k hk).imp Or.inr id)
              clear HX HG HG4 HB4 HC4 H04 HDS3 hgl
              go_wp2
              go_roundg (9 - (p + 1))
              case measure => omega
              case rel => exact ⟨p + 1, by go_num, by omega, Nat.le_refl _, HI5⟩
        · have hdp : decide ((p : Int) < 9) = false := by simp; omega
          go_wp2
          go_roundg (ns.length - (i + 1))
          case measure => omega
          case rel => exact ⟨i + 1, by go_num, by omega, Nat.le_refl _, HI⟩
    · have hd : decide ((i : Int) < (ns.length : Int)) = false := by simp; omega
      go_wp2
      go_ret
      exact ⟨rfl, HG.out.2.2.2⟩
end
end Go.Proofs.YtblfffbmklkhmaaGreat

namespace Go.Proofs.YtblfffbmklkhmaaGreat
open Go.RowKit
section
variable {DS : World → Value → Tree → Nat → (Nat → Mk) → List PRu → (Nat → Prop) → Prop} {w0 w w' : World} {g : Nat} {px vl : Value} {made b : Nat} {ns : List GN} {rs : List PRu} {Fg Fx : Nat → Prop} {g2 : Nat} {px2 vl2 : Value} {made2 b2 : Nat} {ns2 : List GN} {rs2 : List PRu} {Fg2 Fx2 : Nat → Prop}
theorem kgrow4_sc (hP : DocOK4 DS) {w0 : World} (w : World) (g : Nat) (px vl : Value) (made b : Nat) (ns : List GN) (rs : List PRu) (Fg Fx : Nat → Prop) (h : GD DS w g px vl made b ns rs Fg Fx) (last : Int) (hl11 : last ≤ 11) (hb : b ≤ 25) (a0 : Option Addr) (len cap : Nat) (K X Y Z : Nat → Int) (hs : Sc w0 a0 len K X Y Z) (hB : Below w0.heap.size w0 w) (hna : ∀ k, Fg k ∨ Fx k → w0.heap.size ≤ k) (hm : made + len ≤ 4611686018427387904) :
    Calls Tryz.prog 20 #[.pointer (some ⟨g, 0, none⟩), .slice a0 len cap, .int .i64 last] w fun e w' => KStepPost DS w (fun k => Fg k ∨ Fx k) g px b (growS b last K X Y Z (ns.map GN.pl) made len).1 (growS b last K X Y Z (ns.map GN.pl) made len).2 rs e w' := by
  rcases hs with rfl | ⟨b0, off, rfl, hs⟩
  · exact kgrow_none w g px vl made b ns rs Fg Fx h last a0 cap
  · refine kgrow4_any hP w g px vl made b ns rs Fg Fx h last hl11 hb b0 off len cap K X Y Z (hs.keep (hB.block b0 hs.lt)) (fun hk => ?_) hm
    have h1 := hna b0 hk
    have h2 := hs.lt
    omega
end
end Go.Proofs.YtblfffbmklkhmaaGreat
