/- Own work. -/
import Derived.Test.YtblfffbmklkhmaaGreatAw48
import Derived.Test.YtblfffbmklkhmaaGreatAw39
import Derived.Test.YtblfffbmklkhmaaGreatAw29
namespace Go.Proofs.YtblfffbmklkhmaaGreat
open Go.RowKit
/-- A list of raw numbers in memory, or none. -/
def Il (w : World) (a : Option Addr) (len : Nat) (L : Nat → Int) : Prop :=
  ∀ i, i < len → ∃ g off, a = some ⟨g, off, none⟩ ∧ g < w.heap.size ∧ w.cell? ⟨g, off + i, none⟩ = some (.int .i64 (L i)) ∧ Fit (L i)
theorem Il.below {w w' : World} {a : Option Addr} {len : Nat} {L : Nat → Int} (h : Il w a len L) (hB : Below w.heap.size w w') : Il w' a len L := fun i hi => by
  obtain ⟨g, off, h1, h2, h3, h4⟩ := h i hi
  exact ⟨g, off, h1, Nat.lt_of_lt_of_le h2 hB.size, (hB.cell (p := ⟨g, off + i, none⟩) h2).trans h3, h4⟩
def sheetStep (len : Nat) (L : Nat → Int) (by' : Nat) (mild : Bool) (most : Nat) (p : ByteArray × Nat) : ByteArray × Nat :=
  (if p.1.size + (wRuleF len L by' mild p.2).1.size ≤ most then p.1 ++ (wRuleF len L by' mild p.2).1 else p.1, (wRuleF len L by' mild p.2).2)
def sheetLoop (len : Nat) (L : Nat → Int) (by' : Nat) (mild : Bool) (most : Nat) : Nat → ByteArray × Nat → ByteArray × Nat
  | 0, p => p
  | k + 1, p => sheetLoop len L by' mild most k (sheetStep len L by' mild most p)
def wSheetF (len : Nat) (L : Nat → Int) (by' : Nat) (mild : Bool) (most : Nat) : ByteArray := (sheetLoop len L by' mild most (nx len L 9 0).1 (⟨#[]⟩, (nx len L 9 0).2)).1
section
variable {len : Nat} {L : Nat → Int} {by' : Nat} {mild : Bool} {most : Nat}
theorem sheetStep_ok (p : ByteArray × Nat) (hp : p.1.size ≤ most) : (sheetStep len L by' mild most p).1.size ≤ most ∧ (sheetStep len L by' mild most p).2 ≤ p.2 + 120 := by
  have h := wRuleF_ok (len := len) (L := L) (by' := by') (mild := mild) p.2
  refine ⟨?_, h.2⟩
  show (if _ then _ else _ : ByteArray).size ≤ _
  split
  · rw [ByteArray.size_append]; assumption
  · exact hp
theorem sheetLoop_size : ∀ (k : Nat) (p : ByteArray × Nat), p.1.size ≤ most → (sheetLoop len L by' mild most k p).1.size ≤ most
  | 0, _, hp => hp
  | k + 1, p, hp => sheetLoop_size k _ (sheetStep_ok p hp).1
theorem wSheetF_size : (wSheetF len L by' mild most).size ≤ most := sheetLoop_size _ _ (Nat.zero_le _)
end
section
set_option maxRecDepth 100000
set_option maxHeartbeats 4000000
variable (w : World) (a : Option Addr) (len cap : Nat) (L : Nat → Int) (by' : Nat) (mild : Bool) (most : Nat)
theorem ksheet_any (h : Il w a len L) (hlen : len ≤ 4611686018427387904) (hby : by' ≤ 25) (hmost : most ≤ 400) : Calls Tryz.prog 27 #[.slice a len cap, .int .i64 by', .bool mild, .int .i64 most] w fun e w' => e = .returned (.string (wSheetF len L by' mild most)) ∧ Below w.heap.size w w' := by
  have HI0 : Hid (Il w a len L) := h
  have HW0 : Hid (∀ w1, w1.heap = w.heap.push (.cells #[.slice a len cap, .int .i64 0, .int .i64 by', .bool mild] 100 (0, 0)) → Wr w1 w.heap.size a len cap L 0 by' mild) := fun w1 hw1 => by
    refine ⟨?_, fun i hi => ?_, fun i hi => ?_, hlen⟩
    · rw [hw1, Array.getElem?_push_size]; rfl
    · obtain ⟨g, off, h1, h2, h3, h4⟩ := h i hi
      refine ⟨g, off, h1, by omega, by rw [hw1, Array.size_push]; omega, ?_⟩
      have hb : w1.heap[g]? = w.heap[g]? := by rw [hw1, Array.getElem?_push, if_neg (by omega)]
      unfold World.cell? at h3 ⊢
      rw [hb]
      exact h3
    · obtain ⟨g, off, h1, h2, h3, h4⟩ := h i hi
      exact h4
  clear h
  have HS0 : Hid (∀ r, nx len L 9 0 = r → wSheetF len L by' mild most = (sheetLoop len L by' mild most r.1 (⟨#[]⟩, r.2)).1) := fun r hr => by subst hr; rfl
  go_enter Tryz.func27, Tryz.ntmps27
  go_wp2_with fail
  have HWA := HW0.out (w.alloc (.cells #[.slice a len cap, .int .i64 0, .int .i64 by', .bool mild] 100)) rfl
  have HBA : Below w.heap.size w (w.alloc (.cells #[.slice a len cap, .int .i64 0, .int .i64 by', .bool mild] 100)) := (Below.refl _ w).alloc (Nat.le_refl _) _
  generalize w.alloc (.cells #[.slice a len cap, .int .i64 0, .int .i64 by', .bool mild] 100) = w1 at HWA HBA ⊢
  obtain ⟨q, hq⟩ : ∃ q, q = w.heap.size := ⟨_, rfl⟩
  have HQ : Hid (w.heap.size ≤ q) := Nat.le_of_eq hq.symm
  have HW1 : Hid (Wr w1 q a len cap L 0 by' mild ∧ Below w.heap.size w w1) := ⟨by rw [hq]; exact HWA, HBA⟩
  rw [← hq]
  clear HWA HBA HW0 HI0 hq
  have HN9 : Hid (Calls Tryz.prog 44 #[.pointer (some ⟨q, 0, none⟩), .int .i64 9] w1 fun e w' => WNext w1 q a len cap L by' mild (nx len L 9 0) e w') := wnext_any w1 q a len cap L 0 by' mild 9 HW1.out.1 (by decide) (by decide) (by omega)
  have l9 := nx_lt (len := len) (L := L) (n := 9) (at' := 0) (by decide)
  have m9 := nx_at (len := len) (L := L) (n := 9) (at' := 0)
  have HS1 := HS0.out _ rfl
  generalize nx len L 9 0 = r9 at HN9 l9 m9 HS1
  obtain ⟨kk, at1⟩ := r9
  simp only at l9 m9 HS1
  obtain ⟨R, hR⟩ : ∃ R, R = wSheetF len L by' mild most := ⟨_, rfl⟩
  rw [← hR] at HS1
  have HRE : Hid (R = wSheetF len L by' mild most) := hR
  clear hR
  refine HN9.out.mono ?_
  rintro e w2 ⟨rfl, hw2, hf2⟩
  have HL0 : Hid (∃ p : ByteArray × Nat, R = (sheetLoop len L by' mild most kk p).1 ∧ p.1 = ⟨#[]⟩ ∧ p.1.size ≤ most ∧ p.2 + 120 * kk ≤ 100000 ∧ Wr w2 q a len cap L p.2 by' mild ∧ Fr w1 w2 (fun k => k = q)) := ⟨(⟨#[]⟩, at1), HS1, rfl, Nat.zero_le _, by show at1 + 120 * kk ≤ _; omega, hw2, hf2⟩
  clear hw2 hf2 HS0 HS1 HN9
  go_wp2_with fail
  go_loopg [10, 11, 12] kk (fun gk sv kv rv wr => ∃ (m : Nat) (s : ByteArray), sv = .string s ∧ kv = .int .i64 m ∧ m ≤ 8 ∧ m ≤ gk ∧ Hid (∃ p : ByteArray × Nat, R = (sheetLoop len L by' mild most m p).1 ∧ p.1 = s ∧ p.1.size ≤ most ∧ p.2 + 120 * m ≤ 100000 ∧ Wr wr q a len cap L p.2 by' mild ∧ Fr w1 wr (fun k => k = q)))
  case atStart => exact ⟨kk, ⟨#[]⟩, rfl, rfl, by omega, Nat.le_refl _, HL0⟩
  case round =>
    obtain ⟨m, sx, rfl, rfl, hm2, hgk, HI⟩ := hrel
    obtain ⟨p, hp1, hp2, hp3, hp4, hp5, hp6⟩ := HI.out
    obtain ⟨ps, pat⟩ := p
    simp only at hp2 hp3 hp4 hp5
    subst hp2
    have HIW : Hid (R = (sheetLoop len L by' mild most m (ps, pat)).1 ∧ Wr wr q a len cap L pat by' mild ∧ Fr w1 wr (fun k => k = q)) := ⟨hp1, hp5, hp6⟩
    clear HI hp1 hp5 hp6
    cases m with
    | zero =>
      have HE : Hid (Ending.returned (.string ps) = .returned (.string (wSheetF len L by' mild most)) ∧ Below w.heap.size w wr) := by
        refine ⟨by rw [← HRE.out, HIW.out.1]; rfl, HW1.out.2.trans ?_⟩
        have hfr := HIW.out.2.2
        exact ⟨hfr.os, hfr.tape, hfr.output, hfr.size, fun k hk => hfr.block k (Nat.lt_of_lt_of_le hk HW1.out.2.size) (fun hkq => absurd HQ.out (by rw [← hkq]; omega))⟩
      go_wp2
      go_ret
      exact HE.out
    | succ m =>
      have hd : decide ((0 : Int) < (m : Int) + 1) = true := by rw [decide_eq_true_eq]; omega
      have HST : Hid (∀ c, wRuleF len L by' mild pat = c → sheetStep len L by' mild most (ps, pat) = (if ps.size + c.1.size ≤ most then ps ++ c.1 else ps, c.2)) := fun c hc => by subst hc; rfl
      have HSO := sheetStep_ok (len := len) (L := L) (by' := by') (mild := mild) (most := most) (ps, pat) hp3
      simp only at HSO
      have HNX : Hid (∀ wZ c, sheetStep len L by' mild most (ps, pat) = c → Wr wZ q a len cap L c.2 by' mild → Fr wr wZ (fun k => k = q) → ∃ p : ByteArray × Nat, R = (sheetLoop len L by' mild most m p).1 ∧ p.1 = c.1 ∧ p.1.size ≤ most ∧ p.2 + 120 * m ≤ 100000 ∧ Wr wZ q a len cap L p.2 by' mild ∧ Fr w1 wZ (fun k => k = q)) := fun wZ c hc h1 h2 => by
        subst hc
        exact ⟨sheetStep len L by' mild most (ps, pat), HIW.out.1, rfl, HSO.1, by omega, h1, HIW.out.2.2.q h2⟩
      have HRR : Hid (Calls Tryz.prog 45 #[.pointer (some ⟨q, 0, none⟩)] wr fun e w' => WStr wr q a len cap L by' mild (wRuleF len L by' mild pat) e w') := wrule_any wr q a len cap L pat by' mild HIW.out.2.1 (by omega) hby
      have zr := (wRuleF_ok (len := len) (L := L) (by' := by') (mild := mild) pat).1
      have HS4 := HST.out _ rfl
      clear HST HSO
      generalize wRuleF len L by' mild pat = c at HRR zr HS4
      obtain ⟨es, atn⟩ := c
      simp only at zr HS4
      have HS5 : Hid (sheetStep len L by' mild most (ps, pat) = (if ps.size + es.size ≤ most then ps ++ es else ps, atn)) := HS4
      clear HS4
      have z9 : (ps ++ es).size = ps.size + es.size := ByteArray.size_append
      by_cases hfit : ps.size + es.size ≤ most
      · have hfd : decide ((ps.size : Int) + (es.size : Int) ≤ (most : Int)) = true := by rw [decide_eq_true_eq]; omega
        go_wp2_with fail
        refine HRR.out.mono ?_
        rintro e wC ⟨rfl, hwC, hfC⟩
        have HI3 : Hid (∃ p : ByteArray × Nat, R = (sheetLoop len L by' mild most m p).1 ∧ p.1 = ps ++ es ∧ p.1.size ≤ most ∧ p.2 + 120 * m ≤ 100000 ∧ Wr wC q a len cap L p.2 by' mild ∧ Fr w1 wC (fun k => k = q)) := HNX.out wC (ps ++ es, atn) (by rw [HS5.out, if_pos hfit]) hwC hfC
        clear hwC hfC HNX HS5 HIW HRR
        go_wp2
        go_roundg m
        case measure => omega
        case rel => exact ⟨m, _, rfl, by go_num, by omega, Nat.le_refl _, HI3⟩
      · have hfd : decide ((ps.size : Int) + (es.size : Int) ≤ (most : Int)) = false := by rw [decide_eq_false_iff_not]; omega
        go_wp2_with fail
        refine HRR.out.mono ?_
        rintro e wC ⟨rfl, hwC, hfC⟩
        have HI3 : Hid (∃ p : ByteArray × Nat, R = (sheetLoop len L by' mild most m p).1 ∧ p.1 = ps ∧ p.1.size ≤ most ∧ p.2 + 120 * m ≤ 100000 ∧ Wr wC q a len cap L p.2 by' mild ∧ Fr w1 wC (fun k => k = q)) := HNX.out wC (ps, atn) (by rw [HS5.out, if_neg hfit]) hwC hfC
        clear hwC hfC HNX HS5 HIW HRR
        go_wp2
        go_roundg m
        case measure => omega
        case rel => exact ⟨m, _, rfl, by go_num, by omega, Nat.le_refl _, HI3⟩
end
end Go.Proofs.YtblfffbmklkhmaaGreat

namespace Go.Proofs.YtblfffbmklkhmaaGreat
open Go.ChangeShapes Go.WideShapes Go.ChangeAt Go.RowKit
theorem Tryz.bytes3 : Tryz.prog.bytesOf 3 = 8 := by kernel_rfl
theorem one_of {α : Type} (l : List α) (h : l.length = 1) : ∃ a, l = [a] := by
  match l, h with
  | [a], _ => exact ⟨a, rfl⟩
theorem open_ints {H : Type} {enc : TypeId × Value → H} {W : World} {a0 : Option Addr} {len cap fuel : Nat} {x : DataW H × List MemPlace} (h : DataW.trod enc Tryz.prog W 0 (fun _ => true) true fuel 40 [.slice a0 len cap] = some x) : ∃ L, Il W a0 len L := by
  rcases Go.Deep.open_slice Tryz.underlying40 h with ⟨hcs, _⟩ | ⟨a, len', cap', m, n, D, Pl, hcs, _, hl, hm, hmm, _, hx⟩
  · simp only [List.cons.injEq, Value.slice.injEq, and_true] at hcs
    exact ⟨fun _ => 0, fun i hi => by rw [hcs.2.1] at hi; exact absurd hi (Nat.not_lt_zero _)⟩
  · simp only [List.cons.injEq, Value.slice.injEq, and_true] at hcs
    obtain ⟨rfl, rfl, rfl⟩ := hcs
    simp only [if_true] at hmm
    rw [Tryz.cells3] at hx
    have each : ∀ i, i < len → ∃ q : Int, W.cell? (a.add (i * 1)) = some (.int .i64 q) ∧ Fit q := by
      intro i hi
      obtain ⟨cs', h1, h2⟩ := hx i (by omega)
      obtain ⟨_, hlen, hcell⟩ := World.cells?_some h1
      obtain ⟨v0, rfl⟩ := one_of cs' hlen
      obtain ⟨n0, e0, _, f0⟩ := DataW.trod_int Tryz.underlying3 h2
      simp only [List.cons.injEq, and_true] at e0
      subst e0
      have c0 := hcell 0 (by omega)
      rw [Go.Deep.add_add] at c0
      exact ⟨n0, by simpa using c0, fit_wf f0⟩
    obtain ⟨q, hq⟩ := Go.Deep.choose_lt each
    obtain ⟨b, off, spot⟩ := a
    refine ⟨q, fun i hi => ?_⟩
    have h1 := (hq i hi).1
    have g1 := (hq 0 (by omega)).1
    have hspot : spot = none := by simpa [Addr.add] using World.cell?_spot g1
    subst hspot
    have hlt : b < W.heap.size := by simpa [Addr.add] using World.block_lt_of_cell? W _ g1
    rw [Go.WideShapes.add_plain, Nat.mul_one] at h1
    exact ⟨b, off, rfl, hlt, h1, (hq i hi).2⟩
/-- The reach bounds a list's length. -/
theorem ints_short {H : Type} {enc : TypeId × Value → H} {W : World} {a0 : Option Addr} {len cap fuel : Nat} {d : DataW H} {p : List MemPlace} (h : DataW.trod enc Tryz.prog W 0 (fun _ => true) true fuel 40 [.slice a0 len cap] = some (d, p)) {ts : List TypeId} {ds : List (DataW H)} (j : Nat) (ht : ts[j]? = some 40) (hd : ds[j]? = some d)
    (hsz : (DataW.weightsEach Tryz.prog ts ds).all (· ≤ reachBytes) = true) : len ≤ 4611686018427387904 := by
  rcases Go.Deep.open_slice Tryz.underlying40 h with ⟨hcs, _⟩ | ⟨a, len', cap', m, n, D, Pl, hcs, _, hl, _, hmm, hd', _⟩
  · simp only [List.cons.injEq, Value.slice.injEq, and_true] at hcs
    omega
  · simp only [List.cons.injEq, Value.slice.injEq, and_true] at hcs
    obtain ⟨_, rfl, rfl⟩ := hcs
    injection hd' with hd' _
    subst hd'
    have h1 := sized_slice hsz (j := j) ht hd Tryz.underlying40
    rw [Tryz.bytes3, List.length_map, List.length_range, List.length_map, List.length_range] at h1
    have h2 := reachBytes_lt
    omega
theorem steps_short_at {H : Type} {enc : TypeId × Value → H} {W : World} {a0 : Option Addr} {len cap fuel : Nat} {d : DataW H} {p : List MemPlace} (h : DataW.trod enc Tryz.prog W 0 (fun _ => true) true fuel 25 [.slice a0 len cap] = some (d, p)) {ts : List TypeId} {ds : List (DataW H)} (j : Nat) (ht : ts[j]? = some 25) (hd : ds[j]? = some d)
    (hsz : (DataW.weightsEach Tryz.prog ts ds).all (· ≤ reachBytes) = true) : len ≤ 1000000000000000 := by
  rcases Go.Deep.open_slice Tryz.underlying25 h with ⟨hcs, _⟩ | ⟨a, len', cap', m, n, D, Pl, hcs, _, hl, _, hmm, hd', _⟩
  · simp only [List.cons.injEq, Value.slice.injEq, and_true] at hcs
    omega
  · simp only [List.cons.injEq, Value.slice.injEq, and_true] at hcs
    obtain ⟨_, rfl, rfl⟩ := hcs
    injection hd' with hd' _
    subst hd'
    have h1 := sized_slice hsz (j := j) ht hd Tryz.underlying25
    rw [Tryz.bytes78, List.length_map, List.length_range, List.length_map, List.length_range] at h1
    have h2 := reachBytes_lt
    omega
end Go.Proofs.YtblfffbmklkhmaaGreat

namespace Go.Proofs.YtblfffbmklkhmaaGreat
open Go.RowKit
structure HomV (v' v : Vw) (φ : Int → Int) (S : Int → Prop) : Prop where
  ty : ∀ e, S e → ∀ l, v'.ty e l = v.ty (φ e) l
  sm : ∀ e, S e → ∀ p, simpV v' p e = simpV v p (φ e)
  ab : ∀ e, S e → v.ab (φ e) = (v'.ab e).map φ
  ah : ∀ e, S e → v.ah (φ e) = (v'.ah e).map φ
  sab : ∀ e, S e → ∀ x ∈ v'.ab e, S x
  sah : ∀ e, S e → ∀ x ∈ v'.ah e, S x
section
variable {v' v : Vw} {φ : Int → Int} {S : Int → Prop}
theorem comp_hom (h : HomV v' v φ S) {e : Int} (he : S e) (c : PCp) : compV v' c e = compV v c (φ e) := by
  unfold compV
  rw [h.ty e he, all_congr' (fun p _ => by rw [h.sm e he p])]
theorem signed_hom (h : HomV v' v φ S) {e : Int} (he : S e) (sg : Int) : signedV v sg (φ e) = (signedV v' sg e).map φ ∧ ∀ x ∈ signedV v' sg e, S x := by
  refine ⟨?_, fun x hx => ?_⟩
  · unfold signedV
    rw [h.ab e he, h.ah e he]
    (repeat' split) <;> simp only [List.map_take, List.map_nil]
  · unfold signedV at hx
    split at hx
    · exact h.sab e he x hx
    · split at hx
      · exact h.sab e he x (List.mem_of_mem_take hx)
      · split at hx
        · exact h.sah e he x hx
        · split at hx
          · exact h.sah e he x (List.mem_of_mem_take hx)
          · cases hx
theorem chain_hom (h : HomV v' v φ S) : ∀ (cs : List PCp) (e : Int), S e → chainV v' cs e = chainV v cs (φ e)
  | [], _, _ => rfl
  | [c], _, he => comp_hom h he c
  | c :: d :: r, e, he => by
    show (compV v' c e && (signedV v' c.sg e).any (chainV v' (d :: r))) = (compV v c (φ e) && (signedV v c.sg (φ e)).any (chainV v (d :: r)))
    rw [comp_hom h he c, (signed_hom h he c.sg).1, List.any_map, any_congr' (fun x hx => chain_hom h (d :: r) x ((signed_hom h he c.sg).2 x hx))]
    rfl
theorem match_hom (h : HomV v' v φ S) (cs : List PCp) {e : Int} (he : S e) : matchV v' cs e = matchV v cs (φ e) := chain_hom h _ e he
theorem weigh_hom (h : HomV v' v φ S) (ss : List (List PCp)) {e : Int} (he : S e) : weighV v' e ss = weighV v (φ e) ss := by
  unfold weighV
  refine foldl_congr' fun cs _ a => ?_
  unfold weighStepV
  rw [match_hom h cs he]
theorem winners_hom (h : HomV v' v φ S) (rs : List PRu) {e : Int} (he : S e) : winnersV v' rs e = winnersV v rs (φ e) := by
  unfold winnersV
  refine foldl_congr' fun r _ W => ?_
  unfold ruleStepV
  rw [weigh_hom h _ he]
theorem of_hom (h : HomV v' v φ S) (rs : List PRu) {e : Int} (he : S e) (comes : List Int) : ofV v' rs e comes = ofV v rs (φ e) comes := by
  unfold ofV
  rw [winners_hom h rs he]
theorem style_hom (h : HomV v' v φ S) (rs : List PRu) {e : Int} (he : S e) : styleV v' rs e = styleV v rs (φ e) := by
  unfold styleV
  rw [h.ab e he, List.foldr_map, of_hom h rs he, foldr_congr' (fun x hx b => of_hom h rs (h.sab e he x hx) b)]
end
structure HomT (T' T : Tree) (M' M : Nat → Mk) (ψ : Nat → Nat) : Prop where
  root : ψ 0 = 0
  kid : ∀ e ∈ T', (ψ e.1, e.2.map ψ) ∈ T
  kd : ∀ e ∈ T', (M' e.1).kd = (M (ψ e.1)).kd
  cl : ∀ e ∈ T', ∀ i, i < 26 → (M' e.1).cl i = (M (ψ e.1)).cl i
  nm : ∀ e ∈ T', (M' e.1).nm = (M (ψ e.1)).nm
theorem while_map {ψ : Nat → Nat} {k : Nat} : ∀ {l : List Nat}, (l.map ψ).Nodup → k ∈ l →
    (l.map ψ).takeWhile (fun (x : Nat) => decide (¬ (x : Int) = (ψ k : Int))) = (l.takeWhile fun (x : Nat) => decide (¬ (x : Int) = (k : Int))).map ψ ∧
    (l.map ψ).dropWhile (fun (x : Nat) => decide (¬ (x : Int) = (ψ k : Int))) = (l.dropWhile fun (x : Nat) => decide (¬ (x : Int) = (k : Int))).map ψ
  | [], _, hk => by cases hk
  | x :: l, hn, hk => by
    rw [List.map_cons, List.nodup_cons] at hn
    rw [List.map_cons, List.takeWhile_cons, List.dropWhile_cons, List.takeWhile_cons, List.dropWhile_cons]
    by_cases hx : x = k
    · subst hx
      simp
    · have h1 : k ∈ l := (List.mem_cons.1 hk).resolve_left (fun e => hx e.symm)
      have h2 : ¬ ψ x = ψ k := fun e => hn.1 (by rw [e]; exact List.mem_map.2 ⟨k, h1, rfl⟩)
      have h3 : decide (¬ (x : Int) = (k : Int)) = true := by rw [decide_eq_true_eq]; omega
      have h4 : decide (¬ (ψ x : Int) = (ψ k : Int)) = true := by rw [decide_eq_true_eq]; omega
      obtain ⟨ih1, ih2⟩ := while_map hn.2 h1
      rw [h3, h4, if_pos rfl, if_pos rfl, if_pos rfl, if_pos rfl, ih1, ih2]
      exact ⟨rfl, rfl⟩
section
variable {T' T : Tree} {made' made : Nat} {M' M : Nat → Mk} {ψ : Nat → Nat}
theorem find_no_neg (T : Tree) : tFind T (-1) = none := by
  unfold tFind
  rw [List.find?_eq_none.2 (fun x _ => by simp)]
  rfl
theorem HomT.find (h : HomT T' T M' M ψ) (hw' : TW T' made') (hw : TW T made) {k : Nat} {l : List Nat} (hk : (k, l) ∈ T') : tFind T' k = some l ∧ tFind T (ψ k) = some (l.map ψ) :=
  ⟨tFind_mem hw'.nums hk, tFind_mem hw.nums (h.kid _ hk)⟩
/-- The parents, and the children of these. -/
theorem HomT.par (h : HomT T' T M' M ψ) (hw' : TW T' made') (hw : TW T made) {k : Nat} {l : List Nat} (hk : (k, l) ∈ T') :
    (tPar T' k = -1 ∧ tPar T (ψ k) = -1) ∨ ∃ q ∈ T', k ∈ q.2 ∧ tPar T' k = q.1 ∧ tPar T (ψ k) = (ψ q.1 : Int) := by
  by_cases h0 : k = 0
  · subst h0
    left
    refine ⟨hw'.root_par, ?_⟩
    rw [h.root]
    exact hw.root_par
  · obtain ⟨q, hq, hm, hp⟩ := hw'.up hk h0
    exact Or.inr ⟨q, hq, hm, hp, hw.parent (h.kid q hq) (List.mem_map.2 ⟨k, hm, rfl⟩)⟩
def liftN (ψ : Nat → Nat) (e : Int) : Int := (ψ e.toNat : Int)
def InT (T : Tree) (e : Int) : Prop := ∃ k l, e = ((k : Nat) : Int) ∧ (k, l) ∈ T
theorem HomT.above (h : HomT T' T M' M ψ) (hw' : TW T' made') (hw : TW T made) : ∀ (j : Nat) {k : Nat} {l : List Nat}, (k, l) ∈ T' → aboveT T j (ψ k) = (aboveT T' j k).map (liftN ψ) ∧ ∀ x ∈ aboveT T' j k, InT T' x
  | 0, _, _, _ => ⟨rfl, fun _ hx => by cases hx⟩
  | j + 1, k, l, hk => by
    show (if tPar T (ψ k) = -1 then [] else tPar T (ψ k) :: aboveT T j (tPar T (ψ k))) = (if tPar T' k = -1 then [] else tPar T' k :: aboveT T' j (tPar T' k)).map (liftN ψ) ∧ ∀ x ∈ (if tPar T' k = -1 then [] else tPar T' k :: aboveT T' j (tPar T' k)), InT T' x
    rcases h.par hw' hw hk with ⟨h1, h2⟩ | ⟨q, hq, hm, h1, h2⟩
    · rw [h1, h2, if_pos rfl, if_pos rfl]
      exact ⟨rfl, fun _ hx => by cases hx⟩
    · obtain ⟨ih1, ih2⟩ := HomT.above h hw' hw j (k := q.1) (l := q.2) hq
      rw [h1, h2, if_neg (by omega), if_neg (by omega), ih1]
      refine ⟨rfl, fun x hx => ?_⟩
      rcases List.mem_cons.1 hx with rfl | hx
      · exact ⟨q.1, q.2, rfl, hq⟩
      · exact ih2 x hx
theorem HomT.kids (h : HomT T' T M' M ψ) (hw' : TW T' made') (hw : TW T made) {k : Nat} {l : List Nat} (hk : (k, l) ∈ T') :
    (kidsOf T (tPar T (ψ k))).takeWhile (fun (x : Nat) => decide (¬ (x : Int) = (ψ k : Int))) = ((kidsOf T' (tPar T' k)).takeWhile fun (x : Nat) => decide (¬ (x : Int) = (k : Int))).map ψ ∧
    (kidsOf T (tPar T (ψ k))).dropWhile (fun (x : Nat) => decide (¬ (x : Int) = (ψ k : Int))) = ((kidsOf T' (tPar T' k)).dropWhile fun (x : Nat) => decide (¬ (x : Int) = (k : Int))).map ψ ∧
    ∀ x ∈ kidsOf T' (tPar T' k), ∃ lx, (x, lx) ∈ T' := by
  rcases h.par hw' hw hk with ⟨h1, h2⟩ | ⟨q, hq, hm, h1, h2⟩
  · rw [h1, h2]
    unfold kidsOf
    rw [find_no_neg, find_no_neg]
    exact ⟨rfl, rfl, fun _ hx => by cases hx⟩
  · obtain ⟨f1, f2⟩ := h.find hw' hw (k := q.1) (l := q.2) hq
    rw [h1, h2]
    unfold kidsOf
    rw [f1, f2]
    obtain ⟨w1, w2⟩ := while_map (hw.kdup _ (h.kid q hq)) hm
    exact ⟨w1, w2, fun x hx => hw'.kin q hq x hx⟩
theorem hom_view (h : HomT T' T M' M ψ) (hw' : TW T' made') (hw : TW T made) : HomV (viewT T' M') (viewT T M) (liftN ψ) (InT T') := by
  have ab : ∀ {k : Nat} {l : List Nat}, (k, l) ∈ T' → aboveT T T.length (ψ k) = (aboveT T' T'.length k).map (liftN ψ) ∧ ∀ x ∈ aboveT T' T'.length k, InT T' x := fun {k l} hk => by
    rw [hw.above_any (h.kid _ hk) (j := T.length + T'.length) (by omega), hw'.above_any hk (j := T.length + T'.length) (by omega)]
    exact h.above hw' hw _ hk
  have ah : ∀ {k : Nat} {l : List Nat}, (k, l) ∈ T' → aheadT T (ψ k) = (aheadT T' k).map (liftN ψ) ∧ ∀ x ∈ aheadT T' k, InT T' x := fun {k l} hk => by
    obtain ⟨f1, f2⟩ := h.find hw' hw hk
    obtain ⟨k1, _, k3⟩ := h.kids hw' hw hk
    unfold aheadT
    rw [f1, f2, Option.isSome_some, Option.isSome_some, if_pos rfl, if_pos rfl, k1]
    refine ⟨?_, fun x hx => ?_⟩
    · rw [List.map_reverse, List.map_map, List.map_map]
      rfl
    · rw [List.mem_reverse, List.mem_map] at hx
      obtain ⟨y, hy, rfl⟩ := hx
      obtain ⟨ly, hly⟩ := k3 y (List.takeWhile_prefix _ |>.subset hy)
      exact ⟨y, ly, rfl, hly⟩
  have ty : ∀ {k : Nat} {l : List Nat}, (k, l) ∈ T' → ∀ c, hasTypeT T' M' k c = hasTypeT T M (ψ k) c := fun {k l} hk c => by
    obtain ⟨f1, f2⟩ := h.find hw' hw hk
    unfold hasTypeT
    rw [f1, f2, Int.toNat_natCast, Int.toNat_natCast, h.kd _ hk]
    rfl
  refine ⟨?_, ?_, ?_, ?_, ?_, ?_⟩
  · rintro e ⟨k, l, rfl, hk⟩ c
    exact ty hk c
  · rintro e ⟨k, l, rfl, hk⟩ p
    obtain ⟨f1, f2⟩ := h.find hw' hw hk
    have e1 : (viewT T' M').ty k p.lt = (viewT T M).ty (ψ k) p.lt := ty hk _
    have e2 : (viewT T' M').cl k p.lt = (viewT T M).cl (ψ k) p.lt := by
      show hasClassT T' M' k p.lt = hasClassT T M (ψ k) p.lt
      unfold hasClassT
      rw [f1, f2, Int.toNat_natCast, Int.toNat_natCast]
      by_cases hl : 97 ≤ p.lt ∧ p.lt ≤ 122
      · rw [h.cl _ hk _ (by omega)]
        rfl
      · rw [decide_eq_false hl]
        rfl
    have e3 : (viewT T' M').nm k p.lt = (viewT T M).nm (ψ k) p.lt := by
      show hasNameT T' M' k p.lt = hasNameT T M (ψ k) p.lt
      unfold hasNameT
      rw [f1, f2, Int.toNat_natCast, Int.toNat_natCast, h.nm _ hk]
      rfl
    have e4 : ((viewT T' M').ah k).length = ((viewT T M).ah (ψ k)).length := by
      show (aheadT T' k).length = (aheadT T (ψ k)).length
      rw [(ah hk).1, List.length_map]
    have e5 : (viewT T' M').la k = (viewT T M).la (ψ k) := by
      show lastT T' k = lastT T (ψ k)
      unfold lastT
      rw [f1, f2, (h.kids hw' hw hk).2.1, List.length_map]
      rfl
    have e6 : (viewT T' M').em k = (viewT T M).em (ψ k) := by
      show emptyT T' k = emptyT T (ψ k)
      unfold emptyT kidsOf
      rw [f1, f2]
      show (true && l.isEmpty) = (true && (l.map ψ).isEmpty)
      rw [List.isEmpty_map]
    show simpV (viewT T' M') p k = simpV (viewT T M) p (ψ k)
    unfold simpV
    rw [e1, e2, e3, e4, e5, e6]
  · rintro e ⟨k, l, rfl, hk⟩
    exact (ab hk).1
  · rintro e ⟨k, l, rfl, hk⟩
    exact (ah hk).1
  · rintro e ⟨k, l, rfl, hk⟩
    exact (ab hk).2
  · rintro e ⟨k, l, rfl, hk⟩
    exact (ah hk).2
theorem hom_style (h : HomT T' T M' M ψ) (hw' : TW T' made') (hw : TW T made) (rs : List PRu) {k : Nat} {l : List Nat} (hk : (k, l) ∈ T') : styleV (viewT T' M') rs k = styleV (viewT T M) rs (ψ k) :=
  style_hom (hom_view h hw' hw) rs ⟨k, l, rfl, hk⟩
end
end Go.Proofs.YtblfffbmklkhmaaGreat
