/- Own work. -/
import Derived.Test.YtblfffbmklkhmaaGreatPs15
import Derived.Test.YtblfffbmklkhmaaGreatPs11
import Derived.Laws.IdiomStrings
import Derived.Laws.AppendOwnNone
namespace Go.Proofs.YtblfffbmklkhmaaGreat
open Go.RowKit
def flatW (W : List Clm) : List Value := W.flatMap Clm.cells
theorem flatW_len (W : List Clm) : (flatW W).length = W.length * 7 := by
  induction W with
  | nil => rfl
  | cons x l ih =>
    unfold flatW at ih ⊢
    rw [List.flatMap_cons, List.length_append, ih, List.length_cons]
    show 7 + _ = _
    omega
theorem flatW_at {W : List Clm} {i j : Nat} (hi : i < W.length) (hj : j < 7) : (flatW W)[i * 7 + j]? = W[i].cells[j]? := by
  induction W generalizing i with
  | nil => simp at hi
  | cons x l ih =>
    have h1 : x.cells.length = 7 := rfl
    unfold flatW
    rw [List.flatMap_cons]
    cases i with
    | zero =>
      rw [List.getElem?_append_left (by omega)]
      simp
    | succ i =>
      rw [List.getElem?_append_right (by omega), h1, show (i + 1) * 7 + j - 7 = i * 7 + j from by omega]
      have := ih (i := i) (by simpa using hi)
      unfold flatW at this
      rw [this]
      simp
/-- The variables of the claims are bytes. -/
def FineW (W : List Clm) : Prop := W.length = 9 ∧ ∀ c ∈ W, 0 ≤ c.va ∧ c.va ≤ 255
def POpt (w : World) (r : Option Nat) (e : Ending) (w' : World) : Prop := e = .returned (.tuple #[.int .i64 ((r.getD 0 : Nat) : Int), .bool r.isSome]) ∧ Below w.heap.size w w'
/-- A block of new memory, of these cells. -/
theorem new_at (w : World) (C : Array Value) (t : TypeId) {k : Nat} {v : Value} (h : C[k]? = some v) : (w.alloc (.cells C t)).cell? ⟨w.heap.size, k, none⟩ = some v := by
  rw [cell_of_row _ _ k C t (0, 0) (heap_alloc_new w _)]
  exact h
section
set_option maxRecDepth 100000
set_option maxHeartbeats 4000000
variable (w : World)
theorem pplace_of_any (p : Int) (hp : 0 ≤ p ∧ p ≤ 255) : Calls Tryz.prog 154 #[.int .u8 p] w fun e w' => POpt w (placeOfP p) e w' := by
  obtain ⟨hp0, hp1⟩ := hp
  by_cases h1 : 65 ≤ p
  · by_cases h2 : p < 71
    · have HR : Hid (POpt w (placeOfP p) (.returned (.tuple #[.int .i64 (p - 65), .bool true])) w) := by
        unfold placeOfP
        rw [if_pos ⟨h1, h2⟩]
        refine ⟨?_, Below.refl _ _⟩
        have : (((p - 65).toNat : Nat) : Int) = p - 65 := by omega
        show _ = Ending.returned (.tuple #[.int .i64 (((p - 65).toNat : Nat) : Int), .bool true])
        rw [this]
      have d1 : decide (65 ≤ p) = true := by simpa using h1
      have d2 : decide (p < 71) = true := by simpa using h2
      go_enter Tryz.func154, Tryz.ntmps154
      go_wp2
      go_ret2
      exact HR.out
    · have d1 : decide (65 ≤ p) = true := by simpa using h1
      have d2 : decide (p < 71) = false := by simpa using h2
      by_cases h3 : 88 ≤ p
      · have d3 : decide (88 ≤ p) = true := by simpa using h3
        by_cases h4 : p < 91
        · have d4 : decide (p < 91) = true := by simpa using h4
          have HR : Hid (POpt w (placeOfP p) (.returned (.tuple #[.int .i64 (6 + (p - 88)), .bool true])) w) := by
            unfold placeOfP
            rw [if_neg (by omega), if_pos ⟨h3, h4⟩]
            refine ⟨?_, Below.refl _ _⟩
            have : ((6 + (p - 88).toNat : Nat) : Int) = 6 + (p - 88) := by omega
            show _ = Ending.returned (.tuple #[.int .i64 ((6 + (p - 88).toNat : Nat) : Int), .bool true])
            rw [this]
          go_enter Tryz.func154, Tryz.ntmps154
          go_wp2
          go_ret2
          exact HR.out
        · have d4 : decide (p < 91) = false := by simpa using h4
          have HR : Hid (POpt w (placeOfP p) (.returned (.tuple #[.int .i64 0, .bool false])) w) := by
            unfold placeOfP
            rw [if_neg (by omega), if_neg (by omega)]
            exact ⟨rfl, Below.refl _ _⟩
          go_enter Tryz.func154, Tryz.ntmps154
          go_wp2
          go_ret2
          exact HR.out
      · have d3 : decide (88 ≤ p) = false := by simpa using h3
        have HR : Hid (POpt w (placeOfP p) (.returned (.tuple #[.int .i64 0, .bool false])) w) := by
          unfold placeOfP
          rw [if_neg (by omega), if_neg (by omega)]
          exact ⟨rfl, Below.refl _ _⟩
        go_enter Tryz.func154, Tryz.ntmps154
        go_wp2
        go_ret2
        exact HR.out
  · have d1 : decide (65 ≤ p) = false := by simpa using h1
    have d3 : decide (88 ≤ p) = false := by simp; omega
    have HR : Hid (POpt w (placeOfP p) (.returned (.tuple #[.int .i64 0, .bool false])) w) := by
      unfold placeOfP
      rw [if_neg (by omega), if_neg (by omega)]
      exact ⟨rfl, Below.refl _ _⟩
    go_enter Tryz.func154, Tryz.ntmps154
    go_wp2
    go_ret2
    exact HR.out
/-- The place of the property that a text names. -/
def propP (s : ByteArray) : Option Nat := if s.size = 1 then placeOfP (bt s 0) else none
theorem pproperty_any (s : ByteArray) : Calls Tryz.prog 114 #[.string s] w fun e w' => POpt w (propP s) e w' := by
  by_cases h1 : s.size = 1
  · have HP : Hid (propP s = placeOfP (bt s 0)) := by unfold Hid propP; rw [if_pos h1]
    have g1 : ((s.size : Int) != 1) = false := by simp [h1]
    have hb : bt s 0 < 256 := bt_lt s 0
    have h0 : 0 < s.size := by omega
    have hq : s[0].toNat = bt s 0 := by unfold bt; simp [h0]
    clear h1
    go_enter Tryz.func114, Tryz.ntmps114
    go_wp2_with fail
    refine (pplace_of_any w (bt s 0) ⟨by omega, by omega⟩).mono ?_
    rintro e w1 ⟨rfl, hB⟩
    have HR : Hid (POpt w (propP s) (.returned (.tuple #[.int .i64 (((placeOfP (bt s 0)).getD 0 : Nat) : Int), .bool (placeOfP (bt s 0)).isSome])) w1) := by unfold Hid; rw [HP.out]; exact ⟨rfl, hB⟩
    clear hB HP hq
    generalize (placeOfP (bt s 0)).getD 0 = r at HR ⊢
    generalize (placeOfP (bt s 0)).isSome = r2 at HR ⊢
    go_wp2
    go_ret2
    exact HR.out
  · have HP : Hid (POpt w (propP s) (.returned (.tuple #[.int .i64 0, .bool false])) w) := by unfold Hid propP; rw [if_neg h1]; exact ⟨rfl, Below.refl _ _⟩
    have g1 : ((s.size : Int) != 1) = true := by simp; omega
    clear h1
    go_enter Tryz.func114, Tryz.ntmps114
    go_wp2
    go_ret2
    exact HP.out
theorem pdown_any (p : Nat) : Calls Tryz.prog 197 #[.int .i64 p] w fun e w' => PBool w (downP p) e w' := by
  by_cases h1 : p < 3
  · have d1 : decide ((p : Int) < 3) = true := by simp; omega
    have HR : Hid (PBool w (downP p) (.returned (.bool true)) w) := ⟨by unfold downP; rw [decide_eq_true (by omega)], Below.refl _ _⟩
    clear h1
    go_enter Tryz.func197, Tryz.ntmps197
    go_wp2
    go_ret
    exact HR.out
  · have d1 : decide ((p : Int) < 3) = false := by simp; omega
    by_cases h2 : 6 ≤ p
    · have d2 : decide ((6 : Int) ≤ p) = true := by simp; omega
      have HR : Hid (PBool w (downP p) (.returned (.bool true)) w) := ⟨by unfold downP; rw [decide_eq_true (by omega)], Below.refl _ _⟩
      clear h1 h2
      go_enter Tryz.func197, Tryz.ntmps197
      go_wp2
      go_ret
      exact HR.out
    · have d2 : decide ((6 : Int) ≤ p) = false := by simp; omega
      have HR : Hid (PBool w (downP p) (.returned (.bool false)) w) := ⟨by unfold downP; rw [decide_eq_false (by omega)], Below.refl _ _⟩
      clear h1 h2
      go_enter Tryz.func197, Tryz.ntmps197
      go_wp2
      go_ret
      exact HR.out
theorem pbeats_any (th im : Bool) (ly wt kd nu va : Int) (th2 im2 : Bool) (ly2 wt2 kd2 nu2 va2 : Int) : Calls Tryz.prog 196 #[.agg #[.bool th, .bool im, .int .i64 ly, .int .i64 wt, .int .i64 kd, .int .i64 nu, .int .u8 va], .agg #[.bool th2, .bool im2, .int .i64 ly2, .int .i64 wt2, .int .i64 kd2, .int .i64 nu2, .int .u8 va2]] w fun e w' => PBool w (beatsP ⟨th, im, ly, wt, kd, nu, va⟩ ⟨th2, im2, ly2, wt2, kd2, nu2, va2⟩) e w' := by
  have HB : Hid (Below w.heap.size w ((w.alloc (.cells #[.bool th, .bool im, .int .i64 ly, .int .i64 wt, .int .i64 kd, .int .i64 nu, .int .u8 va] 221)).alloc (.cells #[.bool th2, .bool im2, .int .i64 ly2, .int .i64 wt2, .int .i64 kd2, .int .i64 nu2, .int .u8 va2] 221))) := ((Below.refl _ _).alloc (Nat.le_refl _) _).alloc (by simp) _
  cases th2 with
  | false =>
    have HR : Hid (PBool w (beatsP ⟨th, im, ly, wt, kd, nu, va⟩ ⟨false, im2, ly2, wt2, kd2, nu2, va2⟩) (.returned (.bool true)) _) := ⟨rfl, HB.out⟩
    go_enter Tryz.func196, Tryz.ntmps196
    go_wp2
    go_ret
    exact HR.out
  | true =>
    by_cases hi : im = im2
    · subst hi
      by_cases hl : ly = ly2
      · have HR : Hid (PBool w (beatsP ⟨th, im, ly, wt, kd, nu, va⟩ ⟨true, im, ly2, wt2, kd2, nu2, va2⟩) (.returned (.bool (decide (wt2 ≤ wt)))) _) := ⟨by unfold beatsP; simp [hl], HB.out⟩
        have gl : (ly != ly2) = false := by simp [hl]
        have gi : (im != im) = false := by cases im <;> rfl
        clear hl
        go_enter Tryz.func196, Tryz.ntmps196
        go_wp2
        go_ret
        exact HR.out
      · have HR : Hid (PBool w (beatsP ⟨th, im, ly, wt, kd, nu, va⟩ ⟨true, im, ly2, wt2, kd2, nu2, va2⟩) (.returned (.bool (decide (ly < ly2) == im))) _) := ⟨by unfold beatsP; simp [hl], HB.out⟩
        have gl : (ly != ly2) = true := by simp [hl]
        have gi : (im != im) = false := by cases im <;> rfl
        clear hl
        go_enter Tryz.func196, Tryz.ntmps196
        go_wp2
        go_ret
        exact HR.out
    · have HR : Hid (PBool w (beatsP ⟨th, im, ly, wt, kd, nu, va⟩ ⟨true, im2, ly2, wt2, kd2, nu2, va2⟩) (.returned (.bool im)) _) := ⟨by unfold beatsP; simp [hi], HB.out⟩
      cases im <;> cases im2
      · exact absurd rfl hi
      · clear hi
        go_enter Tryz.func196, Tryz.ntmps196
        go_wp2
        go_ret
        exact HR.out
      · clear hi
        go_enter Tryz.func196, Tryz.ntmps196
        go_wp2
        go_ret
        exact HR.out
      · exact absurd rfl hi
theorem pnext_any (W : List Clm) (hF : FineW W) (p : Nat) (hp : p < 9) : Calls Tryz.prog 184 #[.agg (flatW W).toArray, .int .i64 p] w fun e w' => POpt w (nextP W p) e w' := by
  have hW := hF.1
  have hv := hF.2 (W[p]'(by omega)) (List.getElem_mem _)
  have HB : Hid (Below w.heap.size w (w.alloc (.cells (flatW W).toArray 223))) := (Below.refl _ _).alloc (Nat.le_refl _) _
  have q0 : (w.alloc (.cells (flatW W).toArray 223)).cell? ⟨w.heap.size, p * 7 + 4, none⟩ = some (.int .i64 W[p].kd) := new_at w _ _ (by rw [List.getElem?_toArray, flatW_at (by omega) (by omega)]; rfl)
  have q1 : (w.alloc (.cells (flatW W).toArray 223)).cell? ⟨w.heap.size, p * 7 + 4 + 2, none⟩ = some (.int .u8 W[p].va) := new_at w _ _ (by rw [List.getElem?_toArray, show p * 7 + 4 + 2 = p * 7 + 6 from rfl, flatW_at (by omega) (by omega)]; rfl)
  have HN : Hid (nextP W p = if W[p].kd = 5 then placeOfP W[p].va else none) := by unfold Hid nextP; rw [List.getD_eq_getElem?_getD, List.getElem?_eq_getElem (by omega)]; rfl
  have hpl : (p : Int) < 9 := by omega
  clear hF
  generalize W[p].kd = kd at q0 HN
  generalize W[p].va = va at q1 HN hv
  generalize (flatW W).toArray = C at q0 q1 HB ⊢
  by_cases hk : kd = 5
  · have HN2 : Hid (nextP W p = placeOfP va) := by unfold Hid; rw [HN.out, if_pos hk]
    have gk : (kd != 5) = false := by simp [hk]
    clear hk HN
    go_enter Tryz.func184, Tryz.ntmps184
    go_wp2_with fail
    refine (pplace_of_any _ va hv).mono ?_
    rintro e w1 ⟨rfl, hB⟩
    have HR : Hid (POpt w (nextP W p) (.returned (.tuple #[.int .i64 (((placeOfP va).getD 0 : Nat) : Int), .bool (placeOfP va).isSome])) w1) := by unfold Hid; rw [HN2.out]; exact ⟨rfl, HB.out.trans (hB.mono (by simp))⟩
    clear hB HN2
    generalize (placeOfP va).getD 0 = r at HR ⊢
    generalize (placeOfP va).isSome = r2 at HR ⊢
    go_wp2
    go_ret2
    exact HR.out
  · have HR : Hid (POpt w (nextP W p) (.returned (.tuple #[.int .i64 0, .bool false])) (w.alloc (.cells C 223))) := by unfold Hid; rw [HN.out, if_neg hk]; exact ⟨rfl, HB.out⟩
    have gk : (kd != 5) = true := by simp [hk]
    clear hk HN
    go_enter Tryz.func184, Tryz.ntmps184
    go_wp2
    go_ret2
    exact HR.out
end
end Go.Proofs.YtblfffbmklkhmaaGreat

namespace Go.Proofs.YtblfffbmklkhmaaGreat
open Go.RowKit
/-- Which of n things a raw number speaks of. -/
def pickZ (c : Int) (n : Nat) : Nat := (if c < 0 then -(c + 1) else c).toNat % n
theorem pickZ_lt (c : Int) {n : Nat} (h : 0 < n) : pickZ c n < n := Nat.mod_lt _ h
def Fit (c : Int) : Prop := -9223372036854775808 ≤ c ∧ c ≤ 9223372036854775807
def letB (k : Nat) : ByteArray := ⟨#[UInt8.ofNat (97 + k % 26)]⟩
section
set_option maxRecDepth 100000
set_option maxHeartbeats 1500000
variable (w : World)
theorem kpick_any (c : Int) (n : Nat) (hc : Fit c) (hn : 0 < n) (hm : n ≤ 1000) : Calls Tryz.prog 17 #[.int .i64 c, .int .i64 n] w fun e w' => e = .returned (.int .i64 (pickZ c n : Nat)) ∧ w' = w := by
  obtain ⟨h1, h2⟩ := hc
  have hnz : ((n : Int) == 0) = false := by rw [beq_eq_false_iff_ne]; omega
  have hn1 : (n : Int) ≠ 0 := by omega
  by_cases h : c < 0
  · have d1 : decide (c < 0) = true := by simpa using h
    have HR : Hid (Ending.returned (.int .i64 (-((c + 1).tmod (n : Int)))) = .returned (.int .i64 ((pickZ c n : Nat) : Int))) := by
      have e1 : -((c + 1).tmod (n : Int)) = ((pickZ c n : Nat) : Int) := by
        unfold pickZ
        rw [if_pos h, Int.natCast_emod, ← Int.neg_tmod, Int.tmod_eq_emod_of_nonneg (by omega)]
        congr 1
        omega
      unfold Hid
      rw [e1]
    go_enter Tryz.func17, Tryz.ntmps17
    go_wp2
    go_ret
    exact ⟨HR.out, rfl⟩
  · have d1 : decide (c < 0) = false := by simpa using h
    have HR : Hid (Ending.returned (.int .i64 (c % (n : Int))) = .returned (.int .i64 ((pickZ c n : Nat) : Int))) := by
      have e1 : c % (n : Int) = ((pickZ c n : Nat) : Int) := by
        unfold pickZ
        rw [if_neg h, Int.natCast_emod]
        congr 1
        omega
      unfold Hid
      rw [e1]
    have hc0 : 0 ≤ c := by omega
    go_enter Tryz.func17, Tryz.ntmps17
    go_wp2
    go_ret
    exact ⟨HR.out, rfl⟩
theorem kletter_any (k b : Nat) (hk : k ≤ 3) (hb : b ≤ 25) : Calls Tryz.prog 25 #[.int .i64 k, .int .i64 b] w fun e w' => e = .returned (.string (letB (k + b))) ∧ Below w.heap.size w w' := by
  have hcv : (convert 75 9 (.slice (some ⟨w.heap.size, 0, none⟩) 1 1)).run Tryz.prog (w.alloc (.cells #[.int .u8 (97 + ((k : Int) + (b : Int)) % 26)] 5)) = .ok (.string (letB (k + b))) (w.alloc (.cells #[.int .u8 (97 + ((k : Int) + (b : Int)) % 26)] 5)) :=
    run_convert_bytes_back _ 75 9 5 ⟨w.heap.size, 0, none⟩ 1 [UInt8.ofNat (97 + (k + b) % 26)] Tryz.underlying75 Tryz.underlying5 Tryz.underlying9 (fun j hj => by
      obtain rfl : j = 0 := by simpa using hj
      rw [show (⟨w.heap.size, 0, none⟩ : Addr).add 0 = ⟨w.heap.size, 0, none⟩ from Addr.add_mid _ _ _, new_at w _ _ rfl]
      have e : (((UInt8.ofNat (97 + (k + b) % 26)).toNat : Nat) : Int) = 97 + ((k : Int) + (b : Int)) % 26 := by rw [UInt8.toNat_ofNat']; omega
      show some (Value.int .u8 (97 + ((k : Int) + (b : Int)) % 26)) = some (.int .u8 (((UInt8.ofNat (97 + (k + b) % 26)).toNat : Nat) : Int))
      rw [e])
  have HB : Hid (Below w.heap.size w (w.alloc (.cells #[.int .u8 (97 + ((k : Int) + (b : Int)) % 26)] 5))) := (Below.refl _ _).alloc (Nat.le_refl _) _
  go_enter Tryz.func25, Tryz.ntmps25
  go_wp2
  go_ret
  exact ⟨rfl, HB.out⟩
theorem noneOf_le (l : List Nat) (v : Int) : (noneOf v l).length ≤ l.length := List.length_filter_le _ _
def KRow (w : World) (l : List Nat) (e : Ending) (w' : World) : Prop := ∃ (a : Option Addr) (c : Nat), e = .returned (.slice a l.length c) ∧ w'.ownsRow w.heap.size 3 1 (.slice a l.length c) l.length (ints l) ∧ Below w.heap.size w w'
theorem ints_at {l : List Nat} {i : Nat} (h : i < l.length) : (ints l)[i]? = some (.int .i64 (l[i] : Nat)) := by simp [ints, h]
theorem kwithout_any (a : Option Addr) (c base : Nat) (l : List Nat) (v : Int) (ho : w.ownsRow base 3 1 (.slice a l.length c) l.length (ints l)) (hl : l.length ≤ 24) : Calls Tryz.prog 118 #[.slice a l.length c, .int .i64 v] w fun e w' => KRow w (noneOf v l) e w' := by
  obtain ⟨i0, hi, iz0, iz1, iz2⟩ := info_parts Tryz.info3
  have HO : Hid (w.ownsRow base 3 1 (.slice a l.length c) l.length (ints l)) := ho
  clear ho
  go_enter Tryz.func118, Tryz.ntmps118
  go_wp2_with fail
  go_loopg [5, 6] l.length (fun gk vv iv wr => ∃ i : Nat, iv = .int .i64 i ∧ i ≤ l.length ∧ l.length - i ≤ gk ∧ Hid (wr.ownsRow w.heap.size 3 1 vv (noneOf v (l.take i)).length (ints (noneOf v (l.take i))) ∧ Below w.heap.size w wr))
  case atStart => exact ⟨0, rfl, Nat.zero_le _, by omega, World.ownsRow_nil _ _ _ _, Below.refl _ _⟩
  case round =>
    obtain ⟨i, rfl, hil, hgk, HN⟩ := hrel
    obtain ⟨a2, c2, hv2⟩ := own_shape HN.out.1
    subst hv2
    have hbz := HN.out.2.size
    have hkl : (noneOf v (l.take i)).length ≤ 24 := by
      have h1 := noneOf_le (l.take i) v
      have h2 : (l.take i).length ≤ l.length := List.length_take_le' _ _
      omega
    by_cases hlt : i < l.length
    · have hd : decide ((i : Int) < (l.length : Int)) = true := by simp; omega
      obtain ⟨g, hg, hgl, hgc⟩ := own_cells HO.out (by omega)
      subst hg
      have q0 := (HN.out.2.cell (p := ⟨g, i, none⟩) hgl).trans (hgc _ _ (ints_at hlt))
      have HST : Hid (noneOf v (l.take (i + 1)) = noneOf v (l.take i) ++ if (l[i] : Int) = v then [] else [l[i]]) := noneOf_take hlt v
      clear hgc
      generalize l[i] = x at q0 HST
      obtain ⟨L', hL'⟩ : ∃ L', noneOf v (l.take (i + 1)) = L' := ⟨_, rfl⟩
      have HL' : Hid (noneOf v (l.take (i + 1)) = L') := hL'
      rw [hL'] at HST
      clear hL'
      generalize noneOf v (l.take i) = L at HN HST hkl ⊢
      by_cases hx : (x : Int) = v
      · have gx : ((x : Int) != v) = false := by simp [hx]
        have HN2 : Hid (wr.ownsRow w.heap.size 3 1 (.slice a2 L.length c2) L'.length (ints L') ∧ Below w.heap.size w wr) := by
          have : L' = L := by rw [HST.out, if_pos hx, List.append_nil]
          rw [this]
          exact HN.out
        clear hx HST HN
        go_wp2
        go_roundg (l.length - (i + 1))
        case measure => omega
        case rel => exact ⟨i + 1, by go_num, by omega, Nat.le_refl _, by unfold Hid; rw [HL'.out]; exact HN2.out⟩
      · have gx : ((x : Int) != v) = true := by simp [hx]
        have HE : Hid (L' = L ++ [x]) := by unfold Hid; rw [HST.out, if_neg hx]
        clear hx HST
        go_wp2_with (at_builtin; refine wpList_append_own _ rfl (.tmp 19) (.tmp 24) 40 rfl w.heap.size 3 i0 (.int .i64 0) 1 8 Tryz.underlying40 hi iz0 iz1 iz2 rfl (by decide) _ _ _ rfl (HN.out.1.alloc _) ⟨wr.heap.size, 0, none⟩ 1 1 [.int .i64 (x : Int)] rfl rfl ?c1 ?c2 ?c3 ?c4 ?c5 ?_)
        all_goals first | (intro v5 w5 own5 hg5 _; have HN5 : Hid (w5.ownsRow w.heap.size 3 1 v5 L'.length (ints L') ∧ Below w.heap.size w w5) := (by rw [HE.out]; exact ⟨by simpa [ints] using own5, (HN.out.2.alloc hbz _).grown hg5 (by simp; omega) (fun k hk => (HN.out.1.lt k hk).1)⟩); skip) | (exact new_cells wr _ rfl _ _ _ rfl) | exact one_z x | rfl | (unfold maxLen; omega) | omega | (simp; omega)
        clear own5 hg5 HN HE q0
        go_wp2
        go_roundg (l.length - (i + 1))
        case measure => omega
        case rel => exact ⟨i + 1, by go_num, by omega, Nat.le_refl _, by unfold Hid; rw [HL'.out]; exact HN5.out⟩
    · have hd : decide ((i : Int) < (l.length : Int)) = false := by simp; omega
      obtain rfl : i = l.length := by omega
      rw [List.take_length] at HN hkl ⊢
      have HR : Hid (KRow w (noneOf v l) (.returned (.slice a2 (noneOf v l).length c2)) wr) := ⟨a2, c2, rfl, HN.out.1, HN.out.2⟩
      generalize (noneOf v l).length = m at HR ⊢
      go_wp2
      go_ret
      exact HR.out
end
end Go.Proofs.YtblfffbmklkhmaaGreat

namespace Go.Proofs.YtblfffbmklkhmaaGreat
open Go.RowKit
set_option maxRecDepth 100000 in
set_option maxHeartbeats 4000000 in
theorem kput_some (w : World) (g c : Nat) (l1 l2 : List Nat) (v : Nat) (base : Nat) (ho : w.ownsRow base 3 1 (.slice (some ⟨g, 0, none⟩) (l1.length + l2.length) c) (l1.length + l2.length) (ints (l1 ++ l2))) (hl : l1.length + l2.length ≤ 24) :
    Calls Tryz.prog 115 #[.slice (some ⟨g, 0, none⟩) (l1.length + l2.length) c, .int .i64 l1.length, .int .i64 v] w fun e w' => LPost w (l1 ++ [v] ++ l2) e w' := by
  obtain ⟨i0, hi, iz0, iz1, iz2⟩ := info_parts Tryz.info3
  have hcap : l1.length + l2.length ≤ c := by
    rcases ho.2 with ⟨h, _⟩ | ⟨_, _, _, h, _, _, h2, _⟩
    · injection h with h; cases h
    · injection h with _ _ h3; omega
  have hcl : c ≤ maxLen := by
    rcases ho.2 with ⟨h, _⟩ | ⟨_, _, _, h, _, _, _, h2, _⟩
    · injection h with h; cases h
    · injection h with _ _ h3; rw [h3]; exact h2
  unfold maxLen at hcl
  have hgl : g < w.heap.size := (ho.lt g rfl).2
  have HS : Hid (∀ (w2 : World), Below w.heap.size w w2 → (∀ j u, (ints l1)[j]? = some u → w2.cell? ((⟨g, 0, none⟩ : Addr).add j) = some u) ∧ (∀ j u, (ints l2)[j]? = some u → w2.cell? ((⟨g, l1.length, none⟩ : Addr).add j) = some u)) := fun w2 hb => by
    have hsrc : ∀ j u, (ints (l1 ++ l2))[j]? = some u → w2.cell? ⟨g, j, none⟩ = some u := fun j u hu => by
      have h1 := ho.cells (g := g) rfl j u hu
      rw [Go.WideShapes.add_plain, Nat.zero_add] at h1
      exact (hb.cell (p := ⟨g, j, none⟩) hgl).trans h1
    constructor
    · intro j u hu
      rw [Go.WideShapes.add_plain, Nat.zero_add]
      refine hsrc j u ?_
      have hj : j < (ints l1).length := (List.getElem?_eq_some_iff.1 hu).1
      rw [show ints (l1 ++ l2) = ints l1 ++ ints l2 from by simp [ints], List.getElem?_append_left hj]
      exact hu
    · intro j u hu
      rw [Go.WideShapes.add_plain]
      refine hsrc _ u ?_
      rw [show ints (l1 ++ l2) = ints l1 ++ ints l2 from by simp [ints], List.getElem?_append_right (by simp [ints])]
      simpa [ints] using hu
  clear ho
  go_enter Tryz.func115, Tryz.ntmps115
  go_wp2_with (at_builtin; refine wpList_append_own _ rfl (.tmp 8) (.tmp 11) 40 rfl w.heap.size 3 i0 (.int .i64 0) 1 8 Tryz.underlying40 hi iz0 iz1 iz2 rfl (by decide) _ _ _ rfl (World.ownsRow_nil _ _ _ _) ⟨g, 0, none⟩ l1.length c (ints l1) rfl (by simp [ints]) (HS.out w (Below.refl _ _)).1 (ints_one _) ?c3 ?c4 ?c5 ?_)
  case c3 => unfold maxLen; omega
  case c4 => omega
  case c5 => exact Nat.le_refl _
  · intro v1 w1 hown1 hg1 _
    have own1 : w1.ownsRow w.heap.size 3 1 v1 l1.length (ints l1) := by simpa using hown1
    have hB1 : Below w.heap.size w w1 := (Below.refl _ _).grown hg1 (Nat.le_refl _) (fun k hk => by simp [Value.ownBlock] at hk)
    obtain ⟨a1, c1, hv1⟩ := own_shape own1
    subst hv1
    clear hown1 hg1
    have hz1 := hB1.size
    go_wp2_with (at_builtin; refine wpList_append_own _ rfl (.tmp 13) (.tmp 15) 40 rfl w.heap.size 3 i0 (.int .i64 0) 1 8 Tryz.underlying40 hi iz0 iz1 iz2 rfl (by decide) _ _ _ rfl (own1.alloc _) ⟨w1.heap.size, 0, none⟩ 1 1 [.int .i64 (v : Int)] rfl rfl ?d1 ?d2 ?d3 ?d4 ?d5 ?_)
    case d1 => exact new_cells w1 _ rfl _ _ _ rfl
    case d2 => intro u hu; simp at hu; subst hu; rfl
    case d3 => unfold maxLen; omega
    case d4 => omega
    case d5 => simp; omega
    · intro v2 w2 hown2 hg2 _
      have own2 : w2.ownsRow w.heap.size 3 1 v2 (l1.length + 1) (ints (l1 ++ [v])) := by simpa [ints] using hown2
      have hB2 : Below w.heap.size w w2 := (hB1.alloc hz1 _).grown hg2 (by simp; omega) (fun k hk => (own1.lt k hk).1)
      obtain ⟨a2, c2, hv2⟩ := own_shape own2
      subst hv2
      have hsh := hB2.size
      clear hown2 hg2
      by_cases hck : c = l1.length
      · have hnil : l2 = [] := List.eq_nil_of_length_eq_zero (by omega)
        subst hnil
        obtain rfl := hck
        go_wp2_with (at_builtin; refine wpList_append_own _ rfl (.tmp 17) (.tmp 20) 40 rfl w.heap.size 3 i0 (.int .i64 0) 1 8 Tryz.underlying40 hi iz0 iz1 iz2 rfl (by decide) _ _ _ rfl own2 ⟨g, 0, none⟩ 0 0 [] rfl rfl (fun j u hu => by simp at hu) (fun u hu => by cases hu) ?e3 ?e4 ?e5 ?_)
        case e3 => unfold maxLen; omega
        case e4 => omega
        case e5 => omega
        · intro v3 w3 hown3 hg3 _
          have own3 : w3.ownsRow w.heap.size 3 1 v3 (l1 ++ [v] ++ []).length (ints (l1 ++ [v] ++ [])) := by simpa [ints] using hown3
          have hB3 : Below w.heap.size w w3 := hB2.grown hg3 (by omega) (fun k hk => (own2.lt k hk).1)
          obtain ⟨a3, c3, hv3⟩ := own_shape own3
          subst hv3
          have HO3 : Hid (w3.ownsRow w.heap.size 3 1 (.slice a3 (l1 ++ [v] ++ []).length c3) (l1 ++ [v] ++ []).length (ints (l1 ++ [v] ++ []))) := own3
          clear hown3 hg3 own3
          go_wp2
          go_ret
          exact ⟨a3, c3, rfl, HO3.out, hB3⟩
      · go_wp2_with (at_builtin; refine wpList_append_own _ rfl (.tmp 17) (.tmp 20) 40 rfl w.heap.size 3 i0 (.int .i64 0) 1 8 Tryz.underlying40 hi iz0 iz1 iz2 rfl (by decide) _ _ _ rfl own2 ⟨g, l1.length, none⟩ l2.length (c - l1.length) (ints l2) ?f1 (by simp [ints]) (HS.out w2 hB2).2 (ints_one _) ?f3 ?f4 ?f5 ?_)
        case f1 => simp [Act.eval]
        case f3 => unfold maxLen; omega
        case f4 => omega
        case f5 => omega
        · intro v3 w3 hown3 hg3 _
          have own3 : w3.ownsRow w.heap.size 3 1 v3 (l1 ++ [v] ++ l2).length (ints (l1 ++ [v] ++ l2)) := by simpa [ints, Nat.add_assoc, Nat.add_comm, Nat.add_left_comm] using hown3
          have hB3 : Below w.heap.size w w3 := hB2.grown hg3 (by omega) (fun k hk => (own2.lt k hk).1)
          obtain ⟨a3, c3, hv3⟩ := own_shape own3
          subst hv3
          have HO3 : Hid (w3.ownsRow w.heap.size 3 1 (.slice a3 (l1 ++ [v] ++ l2).length c3) (l1 ++ [v] ++ l2).length (ints (l1 ++ [v] ++ l2))) := own3
          clear hown3 hg3 own3
          go_wp2
          go_ret
          exact ⟨a3, c3, rfl, HO3.out, hB3⟩
set_option maxRecDepth 100000 in
set_option maxHeartbeats 2000000 in
theorem kput_nil (w : World) (v : Nat) :
    Calls Tryz.prog 115 #[.slice none 0 0, .int .i64 0, .int .i64 v] w fun e w' => LPost w [v] e w' := by
  obtain ⟨i0, hi, iz0, iz1, iz2⟩ := info_parts Tryz.info3
  go_enter Tryz.func115, Tryz.ntmps115
  go_wp2_with (first | (at_builtin; refine wpList_append_own_none rfl (.tmp 8) (.tmp 11) 40 rfl w.heap.size 3 i0 1 Tryz.underlying40 hi _ _ _ rfl (World.ownsRow_nil _ _ _ _) rfl ?_) | (at_builtin; refine wpList_append_own _ rfl (.tmp 13) (.tmp 15) 40 rfl w.heap.size 3 i0 (.int .i64 0) 1 8 Tryz.underlying40 hi iz0 iz1 iz2 rfl (by decide) _ _ _ rfl (World.ownsRow_nil _ _ _ _) ⟨w.heap.size, 0, none⟩ 1 1 [.int .i64 (v : Int)] rfl rfl (new_cells w _ rfl _ _ _ rfl) (one_int v) (by unfold maxLen; omega) (by omega) (by simp) ?_))
  · intro v2 w2 hown2 hg2 _
    have own2 : w2.ownsRow w.heap.size 3 1 v2 1 (ints [v]) := by simpa [ints] using hown2
    have hB2 : Below w.heap.size w w2 := ((Below.refl _ _).alloc (Nat.le_refl _) _).grown hg2 (by simp) (fun k hk => by simp [Value.ownBlock] at hk)
    obtain ⟨a2, c2, hv2⟩ := own_shape own2
    subst hv2
    have HO2 : Hid (w2.ownsRow w.heap.size 3 1 (.slice a2 1 c2) 1 (ints [v])) := own2
    clear hown2 hg2
    go_wp2_with (at_builtin; refine wpList_append_own_none rfl (.tmp 17) (.tmp 20) 40 rfl w.heap.size 3 i0 1 Tryz.underlying40 hi _ _ _ rfl own2 rfl ?_)
    go_wp2
    go_ret
    exact ⟨a2, c2, rfl, HO2.out, hB2⟩
theorem kput_any (w : World) (a : Option Addr) (c : Nat) (l : List Nat) (k v : Nat) (base : Nat) (ho : w.ownsRow base 3 1 (.slice a l.length c) l.length (ints l)) (hl : l.length ≤ 24) (hk : k ≤ l.length) :
    Calls Tryz.prog 115 #[.slice a l.length c, .int .i64 k, .int .i64 v] w fun e w' => LPost w (insL l k v) e w' := by
  by_cases h0 : a = none
  · subst h0
    have hn : l = [] ∧ c = 0 := by
      rcases ho.2 with ⟨h, h2⟩ | ⟨_, _, _, h, _⟩
      · injection h with _ h3 h4; exact ⟨List.eq_nil_of_length_eq_zero h2, h4⟩
      · injection h with h; cases h
    obtain ⟨rfl, rfl⟩ := hn
    obtain rfl : k = 0 := by simpa using hk
    exact kput_nil w v
  · obtain ⟨g, rfl⟩ : ∃ g, a = some ⟨g, 0, none⟩ := by
      rcases ho.2 with ⟨h, _⟩ | ⟨g, _, _, h, _⟩
      · injection h with h; exact absurd h h0
      · injection h with h; exact ⟨g, h⟩
    have e1 : (l.take k).length = k := by simp; omega
    have e2 : (l.take k).length + (l.drop k).length = l.length := by rw [← List.length_append, List.take_append_drop]
    have := kput_some w g c (l.take k) (l.drop k) v base (by rw [e2, List.take_append_drop]; exact ho) (by omega)
    rw [e2, e1] at this
    exact this
end Go.Proofs.YtblfffbmklkhmaaGreat
