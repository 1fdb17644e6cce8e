/- Weights, proved. Own work. -/
import Derived.Test.YtblfffbmklkhmaaGreatRefWeigh3
import Derived.Test.YtblfffbmklkhmaaGreatLawOpen
namespace Go.Proofs.YtblfffbmklkhmaaGreat
open Go.ChangeShapes Go.WideShapes Go.ChangeAt Go.RowKit

set_option maxRecDepth 100000 in
set_option maxHeartbeats 2000000 in
theorem step_weight (w : World) (p : Option Addr) (k1 k2 k3 k4 : Int) (s t : ByteArray) (o : Bool) (hs : s.size ≤ maxLen) :
    Calls Tryz.prog 33 #[.pointer p, .agg #[.int .i64 2, .int .i64 k1, .int .i64 k2, .int .i64 k3, .int .i64 k4, .string s, .string t, .bool o]] w fun e w' => StepPost w e w' := by
  go_enter Tryz.func33, Tryz.ntmps33
  go_wp2_with fail
  refine (weight_any _ s k2 k3 hs).mono ?_
  rintro e w1 ⟨x, y, rfl, hb1, hf1⟩
  obtain ⟨rs, HR⟩ : ∃ rs, Hid (((chk s).1 ≠ 0 → (x, y) = (0, (chk s).1)) ∧ ((chk s).1 = 0 → RulsAt s 0 s.size rs ∧ (x, y) = wres rs k2 k3)) := by
    by_cases h0 : (chk s).1 = 0
    · obtain ⟨rs, h1, h2⟩ := hf1.out.2 h0
      exact ⟨rs, fun h => absurd h0 h, fun _ => ⟨h1, h2⟩⟩
    · exact ⟨[], fun h => hf1.out.1 h, fun h => absurd h h0⟩
  clear hf1
  obtain ⟨hc, hf⟩ := bcell hb1 w.heap.size (by simp)
  have hz1 := hb1.size
  go_wp2_with fail
  refine (refweight_any _ s k2 k3 rs hs (fun h => (HR.out.2 h).1)).mono ?_
  rintro e w2 ⟨x', y', rfl, hb2, hf2⟩
  have hxy : x' = x ∧ y' = y := by
    by_cases h0 : (chk s).1 = 0
    · have e1 := (HR.out.2 h0).2
      have e2 := hf2.out.2 h0
      rw [← e1] at e2
      injection e2 with a b
      exact ⟨a, b⟩
    · have e1 := HR.out.1 h0
      have e2 := hf2.out.1 h0
      rw [← e1] at e2
      injection e2 with a b
      exact ⟨a, b⟩
  obtain ⟨rfl, rfl⟩ := hxy
  have hb3 : Below w.heap.size w w2 := (((Below.refl _ _).alloc (Nat.le_refl _) _).trans (hb1.mono (by simp))).trans (hb2.mono (by simp at hz1; omega))
  have hx : (x' == x') = true := by simp
  have hy : (y' == y') = true := by simp
  clear hc hf hb1 hb2 HR hf2
  go_wp2_with fail
  refine (num_any _ y').mono ?_
  rintro e w3 ⟨rfl, rfl⟩
  go_wp2_with fail
  refine (num_any _ y').mono ?_
  rintro e w4 ⟨rfl, rfl⟩
  go_wp2_with fail
  go_ret
  exact ⟨by simp, hb3⟩

set_option maxRecDepth 100000 in
set_option maxHeartbeats 2000000 in
theorem plays_weight (w : World) (b off len cap : Nat) (K A X Y Z : Nat → Int) (S T : Nat → ByteArray) (O : Nat → Bool) (h : Scr w b off len K A X Y Z S T O) (hm : len ≤ maxLen) :
    Calls Tryz.prog 15 #[.slice (some ⟨b, off, none⟩) len cap, .int .i64 2, .int .i64 2] w fun e w' => StepPost w e w' := by
  unfold maxLen at hm
  have hblt := h.lt
  have HS : Hid (Scr w b off len K A X Y Z S T O) := h
  clear h
  go_enter Tryz.func15, Tryz.ntmps15
  go_wp2_with fail
  go_loopg [8] len (fun gk iv wr => ∃ i : Nat, iv = .int .i64 i ∧ i ≤ len ∧ len - i ≤ gk ∧ Wd wr w.heap.size ∧ Below w.heap.size w wr)
  case atStart => exact ⟨0, rfl, Nat.zero_le _, by omega, heap_alloc_new w _, (Below.refl _ _).alloc (Nat.le_refl _) _⟩
  case round =>
    obtain ⟨i, rfl, hi, hgk, hW, hB⟩ := hrel
    have HW : Hid (Wd wr w.heap.size) := hW
    clear hW
    by_cases hlt : i < len
    · have hd : decide ((i : Int) < (len : Int)) = true := by simp; omega
      have q0 := (hB.cell (p := ⟨b, off + i * 8, none⟩) hblt).trans (HS.out.c0 i hlt)
      have q1 := (hB.cell (p := ⟨b, off + i * 8 + 1, none⟩) hblt).trans (HS.out.c1 i hlt)
      have q2 := (hB.cell (p := ⟨b, off + i * 8 + 2, none⟩) hblt).trans (HS.out.c2 i hlt)
      have q3 := (hB.cell (p := ⟨b, off + i * 8 + 3, none⟩) hblt).trans (HS.out.c3 i hlt)
      have q4 := (hB.cell (p := ⟨b, off + i * 8 + 4, none⟩) hblt).trans (HS.out.c4 i hlt)
      have q5 := (hB.cell (p := ⟨b, off + i * 8 + 5, none⟩) hblt).trans (HS.out.c5 i hlt)
      have q6 := (hB.cell (p := ⟨b, off + i * 8 + 6, none⟩) hblt).trans (HS.out.c6 i hlt)
      have q7 := (hB.cell (p := ⟨b, off + i * 8 + 7, none⟩) hblt).trans (HS.out.c7 i hlt)
      have hsm := HS.out.small i hlt
      generalize K i = k0 at q0
      generalize A i = k1 at q1
      generalize X i = k2 at q2
      generalize Y i = k3 at q3
      generalize Z i = k4 at q4
      generalize S i = s at q5 hsm
      generalize T i = t at q6
      generalize O i = o at q7
      by_cases hk1 : 2 ≤ k0
      · by_cases hk2 : k0 ≤ 2
        · obtain rfl : k0 = 2 := by omega
          go_wp2_with fail
          refine (step_weight _ (some ⟨w.heap.size, 0, none⟩) k1 k2 k3 k4 s t o hsm).mono ?_
          rintro e w2 ⟨rfl, hb2⟩
          have hz := hB.size
          have hW2 : Wd w2 w.heap.size := (hb2.block _ (by have := (Array.getElem?_eq_some_iff.1 HW.out).1; omega)).trans HW.out
          have hB2 : Below w.heap.size w w2 := hB.trans (hb2.mono hz)
          have HW2 : Hid (Wd w2 w.heap.size) := hW2
          clear q0 q1 q2 q3 q4 q5 q6 q7 hW2 hb2
          go_wp2
          go_roundg (len - (i + 1))
          case measure => omega
          case rel => exact ⟨i + 1, by go_num, by omega, Nat.le_refl _, HW2, hB2⟩
        · have hd2 : decide (k0 ≤ 2) = false := by simpa using hk2
          have hd1 : decide (2 ≤ k0) = true := by simpa using hk1
          go_wp2
          go_roundg (len - (i + 1))
          case measure => omega
          case rel => exact ⟨i + 1, by go_num, by omega, Nat.le_refl _, HW, hB⟩
      · have hd1 : decide (2 ≤ k0) = false := by simpa using hk1
        go_wp2
        go_roundg (len - (i + 1))
        case measure => omega
        case rel => exact ⟨i + 1, by go_num, by omega, Nat.le_refl _, HW, hB⟩
    · have hd : decide ((i : Int) < (len : Int)) = false := by simp; omega
      go_wp2_with fail
      refine (ends_any _ w.heap.size 2 HW.out).mono ?_
      rintro e w2 ⟨rfl, rfl⟩
      go_wp2_with fail
      refine (looks_any _ w.heap.size HW.out).mono ?_
      rintro e w3 ⟨rfl, rfl⟩
      go_wp2_with fail
      go_ret
      exact ⟨rfl, hB⟩

set_option maxHeartbeats 1000000 in
theorem weights_any (w : World) (b off len cap : Nat) (K A X Y Z : Nat → Int) (S T : Nat → ByteArray) (O : Nat → Bool) (h : Scr w b off len K A X Y Z S T O) (hm : len ≤ maxLen) :
    Calls Tryz.prog 4 #[.slice (some ⟨b, off, none⟩) len cap] w fun e w' => StepPost w e w' := by
  have HS : Hid (Scr w b off len K A X Y Z S T O) := h
  clear h
  go_enter Tryz.func4, Tryz.ntmps4
  go_wp2_with fail
  refine (plays_weight _ b off len cap K A X Y Z S T O HS.out hm).mono ?_
  rintro e w1 ⟨rfl, hb⟩
  go_wp2_with fail
  go_ret
  exact ⟨rfl, hb⟩

set_option maxHeartbeats 1000000 in
theorem weights_empty (w : World) (ao : Option Addr) (cap : Nat) :
    Calls Tryz.prog 4 #[.slice ao 0 cap] w fun e w' => StepPost w e w' := by
  go_enter Tryz.func4, Tryz.ntmps4
  go_wp2_with fail
  refine (plays_empty _ ao cap 2 2).mono ?_
  rintro e w1 ⟨rfl, hb⟩
  go_wp2_with fail
  go_ret
  exact ⟨rfl, hb⟩

theorem weights_args {W : World} {a0 : Option Addr} {len cap fuel : Nat} {H : Type} {enc : TypeId × Value → H} {x : DataW H × List MemPlace} (h : DataW.trod enc Tryz.prog W 0 (fun _ => true) true fuel 22 [.slice a0 len cap] = some x) :
    Calls Tryz.prog 4 #[.slice a0 len cap] W fun e w' => StepPost W e w' := by
  rcases open_script h with rfl | ⟨b, off, K, A, X, Y, Z, S, T, O, rfl, hs, hm⟩
  · exact weights_empty W a0 cap
  · exact weights_any W b off len cap K A X Y Z S T O hs hm

set_option maxRecDepth 100000 in
theorem weights_lifted (os : Os) (started : os.Started) (H : Type) (enc : TypeId × Value → H) :
    ReturnsInHanded {} Tryz.checked os 4 .any (Rows.weightsSpec.pre6 enc Tryz.prog Tryz.f4 Rows.weightsRow.domain false) (Rows.weightsSpec.post enc Tryz.prog Tryz.f4 false true false false) := by
  refine returnsInHanded_of_change (C := Tryz.checked) Tryz.own started (by kernel_rfl) Tryz.func4
    (ChangeSpec.witness6 (enc := enc) (C := Tryz.checked) false ⟨#[], #[.slice none 0 0], []⟩ 8 (by kernel_rfl) (by kernel_rfl) (by kernel_rfl) (by kernel_rfl)) ?_
  intro W base args ds gs before hval0 hW _ _
  have hval : ∀ (j : Nat) t v, Tryz.f4.params[j]? = some t → args[j]? = some v → Value.okWide Tryz.prog W .any base t v := hval0
  have hW' := hW
  obtain ⟨p, q, hA0, hV, rfl, _, _⟩ := hW
  have hA : DataW.TrodAll enc Tryz.prog W 0 (fun _ => true) true Tryz.f4.params.toList args.toList ds p := hA0
  rw [Tryz.params4] at hA hval
  obtain ⟨v0, d0, rfl, rfl, h0⟩ := trodAll_one hA
  obtain ⟨rfl, rfl⟩ := trodVars_none hV
  obtain ⟨a0, len, cap, rfl⟩ := okWide_slice Tryz.underlying22 (hval 0 22 v0 rfl rfl)
  have h0k := h0
  obtain ⟨fuel, hf⟩ := h0
  clear hA0 hval0
  simp only [List.append_nil] at hW'
  have hlt : ∀ x ∈ p, x.block < W.heap.size := fun x hx => by simpa using hW'.lt x hx
  have hargs : ∀ (W' : World), Below W.heap.size W W' → DataW.Trod enc Tryz.prog W' 0 (fun b => decide (b < W.heap.size)) true 22 (.slice a0 len cap) d0 p :=
    fun W' hn => Below.trod Tryz.laidOut (by kernel_rfl) (of_decide_eq_true (by kernel_rfl)) h0k hn hlt
  refine (weights_args (by simpa [Value.cells] using hf)).mono fun e W' ⟨he, hn⟩ => ?_
  subst he
  refine ⟨_, rfl, _, _, _, [], p, [], hW', ?_, ?_, rfl, hn.frame _, fun h => by cases h⟩
  · exact trodAll_mk1 (shut_bool Tryz.underlying4 true)
  · exact trodAll_mk1 (hargs _ hn)

theorem weights_holds : Rows.WeightsSaid :=
  OpenClaim.holds_of_wide 4 Tryz.f4 rfl rfl rfl rfl rfl rfl rfl ⟨rfl, rfl, rfl, rfl, rfl⟩ rfl rfl rfl rfl rfl (by kernel_rfl) Tryz.func4 (by kernel_rfl)
    (of_decide_eq_true (by kernel_rfl)) (by unfold Func.isWrapper; first | (rw [if_pos (by decide +kernel)]; kernel_rfl) | (rw [if_neg (by decide +kernel)]; exact ⟨rfl, rfl⟩))
    (fun os started H enc _ => weights_lifted os started H enc)

end Go.Proofs.YtblfffbmklkhmaaGreat
