/- A value of a declaration. Own work. -/
import Derived.Test.YtblfffbmklkhmaaGreatCompound
namespace Go.Proofs.YtblfffbmklkhmaaGreat
open Go.RowKit

/-- The number that t digits tell. -/
def numV (s : ByteArray) (i : Nat) : Nat → Int
  | 0 => 0
  | t + 1 => numV s i t * 10 + ((bt s (i + t) : Int) - 48)
theorem dig_of {c : Nat} (h : isD c = true) : 48 ≤ c ∧ c ≤ 57 := by simpa only [isD, decide_eq_true_eq] using h
structure NumRel (w : World) (b : Nat) (s : ByteArray) (i : Nat) (m : Int) (gk : Nat) (wr : World) (t : Nat) (n : Int) : Prop where
  at' : At w wr b s (i + t) m
  lo : 1 ≤ t
  hi : t ≤ 3
  gk : 3 - t ≤ gk
  sim : Sim s 12 i (12 + (t : Int)) (i + t)
  val : n = numV s i t
  dig : ∀ k, i ≤ k → k < i + t → isD (bt s k) = true
  nlo : 0 ≤ n
  nhi : t < 3 → n ≤ 99

def NumPost (w : World) (b : Nat) (s : ByteArray) (i : Nat) (m : Int) (e : Ending) (w' : World) : Prop :=
  (∃ (nv : Int) (j : Nat), e = .returned (.tuple #[.int .i64 nv, .bool true]) ∧ At w w' b s j m ∧ Hid (Sim s 12 i 15 j ∧ i < j ∧ j ≤ i + 3 ∧ nv = numV s i (j - i) ∧ (∀ k, i ≤ k → k < j → isD (bt s k) = true) ∧ (j = i + 3 ∨ isD (bt s j) = false))) ∨
  (e = .returned (.tuple #[.int .i64 0, .bool false]) ∧ At w w' b s i m ∧ Hid (isD (bt s i) = false))

theorem num_first {s : ByteArray} {i : Nat} (h : isD (bt s i) = true ∧ i < s.size) : Sim s 12 i 13 (i + 1) := sim_go h.2 (by simp [nxt, h.1]) (by decide) (fun k => by simp [cnt])
theorem num_more {s : ByteArray} {i t : Nat} (h : isD (bt s i) = true ∧ i < s.size) (ht : t = 1 ∨ t = 2) : Sim s (12 + (t : Int)) i (12 + ((t + 1 : Nat) : Int)) (i + 1) := by
  rcases ht with rfl | rfl
  · exact sim_go h.2 (by simp [nxt, h.1]) (by decide) (fun k => by simp [cnt])
  · exact sim_go h.2 (by simp [nxt, h.1]) (by decide) (fun k => by simp [cnt])
theorem num_stop {s : ByteArray} {i t : Nat} (h : isD (bt s i) = false) (ht : t = 1 ∨ t = 2) : Sim s (12 + (t : Int)) i 15 i := by
  rcases ht with rfl | rfl
  · exact sim_same (by decide) (by decide) (by simp [nxt, h]) (fun k => by simp [cnt])
  · exact sim_same (by decide) (by decide) (by simp [nxt, h]) (fun k => by simp [cnt])

set_option maxHeartbeats 1000000 in
theorem number_any (w : World) (b : Nat) (s : ByteArray) (i : Nat) (m : Int) (h : Rd w b s i m) :
    Calls Tryz.prog 215 #[.pointer (some ⟨b, 0, none⟩)] w fun e w' => NumPost w b s i m e w' := by
  go_enter Tryz.func215, Tryz.ntmps215
  go_wp2_with fail
  refine (digit_any _ b s i m (by exact h)).mono ?_
  rintro e w1 (⟨rfl, ha, hf⟩ | ⟨rfl, ha, hf⟩)
  · go_wp2_with fail
    go_loopg [4, 6] 2 (fun gk nv tv wr => ∃ (t : Nat) (n : Int), nv = .int .i64 n ∧ tv = .int .i64 t ∧ NumRel w b s i m gk wr t n)
    case atStart => exact ⟨1, _, rfl, rfl, ha, by omega, by omega, by omega, num_first hf.out, by simp [numV], fun k h1 h2 => (show i = k from by omega) ▸ hf.out.1, by have := dig_of hf.out.1; omega, fun _ => by have := dig_of hf.out.1; omega⟩
    case round =>
      obtain ⟨t, n, rfl, rfl, R⟩ := hrel
      have hlo := R.lo
      have hhi := R.hi
      by_cases ht : t < 3
      · go_wp2_with fail
        refine (digit_any _ b s (i + t) m (by exact R.at'.rd)).mono ?_
        rintro e w2 (⟨rfl, ha2, hf2⟩ | ⟨rfl, ha2, hf2⟩)
        · have hd2 := dig_of hf2.out.1
          have hn0 := R.nlo
          have hn1 := R.nhi ht
          have R2 : NumRel w b s i m (gk - 1) w2 (t + 1) (n * 10 + ((bt s (i + t) : Int) - 48)) := ⟨R.at'.trans ha2, by omega, by omega, by have := R.gk; omega, R.sim.trans (num_more hf2.out (by omega)), by rw [R.val]; rfl, fun k h1 h2 => by
            by_cases e : k = i + t
            · rw [e]; exact hf2.out.1
            · exact R.dig k h1 (by omega), by omega, fun h3 => by
              obtain rfl : t = 1 := by omega
              have h9 : n ≤ 9 := by
                have hv := R.val
                have := dig_of (R.dig i (Nat.le_refl _) (by omega))
                simp [numV] at hv
                omega
              omega⟩
          have hgk := R.gk
          clear R
          go_wp2
          go_roundg (gk - 1)
          case measure => omega
          case rel => exact ⟨t + 1, _, by go_num, by go_num, R2⟩
        · go_wp2
          go_ret2
          exact Or.inl ⟨_, i + t, rfl, R.at'.trans ha2, R.sim.trans (num_stop hf2.out (by omega)), by omega, by omega, by rw [Nat.add_sub_cancel_left]; exact R.val, R.dig, Or.inr hf2.out⟩
      · obtain rfl : t = 3 := by omega
        go_wp2
        go_ret2
        exact Or.inl ⟨_, i + 3, rfl, R.at', R.sim, by omega, by omega, by rw [Nat.add_sub_cancel_left]; exact R.val, R.dig, Or.inl rfl⟩
  · go_wp2
    go_ret2
    exact Or.inr ⟨rfl, ha, hf⟩

/-- From i to j there is this value. -/
def ValAt (s : ByteArray) (i j : Nat) (kd nv vr : Int) : Prop :=
  (bt s i = 105 ∧ kd = 2 ∧ nv = 0 ∧ vr = 0 ∧ j = i + 1) ∨ (bt s i = 114 ∧ kd = 3 ∧ nv = 0 ∧ vr = 0 ∧ j = i + 1) ∨ (bt s i = 117 ∧ kd = 4 ∧ nv = 0 ∧ vr = 0 ∧ j = i + 1) ∨
  (bt s i = 36 ∧ kd = 5 ∧ nv = 0 ∧ vr = bt s (i + 1) ∧ isV (bt s (i + 1)) = true ∧ j = i + 2) ∨
  (kd = 1 ∧ nv = numV s i (j - i) ∧ vr = 0 ∧ i < j ∧ j ≤ i + 3 ∧ (∀ k, i ≤ k → k < j → isD (bt s k) = true) ∧ (j = i + 3 ∨ isD (bt s j) = false))
def ValPost (w : World) (b : Nat) (s : ByteArray) (i : Nat) (m : Int) (e : Ending) (w' : World) : Prop :=
  (∃ (kd nv vr : Int) (j : Nat), e = .returned (.tuple #[.agg #[.int .i64 kd, .int .i64 nv, .int .u8 vr], .bool true]) ∧ At w w' b s j m ∧ Hid (Sim s 12 i 15 j ∧ i < j ∧ ValAt s i j kd nv vr)) ∨
  (∃ (kd nv vr : Int) (j : Nat), e = .returned (.tuple #[.agg #[.int .i64 kd, .int .i64 nv, .int .u8 vr], .bool false]) ∧ At w w' b s j m ∧ Hid (Bad s 12 i j))

theorem val_word {s : ByteArray} {i : Nat} (h : bt s i = 105 ∨ bt s i = 114 ∨ bt s i = 117) : Sim s 12 i 15 (i + 1) ∧ i + 1 ≤ s.size := by
  have hi : i < s.size := lt_of_bt (by omega)
  refine ⟨sim_go hi ?_ (by decide) (fun k => by simp [cnt]), hi⟩
  have hd : isD (bt s i) = false := by simp only [isD, decide_eq_false_iff_not]; omega
  have h36 : ¬ bt s i = 36 := by omega
  simp [nxt, hd, h36, wh, h]
theorem val_var {s : ByteArray} {i : Nat} (h : bt s i = 36) : Sim s 12 i 17 (i + 1) ∧ i < s.size := by
  have hi : i < s.size := lt_of_bt (by omega)
  exact ⟨sim_go hi (by simp [nxt, h, isD]) (by decide) (fun k => by simp [cnt]), hi⟩
theorem val_no {s : ByteArray} {i : Nat} (hd : isD (bt s i) = false) (h1 : bt s i ≠ 105) (h2 : bt s i ≠ 114) (h3 : bt s i ≠ 117) (h4 : bt s i ≠ 36) : Bad s 12 i i :=
  bad_no (by decide) (by simp [nxt, hd, h1, h2, h3, h4, wh])
theorem var_yes {s : ByteArray} {i : Nat} (h : isV (bt s i) = true ∧ i < s.size) : Sim s 17 i 15 (i + 1) := sim_go h.2 (by simp [nxt, h.1, wh]) (by decide) (fun k => by simp [cnt])
theorem var_no {s : ByteArray} {i : Nat} (h : isV (bt s i) = false) : Bad s 17 i i := bad_no (by decide) (by simp [nxt, h, wh])

abbrev valZero : Obj := Obj.cells #[Value.int IntKind.i64 0, Value.int IntKind.i64 0, Value.int IntKind.u8 0] 219

set_option maxHeartbeats 2000000 in
theorem value_any (w : World) (b : Nat) (s : ByteArray) (i : Nat) (m : Int) (h : Rd w b s i m) :
    Calls Tryz.prog 208 #[.pointer (some ⟨b, 0, none⟩)] w fun e w' => ValPost w b s i m e w' := by
  have hb := h.lt
  have c1 := h.c1
  have f1 := h.fr 1
  have hle := h.le
  have htop := h.top
  go_enter Tryz.func208, Tryz.ntmps208
  go_wp2_with fail
  refine (peek_any _ b s i m (by exact h.alloc _)).mono ?_
  rintro e w1 ⟨rfl, n1, rfl⟩
  by_cases k1 : bt s i = 105
  · have g1 : ((bt s i : Int) == 105) = true := by simp [k1]
    have K1 : Hid (bt s i = 105) := k1
    clear k1
    go_wp2_with fail
    have hp := val_word (Or.inl K1.out)
    exact bodyPost_ret (v := .tuple #[.agg #[.int .i64 2, .int .i64 0, .int .u8 0], .bool true]) (by simp [results, Tryz.results208, go_sem]) rfl (Or.inl ⟨2, 0, 0, i + 1, rfl, ((((h.at0.alloc _).drewN _).setAt hp.2 (by omega)).set3 hb (Nat.le_refl _) _ _ _), hp.1, by omega, Or.inl ⟨K1.out, rfl, rfl, rfl, rfl⟩⟩)
  have g1 : ((bt s i : Int) == 105) = false := by simp; omega
  by_cases k2 : bt s i = 114
  · have g2 : ((bt s i : Int) == 114) = true := by simp [k2]
    have K1 : Hid (bt s i = 114) := k2
    clear k1 k2
    go_wp2_with fail
    have hp := val_word (Or.inr (Or.inl K1.out))
    exact bodyPost_ret (v := .tuple #[.agg #[.int .i64 3, .int .i64 0, .int .u8 0], .bool true]) (by simp [results, Tryz.results208, go_sem]) rfl (Or.inl ⟨3, 0, 0, i + 1, rfl, ((((h.at0.alloc _).drewN _).setAt hp.2 (by omega)).set3 hb (Nat.le_refl _) _ _ _), hp.1, by omega, (Or.inr <| Or.inl ⟨K1.out, rfl, rfl, rfl, rfl⟩)⟩)
  have g2 : ((bt s i : Int) == 114) = false := by simp; omega
  by_cases k3 : bt s i = 117
  · have g3 : ((bt s i : Int) == 117) = true := by simp [k3]
    have K1 : Hid (bt s i = 117) := k3
    clear k1 k2 k3
    go_wp2_with fail
    have hp := val_word (Or.inr (Or.inr K1.out))
    exact bodyPost_ret (v := .tuple #[.agg #[.int .i64 4, .int .i64 0, .int .u8 0], .bool true]) (by simp [results, Tryz.results208, go_sem]) rfl (Or.inl ⟨4, 0, 0, i + 1, rfl, ((((h.at0.alloc _).drewN _).setAt hp.2 (by omega)).set3 hb (Nat.le_refl _) _ _ _), hp.1, by omega, (Or.inr <| Or.inr <| Or.inl ⟨K1.out, rfl, rfl, rfl, rfl⟩)⟩)
  have g3 : ((bt s i : Int) == 117) = false := by simp; omega
  by_cases k4 : bt s i = 36
  · have g4 : ((bt s i : Int) == 36) = true := by simp [k4]
    have K1 : Hid (bt s i = 36) := k4
    clear k1 k2 k3 k4
    have hp := val_var K1.out
    have HP : Hid (Sim s 12 i 17 (i + 1)) := hp.1
    have hlt := hp.2
    clear hp
    go_wp2_with fail
    have ha := ((h.at0.alloc valZero).drewN n1).setAt (j := i + 1) (v := (i : Int) + 1) (by omega) (by omega)
    refine (variable_any _ b s (i + 1) m (by exact ha.rd)).mono ?_
    rintro e w2 (⟨rfl, ha2, hf2⟩ | ⟨rfl, ha2, hf2⟩)
    · have ha3 := ha.trans ha2
      obtain ⟨hc, hz⟩ := ha2.cells w.heap.size (by simp [World.setCell]) (by omega)
      go_wp2_with fail
      exact bodyPost_ret (v := .tuple #[.agg #[.int .i64 5, .int .i64 0, .int .u8 (bt s (i + 1))], .bool true]) (by simp [results, Tryz.results208, go_sem, hc]) rfl (Or.inl ⟨5, 0, _, i + 2, rfl, ha3.set3 hb (Nat.le_refl _) _ _ _, HP.out.trans (var_yes hf2.out), by omega, Or.inr (Or.inr (Or.inr (Or.inl ⟨K1.out, rfl, rfl, rfl, hf2.out.1, rfl⟩)))⟩)
    · have ha3 := ha.trans ha2
      obtain ⟨hc, hz⟩ := ha2.cells w.heap.size (by simp [World.setCell]) (by omega)
      go_wp2_with fail
      exact bodyPost_ret (v := .tuple #[.agg #[.int .i64 5, .int .i64 0, .int .u8 0], .bool false]) (by simp [results, Tryz.results208, go_sem, hc]) rfl (Or.inr ⟨5, 0, 0, i + 1, rfl, ha3.set3 hb (Nat.le_refl _) _ _ _, HP.out.bad (var_no hf2.out)⟩)
  · have g4 : ((bt s i : Int) == 36) = false := by simp; omega
    have HN : Hid (bt s i ≠ 105 ∧ bt s i ≠ 114 ∧ bt s i ≠ 117 ∧ bt s i ≠ 36) := ⟨k1, k2, k3, k4⟩
    clear k1 k2 k3 k4
    go_wp2_with fail
    have ha := (h.at0.alloc valZero).drewN n1
    refine (number_any _ b s i m (by exact ha.rd)).mono ?_
    rintro e w2 (⟨nv, j, rfl, ha2, hf2⟩ | ⟨rfl, ha2, hf2⟩)
    · have ha3 := ha.trans ha2
      obtain ⟨hc, hz⟩ := ha2.cells w.heap.size (by simp) (by omega)
      go_wp2_with fail
      exact bodyPost_ret (v := .tuple #[.agg #[.int .i64 1, .int .i64 nv, .int .u8 0], .bool true]) (by simp [results, Tryz.results208, go_sem, hc]) rfl (Or.inl ⟨1, nv, 0, j, rfl, ha3.set3 hb (Nat.le_refl _) _ _ _, hf2.out.1, hf2.out.2.1, Or.inr (Or.inr (Or.inr (Or.inr ⟨rfl, hf2.out.2.2.2.1, rfl, hf2.out.2.1, hf2.out.2.2.1, hf2.out.2.2.2.2⟩)))⟩)
    · have ha3 := ha.trans ha2
      obtain ⟨hc, hz⟩ := ha2.cells w.heap.size (by simp) (by omega)
      go_wp2_with fail
      obtain ⟨q1, q2, q3, q4⟩ := HN.out
      exact bodyPost_ret (v := .tuple #[.agg #[.int .i64 1, .int .i64 0, .int .u8 0], .bool false]) (by simp [results, Tryz.results208, go_sem, hc]) rfl (Or.inr ⟨1, 0, 0, i, rfl, ha3.set3 hb (Nat.le_refl _) _ _ _, val_no hf2.out q1 q2 q3 q4⟩)

end Go.Proofs.YtblfffbmklkhmaaGreat
