/- The document's answer: the place, the first byte of a kind, the note. Own work. -/
import Derived.Test.YtblfffbmklkhmaaGreatRefDecl
import Derived.Test.YtblfffbmklkhmaaGreatScan
import Derived.Test.YtblfffbmklkhmaaGreatFrame
namespace Go.Proofs.YtblfffbmklkhmaaGreat
open Go.RowKit

abbrev K0 : Cn := ⟨0, 0, -1⟩

set_option maxHeartbeats 1000000 in
theorem place_any (w : World) (s : ByteArray) (hs : s.size ≤ 400) : Calls Tryz.prog 129 #[.string s] w fun e w' => e = .returned (.int .i64 (V s 0 K0 0).1) ∧ w' = w := by
  go_enter Tryz.func129, Tryz.ntmps129
  go_wp2
  go_loop [3, 4] (fun mv i => ∃ (k : Nat) (m : Int), k ≤ s.size ∧ i = .int .i64 k ∧ mv = .int .i64 m ∧ 0 ≤ m ∧ m ≤ 17 ∧ Hid (∃ kk, V s 0 K0 0 = V s m kk k)) (fun _ i => s.size - (intOf i).toNat)
  case atStart => exact ⟨0, 0, Nat.zero_le _, rfl, rfl, by decide, by decide, ⟨_, rfl⟩⟩
  case round =>
    obtain ⟨k, m, hk, rfl, rfl, hm0, hm1, HV⟩ := hrel
    by_cases hlt : k < s.size
    · go_wp2_with fail
      have hbt := bt_at s k hlt
      rw [← hbt]
      refine (next_any _ m (bt s k) hm0 hm1).mono ?_
      rintro e w1 ⟨rfl, rfl⟩
      clear hbt
      have hr := nxt_range m (bt s k)
      by_cases hn : nxt m (bt s k) = -1
      · have HR : Hid ((V s 0 K0 0).1 = k) := by
          obtain ⟨kk, h⟩ := HV.out
          unfold Hid
          rw [h, V_stop hlt hn]
        rw [hn]
        clear hn hr
        go_wp2
        go_ret
        exact ⟨by rw [HR.out]; rfl, rfl⟩
      · have HR : Hid (∃ kk, V s 0 K0 0 = V s (nxt m (bt s k)) kk (k + 1)) := by
          obtain ⟨kk, h⟩ := HV.out
          exact ⟨_, by rw [h, V_go hlt rfl hn]⟩
        generalize nxt m (bt s k) = m' at hr hn HR
        have hg : (m' == -1) = false := by simp [hn]
        clear hn
        go_wp2
        go_round
        case rel => exact ⟨k + 1, m', by omega, by go_num, rfl, by simp only [beq_eq_false_iff_ne] at hg; omega, hr.2, HR⟩
        case measure => simp [intOf]; omega
    · obtain rfl : k = s.size := by omega
      by_cases hm : m = 0
      · subst hm
        have HR : Hid ((V s 0 K0 0).1 = -1) := by
          obtain ⟨kk, h⟩ := HV.out
          unfold Hid
          rw [h, V_end (Nat.le_refl _)]; rfl
        have hg : ((0 : Int) != 0) = false := rfl
        go_wp2
        go_ret
        exact ⟨by rw [HR.out]; rfl, rfl⟩
      · have HR : Hid ((V s 0 K0 0).1 = s.size) := by
          obtain ⟨kk, h⟩ := HV.out
          unfold Hid
          rw [h, V_end (Nat.le_refl _), if_neg hm]
        have hg : (m != 0) = true := by simp [hm]
        clear hm
        go_wp2
        go_ret
        exact ⟨by rw [HR.out]; rfl, rfl⟩

/-- The first byte of a kind from a place on. -/
def Unt (s : ByteArray) (f : Nat) (c : Nat) (r : Nat) : Prop := f ≤ r ∧ r ≤ s.size ∧ (∀ j, f ≤ j → j < r → bt s j ≠ c) ∧ (r < s.size → bt s r = c)

set_option maxHeartbeats 1000000 in
theorem until_any (w : World) (s : ByteArray) (f c : Nat) (hs : s.size ≤ 400) (hf : f ≤ s.size) : Calls Tryz.prog 131 #[.string s, .int .i64 f, .int .u8 c] w fun e w' => ∃ r : Nat, e = .returned (.int .i64 r) ∧ w' = w ∧ Hid (Unt s f c r) := by
  go_enter Tryz.func131, Tryz.ntmps131
  go_wp2
  go_loop [7] (fun i => ∃ k : Nat, f ≤ k ∧ k ≤ s.size ∧ i = .int .i64 k ∧ Hid (∀ j, f ≤ j → j < k → bt s j ≠ c)) (fun i => s.size - (intOf i).toNat)
  case atStart => exact ⟨f, Nat.le_refl _, hf, rfl, fun j h1 h2 => by omega⟩
  case round =>
    obtain ⟨k, hfk, hk, rfl, HN⟩ := hrel
    by_cases hlt : k < s.size
    · by_cases hc : bt s k = c
      · have HC : Hid (Unt s f c k) := ⟨hfk, hk, HN.out, fun _ => hc⟩
        have he : ((s[k].toNat : Int) == (c : Int)) = true := by rw [← bt_at s k hlt, hc]; simp
        clear hc
        go_wp2
        go_ret
        exact ⟨k, rfl, rfl, HC⟩
      · have HN2 : Hid (∀ j, f ≤ j → j < k + 1 → bt s j ≠ c) := by
          intro j h1 h2
          by_cases e : j = k
          · rw [e]; exact hc
          · exact HN.out j h1 (by omega)
        have he : ((s[k].toNat : Int) == (c : Int)) = false := by rw [← bt_at s k hlt]; simp; omega
        clear hc
        go_wp2
        go_round
        case rel => exact ⟨k + 1, by omega, by omega, by go_num, HN2⟩
        case measure => simp [intOf]; omega
    · obtain rfl : k = s.size := by omega
      have HC : Hid (Unt s f c s.size) := ⟨hf, Nat.le_refl _, HN.out, fun h => by omega⟩
      go_wp2
      go_ret
      exact ⟨s.size, rfl, rfl, HC⟩

/-- The document's sheet: its rules, the first place above a bound. -/
def Sh (w : World) (b : Nat) (v : Value) (mn : Int) : Prop := w.heap[b]? = some (.cells #[v, .int .i64 mn] 160 (0, 0))

theorem Sh.c0 {w : World} {b : Nat} {v : Value} {mn : Int} (h : Sh w b v mn) : w.cell? ⟨b, 0, none⟩ = some v := cell_of_blk h rfl
theorem Sh.c1 {w : World} {b : Nat} {v : Value} {mn : Int} (h : Sh w b v mn) : w.cell? ⟨b, 1, none⟩ = some (.int .i64 mn) := cell_of_blk h rfl
theorem Sh.fr {w : World} {b : Nat} {v : Value} {mn : Int} (h : Sh w b v mn) (k : Nat) : w.frozen? ⟨b, k, none⟩ = false := frozen_of_blk h
theorem Sh.lt {w : World} {b : Nat} {v : Value} {mn : Int} (h : Sh w b v mn) : b < w.heap.size := (Array.getElem?_eq_some_iff.1 h).1
theorem Sh.set1 {w : World} {b : Nat} {v : Value} {mn : Int} (h : Sh w b v mn) (x : Int) : Sh (w.setCell ⟨b, 1, none⟩ (.int .i64 x)) b v x := by
  unfold Sh
  rw [heap_setCell_row h]
  rfl
theorem Sh.set0 {w : World} {b : Nat} {v : Value} {mn : Int} (h : Sh w b v mn) (x : Value) : Sh (w.setCell ⟨b, 0, none⟩ x) b x mn := by
  unfold Sh
  rw [heap_setCell_row h]
  rfl

/-- A place that has been noted, or none. -/
def Noted (mn : Int) (i : Nat) : Prop := mn = -1 ∨ (0 ≤ mn ∧ mn ≤ i)

set_option maxHeartbeats 1000000 in
theorem noted_any (w : World) (b : Nat) (v : Value) (mn : Int) (i : Nat) (h : Sh w b v mn) (hn : Hid (Noted mn i)) :
    Calls Tryz.prog 130 #[.pointer (some ⟨b, 0, none⟩), .int .i64 i] w fun e w' => e = .returned (.tuple #[]) ∧ Sh w' b v (note mn i) ∧ w.grownBy w' (some b) := by
  have c1 := h.c1
  have f1 := h.fr 1
  by_cases hm : mn = -1
  · subst hm
    have hd : decide ((-1 : Int) < 0) = true := by decide
    go_enter Tryz.func130, Tryz.ntmps130
    go_wp2
    go_end0
    exact ⟨rfl, by simpa [note] using h.set1 i, gb_set (gb_refl _ _) _ _⟩
  · have h2 : 0 ≤ mn ∧ mn ≤ i := by rcases hn.out with h | h <;> omega
    have hd : decide (mn < 0) = false := by simp; omega
    have hd2 : decide ((i : Int) < mn) = false := by simp; omega
    have HM : Hid (¬ mn = -1) := hm
    clear hm
    go_enter Tryz.func130, Tryz.ntmps130
    go_wp2
    go_end0
    exact ⟨rfl, by simpa [note, HM.out] using h, gb_refl _ _⟩

end Go.Proofs.YtblfffbmklkhmaaGreat
