/- A compound's text, cut part by part: plain mathematics, and the document's Cut and weighs. Own work. -/
import Derived.Test.YtblfffbmklkhmaaGreatWeigh3
namespace Go.Proofs.YtblfffbmklkhmaaGreat
open Go.RowKit

def cutK (s : ByteArray) (i : Nat) : Nat := if bt s i = 33 then 1 else 0
def cutM (a b k : Nat) : Nat := if a = 46 ∨ a = 35 then k + 2 else if a = 58 then (if b = 110 then k + 4 else k + 2) else k + 1
def cutN (s : ByteArray) (i : Nat) : Nat := cutM (bt s (i + cutK s i)) (bt s (i + cutK s i + 1)) (cutK s i)
def valM (a : Nat) : Nat := if a = 35 then 1000000 else if a = 46 ∨ a = 58 then 1000 else if a = 42 then 0 else 1
def cutV (s : ByteArray) (i : Nat) : Nat := valM (bt s (i + cutK s i))

def Cuts (s : ByteArray) : Nat → Nat → List Nat → Prop
  | i, q, [] => i = q
  | i, q, x :: xs => i + cutN s i ≤ q ∧ x = cutV s i ∧ Cuts s (i + cutN s i) q xs

theorem cutK_le (s : ByteArray) (i : Nat) : cutK s i ≤ 1 := by unfold cutK; split <;> omega
theorem cutM_ge (a b k : Nat) : k + 1 ≤ cutM a b k := by unfold cutM; (repeat' split) <;> omega
theorem cutN_pos (s : ByteArray) (i : Nat) : cutK s i + 1 ≤ cutN s i := cutM_ge _ _ _
theorem cutM_58 {b k : Nat} : k + 2 ≤ cutM 58 b k := by unfold cutM; (repeat' split) <;> omega

theorem cut_ext {s : ByteArray} {i q : Nat} (h : i + cutN s i ≤ q) (hq : q ≤ s.size) : cutN (s.extract i q) 0 = cutN s i ∧ cutV (s.extract i q) 0 = cutV s i := by
  have hk := cutN_pos s i
  have e0 : bt (s.extract i q) 0 = bt s i := by rw [bt_extract hq (by omega)]; rfl
  have eK : cutK (s.extract i q) 0 = cutK s i := by unfold cutK; rw [e0]
  have e1 : bt (s.extract i q) (0 + cutK s i) = bt s (i + cutK s i) := by rw [Nat.zero_add, bt_extract hq (by omega)]
  refine ⟨?_, by unfold cutV; rw [eK, e1]⟩
  unfold cutN at h ⊢
  rw [eK, e1]
  by_cases h58 : bt s (i + cutK s i) = 58
  · rw [h58] at h ⊢
    have := @cutM_58 (bt s (i + cutK s i + 1)) (cutK s i)
    rw [Nat.zero_add, bt_extract hq (by omega)]
    rfl
  · unfold cutM
    simp only [h58, if_false]

theorem part_cut {s : ByteArray} {i j : Nat} {p : PPt} (h' : goodPart s i p j) : i + cutN s i = j ∧ cutV s i = pw p.kd := by
  have h := h'.2
  obtain ⟨nt, kd, lt, st, sr⟩ := p
  by_cases h33 : bt s i = 33
  · rw [if_pos h33] at h
    have hk : cutK s i = 1 := by unfold cutK; rw [if_pos h33]
    unfold cutN cutV
    rw [hk]
    by_cases hl : isL (bt s (i + 1)) = true
    · rw [if_pos hl] at h
      obtain ⟨h1, rfl⟩ := h
      replace h1 : kd = 1 := h1
      subst h1
      simp only [isL, decide_eq_true_eq] at hl
      constructor
      · unfold cutM; rw [if_neg (by omega), if_neg (by omega)]
      · unfold valM pw; rw [if_neg (by omega), if_neg (by omega), if_neg (by omega)]; rfl
    · rw [if_neg hl] at h
      obtain ⟨_, g1, g2, rfl, g4, _⟩ := h
      replace g1 : kd ≠ 1 := g1
      replace g2 : kd = 3 ↔ _ := g2
      constructor
      · unfold cutM sl
        rcases g4 with g | g | g <;> rw [g] <;> simp <;> (try omega)
        split <;> omega
      · unfold valM pw
        by_cases g3 : kd = 3
        · rw [if_pos (g2.1 g3), if_pos g3]
        · rw [if_neg (fun e => g3 (g2.2 e)), if_neg g3, if_neg g1, if_pos (by have : bt s (i + 1) ≠ 35 := fun e => g3 (g2.2 e); omega)]
  · rw [if_neg h33] at h
    have hk : cutK s i = 0 := by unfold cutK; rw [if_neg h33]
    unfold cutN cutV
    rw [hk]
    obtain ⟨_, g1, g2, rfl, g4, _⟩ := h
    replace g1 : kd ≠ 1 := g1
    replace g2 : kd = 3 ↔ _ := g2
    constructor
    · unfold cutM sl
      simp only [Nat.add_zero]
      rcases g4 with g | g | g <;> rw [g] <;> simp
    · unfold valM pw
      simp only [Nat.add_zero]
      by_cases g3 : kd = 3
      · rw [if_pos (g2.1 g3), if_pos g3]
      · rw [if_neg (fun e => g3 (g2.2 e)), if_neg g3, if_neg g1, if_pos (by have : bt s i ≠ 35 := fun e => g3 (g2.2 e); omega)]

theorem parts_cuts {s : ByteArray} : ∀ {ks : List PPt} {i j : Nat}, PartsAt s i j ks → Cuts s i j (ks.map pwp)
  | [], _, _, h => h
  | k :: ks, i, j, ⟨_, l, h2, h3⟩ => by
    obtain ⟨e1, e2⟩ := part_cut h2
    have := (parts_le h3).1
    exact ⟨by omega, e2.symm, by rw [e1]; exact parts_cuts h3⟩

theorem comp_cuts {s : ByteArray} {p q ty : Nat} {ks : List PPt} (h : CompAt s p q ty ks) (hpq : p < q) : ∃ xs, Cuts s p q xs ∧ xs.sum = cw ty ks ∧ (∀ x ∈ xs, x ≤ 1000000) ∧ xs.length ≤ q - p := by
  have hp : ∀ x ∈ ks.map pwp, x ≤ 1000000 := fun x hx => by obtain ⟨k, _, rfl⟩ := List.mem_map.1 hx; exact pw_le k.kd
  rcases h with ⟨h1, h2, h3⟩ | ⟨h0, h1, h2, h3⟩ | ⟨_, _, h2, h3, _⟩
  · simp only [isL, decide_eq_true_eq] at h1
    have hk : cutK s p = 0 := by unfold cutK; rw [if_neg (by omega)]
    have hl := parts_len h3
    refine ⟨1 :: ks.map pwp, ⟨?_, ?_, ?_⟩, ?_, ?_, ?_⟩
    · unfold cutN; rw [hk]; unfold cutM; simp only [Nat.add_zero]; rw [if_neg (by omega), if_neg (by omega)]; omega
    · unfold cutV; rw [hk]; unfold valM; simp only [Nat.add_zero]; rw [if_neg (by omega), if_neg (by omega), if_neg (by omega)]
    · rw [show cutN s p = 1 from by unfold cutN; rw [hk]; unfold cutM; simp only [Nat.add_zero]; rw [if_neg (by omega), if_neg (by omega)]]
      exact parts_cuts h3
    · simp only [List.sum_cons, cw, pws]; rw [if_neg (by omega)]
    · intro x hx
      rcases List.mem_cons.1 hx with rfl | hx
      · omega
      · exact hp x hx
    · simp only [List.length_cons, List.length_map]; omega
  · have hk : cutK s p = 0 := by unfold cutK; rw [if_neg (by omega)]
    have hl := parts_len h3
    have hn : cutN s p = 1 := by unfold cutN; rw [hk]; unfold cutM; simp only [Nat.add_zero]; rw [if_neg (by omega), if_neg (by omega)]
    refine ⟨0 :: ks.map pwp, ⟨by omega, ?_, ?_⟩, ?_, ?_, ?_⟩
    · unfold cutV; rw [hk]; unfold valM; simp only [Nat.add_zero]; rw [if_neg (by omega), if_neg (by omega), if_pos h1]
    · rw [hn]; exact parts_cuts h3
    · simp only [List.sum_cons, cw, pws]; rw [if_pos h2]
    · intro x hx
      rcases List.mem_cons.1 hx with rfl | hx
      · omega
      · exact hp x hx
    · simp only [List.length_cons, List.length_map]; omega
  · have hl := parts_len h3
    refine ⟨ks.map pwp, parts_cuts h3, ?_, hp, by simpa using hl⟩
    simp only [cw, pws]; rw [if_pos h2]; omega

set_option maxRecDepth 100000 in
set_option maxHeartbeats 4000000 in
theorem cut_any (w : World) (u : ByteArray) (h : cutN u 0 ≤ u.size) (hs : u.size ≤ 400) :
    Calls Tryz.prog 135 #[.string u] w fun e w' => e = .returned (.tuple #[.string (u.extract 0 (cutN u 0)), .string (u.extract (cutN u 0) u.size)]) ∧ ∃ m, w' = w.drewN m := by
  have hpos := cutN_pos u 0
  by_cases h33 : bt u 0 = 33
  · have hk : cutK u 0 = 1 := by unfold cutK; rw [if_pos h33]
    rw [hk] at hpos
    have h1s : 1 < u.size := by omega
    have h0s : 0 < u.size := by omega
    have g33 : ((u[0].toNat : Int) == 33) = true := by rw [← bt_at u 0 h0s, h33]; rfl
    have hcn : cutN u 0 = cutM (bt u 1) (bt u 2) 1 := by unfold cutN; rw [hk]
    by_cases h46 : bt u 1 = 46
    · have g46 : ((u[1].toNat : Int) == 46) = true := by rw [← bt_at u 1 (by omega), h46]; rfl
      have HN : Hid (cutN u 0 = 3) := by unfold Hid; rw [hcn, h46]; rfl
      have hsz := HN.out
      rw [hsz] at h
      clear hsz hcn hpos hk h33 h46
      go_enter Tryz.func135, Tryz.ntmps135
      go_wp2
      go_quiet (fail)
      go_wp2
      go_ret2
      exact ⟨by rw [HN.out]; first | rfl | simp, _, rfl⟩
    have g46 : ((u[1].toNat : Int) == 46) = false := by rw [← bt_at u 1 (by omega)]; simp; omega
    by_cases h35 : bt u 1 = 35
    · have g35 : ((u[1].toNat : Int) == 35) = true := by rw [← bt_at u 1 (by omega), h35]; rfl
      have HN : Hid (cutN u 0 = 3) := by unfold Hid; rw [hcn, h35]; rfl
      have hsz := HN.out
      rw [hsz] at h
      clear hsz hcn hpos hk h33 h35 h46
      go_enter Tryz.func135, Tryz.ntmps135
      go_wp2
      go_quiet (fail)
      go_wp2
      go_ret2
      exact ⟨by rw [HN.out]; first | rfl | simp, _, rfl⟩
    have g35 : ((u[1].toNat : Int) == 35) = false := by rw [← bt_at u 1 (by omega)]; simp; omega
    by_cases h58 : bt u 1 = 58
    · have g58 : ((u[1].toNat : Int) == 58) = true := by rw [← bt_at u 1 (by omega), h58]; rfl
      rw [h58] at hcn
      have hge := @cutM_58 (bt u 2) 1
      have hs2 : 2 < u.size := by omega
      by_cases h110 : bt u 2 = 110
      · have g110 : ((u[2].toNat : Int) == 110) = true := by rw [← bt_at u 2 hs2, h110]; rfl
        have HN : Hid (cutN u 0 = 5) := by unfold Hid; rw [hcn, h110]; rfl
        have hsz := HN.out
        rw [hsz] at h
        clear hsz hcn hpos hk h33 h46 h35 h58 h110 hge
        go_enter Tryz.func135, Tryz.ntmps135
        go_wp2
        go_quiet (fail)
        go_wp2
        go_ret2
        exact ⟨by rw [HN.out]; first | rfl | simp, _, rfl⟩
      · have g110 : ((u[2].toNat : Int) == 110) = false := by rw [← bt_at u 2 hs2]; simp; omega
        have HN : Hid (cutN u 0 = 3) := by unfold Hid; rw [hcn]; unfold cutM; rw [if_neg (by omega), if_pos rfl, if_neg h110]
        have hsz := HN.out
        rw [hsz] at h
        clear hsz hcn hpos hk h33 h46 h35 h58 h110 hge
        go_enter Tryz.func135, Tryz.ntmps135
        go_wp2
        go_quiet (fail)
        go_wp2
        go_ret2
        exact ⟨by rw [HN.out]; first | rfl | simp, _, rfl⟩
    have g58 : ((u[1].toNat : Int) == 58) = false := by rw [← bt_at u 1 (by omega)]; simp; omega
    have HN : Hid (cutN u 0 = 2) := by unfold Hid; rw [hcn]; unfold cutM; rw [if_neg (by omega), if_neg h58]
    have hsz := HN.out
    rw [hsz] at h
    clear hsz hcn hpos hk h33 h46 h35 h58
    go_enter Tryz.func135, Tryz.ntmps135
    go_wp2
    go_quiet (fail)
    go_wp2
    go_ret2
    exact ⟨by rw [HN.out]; first | rfl | simp, _, rfl⟩
  · have hk : cutK u 0 = 0 := by unfold cutK; rw [if_neg h33]
    rw [hk] at hpos
    have h0s : 0 < u.size := by omega
    have g33 : ((u[0].toNat : Int) == 33) = false := by rw [← bt_at u 0 h0s]; simp; omega
    have hcn : cutN u 0 = cutM (bt u 0) (bt u 1) 0 := by unfold cutN; rw [hk]
    by_cases h46 : bt u 0 = 46
    · have g46 : ((u[0].toNat : Int) == 46) = true := by rw [← bt_at u 0 (by omega), h46]; rfl
      have HN : Hid (cutN u 0 = 2) := by unfold Hid; rw [hcn, h46]; rfl
      have hsz := HN.out
      rw [hsz] at h
      clear hsz hcn hpos hk h33 h46
      go_enter Tryz.func135, Tryz.ntmps135
      go_wp2
      go_quiet (fail)
      go_wp2
      go_ret2
      exact ⟨by rw [HN.out]; first | rfl | simp, _, rfl⟩
    have g46 : ((u[0].toNat : Int) == 46) = false := by rw [← bt_at u 0 (by omega)]; simp; omega
    by_cases h35 : bt u 0 = 35
    · have g35 : ((u[0].toNat : Int) == 35) = true := by rw [← bt_at u 0 (by omega), h35]; rfl
      have HN : Hid (cutN u 0 = 2) := by unfold Hid; rw [hcn, h35]; rfl
      have hsz := HN.out
      rw [hsz] at h
      clear hsz hcn hpos hk h33 h35 h46
      go_enter Tryz.func135, Tryz.ntmps135
      go_wp2
      go_quiet (fail)
      go_wp2
      go_ret2
      exact ⟨by rw [HN.out]; first | rfl | simp, _, rfl⟩
    have g35 : ((u[0].toNat : Int) == 35) = false := by rw [← bt_at u 0 (by omega)]; simp; omega
    by_cases h58 : bt u 0 = 58
    · have g58 : ((u[0].toNat : Int) == 58) = true := by rw [← bt_at u 0 (by omega), h58]; rfl
      rw [h58] at hcn
      have hge := @cutM_58 (bt u 1) 0
      have hs2 : 1 < u.size := by omega
      by_cases h110 : bt u 1 = 110
      · have g110 : ((u[1].toNat : Int) == 110) = true := by rw [← bt_at u 1 hs2, h110]; rfl
        have HN : Hid (cutN u 0 = 4) := by unfold Hid; rw [hcn, h110]; rfl
        have hsz := HN.out
        rw [hsz] at h
        clear hsz hcn hpos hk h33 h46 h35 h58 h110 hge
        go_enter Tryz.func135, Tryz.ntmps135
        go_wp2
        go_quiet (fail)
        go_wp2
        go_ret2
        exact ⟨by rw [HN.out]; first | rfl | simp, _, rfl⟩
      · have g110 : ((u[1].toNat : Int) == 110) = false := by rw [← bt_at u 1 hs2]; simp; omega
        have HN : Hid (cutN u 0 = 2) := by unfold Hid; rw [hcn]; unfold cutM; rw [if_neg (by omega), if_pos rfl, if_neg h110]
        have hsz := HN.out
        rw [hsz] at h
        clear hsz hcn hpos hk h33 h46 h35 h58 h110 hge
        go_enter Tryz.func135, Tryz.ntmps135
        go_wp2
        go_quiet (fail)
        go_wp2
        go_ret2
        exact ⟨by rw [HN.out]; first | rfl | simp, _, rfl⟩
    have g58 : ((u[0].toNat : Int) == 58) = false := by rw [← bt_at u 0 (by omega)]; simp; omega
    have HN : Hid (cutN u 0 = 1) := by unfold Hid; rw [hcn]; unfold cutM; rw [if_neg (by omega), if_neg h58]
    have hsz := HN.out
    rw [hsz] at h
    clear hsz hcn hpos hk h33 h46 h35 h58
    go_enter Tryz.func135, Tryz.ntmps135
    go_wp2
    go_quiet (fail)
    go_wp2
    go_ret2
    exact ⟨by rw [HN.out]; first | rfl | simp, _, rfl⟩

end Go.Proofs.YtblfffbmklkhmaaGreat
