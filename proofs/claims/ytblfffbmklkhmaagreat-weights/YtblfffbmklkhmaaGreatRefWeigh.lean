/- The weight of a selector: the document's. Own work. -/
import Derived.Test.YtblfffbmklkhmaaGreatCuts
namespace Go.Proofs.YtblfffbmklkhmaaGreat
open Go.RowKit

/-- The first byte of what is left. -/
theorem weighs_tail (c : Nat) : ((c : Int) == 35) = true ∧ valM c = 1000000 ∨ ((c : Int) == 35) = false ∧ (((c : Int) == 46) = true ∧ valM c = 1000 ∨ ((c : Int) == 46) = false ∧ (((c : Int) == 58) = true ∧ valM c = 1000 ∨ ((c : Int) == 58) = false ∧ (((c : Int) == 42) = true ∧ valM c = 0 ∨ ((c : Int) == 42) = false ∧ valM c = 1))) := by
  by_cases h1 : c = 35
  · left; subst h1; exact ⟨rfl, rfl⟩
  right
  refine ⟨by simp; omega, ?_⟩
  by_cases h2 : c = 46
  · left; subst h2; exact ⟨rfl, rfl⟩
  right
  refine ⟨by simp; omega, ?_⟩
  by_cases h3 : c = 58
  · left; subst h3; exact ⟨rfl, rfl⟩
  right
  refine ⟨by simp; omega, ?_⟩
  by_cases h4 : c = 42
  · left; subst h4; exact ⟨rfl, rfl⟩
  right
  exact ⟨by simp; omega, by unfold valM; rw [if_neg h1, if_neg (by omega), if_neg h4]⟩

set_option maxRecDepth 100000 in
set_option maxHeartbeats 4000000 in
theorem weighs_any (w : World) (t : ByteArray) (h1 : cutK t 0 < t.size) (hs : t.size ≤ 400) :
    Calls Tryz.prog 136 #[.string t] w fun e w' => e = .returned (.int .i64 (cutV t 0)) ∧ w' = w := by
  by_cases h33 : bt t 0 = 33
  · have hk : cutK t 0 = 1 := by unfold cutK; rw [if_pos h33]
    rw [hk] at h1
    have h0s : 0 < t.size := by omega
    have g33 : ((t[0].toNat : Int) == 33) = true := by rw [← bt_at t 0 h0s, h33]; rfl
    have HV : Hid (cutV t 0 = valM (bt (t.extract 1 t.size) 0)) := by
      unfold Hid cutV
      rw [hk, bt_extract (Nat.le_refl _) (by omega)]
    have hvs : 0 < (t.extract 1 t.size).size := by rw [ByteArray.size_extract]; omega
    have hvl : (t.extract 1 t.size).size ≤ 400 := by rw [ByteArray.size_extract]; omega
    clear hk h33
    obtain ⟨v, hv⟩ : ∃ v, v = t.extract 1 t.size := ⟨_, rfl⟩
    rw [← hv] at HV hvs hvl
    have HVE : Hid (v = t.extract 1 t.size) := hv
    clear hv
    have he : (v[0].toNat : Int) = (bt v 0 : Int) := by rw [bt_at v 0 hvs]
    have HE : Hid ((v[0].toNat : Int) = (bt v 0 : Int)) := he
    rw [HV.out]
    go_enter Tryz.func136, Tryz.ntmps136
    go_upto_region 3 with fail
    rw [← HVE.out]
    rcases weighs_tail (bt v 0) with ⟨a, b⟩ | ⟨a, ⟨a2, b⟩ | ⟨a2, ⟨a3, b⟩ | ⟨a3, ⟨a4, b⟩ | ⟨a4, b⟩⟩⟩⟩
    all_goals
      have HB : Hid _ := b
      clear b
      simp only [← he] at *
      go_wp2
      go_ret
      rw [HB.out]
      exact ⟨rfl, rfl⟩
  · have hk : cutK t 0 = 0 := by unfold cutK; rw [if_neg h33]
    rw [hk] at h1
    have g33 : ((t[0].toNat : Int) == 33) = false := by rw [← bt_at t 0 h1]; simp; omega
    have HV : Hid (cutV t 0 = valM (bt t 0)) := by unfold Hid cutV; rw [hk]
    have he : (bt t 0 : Int) = (t[0].toNat : Int) := by rw [bt_at t 0 h1]
    rw [HV.out]
    have hw := weighs_tail (bt t 0)
    rw [he] at hw
    clear hk h33 he HV
    rcases hw with ⟨a, b⟩ | ⟨a, ⟨a2, b⟩ | ⟨a2, ⟨a3, b⟩ | ⟨a3, ⟨a4, b⟩ | ⟨a4, b⟩⟩⟩⟩
    all_goals
      rw [b]
      clear b
      go_enter Tryz.func136, Tryz.ntmps136
      go_wp2
      go_ret
      exact ⟨rfl, rfl⟩

theorem cs_len {s : ByteArray} : ∀ {segs : List (Nat × Nat)} {cs : List PCp}, CS s segs cs → segs.length = cs.length
  | [], [], _ => rfl
  | (_, _) :: _, _ :: _, ⟨_, h⟩ => by simp only [List.length_cons]; rw [cs_len h]
theorem ss_len {s : ByteArray} : ∀ {a : List (List (Nat × Nat))} {b : List (List PCp)}, SS s a b → a.length = b.length
  | [], [], _ => rfl
  | _ :: _, _ :: _, ⟨_, h⟩ => by simp only [List.length_cons]; rw [ss_len h]
theorem rs_len {s : ByteArray} : ∀ {a : List (List (List (Nat × Nat)))} {b : List PRu}, LRS s a b → a.length = b.length
  | [], [], _ => rfl
  | _ :: _, _ :: _, ⟨_, h⟩ => by simp only [List.length_cons]; rw [rs_len h]
theorem ss_at {s : ByteArray} : ∀ {a : List (List (Nat × Nat))} {b : List (List PCp)} {i : Nat}, SS s a b → (h : i < a.length) → (h' : i < b.length) → CS s a[i] b[i]
  | _ :: _, _ :: _, 0, ⟨h, _⟩, _, _ => h
  | _ :: _, _ :: _, i + 1, ⟨_, h⟩, h1, h2 => ss_at (i := i) h (by simpa using h1) (by simpa using h2)
theorem rs_at {s : ByteArray} : ∀ {a : List (List (List (Nat × Nat)))} {b : List PRu} {i : Nat}, LRS s a b → (h : i < a.length) → (h' : i < b.length) → SS s a[i] b[i].ss
  | _ :: _, _ :: _, 0, ⟨h, _⟩, _, _ => h
  | _ :: _, _ :: _, i + 1, ⟨_, h⟩, h1, h2 => rs_at (i := i) h (by simpa using h1) (by simpa using h2)
theorem cs_at {s : ByteArray} : ∀ {xs : List Value} {segs : List (Nat × Nat)} {cs : List PCp} {i : Nat}, Txs s xs segs → CS s segs cs → (h : i < cs.length) → ∃ p q, xs[i * 2 + 1]? = some (.string (s.extract p q)) ∧ CompAt s p q cs[i].ty cs[i].ps ∧ p < q ∧ q ≤ s.size
  | _, [], [], _, _, _, h => absurd h (by simp)
  | _, [], _ :: _, _, _, hc, _ => hc.elim
  | _, (_, _) :: _, [], _, _, hc, _ => hc.elim
  | _, (p, q) :: _, _ :: _, 0, ⟨sg, ys, h1, _⟩, ⟨h2, _⟩, _ => by subst h1; exact ⟨p, q, rfl, h2⟩
  | _, (p, q) :: _, _ :: _, i + 1, ⟨sg, ys, h1, h3⟩, ⟨_, h4⟩, h => by
    obtain ⟨p', q', e1, e2⟩ := cs_at (i := i) h3 h4 (by simpa using h)
    subst h1
    rw [show (i + 1) * 2 + 1 = i * 2 + 1 + 2 from by omega]
    exact ⟨p', q', by simpa using e1, by simpa using e2⟩

theorem extract_all {s : ByteArray} {i n q : Nat} (hq : q ≤ s.size) : (s.extract i q).extract n (s.extract i q).size = s.extract (i + n) q := by
  apply ByteArray.ext
  rw [ByteArray.size_extract]
  simp only [ByteArray.data_extract, Array.extract_extract]
  congr 1
  omega
theorem extract_none {s : ByteArray} {q : Nat} : s.extract q q = ⟨#[]⟩ := by
  apply ByteArray.ext
  simp

theorem cuts_le {s : ByteArray} : ∀ {xs : List Nat} {i q : Nat}, Cuts s i q xs → i ≤ q
  | [], _, _, h => by simp only [Cuts] at h; omega
  | _ :: _, _, _, ⟨h, _, _⟩ => by omega
theorem cuts_len {s : ByteArray} : ∀ {xs : List Nat} {i q : Nat}, Cuts s i q xs → xs.length ≤ q - i
  | [], _, _, _ => by simp
  | _ :: _, i, _, ⟨h, _, h3⟩ => by
    have := cuts_len h3
    have := cuts_le h3
    have := cutN_pos s i
    simp only [List.length_cons]
    omega

/-- The rest of a compound's text. -/
structure Rst (s : ByteArray) (q : Nat) (u : ByteArray) (i : Nat) (xs : List Nat) (p0 p : Nat) : Prop where
  eq : u = s.extract i q
  le : i ≤ q
  cuts : Cuts s i q xs
  sum : p0 + xs.sum = p
  all : ∀ x ∈ xs, x ≤ 1000000
  few : xs.length ≤ q - i

theorem Rst.size {s : ByteArray} {q : Nat} {u : ByteArray} {i : Nat} {xs : List Nat} {p0 p : Nat} (h : Rst s q u i xs p0 p) (hq : q ≤ s.size) : u.size = q - i := by
  rw [h.eq, ByteArray.size_extract]; omega
theorem Rst.nil {s : ByteArray} {q : Nat} {u : ByteArray} {i : Nat} {p0 p : Nat} (h : Rst s q u i [] p0 p) : u = ⟨#[]⟩ ∧ p0 = p := by
  have := h.cuts
  simp only [Cuts] at this
  subst this
  exact ⟨by rw [h.eq, extract_none], by have := h.sum; simpa using this⟩
theorem Rst.cons {s : ByteArray} {q : Nat} {u : ByteArray} {i x : Nat} {xs : List Nat} {p0 p : Nat} (h : Rst s q u i (x :: xs) p0 p) (hq : q ≤ s.size) :
    cutN u 0 ≤ u.size ∧ cutV u 0 = x ∧ Rst s q (u.extract (cutN u 0) u.size) (i + cutN u 0) xs (p0 + x) p ∧ cutK (u.extract 0 (cutN u 0)) 0 < (u.extract 0 (cutN u 0)).size ∧ cutV (u.extract 0 (cutN u 0)) 0 = x ∧ 0 < cutN u 0 := by
  obtain ⟨c1, c2, c3⟩ := h.cuts
  have hsz := h.size hq
  obtain ⟨e1, e2⟩ := cut_ext c1 hq
  rw [← h.eq] at e1 e2
  have hp := cutN_pos u 0
  have hn : cutN u 0 ≤ u.size := by rw [e1, hsz]; omega
  have hb : bt (u.extract 0 (cutN u 0)) 0 = bt u 0 := by rw [bt_extract hn (by omega)]
  have hK : cutK (u.extract 0 (cutN u 0)) 0 = cutK u 0 := by unfold cutK; rw [hb]
  have hs2 : (u.extract 0 (cutN u 0)).size = cutN u 0 := by rw [ByteArray.size_extract]; omega
  refine ⟨hn, by rw [e2, c2], ⟨?_, by rw [e1]; omega, by rw [e1]; exact c3, by have := h.sum; simp only [List.sum_cons] at this; omega, fun y hy => h.all y (List.mem_cons_of_mem _ hy), ?_⟩, by rw [hK, hs2]; omega, ?_, by omega⟩
  · rw [e1, h.eq]
    exact extract_all hq
  · have := h.few
    simp only [List.length_cons] at this
    have hge := cutN_pos s i
    rw [e1]
    have hx := c3
    have hcl : xs.length ≤ q - (i + cutN s i) := cuts_len c3
    omega
  · unfold cutV
    rw [hK, Nat.zero_add, bt_extract hn (by omega), Nat.zero_add]
    have : cutV u 0 = x := by rw [e2, c2]
    unfold cutV at this
    rw [Nat.zero_add] at this
    exact this

end Go.Proofs.YtblfffbmklkhmaaGreat
