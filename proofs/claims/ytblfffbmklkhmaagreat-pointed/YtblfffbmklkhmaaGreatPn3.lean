/- Own work. -/
import Derived.Test.YtblfffbmklkhmaaGreatPn2
namespace Go.Proofs.YtblfffbmklkhmaaGreat
open Go.RowKit
/-- The number that t digits tell. -/
def numV (s : ByteArray) (i : Nat) : Nat → Int
  | 0 => 0
  | t + 1 => numV s i t * 10 + ((bt s (i + t) : Int) - 48)
theorem dig_of {c : Nat} (h : isD c = true) : 48 ≤ c ∧ c ≤ 57 := by simpa only [isD, decide_eq_true_eq] using h
structure NumRel (w : World) (b : Nat) (s : ByteArray) (i : Nat) (m : Int) (gk : Nat) (wr : World) (t : Nat) (n : Int) : Prop where
  at' : At w wr b s (i + t) m
  lo : 1 ≤ t
  hi : t ≤ 3
  gk : 3 - t ≤ gk
  sim : Sim s 12 i (12 + (t : Int)) (i + t)
  val : n = numV s i t
  dig : ∀ k, i ≤ k → k < i + t → isD (bt s k) = true
  nlo : 0 ≤ n
  nhi : t < 3 → n ≤ 99
def NumPost (w : World) (b : Nat) (s : ByteArray) (i : Nat) (m : Int) (e : Ending) (w' : World) : Prop :=
  (∃ (nv : Int) (j : Nat), e = .returned (.tuple #[.int .i64 nv, .bool true]) ∧ At w w' b s j m ∧ Hid (Sim s 12 i 15 j ∧ i < j ∧ j ≤ i + 3 ∧ nv = numV s i (j - i) ∧ (∀ k, i ≤ k → k < j → isD (bt s k) = true) ∧ (j = i + 3 ∨ isD (bt s j) = false))) ∨
  (e = .returned (.tuple #[.int .i64 0, .bool false]) ∧ At w w' b s i m ∧ Hid (isD (bt s i) = false))
theorem num_first {s : ByteArray} {i : Nat} (h : isD (bt s i) = true ∧ i < s.size) : Sim s 12 i 13 (i + 1) := sim_go h.2 (by simp [nxt, h.1]) (by decide) (fun k => by simp [cnt])
theorem num_more {s : ByteArray} {i t : Nat} (h : isD (bt s i) = true ∧ i < s.size) (ht : t = 1 ∨ t = 2) : Sim s (12 + (t : Int)) i (12 + ((t + 1 : Nat) : Int)) (i + 1) := by
  rcases ht with rfl | rfl
  · exact sim_go h.2 (by simp [nxt, h.1]) (by decide) (fun k => by simp [cnt])
  · exact sim_go h.2 (by simp [nxt, h.1]) (by decide) (fun k => by simp [cnt])
theorem num_stop {s : ByteArray} {i t : Nat} (h : isD (bt s i) = false) (ht : t = 1 ∨ t = 2) : Sim s (12 + (t : Int)) i 15 i := by
  rcases ht with rfl | rfl
  · exact sim_same (by decide) (by decide) (by simp [nxt, h]) (fun k => by simp [cnt])
  · exact sim_same (by decide) (by decide) (by simp [nxt, h]) (fun k => by simp [cnt])
set_option maxHeartbeats 1000000 in
theorem number_any (w : World) (b : Nat) (s : ByteArray) (i : Nat) (m : Int) (h : Rd w b s i m) :
    Calls Tryz.prog 215 #[.pointer (some ⟨b, 0, none⟩)] w fun e w' => NumPost w b s i m e w' := by
  go_enter Tryz.func215, Tryz.ntmps215
  go_wp2_with fail
  refine (digit_any _ b s i m (by exact h)).mono ?_
  rintro e w1 (⟨rfl, ha, hf⟩ | ⟨rfl, ha, hf⟩)
  · go_wp2_with fail
    go_loopg [4, 6] 2 (fun gk nv tv wr => ∃ (t : Nat) (n : Int), nv = .int .i64 n ∧ tv = .int .i64 t ∧ NumRel w b s i m gk wr t n)
    case atStart => exact ⟨1, _, rfl, rfl, ha, by omega, by omega, by omega, num_first hf.out, by simp [numV], fun k h1 h2 => (show i = k from by omega) ▸ hf.out.1, by have := dig_of hf.out.1; omega, fun _ => by have := dig_of hf.out.1; omega⟩
    case round =>
      obtain ⟨t, n, rfl, rfl, R⟩ := hrel
      have hlo := R.lo
      have hhi := R.hi
      by_cases ht : t < 3
      · go_wp2_with fail
        refine (digit_any _ b s (i + t) m (by exact R.at'.rd)).mono ?_
        rintro e w2 (⟨rfl, ha2, hf2⟩ | ⟨rfl, ha2, hf2⟩)
        · have hd2 := dig_of hf2.out.1
          have hn0 := R.nlo
          have hn1 := R.nhi ht
          have R2 : NumRel w b s i m (gk - 1) w2 (t + 1) (n * 10 + ((bt s (i + t) : Int) - 48)) := ⟨R.at'.trans ha2, by omega, by omega, by have := R.gk; omega, R.sim.trans (num_more hf2.out (by omega)), by rw [R.val]; rfl, fun k h1 h2 => by
            by_cases e : k = i + t
            · rw [e]; exact hf2.out.1
            · exact R.dig k h1 (by omega), by omega, fun h3 => by
              obtain rfl : t = 1 := by omega
              have h9 : n ≤ 9 := by
                have hv := R.val
                have := dig_of (R.dig i (Nat.le_refl _) (by omega))
                simp [numV] at hv
                omega
              omega⟩
          have hgk := R.gk
          clear R
          go_wp2
          go_roundg (gk - 1)
          case measure => omega
          case rel => exact ⟨t + 1, _, by go_num, by go_num, R2⟩
        · go_wp2
          go_ret2
          exact Or.inl ⟨_, i + t, rfl, R.at'.trans ha2, R.sim.trans (num_stop hf2.out (by omega)), by omega, by omega, by rw [Nat.add_sub_cancel_left]; exact R.val, R.dig, Or.inr hf2.out⟩
      · obtain rfl : t = 3 := by omega
        go_wp2
        go_ret2
        exact Or.inl ⟨_, i + 3, rfl, R.at', R.sim, by omega, by omega, by rw [Nat.add_sub_cancel_left]; exact R.val, R.dig, Or.inl rfl⟩
  · go_wp2
    go_ret2
    exact Or.inr ⟨rfl, ha, hf⟩
/-- From i to j there is this value. -/
def ValAt (s : ByteArray) (i j : Nat) (kd nv vr : Int) : Prop :=
  (bt s i = 105 ∧ kd = 2 ∧ nv = 0 ∧ vr = 0 ∧ j = i + 1) ∨ (bt s i = 114 ∧ kd = 3 ∧ nv = 0 ∧ vr = 0 ∧ j = i + 1) ∨ (bt s i = 117 ∧ kd = 4 ∧ nv = 0 ∧ vr = 0 ∧ j = i + 1) ∨
  (bt s i = 36 ∧ kd = 5 ∧ nv = 0 ∧ vr = bt s (i + 1) ∧ isV (bt s (i + 1)) = true ∧ j = i + 2) ∨
  (kd = 1 ∧ nv = numV s i (j - i) ∧ vr = 0 ∧ i < j ∧ j ≤ i + 3 ∧ (∀ k, i ≤ k → k < j → isD (bt s k) = true) ∧ (j = i + 3 ∨ isD (bt s j) = false))
def ValPost (w : World) (b : Nat) (s : ByteArray) (i : Nat) (m : Int) (e : Ending) (w' : World) : Prop :=
  (∃ (kd nv vr : Int) (j : Nat), e = .returned (.tuple #[.agg #[.int .i64 kd, .int .i64 nv, .int .u8 vr], .bool true]) ∧ At w w' b s j m ∧ Hid (Sim s 12 i 15 j ∧ i < j ∧ ValAt s i j kd nv vr)) ∨
  (∃ (kd nv vr : Int) (j : Nat), e = .returned (.tuple #[.agg #[.int .i64 kd, .int .i64 nv, .int .u8 vr], .bool false]) ∧ At w w' b s j m ∧ Hid (Bad s 12 i j))
theorem val_word {s : ByteArray} {i : Nat} (h : bt s i = 105 ∨ bt s i = 114 ∨ bt s i = 117) : Sim s 12 i 15 (i + 1) ∧ i + 1 ≤ s.size := by
  have hi : i < s.size := lt_of_bt (by omega)
  refine ⟨sim_go hi ?_ (by decide) (fun k => by simp [cnt]), hi⟩
  have hd : isD (bt s i) = false := by simp only [isD, decide_eq_false_iff_not]; omega
  have h36 : ¬ bt s i = 36 := by omega
  simp [nxt, hd, h36, wh, h]
theorem val_var {s : ByteArray} {i : Nat} (h : bt s i = 36) : Sim s 12 i 17 (i + 1) ∧ i < s.size := by
  have hi : i < s.size := lt_of_bt (by omega)
  exact ⟨sim_go hi (by simp [nxt, h, isD]) (by decide) (fun k => by simp [cnt]), hi⟩
theorem val_no {s : ByteArray} {i : Nat} (hd : isD (bt s i) = false) (h1 : bt s i ≠ 105) (h2 : bt s i ≠ 114) (h3 : bt s i ≠ 117) (h4 : bt s i ≠ 36) : Bad s 12 i i :=
  bad_no (by decide) (by simp [nxt, hd, h1, h2, h3, h4, wh])
theorem var_yes {s : ByteArray} {i : Nat} (h : isV (bt s i) = true ∧ i < s.size) : Sim s 17 i 15 (i + 1) := sim_go h.2 (by simp [nxt, h.1, wh]) (by decide) (fun k => by simp [cnt])
theorem var_no {s : ByteArray} {i : Nat} (h : isV (bt s i) = false) : Bad s 17 i i := bad_no (by decide) (by simp [nxt, h, wh])
abbrev valZero : Obj := Obj.cells #[Value.int IntKind.i64 0, Value.int IntKind.i64 0, Value.int IntKind.u8 0] 219
set_option maxHeartbeats 2000000 in
theorem value_any (w : World) (b : Nat) (s : ByteArray) (i : Nat) (m : Int) (h : Rd w b s i m) :
    Calls Tryz.prog 208 #[.pointer (some ⟨b, 0, none⟩)] w fun e w' => ValPost w b s i m e w' := by
  have hb := h.lt
  have c1 := h.c1
  have f1 := h.fr 1
  have hle := h.le
  have htop := h.top
  go_enter Tryz.func208, Tryz.ntmps208
  go_wp2_with fail
  refine (peek_any _ b s i m (by exact h.alloc _)).mono ?_
  rintro e w1 ⟨rfl, n1, rfl⟩
  by_cases k1 : bt s i = 105
  · have g1 : ((bt s i : Int) == 105) = true := by simp [k1]
    have K1 : Hid (bt s i = 105) := k1
    clear k1
    go_wp2_with fail
    have hp := val_word (Or.inl K1.out)
    exact bodyPost_ret (v := .tuple #[.agg #[.int .i64 2, .int .i64 0, .int .u8 0], .bool true]) (by simp [results, Tryz.results208, go_sem]) rfl (Or.inl ⟨2, 0, 0, i + 1, rfl, ((((h.at0.alloc _).drewN _).setAt hp.2 (by omega)).set3 hb (Nat.le_refl _) _ _ _), hp.1, by omega, Or.inl ⟨K1.out, rfl, rfl, rfl, rfl⟩⟩)
  have g1 : ((bt s i : Int) == 105) = false := by simp; omega
  by_cases k2 : bt s i = 114
  · have g2 : ((bt s i : Int) == 114) = true := by simp [k2]
    have K1 : Hid (bt s i = 114) := k2
    clear k1 k2
    go_wp2_with fail
    have hp := val_word (Or.inr (Or.inl K1.out))
    exact bodyPost_ret (v := .tuple #[.agg #[.int .i64 3, .int .i64 0, .int .u8 0], .bool true]) (by simp [results, Tryz.results208, go_sem]) rfl (Or.inl ⟨3, 0, 0, i + 1, rfl, ((((h.at0.alloc _).drewN _).setAt hp.2 (by omega)).set3 hb (Nat.le_refl _) _ _ _), hp.1, by omega, (Or.inr <| Or.inl ⟨K1.out, rfl, rfl, rfl, rfl⟩)⟩)
  have g2 : ((bt s i : Int) == 114) = false := by simp; omega
  by_cases k3 : bt s i = 117
  · have g3 : ((bt s i : Int) == 117) = true := by simp [k3]
    have K1 : Hid (bt s i = 117) := k3
    clear k1 k2 k3
    go_wp2_with fail
    have hp := val_word (Or.inr (Or.inr K1.out))
    exact bodyPost_ret (v := .tuple #[.agg #[.int .i64 4, .int .i64 0, .int .u8 0], .bool true]) (by simp [results, Tryz.results208, go_sem]) rfl (Or.inl ⟨4, 0, 0, i + 1, rfl, ((((h.at0.alloc _).drewN _).setAt hp.2 (by omega)).set3 hb (Nat.le_refl _) _ _ _), hp.1, by omega, (Or.inr <| Or.inr <| Or.inl ⟨K1.out, rfl, rfl, rfl, rfl⟩)⟩)
  have g3 : ((bt s i : Int) == 117) = false := by simp; omega
  by_cases k4 : bt s i = 36
  · have g4 : ((bt s i : Int) == 36) = true := by simp [k4]
    have K1 : Hid (bt s i = 36) := k4
    clear k1 k2 k3 k4
    have hp := val_var K1.out
    have HP : Hid (Sim s 12 i 17 (i + 1)) := hp.1
    have hlt := hp.2
    clear hp
    go_wp2_with fail
    have ha := ((h.at0.alloc valZero).drewN n1).setAt (j := i + 1) (v := (i : Int) + 1) (by omega) (by omega)
    refine (variable_any _ b s (i + 1) m (by exact ha.rd)).mono ?_
    rintro e w2 (⟨rfl, ha2, hf2⟩ | ⟨rfl, ha2, hf2⟩)
    · have ha3 := ha.trans ha2
      obtain ⟨hc, hz⟩ := ha2.cells w.heap.size (by simp [World.setCell]) (by omega)
      go_wp2_with fail
      exact bodyPost_ret (v := .tuple #[.agg #[.int .i64 5, .int .i64 0, .int .u8 (bt s (i + 1))], .bool true]) (by simp [results, Tryz.results208, go_sem, hc]) rfl (Or.inl ⟨5, 0, _, i + 2, rfl, ha3.set3 hb (Nat.le_refl _) _ _ _, HP.out.trans (var_yes hf2.out), by omega, Or.inr (Or.inr (Or.inr (Or.inl ⟨K1.out, rfl, rfl, rfl, hf2.out.1, rfl⟩)))⟩)
    · have ha3 := ha.trans ha2
      obtain ⟨hc, hz⟩ := ha2.cells w.heap.size (by simp [World.setCell]) (by omega)
      go_wp2_with fail
      exact bodyPost_ret (v := .tuple #[.agg #[.int .i64 5, .int .i64 0, .int .u8 0], .bool false]) (by simp [results, Tryz.results208, go_sem, hc]) rfl (Or.inr ⟨5, 0, 0, i + 1, rfl, ha3.set3 hb (Nat.le_refl _) _ _ _, HP.out.bad (var_no hf2.out)⟩)
  · have g4 : ((bt s i : Int) == 36) = false := by simp; omega
    have HN : Hid (bt s i ≠ 105 ∧ bt s i ≠ 114 ∧ bt s i ≠ 117 ∧ bt s i ≠ 36) := ⟨k1, k2, k3, k4⟩
    clear k1 k2 k3 k4
    go_wp2_with fail
    have ha := (h.at0.alloc valZero).drewN n1
    refine (number_any _ b s i m (by exact ha.rd)).mono ?_
    rintro e w2 (⟨nv, j, rfl, ha2, hf2⟩ | ⟨rfl, ha2, hf2⟩)
    · have ha3 := ha.trans ha2
      obtain ⟨hc, hz⟩ := ha2.cells w.heap.size (by simp) (by omega)
      go_wp2_with fail
      exact bodyPost_ret (v := .tuple #[.agg #[.int .i64 1, .int .i64 nv, .int .u8 0], .bool true]) (by simp [results, Tryz.results208, go_sem, hc]) rfl (Or.inl ⟨1, nv, 0, j, rfl, ha3.set3 hb (Nat.le_refl _) _ _ _, hf2.out.1, hf2.out.2.1, Or.inr (Or.inr (Or.inr (Or.inr ⟨rfl, hf2.out.2.2.2.1, rfl, hf2.out.2.1, hf2.out.2.2.1, hf2.out.2.2.2.2⟩)))⟩)
    · have ha3 := ha.trans ha2
      obtain ⟨hc, hz⟩ := ha2.cells w.heap.size (by simp) (by omega)
      go_wp2_with fail
      obtain ⟨q1, q2, q3, q4⟩ := HN.out
      exact bodyPost_ret (v := .tuple #[.agg #[.int .i64 1, .int .i64 0, .int .u8 0], .bool false]) (by simp [results, Tryz.results208, go_sem, hc]) rfl (Or.inr ⟨1, 0, 0, i, rfl, ha3.set3 hb (Nat.le_refl _) _ _ _, val_no hf2.out q1 q2 q3 q4⟩)
end Go.Proofs.YtblfffbmklkhmaaGreat

namespace Go.Proofs.YtblfffbmklkhmaaGreat
open Go.RowKit
theorem Tryz.info190 : (Tryz.prog.info? 190).map (fun i => (i.zero, i.size, i.bytes)) = some (some (.agg #[.int .u8 0, .int .u8 0, .slice none 0 0]), 3, 32) := by kernel_rfl
/-- The rows of one element type, from base on, are as they were. -/
def Keeps (w w' : World) (base : Nat) (e : TypeId) : Prop := ∀ g cur, base ≤ g → w.heap[g]? = some (.cells cur e (0, 0)) → w'.heap[g]? = some (.cells cur e (0, 0))
theorem Keeps.trans {a b c : World} {base : Nat} {e : TypeId} (h : Keeps a b base e) (k : Keeps b c base e) : Keeps a c base e := fun g cur hg hh => k g cur hg (h g cur hg hh)
theorem keeps_at {w w1 : World} {b : Nat} {s : ByteArray} {j : Nat} {m : Int} (h : At w w1 b s j m) {base : Nat} (hb : b < base) (e : TypeId) : Keeps w w1 base e := fun g cur hg hh =>
  (h.gb.block g (Array.getElem?_eq_some_iff.1 hh).1 (fun e => by injection e with e; omega)).trans hh
theorem keeps_alloc (w : World) (o : Obj) (base : Nat) (e : TypeId) : Keeps w (w.alloc o) base e := fun g _ _ hh => (Below.heap_alloc w o g (Array.getElem?_eq_some_iff.1 hh).1).trans hh
theorem keeps_set (w : World) {base : Nat} {p : Addr} (hp : p.block < base) (u : Value) (e : TypeId) : Keeps w (w.setCell p u) base e := fun g _ hg hh => (Below.heap_setCell w p u g (by omega)).trans hh
theorem keeps_app {w w' : World} {base base' : Nat} {e e' : TypeId} (hne : e ≠ e') {size : Nat} {v : Value} {n : Nat} {xs : List Value} (ho : w.ownsRow base' e' size v n xs) (hg : w.grownBy w' v.ownBlock) : Keeps w w' base e := by
  intro g cur _ hh
  refine (hg.block g (Array.getElem?_eq_some_iff.1 hh).1 ?_).trans hh
  intro eq
  rcases ho.2 with ⟨rfl, _⟩ | ⟨g', cap, cur', rfl, _, hgg, _⟩
  · simp [Value.ownBlock] at eq
  · simp [Value.ownBlock] at eq
    subst eq
    rw [hh] at hgg
    injection hgg with hgg
    injection hgg with _ h2 _
    exact hne h2
theorem Keeps.owns {w w' : World} {base : Nat} {e : TypeId} (hk : Keeps w w' base e) {size : Nat} {v : Value} {n : Nat} {xs : List Value} (h : w.ownsRow base e size v n xs) : w'.ownsRow base e size v n xs := by
  refine ⟨h.1, ?_⟩
  rcases h.2 with hn | ⟨g, cap, cur, hv, hg, hh, rest⟩
  · exact Or.inl hn
  · exact Or.inr ⟨g, cap, cur, hv, hg, hk g cur hg hh, rest⟩
/-- A compound, as the program keeps it. -/
structure PCp where
  sg : Int
  ty : Nat
  ps : List PPt
/-- The sign ahead of the compound at a place, in the selector that begins at i0. -/
def sgOf (s : ByteArray) (i0 i : Nat) : Int := if i = i0 then 0 else (bt s (i - 1) : Int)
theorem sgOf_self (s : ByteArray) (i : Nat) : sgOf s i i = 0 := if_pos rfl
theorem sgOf_next (s : ByteArray) {i l : Nat} (h : i < l + 1) : sgOf s i (l + 1) = bt s l := by
  unfold sgOf
  rw [if_neg (by omega), Nat.add_sub_cancel]
/-- The cells hold these compounds. -/
def Comps (w : World) (base : Nat) : List Value → List PCp → Prop
  | xs, [] => xs = []
  | xs, x :: cs => ∃ (a : Option Addr) (c : Nat) (ps ys : List Value), xs = .int .u8 x.sg :: .int .u8 x.ty :: .slice a x.ps.length c :: ys ∧ w.ownsRow base 192 5 (.slice a x.ps.length c) x.ps.length ps ∧ Kinds ps x.ps ∧ Comps w base ys cs
theorem Comps.keep {w w' : World} {base : Nat} (hk : Keeps w w' base 192) : ∀ {xs : List Value} {cs : List PCp}, Comps w base xs cs → Comps w' base xs cs
  | _, [], h => h
  | _, _ :: _, ⟨a, c, ps, ys, h1, h2, h3, h4⟩ => ⟨a, c, ps, ys, h1, hk.owns h2, h3, Comps.keep hk h4⟩
theorem Comps.mono {w : World} {base base' : Nat} (hb : base' ≤ base) : ∀ {xs : List Value} {cs : List PCp}, Comps w base xs cs → Comps w base' xs cs
  | _, [], h => h
  | _, _ :: _, ⟨a, c, ps, ys, h1, h2, h3, h4⟩ => ⟨a, c, ps, ys, h1, own_mono h2 hb, h3, Comps.mono hb h4⟩
theorem Comps.snoc {w : World} {base : Nat} (sg : Int) (ty : Nat) (a : Option Addr) (c : Nat) (ks : List PPt) (ps : List Value) (ho : w.ownsRow base 192 5 (.slice a ks.length c) ks.length ps) (hk : Kinds ps ks) :
    ∀ {xs : List Value} {cs : List PCp}, Comps w base xs cs → Comps w base (xs ++ [.int .u8 sg, .int .u8 ty, .slice a ks.length c]) (cs ++ [⟨sg, ty, ks⟩])
  | _, [], h => by simp only [Comps] at h; subst h; exact ⟨a, c, ps, [], rfl, ho, hk, rfl⟩
  | _, _ :: _, ⟨a', c', ps', ys, h1, h2, h3, h4⟩ => ⟨a', c', ps', _, by rw [h1]; rfl, h2, h3, Comps.snoc sg ty a c ks ps ho hk h4⟩
/-- From i to j there are compounds, each with a sign behind it. -/
def SelPre (s : ByteArray) (i0 : Nat) : Nat → Nat → List PCp → Prop
  | i, j, [] => i = j
  | i, j, x :: cs => ∃ l, CompAt s i l x.ty x.ps ∧ i < l ∧ isA (bt s l) = false ∧ isS (bt s l) = true ∧ SelPre s i0 (l + 1) j cs ∧ x.sg = sgOf s i0 i
theorem SelPre.snoc {s : ByteArray} {i0 i j l : Nat} {cs : List PCp} {sg : Int} {ty : Nat} {ks : List PPt} (h : SelPre s i0 i j cs) (hg : sg = sgOf s i0 j) (hc : CompAt s j l ty ks) (hl : j < l) (hA : isA (bt s l) = false) (hs : isS (bt s l) = true) : SelPre s i0 i (l + 1) (cs ++ [⟨sg, ty, ks⟩]) := by
  induction cs generalizing i with
  | nil => simp only [SelPre] at h; subst h; exact ⟨l, hc, hl, hA, hs, rfl, hg⟩
  | cons x cs ih =>
    obtain ⟨l', h1, h2, h3, h4, h5, h6⟩ := h
    exact ⟨l', h1, h2, h3, h4, ih h5, h6⟩
def SelAt (s : ByteArray) (i j : Nat) (cs : List PCp) : Prop :=
  ∃ pre l ty ks, cs = pre ++ [⟨sgOf s i l, ty, ks⟩] ∧ SelPre s i i l pre ∧ CompAt s l j ty ks ∧ l < j ∧ isA (bt s j) = false ∧ isS (bt s j) = false
structure SelRel (w : World) (b : Nat) (s : ByteArray) (i : Nat) (m : Int) (gk : Nat) (v : Value) (more : Bool) (wr : World) (j : Nat) (mP : Int) (cs : List PCp) (xs : List Value) : Prop where
  at' : At (w.alloc (.cells #[.slice none 0 0] 141)) wr b s j mP
  own : wr.ownsRow (w.heap.size + 1) 190 3 v cs.length xs
  comps : Comps wr (w.heap.size + 1) xs cs
  le : i ≤ j
  few : cs.length ≤ j - i
  gk : more = true → s.size - j < gk
  go : more = true → SelPre s i i j cs ∧ ∀ nr, V s 2 ⟨nr, 1, m⟩ i = V s 2 ⟨nr, cs.length + 1, noteIf (decide (cs.length = 4)) mP j⟩ j
  done : more = false → SelAt s i j cs ∧ ∀ nr, V s 2 ⟨nr, 1, m⟩ i = V s 3 ⟨nr, cs.length, mP⟩ j
def SelPost (w : World) (b : Nat) (s : ByteArray) (i : Nat) (m : Int) (e : Ending) (w' : World) : Prop :=
  (∃ (a : Option Addr) (c : Nat) (cs : List PCp) (xs : List Value) (j : Nat) (m' : Int), e = .returned (.tuple #[.agg #[.slice a cs.length c], .bool true]) ∧ At w w' b s j m' ∧ w'.ownsRow w.heap.size 190 3 (.slice a cs.length c) cs.length xs ∧ Comps w' w.heap.size xs cs ∧
    Hid (SelAt s i j cs ∧ i < j ∧ ∀ nr, V s 2 ⟨nr, 1, m⟩ i = V s 3 ⟨nr, cs.length, m'⟩ j)) ∨
  (∃ j m', e = .returned (.tuple #[.agg #[.slice none 0 0], .bool false]) ∧ At w w' b s j m' ∧ Hid (∀ nr, V s 2 ⟨nr, 1, m⟩ i = ((j : Int), -1)))
theorem one3 (a b : Int) (c : Option Addr) (n k : Nat) : ∀ u ∈ [Value.int .u8 a, Value.int .u8 b, Value.slice c n k], u.oneCell' = true := by
  intro u hu
  simp only [List.mem_cons, List.not_mem_nil, or_false] at hu
  rcases hu with rfl | rfl | rfl <;> rfl
theorem selpre_le {s : ByteArray} : ∀ {cs : List PCp} {i0 i j : Nat}, SelPre s i0 i j cs → i ≤ j
  | [], _, _, _, h => by simp only [SelPre] at h; omega
  | _ :: _, _, _, _, ⟨_, _, h2, _, _, h5, _⟩ => by have := selpre_le h5; omega
theorem sign_go {s : ByteArray} {i nr nc : Nat} {m : Int} (h : isS (bt s i) = true ∧ i < s.size) : V s 3 ⟨nr, nc, m⟩ i = V s 2 ⟨nr, nc + 1, noteIf (decide (nc = 4)) m (i + 1)⟩ (i + 1) := by
  have h33 : bt s i ≠ 33 := by have := h.1; simp only [isS, decide_eq_true_eq] at this; omega
  rw [V_go h.2 (m' := 2) (by simp [nxt, moreN, h.1, h33]) (by decide)]
  simp [cnt, h.1]
theorem Rd.allocAt {w : World} {b : Nat} {s : ByteArray} {j : Nat} {m : Int} (h : Rd w b s j m) (o : Obj) : At (w.alloc o) (w.alloc o) b s j m := (h.alloc o).at0
set_option maxHeartbeats 4000000 in
theorem selector_any (w : World) (b : Nat) (s : ByteArray) (i : Nat) (m : Int) (h : Rd w b s i m) :
    Calls Tryz.prog 179 #[.pointer (some ⟨b, 0, none⟩)] w fun e w' => SelPost w b s i m e w' := by
  have hb := h.lt
  have htop := h.top
  obtain ⟨i0, hi, iz0, iz1, iz2⟩ := info_parts Tryz.info190
  go_enter Tryz.func179, Tryz.ntmps179
  go_wp2_with fail
  go_loopg [4, 5, 6] (s.size - i + 1) (fun gk v sgv mv wr => ∃ (j : Nat) (mP : Int) (cs : List PCp) (xs : List Value) (sg : Int) (more : Bool), sgv = .int .u8 sg ∧ mv = .bool more ∧ SelRel w b s i m gk v more wr j mP cs xs ∧ Hid (more = true → sg = sgOf s i j))
  case atStart =>
    refine ⟨i, m, [], [], 0, true, rfl, rfl, ⟨h.allocAt _, World.ownsRow_nil _ _ _ _, rfl, Nat.le_refl _, by simp, fun _ => by omega, fun _ => ⟨rfl, fun nr => ?_⟩, fun e => by cases e⟩, fun _ => (sgOf_self s i).symm⟩
    simp [noteIf]
  case round =>
    obtain ⟨j, mP, cs, xs, sg, more, rfl, rfl, R, HSG⟩ := hrel
    have hle := R.at'.rd.le
    obtain ⟨a, c, hv⟩ := own_shape R.own
    subst hv
    cases more
    · have R2 := R
      have hz1 : w.heap.size < wr.heap.size := by have := R.at'.size; simp only [World.size_alloc] at this; omega
      obtain ⟨hc, hz⟩ := R.at'.cells w.heap.size (by simp) (by omega)
      clear R
      go_wp2
      refine bodyPost_ret (v := .tuple #[.agg #[.slice a cs.length c], .bool true]) (by simp [results, Tryz.results179, go_sem, hc]) rfl (Or.inl ⟨a, c, cs, xs, j, mP, rfl, R2.at'.ofAlloc.setNew hb (Nat.le_refl _) _, own_mono (ownsRow_setCell_below R2.own (by simp) _) (by omega), (R2.comps.keep (keeps_set _ (by simp) _ _)).mono (by omega), ?_⟩)
      obtain ⟨q1, q2⟩ := R2.done rfl
      refine ⟨q1, ?_, q2⟩
      obtain ⟨pre, l, ty, ks, _, h2, _, h4, _⟩ := q1
      have := selpre_le h2
      omega
    · replace HSG : Hid (sg = sgOf s i j) := HSG.out rfl
      by_cases h4 : cs.length = 4
      · have g4 : ((cs.length : Int) == 4) = true := by simp [h4]
        have H4 : Hid (cs.length = 4) := h4
        clear h4
        go_wp2_with fail
        refine (noteMany_any _ b s j mP (by exact R.at'.rd)).mono ?_
        rintro e w1 ⟨rfl, haN⟩
        have hM : Hid (∀ nr, V s 2 ⟨nr, cs.length + 1, noteIf (decide (cs.length = 4)) mP j⟩ j = V s 2 ⟨nr, cs.length + 1, note mP j⟩ j) := fun nr => by simp [noteIf, H4.out]
        generalize note mP j = M at haN hM
        go_wp2_with fail
        refine (compound_any _ b s j M (by exact haN.rd)).mono ?_
        rintro e w2 (⟨ty, a2, c2, ks, ps, l, rfl, ha2, ho2, hf2⟩ | ⟨l, rfl, ha2, hf2⟩)
        · have ha3 := (R.at'.trans haN).trans ha2
          have hz1 := (R.at'.trans haN).size
          simp only [World.size_alloc] at hz1
          have hz2 : w.heap.size < w2.heap.size := by have := ha3.size; simp only [World.size_alloc] at this; omega
          have own2 := (haN.trans ha2).owns R.own (by omega)
          have hlen := R.few
          go_wp2_with (at_builtin; refine wpList_append_own _ rfl (.tmp 25) (.tmp 27) 139 rfl (w.heap.size + 1) 190 i0 (.agg #[.int .u8 0, .int .u8 0, .slice none 0 0]) 3 32 Tryz.underlying139 hi iz0 iz1 iz2 rfl (by decide) _ _ _ rfl ((own2.alloc _).alloc _) ⟨w2.heap.size + 1, 0, none⟩ 1 1 [.int .u8 sg, .int .u8 ty, .slice a2 ks.length c2] rfl rfl ?c1x ?c2x ?c3x ?c4x ?c5x ?_)
          case c1x => exact new_cells (w2.alloc _) _ (by simp) _ _ _ rfl
          case c2x => exact one3 _ _ _ _ _
          case c3x => unfold maxLen; omega
          case c4x => omega
          case c5x => simp; omega
          · intro v' w3 hown3 hg3 _
            have own3 : w3.ownsRow (w.heap.size + 1) 190 3 v' (cs ++ [(⟨sg, ty, ks⟩ : PCp)]).length (xs ++ [.int .u8 sg, .int .u8 ty, .slice a2 ks.length c2]) := by simpa using hown3
            have hk2 : Keeps wr w2 (w.heap.size + 1) 192 := keeps_at (haN.trans ha2) (by omega) _
            have hk3 : Keeps w2 w3 (w.heap.size + 1) 192 := ((keeps_alloc _ _ _ _).trans (keeps_alloc _ _ _ _)).trans (keeps_app (by decide) ((own2.alloc _).alloc _) hg3)
            have comps3 : Comps w3 (w.heap.size + 1) (xs ++ [.int .u8 sg, .int .u8 ty, .slice a2 ks.length c2]) (cs ++ [⟨sg, ty, ks⟩]) :=
              Comps.snoc sg ty a2 c2 ks ps (hk3.owns (own_mono ho2 hz1)) hf2.out.1 (R.comps.keep (hk2.trans hk3))
            have at3 : At (w.alloc (.cells #[.slice none 0 0] 141)) w3 b s l M := ((ha3.alloc _).alloc _).app (by simp; omega) (by simpa using ((own2.alloc _).alloc _)) hg3
            obtain ⟨q1, q2, q3, q4, q5⟩ := hf2.out
            have HV : Hid (SelPre s i i j cs ∧ CompAt s j l ty ks ∧ j < l ∧ isA (bt s l) = false ∧ ∀ nr, V s 2 ⟨nr, 1, m⟩ i = V s 3 ⟨nr, cs.length + 1, M⟩ l) :=
              ⟨(R.go rfl).1, q5, q3, q4, fun nr => by rw [(R.go rfl).2 nr, hM.out, q2]⟩
            have hle := R.le
            have hgk := R.gk rfl
            have hfew : (cs ++ [(⟨sg, ty, ks⟩ : PCp)]).length ≤ l - i := by simp; omega
            clear hown3 hg3 own2 R hk2 hk3 q1 q2 q4 q5 hf2
            go_wp2_with fail
            refine (sign_any _ b s l M (by exact at3.rd)).mono ?_
            rintro e w4 (⟨rfl, ha4, hf4⟩ | ⟨rfl, ha4, hf4⟩)
            · have R4 : SelRel w b s i m (s.size - l) v' true w4 (l + 1) M (cs ++ [⟨sg, ty, ks⟩]) (xs ++ [.int .u8 sg, .int .u8 ty, .slice a2 ks.length c2]) := by
                obtain ⟨p1, p2, p3, p4, p5⟩ := HV.out
                have h4 := hf4.out
                refine ⟨at3.trans ha4, ha4.owns own3 (by omega), comps3.keep (keeps_at ha4 (by omega) _), by omega, by omega, fun _ => by omega, fun _ => ⟨p1.snoc (HSG.out) p2 p3 p4 h4.1, fun nr => ?_⟩, fun e => by cases e⟩
                rw [p5 nr, sign_go h4]
                simp
              have hls := hf4.out.2
              clear comps3 own3
              go_wp2
              go_roundg (s.size - l)
              case measure => omega
              case rel => exact ⟨l + 1, M, _, _, _, _, rfl, rfl, R4, fun _ => (sgOf_next s (by have := HV.out.2.2.1; omega)).symm⟩
            · have R4 : SelRel w b s i m 0 v' false w4 l M (cs ++ [⟨sg, ty, ks⟩]) (xs ++ [.int .u8 sg, .int .u8 ty, .slice a2 ks.length c2]) := by
                obtain ⟨p1, p2, p3, p4, p5⟩ := HV.out
                exact ⟨at3.trans ha4, ha4.owns own3 (by omega), comps3.keep (keeps_at ha4 (by omega) _), by omega, by omega, fun e => (by cases e), fun e => (by cases e), fun _ => ⟨⟨cs, j, ty, ks, by rw [HSG.out], p1, p2, p3, p4, hf4.out⟩, fun nr => by rw [p5 nr]; simp⟩⟩
              clear comps3 own3
              go_wp2
              go_roundg 0
              case measure => omega
              case rel => exact ⟨l, M, _, _, _, _, rfl, rfl, R4, fun e => by cases e⟩
        · have ha3 := (R.at'.trans haN).trans ha2
          have hz2 : w.heap.size < w2.heap.size := by have := ha3.size; simp only [World.size_alloc] at this; omega
          obtain ⟨hc, hz⟩ := ha3.cells w.heap.size (by simp) (by omega)
          go_wp2_with fail
          exact bodyPost_ret (v := .tuple #[.agg #[.slice none 0 0], .bool false]) (by simp [results, Tryz.results179, go_sem, hc, hz2]) rfl (Or.inr ⟨l, M, rfl, (ha3.ofAlloc.setNew hb (Nat.le_refl _) _).alloc _, fun nr => by rw [(R.go rfl).2 nr, hM.out, hf2.out]⟩)
      · have g4 : ((cs.length : Int) == 4) = false := by simp; omega
        obtain ⟨M, haN, hM⟩ : ∃ M, At wr wr b s j M ∧ Hid (∀ nr, V s 2 ⟨nr, cs.length + 1, noteIf (decide (cs.length = 4)) mP j⟩ j = V s 2 ⟨nr, cs.length + 1, M⟩ j) := ⟨mP, R.at'.rd.at0, fun nr => by simp [noteIf, h4]⟩
        clear h4
        go_wp2_with fail
        refine (compound_any _ b s j M (by exact haN.rd)).mono ?_
        rintro e w2 (⟨ty, a2, c2, ks, ps, l, rfl, ha2, ho2, hf2⟩ | ⟨l, rfl, ha2, hf2⟩)
        · have ha3 := (R.at'.trans haN).trans ha2
          have hz1 := (R.at'.trans haN).size
          simp only [World.size_alloc] at hz1
          have hz2 : w.heap.size < w2.heap.size := by have := ha3.size; simp only [World.size_alloc] at this; omega
          have own2 := (haN.trans ha2).owns R.own (by omega)
          have hlen := R.few
          go_wp2_with (at_builtin; refine wpList_append_own _ rfl (.tmp 25) (.tmp 27) 139 rfl (w.heap.size + 1) 190 i0 (.agg #[.int .u8 0, .int .u8 0, .slice none 0 0]) 3 32 Tryz.underlying139 hi iz0 iz1 iz2 rfl (by decide) _ _ _ rfl ((own2.alloc _).alloc _) ⟨w2.heap.size + 1, 0, none⟩ 1 1 [.int .u8 sg, .int .u8 ty, .slice a2 ks.length c2] rfl rfl ?c1y ?c2y ?c3y ?c4y ?c5y ?_)
          case c1y => exact new_cells (w2.alloc _) _ (by simp) _ _ _ rfl
          case c2y => exact one3 _ _ _ _ _
          case c3y => unfold maxLen; omega
          case c4y => omega
          case c5y => simp; omega
          · intro v' w3 hown3 hg3 _
            have own3 : w3.ownsRow (w.heap.size + 1) 190 3 v' (cs ++ [(⟨sg, ty, ks⟩ : PCp)]).length (xs ++ [.int .u8 sg, .int .u8 ty, .slice a2 ks.length c2]) := by simpa using hown3
            have hk2 : Keeps wr w2 (w.heap.size + 1) 192 := keeps_at (haN.trans ha2) (by omega) _
            have hk3 : Keeps w2 w3 (w.heap.size + 1) 192 := ((keeps_alloc _ _ _ _).trans (keeps_alloc _ _ _ _)).trans (keeps_app (by decide) ((own2.alloc _).alloc _) hg3)
            have comps3 : Comps w3 (w.heap.size + 1) (xs ++ [.int .u8 sg, .int .u8 ty, .slice a2 ks.length c2]) (cs ++ [⟨sg, ty, ks⟩]) :=
              Comps.snoc sg ty a2 c2 ks ps (hk3.owns (own_mono ho2 hz1)) hf2.out.1 (R.comps.keep (hk2.trans hk3))
            have at3 : At (w.alloc (.cells #[.slice none 0 0] 141)) w3 b s l M := ((ha3.alloc _).alloc _).app (by simp; omega) (by simpa using ((own2.alloc _).alloc _)) hg3
            obtain ⟨q1, q2, q3, q4, q5⟩ := hf2.out
            have HV : Hid (SelPre s i i j cs ∧ CompAt s j l ty ks ∧ j < l ∧ isA (bt s l) = false ∧ ∀ nr, V s 2 ⟨nr, 1, m⟩ i = V s 3 ⟨nr, cs.length + 1, M⟩ l) :=
              ⟨(R.go rfl).1, q5, q3, q4, fun nr => by rw [(R.go rfl).2 nr, hM.out, q2]⟩
            have hle := R.le
            have hgk := R.gk rfl
            have hfew : (cs ++ [(⟨sg, ty, ks⟩ : PCp)]).length ≤ l - i := by simp; omega
            clear hown3 hg3 own2 R hk2 hk3 q1 q2 q4 q5 hf2
            go_wp2_with fail
            refine (sign_any _ b s l M (by exact at3.rd)).mono ?_
            rintro e w4 (⟨rfl, ha4, hf4⟩ | ⟨rfl, ha4, hf4⟩)
            · have R4 : SelRel w b s i m (s.size - l) v' true w4 (l + 1) M (cs ++ [⟨sg, ty, ks⟩]) (xs ++ [.int .u8 sg, .int .u8 ty, .slice a2 ks.length c2]) := by
                obtain ⟨p1, p2, p3, p4, p5⟩ := HV.out
                have h4 := hf4.out
                refine ⟨at3.trans ha4, ha4.owns own3 (by omega), comps3.keep (keeps_at ha4 (by omega) _), by omega, by omega, fun _ => by omega, fun _ => ⟨p1.snoc (HSG.out) p2 p3 p4 h4.1, fun nr => ?_⟩, fun e => by cases e⟩
                rw [p5 nr, sign_go h4]
                simp
              have hls := hf4.out.2
              clear comps3 own3
              go_wp2
              go_roundg (s.size - l)
              case measure => omega
              case rel => exact ⟨l + 1, M, _, _, _, _, rfl, rfl, R4, fun _ => (sgOf_next s (by have := HV.out.2.2.1; omega)).symm⟩
            · have R4 : SelRel w b s i m 0 v' false w4 l M (cs ++ [⟨sg, ty, ks⟩]) (xs ++ [.int .u8 sg, .int .u8 ty, .slice a2 ks.length c2]) := by
                obtain ⟨p1, p2, p3, p4, p5⟩ := HV.out
                exact ⟨at3.trans ha4, ha4.owns own3 (by omega), comps3.keep (keeps_at ha4 (by omega) _), by omega, by omega, fun e => (by cases e), fun e => (by cases e), fun _ => ⟨⟨cs, j, ty, ks, by rw [HSG.out], p1, p2, p3, p4, hf4.out⟩, fun nr => by rw [p5 nr]; simp⟩⟩
              clear comps3 own3
              go_wp2
              go_roundg 0
              case measure => omega
              case rel => exact ⟨l, M, _, _, _, _, rfl, rfl, R4, fun e => by cases e⟩
        · have ha3 := (R.at'.trans haN).trans ha2
          have hz2 : w.heap.size < w2.heap.size := by have := ha3.size; simp only [World.size_alloc] at this; omega
          obtain ⟨hc, hz⟩ := ha3.cells w.heap.size (by simp) (by omega)
          go_wp2_with fail
          exact bodyPost_ret (v := .tuple #[.agg #[.slice none 0 0], .bool false]) (by simp [results, Tryz.results179, go_sem, hc, hz2]) rfl (Or.inr ⟨l, M, rfl, (ha3.ofAlloc.setNew hb (Nat.le_refl _) _).alloc _, fun nr => by rw [(R.go rfl).2 nr, hM.out, hf2.out]⟩)
end Go.Proofs.YtblfffbmklkhmaaGreat
