/- The document's tree: letter, inserted, less. Own work. -/
import Derived.Test.YtblfffbmklkhmaaGreatDocB
import Derived.Laws.AppendOwnNone
namespace Go.Proofs.YtblfffbmklkhmaaGreat
open Go.RowKit

theorem Tryz.info3 : (Tryz.prog.info? 3).map (fun i => (i.zero, i.size, i.bytes)) = some (some (.int .i64 0), 1, 8) := by kernel_rfl

def isLetter (s : ByteArray) : Bool := decide (s.size = 1) && isL (bt s 0)

set_option maxHeartbeats 1000000 in
theorem letter_ref (w : World) (s : ByteArray) : Calls Tryz.prog 137 #[.string s] w fun e w' => e = .returned (.bool (isLetter s)) ∧ w' = w := by
  by_cases h1 : s.size = 1
  · have g1 : ((s.size : Int) == 1) = true := by simp [h1]
    have h0 : 0 < s.size := by omega
    have hb : (bt s 0 : Int) = (s[0].toNat : Int) := by rw [bt_at s 0 h0]
    by_cases h2 : (97 : Int) ≤ bt s 0
    · by_cases h3 : (bt s 0 : Int) ≤ 122
      · have HR : Hid (isLetter s = true) := by unfold Hid isLetter isL; simp only [h1, decide_true, Bool.true_and, decide_eq_true_eq]; omega
        rw [hb] at h2 h3
        clear hb h1
        go_enter Tryz.func137, Tryz.ntmps137
        go_wp2
        go_ret
        rw [HR.out]
        exact ⟨by simp, rfl⟩
      · have HR : Hid (isLetter s = false) := by unfold Hid isLetter isL; simp only [h1, decide_true, Bool.true_and, decide_eq_false_iff_not]; omega
        rw [hb] at h2 h3
        have hd : decide ((s[0].toNat : Int) ≤ 122) = false := by simpa using h3
        clear hb h1
        go_enter Tryz.func137, Tryz.ntmps137
        go_wp2
        go_ret
        rw [HR.out]
        exact ⟨by simp, rfl⟩
    · have HR : Hid (isLetter s = false) := by unfold Hid isLetter isL; simp only [h1, decide_true, Bool.true_and, decide_eq_false_iff_not]; omega
      rw [hb] at h2
      have hd : decide ((97 : Int) ≤ (s[0].toNat : Int)) = false := by simpa using h2
      clear hb h1
      go_enter Tryz.func137, Tryz.ntmps137
      go_wp2
      go_ret
      rw [HR.out]
      exact ⟨by simp, rfl⟩
  · have g1 : ((s.size : Int) == 1) = false := by simp; omega
    have HR : Hid (isLetter s = false) := by unfold Hid isLetter; simp only [h1, decide_false, Bool.false_and]
    clear h1
    go_enter Tryz.func137, Tryz.ntmps137
    go_wp2
    go_ret
    rw [HR.out]
    exact ⟨by simp, rfl⟩

abbrev ints (l : List Nat) : List Value := l.map fun k : Nat => .int .i64 (k : Int)
theorem ints_one (l : List Nat) : ∀ u ∈ ints l, u.oneCell' = true := by
  intro u hu
  obtain ⟨k, _, rfl⟩ := List.mem_map.1 hu
  rfl

/-- A list of numbers that the call has made. -/
def LPost (w : World) (l : List Nat) (e : Ending) (w' : World) : Prop := ∃ (a : Option Addr) (c : Nat), e = .returned (.slice a l.length c) ∧ w'.ownsRow w.heap.size 3 1 (.slice a l.length c) l.length (ints l) ∧ Below w.heap.size w w'

def noneOf (n : Int) (l : List Nat) : List Nat := l.filter fun k : Nat => decide ((k : Int) ≠ n)
theorem noneOf_take {l : List Nat} {i : Nat} (h : i < l.length) (n : Int) : noneOf n (l.take (i + 1)) = noneOf n (l.take i) ++ if ((l[i] : Nat) : Int) = n then [] else [l[i]] := by
  unfold noneOf
  rw [List.take_succ_eq_append_getElem h, List.filter_append]
  congr 1
  by_cases e : ((l[i] : Nat) : Int) = n <;> simp [e]
theorem noneOf_len (n : Int) (l : List Nat) : (noneOf n l).length ≤ l.length := List.length_filter_le _ _

set_option maxRecDepth 100000 in
set_option maxHeartbeats 2000000 in
theorem less_any (w : World) (a : Option Addr) (c : Nat) (l : List Nat) (n : Int) (base : Nat) (ho : w.ownsRow base 3 1 (.slice a l.length c) l.length (ints l)) (hl : l.length ≤ 24) :
    Calls Tryz.prog 174 #[.slice a l.length c, .int .i64 n] w fun e w' => LPost w (noneOf n l) e w' := by
  obtain ⟨i0, hi, iz0, iz1, iz2⟩ := info_parts Tryz.info3
  have HO : Hid (w.ownsRow base 3 1 (.slice a l.length c) l.length (ints l)) := ho
  clear ho
  go_enter Tryz.func174, Tryz.ntmps174
  go_wp2_with fail
  go_loopg [5, 6] l.length (fun gk v iv wr => ∃ i : Nat, iv = .int .i64 i ∧ i ≤ l.length ∧ l.length - i ≤ gk ∧ wr.ownsRow w.heap.size 3 1 v (noneOf n (l.take i)).length (ints (noneOf n (l.take i))) ∧ Below w.heap.size w wr)
  case atStart => exact ⟨0, rfl, Nat.zero_le _, by omega, World.ownsRow_nil _ _ _ _, Below.refl _ _⟩
  case round =>
    obtain ⟨i, rfl, hil, hgk, hown, hB⟩ := hrel
    obtain ⟨a2, c2, hv⟩ := own_shape hown
    subst hv
    by_cases hlt : i < l.length
    · have hd : decide ((i : Int) < (l.length : Int)) = true := by simp; omega
      obtain ⟨g, hg, hgl, hc⟩ := own_cells HO.out (by omega)
      subst hg
      have q := (hB.cell (p := ⟨g, i, none⟩) hgl).trans (hc i (.int .i64 ((l[i] : Nat) : Int)) (by simp [hlt]))
      have hfl : (noneOf n (l.take i)).length ≤ 24 := by
        have := noneOf_len n (l.take i)
        have : (l.take i).length ≤ l.length := List.length_take_le' _ _
        omega
      have HT : Hid (noneOf n (l.take (i + 1)) = noneOf n (l.take i) ++ if ((l[i] : Nat) : Int) = n then [] else [l[i]]) := noneOf_take hlt n
      clear hc
      generalize noneOf n (l.take i) = f at hown hfl HT
      generalize l[i] = y at q HT
      by_cases hn : (y : Int) = n
      · have gn : ((y : Int) != n) = false := by simp [hn]
        have HT2 : Hid (noneOf n (l.take (i + 1)) = f) := by unfold Hid; rw [HT.out, if_pos hn]; simp
        have HW : Hid (wr.ownsRow w.heap.size 3 1 (.slice a2 f.length c2) f.length (ints f)) := hown
        clear hn HT hown
        go_wp2
        go_roundg (l.length - (i + 1))
        case measure => omega
        case rel => exact ⟨i + 1, by go_num, by omega, Nat.le_refl _, by rw [HT2.out]; exact HW.out, hB⟩
      · have gn : ((y : Int) != n) = true := by simp [hn]
        have HT2 : Hid (noneOf n (l.take (i + 1)) = f ++ [y]) := by unfold Hid; rw [HT.out, if_neg hn]
        have hz := hB.size
        clear hn HT
        go_wp2_with (at_builtin; refine wpList_append_own _ rfl (.tmp 19) (.tmp 24) 40 rfl w.heap.size 3 i0 (.int .i64 0) 1 8 Tryz.underlying40 hi iz0 iz1 iz2 rfl (by decide) _ _ _ rfl (hown.alloc _) ⟨wr.heap.size, 0, none⟩ 1 1 [.int .i64 (y : Int)] rfl rfl ?c1 ?c2 ?c3 ?c4 ?c5 ?_)
        case c1 => exact new_cells wr _ rfl _ _ _ rfl
        case c2 => intro u hu; simp at hu; subst hu; rfl
        case c3 => unfold maxLen; omega
        case c4 => omega
        case c5 => simp; omega
        · intro v' w3 hown3 hg3 _
          have own3 : w3.ownsRow w.heap.size 3 1 v' (f ++ [y]).length (ints (f ++ [y])) := by simpa [ints] using hown3
          have hB3 : Below w.heap.size w w3 := (hB.alloc hz _).grown hg3 (by simp; omega) (fun k hk => (hown.lt k hk).1)
          clear hown3 hg3 hown q
          go_wp2
          go_roundg (l.length - (i + 1))
          case measure => omega
          case rel => exact ⟨i + 1, by go_num, by omega, Nat.le_refl _, by rw [HT2.out]; exact own3, hB3⟩
    · have hd : decide ((i : Int) < (l.length : Int)) = false := by simp; omega
      obtain rfl : i = l.length := by omega
      rw [List.take_length] at hown
      have HW : Hid (wr.ownsRow w.heap.size 3 1 (.slice a2 (noneOf n l).length c2) (noneOf n l).length (ints (noneOf n l))) := hown
      rw [List.take_length]
      clear hown
      go_wp2
      go_ret
      exact ⟨a2, c2, rfl, HW.out, hB⟩

/-- A list with one more at a place. -/
def insL (l : List Nat) (k v : Nat) : List Nat := l.take k ++ [v] ++ l.drop k

set_option maxRecDepth 100000 in
set_option maxHeartbeats 4000000 in
theorem inserted_some (w : World) (g c : Nat) (l1 l2 : List Nat) (v : Nat) (base : Nat) (ho : w.ownsRow base 3 1 (.slice (some ⟨g, 0, none⟩) (l1.length + l2.length) c) (l1.length + l2.length) (ints (l1 ++ l2))) (hl : l1.length + l2.length ≤ 24) :
    Calls Tryz.prog 171 #[.slice (some ⟨g, 0, none⟩) (l1.length + l2.length) c, .int .i64 l1.length, .int .i64 v] w fun e w' => LPost w (l1 ++ [v] ++ l2) e w' := by
  obtain ⟨i0, hi, iz0, iz1, iz2⟩ := info_parts Tryz.info3
  have hcap : l1.length + l2.length ≤ c := by
    rcases ho.2 with ⟨h, _⟩ | ⟨_, _, _, h, _, _, h2, _⟩
    · injection h with h; cases h
    · injection h with _ _ h3; omega
  have hcl : c ≤ maxLen := by
    rcases ho.2 with ⟨h, _⟩ | ⟨_, _, _, h, _, _, _, h2, _⟩
    · injection h with h; cases h
    · injection h with _ _ h3; rw [h3]; exact h2
  unfold maxLen at hcl
  have hgl : g < w.heap.size := (ho.lt g rfl).2
  have HS : Hid (∀ (w2 : World), Below w.heap.size w w2 → (∀ j u, (ints l1)[j]? = some u → w2.cell? ((⟨g, 0, none⟩ : Addr).add j) = some u) ∧ (∀ j u, (ints l2)[j]? = some u → w2.cell? ((⟨g, l1.length, none⟩ : Addr).add j) = some u)) := fun w2 hb => by
    have hsrc : ∀ j u, (ints (l1 ++ l2))[j]? = some u → w2.cell? ⟨g, j, none⟩ = some u := fun j u hu => by
      have h1 := ho.cells (g := g) rfl j u hu
      rw [Go.WideShapes.add_plain, Nat.zero_add] at h1
      exact (hb.cell (p := ⟨g, j, none⟩) hgl).trans h1
    constructor
    · intro j u hu
      rw [Go.WideShapes.add_plain, Nat.zero_add]
      refine hsrc j u ?_
      have hj : j < (ints l1).length := (List.getElem?_eq_some_iff.1 hu).1
      rw [show ints (l1 ++ l2) = ints l1 ++ ints l2 from by simp [ints], List.getElem?_append_left hj]
      exact hu
    · intro j u hu
      rw [Go.WideShapes.add_plain]
      refine hsrc _ u ?_
      rw [show ints (l1 ++ l2) = ints l1 ++ ints l2 from by simp [ints], List.getElem?_append_right (by simp [ints])]
      simpa [ints] using hu
  clear ho
  go_enter Tryz.func171, Tryz.ntmps171
  go_wp2_with (at_builtin; refine wpList_append_own _ rfl (.tmp 8) (.tmp 11) 40 rfl w.heap.size 3 i0 (.int .i64 0) 1 8 Tryz.underlying40 hi iz0 iz1 iz2 rfl (by decide) _ _ _ rfl (World.ownsRow_nil _ _ _ _) ⟨g, 0, none⟩ l1.length c (ints l1) rfl (by simp [ints]) (HS.out w (Below.refl _ _)).1 (ints_one _) ?c3 ?c4 ?c5 ?_)
  case c3 => unfold maxLen; omega
  case c4 => omega
  case c5 => exact Nat.le_refl _
  · intro v1 w1 hown1 hg1 _
    have own1 : w1.ownsRow w.heap.size 3 1 v1 l1.length (ints l1) := by simpa using hown1
    have hB1 : Below w.heap.size w w1 := (Below.refl _ _).grown hg1 (Nat.le_refl _) (fun k hk => by simp [Value.ownBlock] at hk)
    obtain ⟨a1, c1, hv1⟩ := own_shape own1
    subst hv1
    clear hown1 hg1
    have hz1 := hB1.size
    go_wp2_with (at_builtin; refine wpList_append_own _ rfl (.tmp 13) (.tmp 15) 40 rfl w.heap.size 3 i0 (.int .i64 0) 1 8 Tryz.underlying40 hi iz0 iz1 iz2 rfl (by decide) _ _ _ rfl (own1.alloc _) ⟨w1.heap.size, 0, none⟩ 1 1 [.int .i64 (v : Int)] rfl rfl ?d1 ?d2 ?d3 ?d4 ?d5 ?_)
    case d1 => exact new_cells w1 _ rfl _ _ _ rfl
    case d2 => intro u hu; simp at hu; subst hu; rfl
    case d3 => unfold maxLen; omega
    case d4 => omega
    case d5 => simp; omega
    · intro v2 w2 hown2 hg2 _
      have own2 : w2.ownsRow w.heap.size 3 1 v2 (l1.length + 1) (ints (l1 ++ [v])) := by simpa [ints] using hown2
      have hB2 : Below w.heap.size w w2 := (hB1.alloc hz1 _).grown hg2 (by simp; omega) (fun k hk => (own1.lt k hk).1)
      obtain ⟨a2, c2, hv2⟩ := own_shape own2
      subst hv2
      have hsh := hB2.size
      clear hown2 hg2
      by_cases hck : c = l1.length
      · have hnil : l2 = [] := List.eq_nil_of_length_eq_zero (by omega)
        subst hnil
        obtain rfl := hck
        go_wp2_with (at_builtin; refine wpList_append_own _ rfl (.tmp 17) (.tmp 20) 40 rfl w.heap.size 3 i0 (.int .i64 0) 1 8 Tryz.underlying40 hi iz0 iz1 iz2 rfl (by decide) _ _ _ rfl own2 ⟨g, 0, none⟩ 0 0 [] rfl rfl (fun j u hu => by simp at hu) (fun u hu => by cases hu) ?e3 ?e4 ?e5 ?_)
        case e3 => unfold maxLen; omega
        case e4 => omega
        case e5 => omega
        · intro v3 w3 hown3 hg3 _
          have own3 : w3.ownsRow w.heap.size 3 1 v3 (l1 ++ [v] ++ []).length (ints (l1 ++ [v] ++ [])) := by simpa [ints] using hown3
          have hB3 : Below w.heap.size w w3 := hB2.grown hg3 (by omega) (fun k hk => (own2.lt k hk).1)
          obtain ⟨a3, c3, hv3⟩ := own_shape own3
          subst hv3
          have HO3 : Hid (w3.ownsRow w.heap.size 3 1 (.slice a3 (l1 ++ [v] ++ []).length c3) (l1 ++ [v] ++ []).length (ints (l1 ++ [v] ++ []))) := own3
          clear hown3 hg3 own3
          go_wp2
          go_ret
          exact ⟨a3, c3, rfl, HO3.out, hB3⟩
      · go_wp2_with (at_builtin; refine wpList_append_own _ rfl (.tmp 17) (.tmp 20) 40 rfl w.heap.size 3 i0 (.int .i64 0) 1 8 Tryz.underlying40 hi iz0 iz1 iz2 rfl (by decide) _ _ _ rfl own2 ⟨g, l1.length, none⟩ l2.length (c - l1.length) (ints l2) ?f1 (by simp [ints]) (HS.out w2 hB2).2 (ints_one _) ?f3 ?f4 ?f5 ?_)
        case f1 => simp [Act.eval]
        case f3 => unfold maxLen; omega
        case f4 => omega
        case f5 => omega
        · intro v3 w3 hown3 hg3 _
          have own3 : w3.ownsRow w.heap.size 3 1 v3 (l1 ++ [v] ++ l2).length (ints (l1 ++ [v] ++ l2)) := by simpa [ints, Nat.add_assoc, Nat.add_comm, Nat.add_left_comm] using hown3
          have hB3 : Below w.heap.size w w3 := hB2.grown hg3 (by omega) (fun k hk => (own2.lt k hk).1)
          obtain ⟨a3, c3, hv3⟩ := own_shape own3
          subst hv3
          have HO3 : Hid (w3.ownsRow w.heap.size 3 1 (.slice a3 (l1 ++ [v] ++ l2).length c3) (l1 ++ [v] ++ l2).length (ints (l1 ++ [v] ++ l2))) := own3
          clear hown3 hg3 own3
          go_wp2
          go_ret
          exact ⟨a3, c3, rfl, HO3.out, hB3⟩

theorem one_int (v : Nat) : ∀ u ∈ [Value.int .i64 (v : Int)], u.oneCell' = true := by
  intro u hu
  simp at hu
  subst hu
  rfl

set_option maxRecDepth 100000 in
set_option maxHeartbeats 2000000 in
theorem inserted_nil (w : World) (v : Nat) :
    Calls Tryz.prog 171 #[.slice none 0 0, .int .i64 0, .int .i64 v] w fun e w' => LPost w [v] e w' := by
  obtain ⟨i0, hi, iz0, iz1, iz2⟩ := info_parts Tryz.info3
  go_enter Tryz.func171, Tryz.ntmps171
  go_wp2_with (first | (at_builtin; refine wpList_append_own_none rfl (.tmp 8) (.tmp 11) 40 rfl w.heap.size 3 i0 1 Tryz.underlying40 hi _ _ _ rfl (World.ownsRow_nil _ _ _ _) rfl ?_) | (at_builtin; refine wpList_append_own _ rfl (.tmp 13) (.tmp 15) 40 rfl w.heap.size 3 i0 (.int .i64 0) 1 8 Tryz.underlying40 hi iz0 iz1 iz2 rfl (by decide) _ _ _ rfl (World.ownsRow_nil _ _ _ _) ⟨w.heap.size, 0, none⟩ 1 1 [.int .i64 (v : Int)] rfl rfl (new_cells w _ rfl _ _ _ rfl) (one_int v) (by unfold maxLen; omega) (by omega) (by simp) ?_))
  · intro v2 w2 hown2 hg2 _
    have own2 : w2.ownsRow w.heap.size 3 1 v2 1 (ints [v]) := by simpa [ints] using hown2
    have hB2 : Below w.heap.size w w2 := ((Below.refl _ _).alloc (Nat.le_refl _) _).grown hg2 (by simp) (fun k hk => by simp [Value.ownBlock] at hk)
    obtain ⟨a2, c2, hv2⟩ := own_shape own2
    subst hv2
    have HO2 : Hid (w2.ownsRow w.heap.size 3 1 (.slice a2 1 c2) 1 (ints [v])) := own2
    clear hown2 hg2
    go_wp2_with (at_builtin; refine wpList_append_own_none rfl (.tmp 17) (.tmp 20) 40 rfl w.heap.size 3 i0 1 Tryz.underlying40 hi _ _ _ rfl own2 rfl ?_)
    go_wp2
    go_ret
    exact ⟨a2, c2, rfl, HO2.out, hB2⟩

theorem inserted_any (w : World) (a : Option Addr) (c : Nat) (l : List Nat) (k v : Nat) (base : Nat) (ho : w.ownsRow base 3 1 (.slice a l.length c) l.length (ints l)) (hl : l.length ≤ 24) (hk : k ≤ l.length) :
    Calls Tryz.prog 171 #[.slice a l.length c, .int .i64 k, .int .i64 v] w fun e w' => LPost w (insL l k v) e w' := by
  by_cases h0 : a = none
  · subst h0
    have hn : l = [] ∧ c = 0 := by
      rcases ho.2 with ⟨h, h2⟩ | ⟨_, _, _, h, _⟩
      · injection h with _ h3 h4; exact ⟨List.eq_nil_of_length_eq_zero h2, h4⟩
      · injection h with h; cases h
    obtain ⟨rfl, rfl⟩ := hn
    obtain rfl : k = 0 := by simpa using hk
    exact inserted_nil w v
  · obtain ⟨g, rfl⟩ : ∃ g, a = some ⟨g, 0, none⟩ := by
      rcases ho.2 with ⟨h, _⟩ | ⟨g, _, _, h, _⟩
      · injection h with h; exact absurd h h0
      · injection h with h; exact ⟨g, h⟩
    have e1 : (l.take k).length = k := by simp; omega
    have e2 : (l.take k).length + (l.drop k).length = l.length := by rw [← List.length_append, List.take_append_drop]
    have := inserted_some w g c (l.take k) (l.drop k) v base (by rw [e2, List.take_append_drop]; exact ho) (by omega)
    rw [e2, e1] at this
    exact this

end Go.Proofs.YtblfffbmklkhmaaGreat
