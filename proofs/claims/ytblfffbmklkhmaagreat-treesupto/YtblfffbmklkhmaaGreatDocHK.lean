/- Own work. -/
import Derived.Test.YtblfffbmklkhmaaGreatDocEG
import Derived.Deep.QuietTactic
namespace Go.Proofs.YtblfffbmklkhmaaGreat
open Go.RowKit

def hasI (l : List Nat) (n : Int) : Bool := l.any fun k => decide ((k : Int) = n)
theorem hasI_yes {l : List Nat} {n : Int} {j : Nat} (hj : j < l.length) (h : ((l[j] : Nat) : Int) = n) : hasI l n = true := by
  unfold hasI
  exact List.any_eq_true.2 ⟨_, List.getElem_mem hj, by simpa using h⟩
theorem hasI_no {l : List Nat} {n : Int} (h : ∀ j (hj : j < l.length), ((l[j] : Nat) : Int) = n → False) : hasI l n = false := by
  cases hk : hasI l n with
  | false => rfl
  | true =>
    obtain ⟨k, hk1, hk2⟩ := List.any_eq_true.1 hk
    obtain ⟨j, hj, rfl⟩ := List.getElem_of_mem hk1
    exact (h j hj (by simpa using hk2)).elim

set_option maxRecDepth 100000 in
set_option maxHeartbeats 2000000 in
theorem has_any (w : World) (a : Option Addr) (c : Nat) (l : List Nat) (n : Int) (base : Nat) (ho : w.ownsRow base 3 1 (.slice a l.length c) l.length (ints l)) (hl : l.length ≤ 24) :
    Calls Tryz.prog 98 #[.slice a l.length c, .int .i64 n] w fun e w' => e = .returned (.bool (hasI l n)) ∧ w' = w := by
  have HO : Hid (w.ownsRow base 3 1 (.slice a l.length c) l.length (ints l)) := ho
  clear ho
  go_enter Tryz.func98, Tryz.ntmps98
  go_wp2
  go_loop [5] (fun iv => ∃ i : Nat, iv = .int .i64 i ∧ i ≤ l.length ∧ Hid (∀ t (ht : t < l.length), t < i → ((l[t] : Nat) : Int) = n → False)) (fun iv => l.length - (intOf iv).toNat)
  case atStart => exact ⟨0, rfl, Nat.zero_le _, fun t ht h => by omega⟩
  case round =>
    obtain ⟨i, rfl, hi, HN⟩ := hrel
    by_cases hlt : i < l.length
    · have hd : decide ((i : Int) < (l.length : Int)) = true := by simp; omega
      obtain ⟨g, hg, _, hc⟩ := own_cells HO.out (by omega)
      subst hg
      have q := hc i (.int .i64 ((l[i] : Nat) : Int)) (by simp [hlt])
      clear hc
      by_cases hn : ((l[i] : Nat) : Int) = n
      · have HE : Hid (hasI l n = true) := hasI_yes hlt hn
        have gn : (((l[i] : Nat) : Int) == n) = true := by simp [hn]
        clear hn
        go_wp2
        go_ret
        rw [HE.out]
        exact ⟨rfl, rfl⟩
      · have gn : (((l[i] : Nat) : Int) == n) = false := by simp [hn]
        have HN2 : Hid (∀ t (ht : t < l.length), t < i + 1 → ((l[t] : Nat) : Int) = n → False) := fun t ht h1 h2 => by
          by_cases e : t = i
          · subst e; exact hn h2
          · exact HN.out t ht (by omega) h2
        clear hn
        go_wp2
        go_round
        case rel => exact ⟨i + 1, by go_num, by omega, HN2⟩
        case measure => simp [intOf]; omega
    · have hd : decide ((i : Int) < (l.length : Int)) = false := by simp; omega
      have HE : Hid (hasI l n = false) := hasI_no (fun j hj h => HN.out j hj (by omega) h)
      go_wp2
      go_ret
      rw [HE.out]
      exact ⟨rfl, rfl⟩

def withL (l : List Nat) (n : Nat) : List Nat := if hasI l n = true then l else l ++ [n]
/-- A list with a number: the old row, or new memory. -/
def WPost (w : World) (v : Value) (l : List Nat) (e : Ending) (w' : World) : Prop := ∃ (a : Option Addr) (c : Nat), e = .returned (.slice a l.length c) ∧ w'.ownsRow 0 3 1 (.slice a l.length c) l.length (ints l) ∧ Below w.heap.size w w' ∧ Hid (∀ j, (Value.slice a l.length c).ownBlock = some j → v.ownBlock = some j ∨ w.heap.size ≤ j)

set_option maxRecDepth 100000 in
set_option maxHeartbeats 2000000 in
theorem with_any (w : World) (a : Option Addr) (c : Nat) (l : List Nat) (n : Nat) (ho : w.ownsRow 0 3 1 (.slice a l.length c) l.length (ints l)) (hl : l.length ≤ 24) :
    Calls Tryz.prog 143 #[.slice a l.length c, .int .i64 n] w fun e w' => WPost w (.slice a l.length c) (withL l n) e w' := by
  obtain ⟨i0, hi, iz0, iz1, iz2⟩ := info_parts Tryz.info3
  have HO : Hid (w.ownsRow 0 3 1 (.slice a l.length c) l.length (ints l)) := ho
  clear ho
  go_enter Tryz.func143, Tryz.ntmps143
  go_wp2_with fail
  refine (has_any _ a c l n 0 HO.out hl).mono ?_
  rintro e w1 ⟨rfl, rfl⟩
  obtain ⟨w, rfl⟩ : ∃ w, w = w1 := ⟨_, rfl⟩
  cases hh : hasI l n with
  | true =>
    have HE : Hid (withL l n = l) := by unfold Hid withL; rw [if_pos hh]
    clear hh
    go_wp2
    go_ret
    rw [HE.out]
    exact ⟨a, c, rfl, HO.out, Below.refl _ _, fun j hj => Or.inl hj⟩
  | false =>
    have HE : Hid (withL l n = l ++ [n]) := by unfold Hid withL; rw [if_neg (by rw [hh]; decide)]
    clear hh
    by_cases h0 : a = none
    · subst h0
      have hn : l = [] ∧ c = 0 := by
        rcases HO.out.2 with ⟨h, h2⟩ | ⟨_, _, _, h, _⟩
        · injection h with _ h3 h4; exact ⟨List.eq_nil_of_length_eq_zero h2, h4⟩
        · injection h with h; cases h
      obtain ⟨rfl, rfl⟩ := hn
      go_wp2_with (first | (at_builtin; refine wpList_append_own_none rfl (.tmp 12) (.tmp 13) 40 rfl w.heap.size 3 i0 1 Tryz.underlying40 hi _ _ _ rfl (World.ownsRow_nil _ _ _ _) rfl ?_) | (at_builtin; refine wpList_append_own _ rfl (.tmp 15) (.tmp 17) 40 rfl w.heap.size 3 i0 (.int .i64 0) 1 8 Tryz.underlying40 hi iz0 iz1 iz2 rfl (by decide) _ _ _ rfl (World.ownsRow_nil _ _ _ _) ⟨w.heap.size, 0, none⟩ 1 1 [.int .i64 (n : Int)] rfl rfl (new_cells w _ rfl _ _ _ rfl) (one_int n) (by unfold maxLen; omega) (by omega) (by simp) ?_))
      · intro v2 w2 hown2 hg2 _
        have own2 : w2.ownsRow w.heap.size 3 1 v2 1 (ints [n]) := by simpa [ints] using hown2
        have hB2 : Below w.heap.size w w2 := ((Below.refl _ _).alloc (Nat.le_refl _) _).grown hg2 (by simp) (fun k hk => by simp [Value.ownBlock] at hk)
        obtain ⟨a2, c2, hv2⟩ := own_shape own2
        subst hv2
        have HO2 : Hid (w2.ownsRow w.heap.size 3 1 (.slice a2 1 c2) 1 (ints [n])) := own2
        clear hown2 hg2 own2
        go_wp2
        go_ret
        rw [HE.out]
        exact ⟨a2, c2, rfl, own_mono HO2.out (Nat.zero_le _), hB2, fun j hj => Or.inr (HO2.out.lt j hj).1⟩
    · obtain ⟨g, rfl⟩ : ∃ g, a = some ⟨g, 0, none⟩ := by
        rcases HO.out.2 with ⟨h, _⟩ | ⟨g, _, _, h, _⟩
        · injection h with h; exact absurd h h0
        · injection h with h; exact ⟨g, h⟩
      clear h0
      have hc := HO.out.cells (g := g) rfl
      go_wp2_with (at_builtin; refine wpList_append_own _ rfl (.tmp 12) (.tmp 13) 40 rfl w.heap.size 3 i0 (.int .i64 0) 1 8 Tryz.underlying40 hi iz0 iz1 iz2 rfl (by decide) _ _ _ rfl (World.ownsRow_nil _ _ _ _) ⟨g, 0, none⟩ l.length c (ints l) rfl (by simp [ints]) hc (ints_one _) ?c3 ?c4 ?c5 ?_)
      case c3 => unfold maxLen; omega
      case c4 => omega
      case c5 => exact Nat.le_refl _
      · intro v1 w1 hown1 hg1 _
        have own1 : w1.ownsRow w.heap.size 3 1 v1 l.length (ints l) := by simpa using hown1
        have hB1 : Below w.heap.size w w1 := (Below.refl _ _).grown hg1 (Nat.le_refl _) (fun k hk => by simp [Value.ownBlock] at hk)
        obtain ⟨a1, c1, hv1⟩ := own_shape own1
        subst hv1
        clear hown1 hg1 hc
        have hz1 := hB1.size
        go_wp2_with (at_builtin; refine wpList_append_own _ rfl (.tmp 15) (.tmp 17) 40 rfl w.heap.size 3 i0 (.int .i64 0) 1 8 Tryz.underlying40 hi iz0 iz1 iz2 rfl (by decide) _ _ _ rfl (own1.alloc _) ⟨w1.heap.size, 0, none⟩ 1 1 [.int .i64 (n : Int)] rfl rfl ?d1 ?d2 ?d3 ?d4 ?d5 ?_)
        case d1 => exact new_cells w1 _ rfl _ _ _ rfl
        case d2 => exact one_int n
        case d3 => unfold maxLen; omega
        case d4 => omega
        case d5 => simp; omega
        · intro v2 w2 hown2 hg2 _
          have own2 : w2.ownsRow w.heap.size 3 1 v2 (l ++ [n]).length (ints (l ++ [n])) := by simpa [ints] using hown2
          have hB2 : Below w.heap.size w w2 := (hB1.alloc hz1 _).grown hg2 (by simp; omega) (fun k hk => (own1.lt k hk).1)
          obtain ⟨a2, c2, hv2⟩ := own_shape own2
          subst hv2
          have HO2 : Hid (w2.ownsRow w.heap.size 3 1 (.slice a2 (l ++ [n]).length c2) (l ++ [n]).length (ints (l ++ [n]))) := own2
          clear hown2 hg2 own2 own1
          go_wp2
          go_ret
          rw [HE.out]
          exact ⟨a2, c2, rfl, own_mono HO2.out (Nat.zero_le _), hB2, fun j hj => Or.inr (HO2.out.lt j hj).1⟩

/-- The house of an element. -/
noncomputable def houseB (els : List REl) (f n : Int) : Bool := decide (parI els f < 0) || underB els (parI els f) n

set_option maxRecDepth 100000 in
set_option maxHeartbeats 2000000 in
theorem house_any (w : World) (d : Nat) (els : List REl) (made : Nat) (hp : Option Addr) (vT : Value) (has : Bool) (vL : Value) (f n : Int) (h : RD w d els made hp vT has vL) (rk : Nat → Nat) (hr : Rank els rk) :
    Calls Tryz.prog 172 #[.pointer (some ⟨d, 0, none⟩), .int .i64 f, .int .i64 n] w fun e w' => e = .returned (.bool (houseB els f n)) ∧ w' = w := by
  have HR : Hid (RD w d els made hp vT has vL) := h
  have HK : Hid (Rank els rk) := hr
  clear h hr
  go_enter Tryz.func172, Tryz.ntmps172
  go_wp2_with fail
  refine (parent_any _ d els made hp vT has _ f HR.out).mono ?_
  rintro e w1 ⟨rfl, rfl⟩
  obtain ⟨w, rfl⟩ : ∃ w, w = w1 := ⟨_, rfl⟩
  by_cases hp : parI els f < 0
  · have HE : Hid (houseB els f n = true) := by unfold Hid houseB; rw [decide_eq_true hp]; rfl
    have gp : decide (parI els f < 0) = true := by simpa using hp
    clear hp
    generalize parI els f = q at gp ⊢
    go_wp2
    go_ret
    rw [HE.out]
    exact ⟨rfl, rfl⟩
  · have HE : Hid (houseB els f n = underB els (parI els f) n) := by unfold Hid houseB; rw [decide_eq_false hp]; rfl
    have gp : decide (parI els f < 0) = false := by simpa using hp
    clear hp
    go_wp2_with fail
    refine (under_any _ d els made _ vT has _ (parI els f) n HR.out rk HK.out).mono ?_
    rintro e w2 ⟨b, rfl, rfl, HU⟩
    obtain ⟨w, rfl⟩ : ∃ w, w = w2 := ⟨_, rfl⟩
    have HB : Hid (underB els (parI els f) n = b) := by
      unfold Hid
      have h1 := HU.out
      rw [← underB_iff] at h1
      cases b <;> cases hu : underB els (parI els f) n <;> simp_all
    clear HU
    go_wp2
    go_ret
    rw [HE.out, HB.out]
    exact ⟨rfl, rfl⟩

end Go.Proofs.YtblfffbmklkhmaaGreat

namespace Go.Proofs.YtblfffbmklkhmaaGreat
open Go.RowKit

/-- A store into a block of another type. -/
theorem RD.setT {w : World} {d : Nat} {els : List REl} {made : Nat} {hp : Option Addr} {vT : Value} {has : Bool} {vL : Value} (h : RD w d els made hp vT has vL) {b : Nat} {cs : Array Value} {t : TypeId} {z : Nat × Nat} (hb : w.heap[b]? = some (.cells cs t z))
    (h1 : t ≠ 121) (h2 : t ≠ 176) (h3 : t ≠ 171) (h4 : t ≠ 3) (o : Nat) (u : Value) : RD (w.setCell ⟨b, o, none⟩ u) d els made hp vT has vL := by
  have ne : ∀ {k : Nat} {cs' : Array Value} {t' : TypeId} {z' : Nat × Nat}, w.heap[k]? = some (.cells cs' t' z') → t ≠ t' → k ≠ b := by
    intro k cs' t' z' hk hn eq
    rw [eq, hb] at hk
    injection hk with hk
    injection hk with _ h5 _
    exact hn h5
  refine ⟨?_, own_set h.row (own_ne_type h.row hb h3) _, fun e he => ?_, fun e he => own_set (h.kid e he) (own_ne_type (h.kid e he) hb h4) _, h.few, h.kfew⟩
  · rw [Below.heap_setCell _ _ _ _ (ne h.doc h1)]; exact h.doc
  · rw [Below.heap_setCell _ _ _ _ (ne (h.el e he) h2)]; exact h.el e he

/-- A pair of the statement. -/
def PB (w : World) (b : Nat) (px : Value) (d : Nat) (vm vy : Value) (cnt : Int) (vs : Value) (held : Bool) : Prop :=
  w.heap[b]? = some (.cells #[px, .pointer (some ⟨d, 0, none⟩), vm, vy, .int .i64 cnt, vs, .bool held] 124 (0, 0))

theorem PB.blk {w : World} {b : Nat} {px : Value} {d : Nat} {vm vy : Value} {cnt : Int} {vs : Value} {held : Bool} (h : PB w b px d vm vy cnt vs held) : w.heap[b]? = some (.cells #[px, .pointer (some ⟨d, 0, none⟩), vm, vy, .int .i64 cnt, vs, .bool held] 124 (0, 0)) := h

/-- Numbers of elements, none twice. -/
def LS (els : List REl) (l : List Nat) : Prop := l.Nodup ∧ ∀ k ∈ l, ∃ e ∈ els, e.num = k
theorem nodup_len : ∀ {l m : List Nat}, l.Nodup → (∀ k ∈ l, k ∈ m) → l.length ≤ m.length
  | [], _, _, _ => Nat.zero_le _
  | x :: l, m, h, hs => by
    have hx : x ∈ m := hs x (List.mem_cons_self ..)
    have h2 := List.nodup_cons.1 h
    have : l.length ≤ (m.erase x).length := nodup_len h2.2 (fun k hk => by
      refine (List.mem_erase_of_ne (fun e => ?_)).2 (hs k (List.mem_cons_of_mem _ hk))
      subst e
      exact h2.1 hk)
    rw [List.length_erase_of_mem hx] at this
    have := List.length_pos_of_mem hx
    simp only [List.length_cons]
    omega
theorem LS.len {els : List REl} {l : List Nat} (h : LS els l) : l.length ≤ els.length := by
  have := nodup_len h.1 (m := els.map REl.num) (fun k hk => by
    obtain ⟨e, he, rfl⟩ := h.2 k hk
    exact List.mem_map.2 ⟨e, he, rfl⟩)
  simpa using this
theorem hasI_mem {l : List Nat} {n : Nat} : hasI l n = true ↔ n ∈ l := by
  unfold hasI
  rw [List.any_eq_true]
  constructor
  · rintro ⟨k, hk, he⟩
    have : (k : Int) = n := by simpa using he
    rw [show n = k from by omega]
    exact hk
  · intro h
    exact ⟨n, h, by simp⟩
theorem LS.with {els : List REl} {l : List Nat} (h : LS els l) {e : REl} (he : e ∈ els) : LS els (withL l e.num) := by
  unfold withL
  split
  · exact h
  · rename_i hn
    rw [hasI_mem] at hn
    refine ⟨?_, ?_⟩
    · rw [List.nodup_append]
      refine ⟨h.1, by simp, fun a ha b hb => ?_⟩
      simp at hb
      rw [hb]
      intro e2
      exact hn (e2 ▸ ha)
    · intro k hk
      rcases List.mem_append.1 hk with hk | hk
      · exact h.2 k hk
      · simp at hk
        exact ⟨e, he, hk.symm⟩

noncomputable def spoilL (els : List REl) (f : Int) (l : List REl) (m : List Nat) : List Nat := l.foldl (fun m e => if houseB els f e.num = true then withL m e.num else m) m
theorem spoil_take {els l : List REl} {i : Nat} (h : i < l.length) (f : Int) (m : List Nat) : spoilL els f (l.take (i + 1)) m = if houseB els f l[i].num = true then withL (spoilL els f (l.take i) m) l[i].num else spoilL els f (l.take i) m := by
  unfold spoilL
  rw [List.take_succ_eq_append_getElem h, List.foldl_append]
  rfl
theorem LS.spoil {els : List REl} (f : Int) : ∀ {l : List REl} {m : List Nat}, LS els m → (∀ e ∈ l, e ∈ els) → LS els (spoilL els f l m)
  | [], _, h, _ => h
  | e :: l, m, h, hs => by
    show LS els (spoilL els f l (if houseB els f e.num = true then withL m e.num else m))
    refine LS.spoil f ?_ (fun x hx => hs x (List.mem_cons_of_mem _ hx))
    split
    · exact h.with (hs e (List.mem_cons_self ..))
    · exact h

/-- What spoilt leaves. -/
def SPost (w : World) (b : Nat) (px : Value) (d : Nat) (vm vy vs : Value) (l : List Nat) (e : Ending) (w' : World) : Prop :=
  e = .returned (.tuple #[]) ∧ ∃ (a : Option Addr) (c : Nat), PB w' b px d vm (.slice a l.length c) (-1) vs false ∧ w'.ownsRow 0 3 1 (.slice a l.length c) l.length (ints l) ∧ Fr w w' (fun k => k = b) ∧ (∀ j, (Value.slice a l.length c).ownBlock = some j → vy.ownBlock = some j ∨ w.heap.size ≤ j)

structure SI (w : World) (b : Nat) (px : Value) (d : Nat) (els : List REl) (made : Nat) (hp : Option Addr) (vT : Value) (has : Bool) (vL : Value) (vm vy vs : Value) (cnt : Int) (held : Bool) (l : List Nat) (wr : World) (v : Value) : Prop where
  pb : PB wr b px d vm v cnt vs held
  own : wr.ownsRow 0 3 1 v l.length (ints l)
  fr : Fr w wr (fun k => k = b)
  rd : RD wr d els made hp vT has vL
  blk : ∀ j, v.ownBlock = some j → vy.ownBlock = some j ∨ w.heap.size ≤ j

set_option maxRecDepth 100000 in
set_option maxHeartbeats 4000000 in
theorem spoilt_any (w : World) (b : Nat) (px : Value) (d : Nat) (els : List REl) (made : Nat) (hp : Option Addr) (vT : Value) (has : Bool) (vL : Value) (vm vy vs : Value) (cnt : Int) (held : Bool) (l : List Nat) (f : Int)
    (hb : PB w b px d vm vy cnt vs held) (h : RD w d els made hp vT has vL) (rk : Nat → Nat) (hr : Rank els rk) (ho : w.ownsRow 0 3 1 vy l.length (ints l)) (hls : LS els l) :
    Calls Tryz.prog 144 #[.pointer (some ⟨b, 0, none⟩), .int .i64 f] w fun e w' => SPost w b px d vm vy vs (spoilL els f els l) e w' := by
  obtain ⟨aL, cL, hvL⟩ := h.shape
  subst hvL
  have hfew := h.few
  have HK : Hid (Rank els rk) := hr
  have HLS : Hid (∀ i, (spoilL els f (els.take i) l).length ≤ 24) := fun i => by
    have := (LS.spoil f hls (l := els.take i) (fun e he => List.mem_of_mem_take he)).len
    omega
  have HS0 : Hid (SI w b px d els made hp vT has (.slice aL els.length cL) vm vy vs cnt held (spoilL els f (els.take 0) l) w vy) := ⟨hb, ho, Fr.refl _ _, h, fun j hj => Or.inl hj⟩
  clear h hr ho hb hls
  go_enter Tryz.func144, Tryz.ntmps144
  go_wp2_with fail
  go_loopg [4] els.length (fun gk iv wr => ∃ (i : Nat) (v : Value), iv = .int .i64 i ∧ i ≤ els.length ∧ els.length - i ≤ gk ∧ Hid (SI w b px d els made hp vT has (.slice aL els.length cL) vm vy vs cnt held (spoilL els f (els.take i) l) wr v))
  case atStart => exact ⟨0, vy, rfl, Nat.zero_le _, by omega, HS0⟩
  case round =>
    obtain ⟨i, v, rfl, hil, hgk, HS⟩ := hrel
    obtain ⟨av, cv, hv⟩ := own_shape HS.out.own
    subst hv
    have b1 : wr.cell? ⟨b, 1, none⟩ = some (.pointer (some ⟨d, 0, none⟩)) := cell_of_blk HS.out.pb.blk rfl
    have d1 := HS.out.rd.c1
    by_cases hlt : i < els.length
    · have hd : decide ((i : Int) < (els.length : Int)) = true := by simp; omega
      obtain ⟨g, hg, q1⟩ := HS.out.rd.at' hlt
      subst hg
      obtain ⟨q2, _⟩ := el_cells (HS.out.rd.el els[i] (List.getElem_mem hlt))
      have HT : Hid (spoilL els f (els.take (i + 1)) l = if houseB els f els[i].num = true then withL (spoilL els f (els.take i) l) els[i].num else spoilL els f (els.take i) l) := spoil_take hlt f l
      have hml := HLS.out i
      have hml2 := HLS.out (i + 1)
      generalize spoilL els f (els.take i) l = m at HS HT hml ⊢
      generalize els[i] = x at q1 q2 HT
      go_wp2_with fail
      refine (house_any _ d els made hp vT has _ f x.num HS.out.rd rk HK.out).mono ?_
      rintro e w2 ⟨rfl, rfl⟩
      obtain ⟨wr, rfl⟩ : ∃ wr, wr = w2 := ⟨_, rfl⟩
      cases hh : houseB els f x.num with
      | false =>
        have HT2 : Hid (spoilL els f (els.take (i + 1)) l = m) := by unfold Hid; rw [HT.out, if_neg (by rw [hh]; decide)]
        clear HT hh
        go_wp2
        go_roundg (els.length - (i + 1))
        case measure => omega
        case rel => exact ⟨i + 1, _, by go_num, by omega, Nat.le_refl _, by rw [HT2.out]; exact HS⟩
      | true =>
        have HT2 : Hid (spoilL els f (els.take (i + 1)) l = withL m x.num) := by unfold Hid; rw [HT.out, if_pos hh]
        clear HT hh
        have b3 : wr.cell? ⟨b, 3, none⟩ = some (.slice av m.length cv) := cell_of_blk HS.out.pb.blk rfl
        go_wp2_with fail
        refine (with_any wr av cv m x.num HS.out.own hml).mono ?_
        rintro e W3 ⟨a3, c3, rfl, own3, hb3, HB3⟩
        have pb3 : PB W3 b px d vm (.slice av m.length cv) cnt vs held := (hb3.block b (Array.getElem?_eq_some_iff.1 HS.out.pb).1).trans HS.out.pb
        have e3 : W3.cell? ⟨b, 3, none⟩ = some (.slice av m.length cv) := cell_of_blk pb3.blk rfl
        have ez : ∀ k, W3.frozen? ⟨b, k, none⟩ = false := fun _ => frozen_of_blk pb3.blk
        have HS3 : Hid (SI w b px d els made hp vT has (.slice (some ⟨g, 0, none⟩) els.length cL) vm vy vs cnt held (withL m x.num) (W3.setCell ⟨b, 3, none⟩ (.slice a3 (withL m x.num).length c3)) (.slice a3 (withL m x.num).length c3)) := by
          refine ⟨?_, own_set own3 (own_ne_type own3 pb3.blk (by decide)) _, (HS.out.fr.below hb3).set (Or.inl rfl) _, (HS.out.rd.below hb3).setT pb3.blk (by decide) (by decide) (by decide) (by decide) _ _, fun j hj => ?_⟩
          · show (W3.setCell _ _).heap[b]? = _
            rw [heap_setCell_row pb3.blk]; rfl
          · rcases HB3.out j hj with h1 | h1
            · exact HS.out.blk j h1
            · exact Or.inr (Nat.le_trans HS.out.fr.size h1)
        clear own3 hb3 HB3 pb3 b3 b1 d1 q1 q2 HS
        go_wp2
        go_roundg (els.length - (i + 1))
        case measure => omega
        case rel => exact ⟨i + 1, _, by go_num, by omega, Nat.le_refl _, by rw [HT2.out]; exact HS3⟩
    · have hd : decide ((i : Int) < (els.length : Int)) = false := by simp; omega
      obtain rfl : i = els.length := by omega
      rw [List.take_length] at HS
      have ez : ∀ k, wr.frozen? ⟨b, k, none⟩ = false := fun _ => frozen_of_blk HS.out.pb.blk
      have b4 : wr.cell? ⟨b, 4, none⟩ = some (.int .i64 cnt) := cell_of_blk HS.out.pb.blk rfl
      have b6 : wr.cell? ⟨b, 6, none⟩ = some (.bool held) := cell_of_blk HS.out.pb.blk rfl
      go_wp2
      go_end0
      refine ⟨rfl, av, cv, ?_, ?_, (HS.out.fr.set (p := ⟨b, 4, none⟩) (Or.inl rfl) _).set (p := ⟨b, 6, none⟩) (Or.inl rfl) _, HS.out.blk⟩
      · have h1 : (wr.setCell ⟨b, 4, none⟩ (.int .i64 (-1))).heap[b]? = some (.cells #[px, .pointer (some ⟨d, 0, none⟩), vm, .slice av (spoilL els f els l).length cv, .int .i64 (-1), vs, .bool held] 124 (0, 0)) := by
          rw [heap_setCell_row HS.out.pb.blk]; rfl
        show (World.setCell _ _ _).heap[b]? = _
        rw [heap_setCell_row h1]; rfl
      · have hne := own_ne_type HS.out.own HS.out.pb.blk (by decide)
        exact own_set (own_set HS.out.own hne _) hne _

end Go.Proofs.YtblfffbmklkhmaaGreat

namespace Go.Proofs.YtblfffbmklkhmaaGreat
open Go.RowKit

theorem below_drewN (w : World) : ∀ n, Below w.heap.size w (w.drewN n)
  | 0 => Below.refl _ _
  | n + 1 => (below_drewN w n).drew

def onlyL (els : List REl) (l : List Nat) : List Nat := l.filter fun k => (findR els k).isSome
theorem only_take {els : List REl} {l : List Nat} {i : Nat} (h : i < l.length) : onlyL els (l.take (i + 1)) = onlyL els (l.take i) ++ if (findR els (l[i] : Nat)).isSome = true then [l[i]] else [] := by
  unfold onlyL
  rw [List.take_succ_eq_append_getElem h, List.filter_append]
  congr 1
  by_cases e : (findR els (l[i] : Nat)).isSome = true <;> simp [e]
theorem only_len (els : List REl) (l : List Nat) : (onlyL els l).length ≤ l.length := List.length_filter_le _ _

set_option maxRecDepth 100000 in
set_option maxHeartbeats 4000000 in
theorem only_any (w : World) (b : Nat) (px : Value) (d : Nat) (els : List REl) (made : Nat) (hp : Option Addr) (vT : Value) (has : Bool) (vL : Value) (vm vy vs : Value) (cnt : Int) (held : Bool) (a : Option Addr) (c : Nat) (l : List Nat)
    (hb : PB w b px d vm vy cnt vs held) (h : RD w d els made hp vT has vL) (ho : w.ownsRow 0 3 1 (.slice a l.length c) l.length (ints l)) (hl : l.length ≤ 24) :
    Calls Tryz.prog 146 #[.pointer (some ⟨b, 0, none⟩), .slice a l.length c] w fun e w' => LPost w (onlyL els l) e w' := by
  obtain ⟨i0, hi, iz0, iz1, iz2⟩ := info_parts Tryz.info3
  have HO : Hid (w.ownsRow 0 3 1 (.slice a l.length c) l.length (ints l)) := ho
  have HR : Hid (RD w d els made hp vT has vL) := h
  have HB : Hid (PB w b px d vm vy cnt vs held) := hb
  clear ho h hb
  go_enter Tryz.func146, Tryz.ntmps146
  go_wp2_with fail
  go_loopg [5, 6] l.length (fun gk v iv wr => ∃ i : Nat, iv = .int .i64 i ∧ i ≤ l.length ∧ l.length - i ≤ gk ∧ wr.ownsRow w.heap.size 3 1 v (onlyL els (l.take i)).length (ints (onlyL els (l.take i))) ∧ Below w.heap.size w wr)
  case atStart => exact ⟨0, rfl, Nat.zero_le _, by omega, World.ownsRow_nil _ _ _ _, Below.refl _ _⟩
  case round =>
    obtain ⟨i, rfl, hil, hgk, hown, hB⟩ := hrel
    obtain ⟨a2, c2, hv⟩ := own_shape hown
    subst hv
    by_cases hlt : i < l.length
    · have hd : decide ((i : Int) < (l.length : Int)) = true := by simp; omega
      obtain ⟨g, hg, hgl, hc⟩ := own_cells HO.out (by omega)
      subst hg
      have q := (hB.cell (p := ⟨g, i, none⟩) hgl).trans (hc i (.int .i64 ((l[i] : Nat) : Int)) (by simp [hlt]))
      have hfl : (onlyL els (l.take i)).length ≤ 24 := by
        have := only_len els (l.take i)
        have : (l.take i).length ≤ l.length := List.length_take_le' _ _
        omega
      have HT : Hid (onlyL els (l.take (i + 1)) = onlyL els (l.take i) ++ if (findR els (l[i] : Nat)).isSome = true then [l[i]] else []) := only_take hlt
      clear hc
      generalize onlyL els (l.take i) = f at hown hfl HT
      generalize l[i] = y at q HT
      have HRr : Hid (RD wr d els made hp vT has vL) := HR.out.below hB
      have b1 : wr.cell? ⟨b, 1, none⟩ = some (.pointer (some ⟨d, 0, none⟩)) := (hB.cell (p := ⟨b, 1, none⟩) (Array.getElem?_eq_some_iff.1 HB.out.blk).1).trans (cell_of_blk HB.out.blk rfl)
      have HW : Hid (wr.ownsRow w.heap.size 3 1 (.slice a2 f.length c2) f.length (ints f)) := hown
      clear hown
      have HFA : Hid (∀ k, Calls Tryz.prog 92 #[.pointer (some ⟨d, 0, none⟩), .int .i64 (y : Int)] (wr.drewN k) fun e w' => e = .returned (ptrOf (findR els y)) ∧ w' = wr.drewN k) := fun k => find_any _ d els made hp vT has vL y (HRr.out.below (below_drewN _ _))
      cases hf : findR els (y : Int) with
      | none =>
        have HFA2 : Hid (∀ k, Calls Tryz.prog 92 #[.pointer (some ⟨d, 0, none⟩), .int .i64 (y : Int)] (wr.drewN k) fun e w' => e = .returned (.pointer none) ∧ w' = wr.drewN k) := fun k => by
          have := HFA.out k
          rw [hf] at this
          exact this
        have HT2 : Hid (onlyL els (l.take (i + 1)) = f) := by unfold Hid; rw [HT.out, hf]; simp
        clear hf HFA HT
        go_upto_region 5 with fail
        go_quiet ((go_at_call 92; exact Calls.quiet_of_same (HFA2.out _)))
        have hBq : Below w.heap.size w (wr.drewN nq) := hB.trans ((below_drewN wr nq).mono hB.size)
        have HW2 : Hid ((wr.drewN nq).ownsRow w.heap.size 3 1 (.slice a2 f.length c2) f.length (ints f)) := own_below HW.out (below_drewN wr nq)
        go_wp2
        go_roundg (l.length - (i + 1))
        case measure => omega
        case rel => exact ⟨i + 1, by go_num, by omega, Nat.le_refl _, by rw [HT2.out]; exact HW2.out, hBq⟩
      | some p =>
        have HFA2 : Hid (∀ k, Calls Tryz.prog 92 #[.pointer (some ⟨d, 0, none⟩), .int .i64 (y : Int)] (wr.drewN k) fun e w' => e = .returned (.pointer (some ⟨p.blk, 0, none⟩)) ∧ w' = wr.drewN k) := fun k => by
          have := HFA.out k
          rw [hf] at this
          exact this
        have HT2 : Hid (onlyL els (l.take (i + 1)) = f ++ [y]) := by unfold Hid; rw [HT.out, hf]; simp
        clear hf HFA HT
        go_upto_region 5 with fail
        go_quiet ((go_at_call 92; exact Calls.quiet_of_same (HFA2.out _)))
        have hBq : Below w.heap.size w (wr.drewN nq) := hB.trans ((below_drewN wr nq).mono hB.size)
        have HW2 : Hid ((wr.drewN nq).ownsRow w.heap.size 3 1 (.slice a2 f.length c2) f.length (ints f)) := own_below HW.out (below_drewN wr nq)
        have q' : (wr.drewN nq).cell? ⟨g, i, none⟩ = some (.int .i64 (y : Int)) := q
        generalize wr.drewN nq = wq at hBq HW2 q' ⊢
        clear q b1 HFA2 HRr HW
        have hz := hBq.size
        go_wp2_with (at_builtin; refine wpList_append_own _ rfl (.tmp 23) (.tmp 28) 40 rfl w.heap.size 3 i0 (.int .i64 0) 1 8 Tryz.underlying40 hi iz0 iz1 iz2 rfl (by decide) _ _ _ rfl (HW2.out.alloc _) ⟨wq.heap.size, 0, none⟩ 1 1 [.int .i64 (y : Int)] rfl rfl ?c1 ?c2 ?c3 ?c4 ?c5 ?_)
        case c1 => exact new_cells wq _ rfl _ _ _ rfl
        case c2 => exact one_int y
        case c3 => unfold maxLen; omega
        case c4 => omega
        case c5 => simp; omega
        · intro v' w3 hown3 hg3 _
          have own3 : w3.ownsRow w.heap.size 3 1 v' (f ++ [y]).length (ints (f ++ [y])) := by simpa [ints] using hown3
          have hB3 : Below w.heap.size w w3 := (hBq.alloc hz _).grown hg3 (by simp; omega) (fun k hk => (HW2.out.lt k hk).1)
          have HO3 : Hid (w3.ownsRow w.heap.size 3 1 v' (f ++ [y]).length (ints (f ++ [y]))) := own3
          clear hown3 hg3 own3 q'
          go_wp2
          go_roundg (l.length - (i + 1))
          case measure => omega
          case rel => exact ⟨i + 1, by go_num, by omega, Nat.le_refl _, by rw [HT2.out]; exact HO3.out, hB3⟩
    · have hd : decide ((i : Int) < (l.length : Int)) = false := by simp; omega
      obtain rfl : i = l.length := by omega
      rw [List.take_length] at hown
      have HW : Hid (wr.ownsRow w.heap.size 3 1 (.slice a2 (onlyL els l).length c2) (onlyL els l).length (ints (onlyL els l))) := hown
      rw [List.take_length]
      clear hown
      go_wp2
      go_ret
      exact ⟨a2, c2, rfl, HW.out, hB⟩

end Go.Proofs.YtblfffbmklkhmaaGreat

namespace Go.Proofs.YtblfffbmklkhmaaGreat
open Go.RowKit

def Drew (w w' : World) : Prop := ∃ k, w' = w.drewN k
theorem Drew.below {w w' : World} (h : Drew w w') : Below w.heap.size w w' := by
  obtain ⟨k, rfl⟩ := h
  exact below_drewN w k
theorem drew_more {w w' : World} (h : Drew w w') (n : Nat) : Drew w (w'.drewN n) := by
  obtain ⟨k, rfl⟩ := h
  exact ⟨k + n, by rw [World.drewN_drewN]⟩

set_option maxRecDepth 100000 in
set_option maxHeartbeats 4000000 in
theorem same_any (w : World) (a a' : Option Addr) (c c' : Nat) (l : List Nat) (ho : w.ownsRow 0 3 1 (.slice a l.length c) l.length (ints l)) (ho' : w.ownsRow 0 3 1 (.slice a' l.length c') l.length (ints l)) (hl : l.length ≤ 24) :
    Calls Tryz.prog 94 #[.slice a l.length c, .slice a' l.length c'] w fun e w' => e = .returned (.bool true) ∧ Drew w w' := by
  have HO : Hid (w.ownsRow 0 3 1 (.slice a l.length c) l.length (ints l)) := ho
  have HO' : Hid (w.ownsRow 0 3 1 (.slice a' l.length c') l.length (ints l)) := ho'
  clear ho ho'
  go_enter Tryz.func94, Tryz.ntmps94
  go_wp2
  go_loopg [5] l.length (fun gk iv wr => ∃ i : Nat, iv = .int .i64 i ∧ i ≤ l.length ∧ l.length - i ≤ gk ∧ Drew w wr)
  case atStart => exact ⟨0, rfl, Nat.zero_le _, by omega, 0, rfl⟩
  case round =>
    obtain ⟨i, rfl, hil, hgk, hD'⟩ := hrel
    have hD : Hid (Drew w wr) := hD'
    have hbe := hD'.below
    clear hD'
    by_cases hlt : i < l.length
    · have hd : decide ((i : Int) < (l.length : Int)) = true := by simp; omega
      obtain ⟨g, hg, hgl, hc⟩ := own_cells HO.out (by omega)
      subst hg
      have q := (hbe.cell (p := ⟨g, i, none⟩) hgl).trans <| hc i (.int .i64 ((l[i] : Nat) : Int)) (by simp [hlt])
      clear hc
      obtain ⟨g', hg', hgl', hc'⟩ := own_cells HO'.out (by omega)
      subst hg'
      have q' := (hbe.cell (p := ⟨g', i, none⟩) hgl').trans <| hc' i (.int .i64 ((l[i] : Nat) : Int)) (by simp [hlt])
      clear hc'
      go_upto_region 6 with fail
      go_quiet (fail)
      go_wp2
      go_roundg (l.length - (i + 1))
      case measure => omega
      case rel => exact ⟨i + 1, by go_num, by omega, Nat.le_refl _, drew_more hD.out nq⟩
    · have hd : decide ((i : Int) < (l.length : Int)) = false := by simp; omega
      go_wp2
      go_ret
      exact ⟨rfl, hD.out⟩

end Go.Proofs.YtblfffbmklkhmaaGreat
