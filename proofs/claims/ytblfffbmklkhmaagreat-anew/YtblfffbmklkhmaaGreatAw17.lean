/- Own work. -/
import Derived.Test.YtblfffbmklkhmaaGreatAw16
import Derived.Laws.AppendOwnNone
namespace Go.Proofs.YtblfffbmklkhmaaGreat
open Go.RowKit
set_option maxRecDepth 100000 in
set_option maxHeartbeats 4000000 in
theorem kput_some (w : World) (g c : Nat) (l1 l2 : List Nat) (v : Nat) (base : Nat) (ho : w.ownsRow base 3 1 (.slice (some ⟨g, 0, none⟩) (l1.length + l2.length) c) (l1.length + l2.length) (ints (l1 ++ l2))) (hl : l1.length + l2.length ≤ 24) :
    Calls Tryz.prog 115 #[.slice (some ⟨g, 0, none⟩) (l1.length + l2.length) c, .int .i64 l1.length, .int .i64 v] w fun e w' => LPost w (l1 ++ [v] ++ l2) e w' := by
  obtain ⟨i0, hi, iz0, iz1, iz2⟩ := info_parts Tryz.info3
  have hcap : l1.length + l2.length ≤ c := by
    rcases ho.2 with ⟨h, _⟩ | ⟨_, _, _, h, _, _, h2, _⟩
    · injection h with h; cases h
    · injection h with _ _ h3; omega
  have hcl : c ≤ maxLen := by
    rcases ho.2 with ⟨h, _⟩ | ⟨_, _, _, h, _, _, _, h2, _⟩
    · injection h with h; cases h
    · injection h with _ _ h3; rw [h3]; exact h2
  unfold maxLen at hcl
  have hgl : g < w.heap.size := (ho.lt g rfl).2
  have HS : Hid (∀ (w2 : World), Below w.heap.size w w2 → (∀ j u, (ints l1)[j]? = some u → w2.cell? ((⟨g, 0, none⟩ : Addr).add j) = some u) ∧ (∀ j u, (ints l2)[j]? = some u → w2.cell? ((⟨g, l1.length, none⟩ : Addr).add j) = some u)) := fun w2 hb => by
    have hsrc : ∀ j u, (ints (l1 ++ l2))[j]? = some u → w2.cell? ⟨g, j, none⟩ = some u := fun j u hu => by
      have h1 := ho.cells (g := g) rfl j u hu
      rw [Go.WideShapes.add_plain, Nat.zero_add] at h1
      exact (hb.cell (p := ⟨g, j, none⟩) hgl).trans h1
    constructor
    · intro j u hu
      rw [Go.WideShapes.add_plain, Nat.zero_add]
      refine hsrc j u ?_
      have hj : j < (ints l1).length := (List.getElem?_eq_some_iff.1 hu).1
      rw [show ints (l1 ++ l2) = ints l1 ++ ints l2 from by simp [ints], List.getElem?_append_left hj]
      exact hu
    · intro j u hu
      rw [Go.WideShapes.add_plain]
      refine hsrc _ u ?_
      rw [show ints (l1 ++ l2) = ints l1 ++ ints l2 from by simp [ints], List.getElem?_append_right (by simp [ints])]
      simpa [ints] using hu
  clear ho
  go_enter Tryz.func115, Tryz.ntmps115
  go_wp2_with (at_builtin; refine wpList_append_own _ rfl (.tmp 8) (.tmp 11) 40 rfl w.heap.size 3 i0 (.int .i64 0) 1 8 Tryz.underlying40 hi iz0 iz1 iz2 rfl (by decide) _ _ _ rfl (World.ownsRow_nil _ _ _ _) ⟨g, 0, none⟩ l1.length c (ints l1) rfl (by simp [ints]) (HS.out w (Below.refl _ _)).1 (ints_one _) ?c3 ?c4 ?c5 ?_)
  case c3 => unfold maxLen; omega
  case c4 => omega
  case c5 => exact Nat.le_refl _
  · intro v1 w1 hown1 hg1 _
    have own1 : w1.ownsRow w.heap.size 3 1 v1 l1.length (ints l1) := by simpa using hown1
    have hB1 : Below w.heap.size w w1 := (Below.refl _ _).grown hg1 (Nat.le_refl _) (fun k hk => by simp [Value.ownBlock] at hk)
    obtain ⟨a1, c1, hv1⟩ := own_shape own1
    subst hv1
    clear hown1 hg1
    have hz1 := hB1.size
    go_wp2_with (at_builtin; refine wpList_append_own _ rfl (.tmp 13) (.tmp 15) 40 rfl w.heap.size 3 i0 (.int .i64 0) 1 8 Tryz.underlying40 hi iz0 iz1 iz2 rfl (by decide) _ _ _ rfl (own1.alloc _) ⟨w1.heap.size, 0, none⟩ 1 1 [.int .i64 (v : Int)] rfl rfl ?d1 ?d2 ?d3 ?d4 ?d5 ?_)
    case d1 => exact new_cells w1 _ rfl _ _ _ rfl
    case d2 => intro u hu; simp at hu; subst hu; rfl
    case d3 => unfold maxLen; omega
    case d4 => omega
    case d5 => simp; omega
    · intro v2 w2 hown2 hg2 _
      have own2 : w2.ownsRow w.heap.size 3 1 v2 (l1.length + 1) (ints (l1 ++ [v])) := by simpa [ints] using hown2
      have hB2 : Below w.heap.size w w2 := (hB1.alloc hz1 _).grown hg2 (by simp; omega) (fun k hk => (own1.lt k hk).1)
      obtain ⟨a2, c2, hv2⟩ := own_shape own2
      subst hv2
      have hsh := hB2.size
      clear hown2 hg2
      by_cases hck : c = l1.length
      · have hnil : l2 = [] := List.eq_nil_of_length_eq_zero (by omega)
        subst hnil
        obtain rfl := hck
        go_wp2_with (at_builtin; refine wpList_append_own _ rfl (.tmp 17) (.tmp 20) 40 rfl w.heap.size 3 i0 (.int .i64 0) 1 8 Tryz.underlying40 hi iz0 iz1 iz2 rfl (by decide) _ _ _ rfl own2 ⟨g, 0, none⟩ 0 0 [] rfl rfl (fun j u hu => by simp at hu) (fun u hu => by cases hu) ?e3 ?e4 ?e5 ?_)
        case e3 => unfold maxLen; omega
        case e4 => omega
        case e5 => omega
        · intro v3 w3 hown3 hg3 _
          have own3 : w3.ownsRow w.heap.size 3 1 v3 (l1 ++ [v] ++ []).length (ints (l1 ++ [v] ++ [])) := by simpa [ints] using hown3
          have hB3 : Below w.heap.size w w3 := hB2.grown hg3 (by omega) (fun k hk => (own2.lt k hk).1)
          obtain ⟨a3, c3, hv3⟩ := own_shape own3
          subst hv3
          have HO3 : Hid (w3.ownsRow w.heap.size 3 1 (.slice a3 (l1 ++ [v] ++ []).length c3) (l1 ++ [v] ++ []).length (ints (l1 ++ [v] ++ []))) := own3
          clear hown3 hg3 own3
          go_wp2
          go_ret
          exact ⟨a3, c3, rfl, HO3.out, hB3⟩
      · go_wp2_with (at_builtin; refine wpList_append_own _ rfl (.tmp 17) (.tmp 20) 40 rfl w.heap.size 3 i0 (.int .i64 0) 1 8 Tryz.underlying40 hi iz0 iz1 iz2 rfl (by decide) _ _ _ rfl own2 ⟨g, l1.length, none⟩ l2.length (c - l1.length) (ints l2) ?f1 (by simp [ints]) (HS.out w2 hB2).2 (ints_one _) ?f3 ?f4 ?f5 ?_)
        case f1 => simp [Act.eval]
        case f3 => unfold maxLen; omega
        case f4 => omega
        case f5 => omega
        · intro v3 w3 hown3 hg3 _
          have own3 : w3.ownsRow w.heap.size 3 1 v3 (l1 ++ [v] ++ l2).length (ints (l1 ++ [v] ++ l2)) := by simpa [ints, Nat.add_assoc, Nat.add_comm, Nat.add_left_comm] using hown3
          have hB3 : Below w.heap.size w w3 := hB2.grown hg3 (by omega) (fun k hk => (own2.lt k hk).1)
          obtain ⟨a3, c3, hv3⟩ := own_shape own3
          subst hv3
          have HO3 : Hid (w3.ownsRow w.heap.size 3 1 (.slice a3 (l1 ++ [v] ++ l2).length c3) (l1 ++ [v] ++ l2).length (ints (l1 ++ [v] ++ l2))) := own3
          clear hown3 hg3 own3
          go_wp2
          go_ret
          exact ⟨a3, c3, rfl, HO3.out, hB3⟩
set_option maxRecDepth 100000 in
set_option maxHeartbeats 2000000 in
theorem kput_nil (w : World) (v : Nat) :
    Calls Tryz.prog 115 #[.slice none 0 0, .int .i64 0, .int .i64 v] w fun e w' => LPost w [v] e w' := by
  obtain ⟨i0, hi, iz0, iz1, iz2⟩ := info_parts Tryz.info3
  go_enter Tryz.func115, Tryz.ntmps115
  go_wp2_with (first | (at_builtin; refine wpList_append_own_none rfl (.tmp 8) (.tmp 11) 40 rfl w.heap.size 3 i0 1 Tryz.underlying40 hi _ _ _ rfl (World.ownsRow_nil _ _ _ _) rfl ?_) | (at_builtin; refine wpList_append_own _ rfl (.tmp 13) (.tmp 15) 40 rfl w.heap.size 3 i0 (.int .i64 0) 1 8 Tryz.underlying40 hi iz0 iz1 iz2 rfl (by decide) _ _ _ rfl (World.ownsRow_nil _ _ _ _) ⟨w.heap.size, 0, none⟩ 1 1 [.int .i64 (v : Int)] rfl rfl (new_cells w _ rfl _ _ _ rfl) (one_int v) (by unfold maxLen; omega) (by omega) (by simp) ?_))
  · intro v2 w2 hown2 hg2 _
    have own2 : w2.ownsRow w.heap.size 3 1 v2 1 (ints [v]) := by simpa [ints] using hown2
    have hB2 : Below w.heap.size w w2 := ((Below.refl _ _).alloc (Nat.le_refl _) _).grown hg2 (by simp) (fun k hk => by simp [Value.ownBlock] at hk)
    obtain ⟨a2, c2, hv2⟩ := own_shape own2
    subst hv2
    have HO2 : Hid (w2.ownsRow w.heap.size 3 1 (.slice a2 1 c2) 1 (ints [v])) := own2
    clear hown2 hg2
    go_wp2_with (at_builtin; refine wpList_append_own_none rfl (.tmp 17) (.tmp 20) 40 rfl w.heap.size 3 i0 1 Tryz.underlying40 hi _ _ _ rfl own2 rfl ?_)
    go_wp2
    go_ret
    exact ⟨a2, c2, rfl, HO2.out, hB2⟩
theorem kput_any (w : World) (a : Option Addr) (c : Nat) (l : List Nat) (k v : Nat) (base : Nat) (ho : w.ownsRow base 3 1 (.slice a l.length c) l.length (ints l)) (hl : l.length ≤ 24) (hk : k ≤ l.length) :
    Calls Tryz.prog 115 #[.slice a l.length c, .int .i64 k, .int .i64 v] w fun e w' => LPost w (insL l k v) e w' := by
  by_cases h0 : a = none
  · subst h0
    have hn : l = [] ∧ c = 0 := by
      rcases ho.2 with ⟨h, h2⟩ | ⟨_, _, _, h, _⟩
      · injection h with _ h3 h4; exact ⟨List.eq_nil_of_length_eq_zero h2, h4⟩
      · injection h with h; cases h
    obtain ⟨rfl, rfl⟩ := hn
    obtain rfl : k = 0 := by simpa using hk
    exact kput_nil w v
  · obtain ⟨g, rfl⟩ : ∃ g, a = some ⟨g, 0, none⟩ := by
      rcases ho.2 with ⟨h, _⟩ | ⟨g, _, _, h, _⟩
      · injection h with h; exact absurd h h0
      · injection h with h; exact ⟨g, h⟩
    have e1 : (l.take k).length = k := by simp; omega
    have e2 : (l.take k).length + (l.drop k).length = l.length := by rw [← List.length_append, List.take_append_drop]
    have := kput_some w g c (l.take k) (l.drop k) v base (by rw [e2, List.take_append_drop]; exact ho) (by omega)
    rw [e2, e1] at this
    exact this
end Go.Proofs.YtblfffbmklkhmaaGreat

namespace Go.Proofs.YtblfffbmklkhmaaGreat
open Go.RowKit
/-- A node of a grove. -/
structure GN where
  b : Nat
  num : Nat
  par : Int
  kind : ByteArray
  name : ByteArray
  c0 : Bool
  c1 : Bool
  c2 : Bool
  c3 : Bool
  kids : List Nat
  ks : Value
def GN.blk (n : GN) : Obj := .cells #[.int .i64 n.num, .int .i64 n.par, .string n.kind, .string n.name, .bool n.c0, .bool n.c1, .bool n.c2, .bool n.c3, n.ks] 42 (0, 0)
abbrev GN.ptr (n : GN) : Value := .pointer (some ⟨n.b, 0, none⟩)
/-- The grove in memory. -/
structure GR (w : World) (g : Nat) (px vl : Value) (made : Nat) (by' : Int) (ns : List GN) : Prop where
  blk : w.heap[g]? = some (.cells #[px, vl, .int .i64 made, .int .i64 by'] 36 (0, 0))
  row : w.ownsRow 0 43 1 vl ns.length (ns.map GN.ptr)
  nd : ∀ n ∈ ns, w.heap[n.b]? = some n.blk
  kid : ∀ n ∈ ns, w.ownsRow 0 3 1 n.ks n.kids.length (ints n.kids)
/-- What the nodes stand for. -/
structure GT (ns : List GN) (T : Tree) (made : Nat) : Prop where
  tree : T = ns.map fun n => (n.num, n.kids)
  tw : TW T made
  par : ∀ n ∈ ns, n.par = tPar T n.num
  few : ns.length ≤ 24
section
variable {w w' : World} {g : Nat} {px vl : Value} {made : Nat} {by' : Int} {ns : List GN} {T : Tree}
theorem GR.below (h : GR w g px vl made by' ns) (hB : Below w.heap.size w w') : GR w' g px vl made by' ns :=
  ⟨(hB.block g (Array.getElem?_eq_some_iff.1 h.blk).1).trans h.blk, own_below h.row hB, fun n hn => (hB.block n.b (Array.getElem?_eq_some_iff.1 (h.nd n hn)).1).trans (h.nd n hn), fun n hn => own_below (h.kid n hn) hB⟩
theorem GR.c0 (h : GR w g px vl made by' ns) : w.cell? ⟨g, 0, none⟩ = some px := cell_of_blk h.blk rfl
theorem GR.c1 (h : GR w g px vl made by' ns) : w.cell? ⟨g, 1, none⟩ = some vl := cell_of_blk h.blk rfl
theorem GR.c2 (h : GR w g px vl made by' ns) : w.cell? ⟨g, 2, none⟩ = some (.int .i64 made) := cell_of_blk h.blk rfl
theorem GR.c3 (h : GR w g px vl made by' ns) : w.cell? ⟨g, 3, none⟩ = some (.int .i64 by') := cell_of_blk h.blk rfl
theorem GR.lt (h : GR w g px vl made by' ns) : g < w.heap.size := (Array.getElem?_eq_some_iff.1 h.blk).1
theorem GR.at' {a : Option Addr} {c : Nat} (h : GR w g px (.slice a ns.length c) made by' ns) {i : Nat} (hi : i < ns.length) : ∃ r, a = some ⟨r, 0, none⟩ ∧ r < w.heap.size ∧ w.cell? ⟨r, i, none⟩ = some ns[i].ptr ∧ ns[i].b < w.heap.size ∧ w.heap[ns[i].b]? = some ns[i].blk := by
  obtain ⟨r, hr, hrl, hc⟩ := own_cells h.row (by omega)
  refine ⟨r, hr, hrl, hc i _ (by simp [hi]), (Array.getElem?_eq_some_iff.1 (h.nd _ (List.getElem_mem hi))).1, h.nd _ (List.getElem_mem hi)⟩
theorem GT.nums (h : GT ns T made) : (ns.map GN.num).Nodup := by
  have := h.tw.nums
  rw [h.tree, List.map_map] at this
  exact this
theorem GT.len (h : GT ns T made) : T.length = ns.length := by rw [h.tree]; simp
theorem gn_inj (h : (ns.map GN.num).Nodup) {x y : GN} (hx : x ∈ ns) (hy : y ∈ ns) (hn : x.num = y.num) : x = y := by
  induction ns with
  | nil => cases hx
  | cons z l ih =>
    rw [List.map_cons, List.nodup_cons] at h
    rcases List.mem_cons.1 hx with h1 | h1 <;> rcases List.mem_cons.1 hy with h2 | h2
    · rw [h1, h2]
    · rw [h1] at hn
      exact absurd (List.mem_map.2 ⟨y, h2, hn.symm⟩) h.1
    · rw [h2] at hn
      exact absurd (List.mem_map.2 ⟨x, h1, hn⟩) h.1
    · exact ih h.2 h1 h2
/-- The node of a number. -/
def findG (ns : List GN) (n : Int) : Option GN := ns.find? fun x => decide ((x.num : Int) = n)
theorem findG_at {n : Int} {i : Nat} (hi : i < ns.length) (hno : ∀ j (_ : j < ns.length), j < i → ¬ (ns[j].num : Int) = n) (h : (ns[i].num : Int) = n) : findG ns n = some ns[i] := by
  unfold findG
  rw [List.find?_eq_some_iff_getElem]
  refine ⟨by simpa using h, i, hi, rfl, fun j hj => ?_⟩
  have := hno j (by omega) hj
  simpa using this
theorem findG_no {n : Int} (hno : ∀ j (_ : j < ns.length), ¬ (ns[j].num : Int) = n) : findG ns n = none := by
  unfold findG
  rw [List.find?_eq_none]
  intro x hx
  obtain ⟨j, hj, rfl⟩ := List.getElem_of_mem hx
  simpa using hno j hj
theorem findG_some {n : Int} {x : GN} (h : findG ns n = some x) : x ∈ ns ∧ (x.num : Int) = n := ⟨List.mem_of_find?_eq_some h, by simpa using List.find?_some h⟩
theorem findG_mem (h : (ns.map GN.num).Nodup) {x : GN} (hx : x ∈ ns) : findG ns x.num = some x := by
  cases hf : findG ns x.num with
  | none =>
    unfold findG at hf
    rw [List.find?_eq_none] at hf
    exact absurd (by simp) (hf x hx)
  | some y =>
    obtain ⟨hy, he⟩ := findG_some hf
    rw [gn_inj h hy hx (by omega)]
end
section
set_option maxRecDepth 100000
set_option maxHeartbeats 1500000
variable (w : World) (g : Nat) (px vl : Value) (made : Nat) (by' : Int) (ns : List GN)
theorem kfind_any (n : Int) (h : GR w g px vl made by' ns) (hl : ns.length ≤ 24) (h0 : 0 < ns.length) : Calls Tryz.prog 26 #[.pointer (some ⟨g, 0, none⟩), .int .i64 n] w fun e w' => e = .returned ((findG ns n).getD ns[0]).ptr ∧ w' = w := by
  obtain ⟨a, c, hv⟩ := own_shape h.row
  subst hv
  have HG : Hid (GR w g px (.slice a ns.length c) made by' ns) := h
  have q1 := h.c1
  clear h
  go_enter Tryz.func26, Tryz.ntmps26
  go_wp2_with fail
  go_loopg [5] ns.length (fun gk iv wr => ∃ i : Nat, iv = .int .i64 i ∧ i ≤ ns.length ∧ ns.length - i ≤ gk ∧ wr = w ∧ Hid (∀ j (_ : j < ns.length), j < i → ¬ (ns[j].num : Int) = n))
  case atStart => exact ⟨0, rfl, Nat.zero_le _, by omega, rfl, fun j _ h => by omega⟩
  case round =>
    obtain ⟨i, rfl, hi, hgk, rfl, HN⟩ := hrel
    by_cases hlt : i < ns.length
    · have hd : decide ((i : Int) < (ns.length : Int)) = true := by simp; omega
      obtain ⟨r, hr, hrl, q2, hbl, hblk⟩ := HG.out.at' hlt
      subst hr
      have q3 : wr.cell? ⟨ns[i].b, 0, none⟩ = some (.int .i64 ns[i].num) := cell_of_blk hblk rfl
      have HF : Hid ((ns[i].num : Int) = n → findG ns n = some ns[i]) := fun h => findG_at hlt HN.out h
      have HNX : Hid (¬ (ns[i].num : Int) = n → ∀ j (_ : j < ns.length), j < i + 1 → ¬ (ns[j].num : Int) = n) := fun hm j hj h1 => by
        by_cases e : j = i
        · subst e; exact hm
        · exact HN.out j hj (by omega)
      clear hblk
      generalize ns[i] = x at q2 q3 hbl HF HNX
      by_cases hx : (x.num : Int) = n
      · have gx : ((x.num : Int) == n) = true := by simp [hx]
        have HR : Hid (Ending.returned x.ptr = .returned ((findG ns n).getD ns[0]).ptr) := by unfold Hid; rw [HF.out hx]; rfl
        clear hx HF HNX
        go_wp2
        go_ret
        exact ⟨HR.out, rfl⟩
      · have gx : ((x.num : Int) == n) = false := by simp [hx]
        have HN2 : Hid (∀ j (_ : j < ns.length), j < i + 1 → ¬ (ns[j].num : Int) = n) := HNX.out hx
        clear hx HF HNX
        go_wp2
        go_roundg (ns.length - (i + 1))
        case measure => omega
        case rel => exact ⟨i + 1, by go_num, by omega, Nat.le_refl _, rfl, HN2⟩
    · have hd : decide ((i : Int) < (ns.length : Int)) = false := by simp; omega
      obtain ⟨r, hr, hrl, q2, hbl, hblk⟩ := HG.out.at' h0
      subst hr
      obtain ⟨x, hx⟩ : ∃ x, ns[0] = x := ⟨_, rfl⟩
      have HR : Hid (Ending.returned x.ptr = .returned ((findG ns n).getD ns[0]).ptr) := by unfold Hid; rw [findG_no (fun j hj => HN.out j hj (by omega)), ← hx]; rfl
      have h0' : (0 : Int) < (ns.length : Int) := by omega
      rw [hx] at q2 hbl
      clear hblk hx
      go_wp2
      go_ret
      exact ⟨HR.out, rfl⟩
theorem kunder_any {T : Tree} (a : Nat) (x0 : GN) (hx0 : x0 ∈ ns) (h : GR w g px vl made by' ns) (ht : GT ns T made) : Calls Tryz.prog 117 #[.pointer (some ⟨g, 0, none⟩), .int .i64 a, x0.ptr] w fun e w' => e = .returned (.bool (tUnderB T a x0.num)) ∧ w' = w := by
  have HG : Hid (GR w g px vl made by' ns) := h
  have HT : Hid (GT ns T made) := ht
  have hl := ht.few
  have h0 : 0 < ns.length := List.length_pos_of_mem hx0
  obtain ⟨rk, hrk⟩ := ht.tw.rank
  have HRK : Hid (∀ e ∈ T, ∀ k ∈ e.2, rk e.1 < rk k) := hrk
  clear h ht hrk
  go_enter Tryz.func117, Tryz.ntmps117
  go_wp2_with fail
  go_loopg [2] (rk x0.num) (fun gk nv wr => ∃ x : GN, nv = x.ptr ∧ wr = w ∧ rk x.num ≤ gk ∧ Hid (x ∈ ns ∧ tUnderB T a x0.num = tUnderB T a x.num))
  case atStart => exact ⟨x0, rfl, rfl, Nat.le_refl _, hx0, rfl⟩
  case round =>
    obtain ⟨x, rfl, rfl, hgk, HN⟩ := hrel
    have hblk := HG.out.nd x HN.out.1
    have hbl : x.b < wr.heap.size := (Array.getElem?_eq_some_iff.1 hblk).1
    have q0 : wr.cell? ⟨x.b, 0, none⟩ = some (.int .i64 x.num) := cell_of_blk hblk rfl
    have q1 : wr.cell? ⟨x.b, 1, none⟩ = some (.int .i64 x.par) := cell_of_blk hblk rfl
    have HP : Hid (x.par = tPar T x.num) := HT.out.par x HN.out.1
    have HM : Hid ((x.num, x.kids) ∈ T) := by unfold Hid; rw [HT.out.tree]; exact List.mem_map.2 ⟨x, HN.out.1, rfl⟩
    clear hblk
    by_cases hxa : x.num = a
    · have gx : ((x.num : Int) != (a : Int)) = false := by simp [hxa]
      have HR : Hid (Ending.returned (.bool true) = .returned (.bool (tUnderB T a x0.num))) := by
        have : tUnderB T a x0.num = true := by rw [HN.out.2, tUnderB_iff, hxa]; exact under_self T a
        unfold Hid
        rw [this]
      clear hxa
      go_wp2
      go_ret
      exact ⟨HR.out, rfl⟩
    · have gx : ((x.num : Int) != (a : Int)) = true := by simp; omega
      by_cases hp : x.par < 0
      · have gp : decide (x.par < 0) = true := by simpa using hp
        have HR : Hid (Ending.returned (.bool false) = .returned (.bool (tUnderB T a x0.num))) := by
          have : ¬ tUnder T a x.num := by
            rintro ⟨_, k, hk⟩
            cases k with
            | zero => have : (x.num : Int) = a := hk; omega
            | succ k =>
              have hk' : tUp T k (tPar T x.num) = a := hk
              have := tUp_neg T (n := tPar T x.num) (by rw [← HP.out]; exact hp) k
              omega
          have h2 : tUnderB T a x0.num = false := by
            rw [HN.out.2]
            cases hb : tUnderB T a x.num with
            | false => rfl
            | true => exact absurd (tUnderB_iff.1 hb) this
          unfold Hid
          rw [h2]
        clear hp hxa
        go_wp2
        go_ret
        exact ⟨HR.out, rfl⟩
      · have gp : decide (x.par < 0) = false := by simpa using hp
        obtain ⟨y, hy⟩ : ∃ y, Hid (y ∈ ns ∧ (y.num : Int) = x.par ∧ rk y.num < rk x.num ∧ tUnderB T a x.num = tUnderB T a y.num) := by
          rcases tPar_cases T x.num with ⟨h1, _⟩ | ⟨e, he, h1, h2⟩
          · rw [HP.out, h1] at hp
            exact absurd (by decide) hp
          · rw [HT.out.tree] at he
            obtain ⟨y, hy, hye⟩ := List.mem_map.1 he
            have he' : e ∈ T := by rw [HT.out.tree]; exact he
            have hk : x.num ∈ e.2 := tHas_nat.1 h1
            refine ⟨y, hy, by rw [HP.out, h2, ← hye], ?_, ?_⟩
            · have := HRK.out e he' x.num hk
              rw [← hye] at this
              exact this
            · have h3 := HT.out.tw.under_kid he' hk a
              have h4 : tUnder T a x.num ↔ tUnder T a y.num := by
                rw [h3, ← hye]
                exact ⟨fun h => h.resolve_left hxa, Or.inr⟩
              rw [Bool.eq_iff_iff, tUnderB_iff, tUnderB_iff]
              exact h4
        have HF : Hid ((findG ns x.par).getD ns[0] = y) := by
          unfold Hid
          rw [← hy.out.2.1, findG_mem HT.out.nums hy.out.1]
          rfl
        have hrky := hy.out.2.2.1
        have HN2 : Hid (y ∈ ns ∧ tUnderB T a x0.num = tUnderB T a y.num) := ⟨hy.out.1, by rw [HN.out.2, hy.out.2.2.2]⟩
        clear hp hxa hy
        go_wp2_with fail
        refine (kfind_any wr g px vl made by' ns x.par HG.out hl h0).mono ?_
        rw [HF.out]
        rintro e w1 ⟨rfl, rfl⟩
        go_wp2
        go_roundg (rk y.num)
        case measure => omega
        case rel => exact ⟨y, rfl, rfl, Nat.le_refl _, HN2⟩
end
end Go.Proofs.YtblfffbmklkhmaaGreat
