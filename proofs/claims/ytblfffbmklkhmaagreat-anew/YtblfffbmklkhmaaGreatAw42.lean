/- Own work. -/
import Derived.Test.YtblfffbmklkhmaaGreatAw41
import Derived.Laws.AppendOwnNone
namespace Go.Proofs.YtblfffbmklkhmaaGreat
open Go.RowKit
def PToDo (w : World) (S : List Int) (e : Ending) (w' : World) : Prop := ∃ l : List Int, l.Nodup ∧ (∀ x, x ∈ l ↔ x ∈ S) ∧ l.length = S.length ∧ PRowI w l e w'
/-- In the midst of toDo. -/
structure TD (w2 : World) (S : List Int) (i : Nat) (v3 v4 : Value) (W O : List Int) (wr : World) : Prop where
  nd : (W ++ O).Nodup
  mem : ∀ x, x ∈ W ++ O ↔ x ∈ S.take i
  len : W.length + O.length = i
  o3 : wr.ownsRow w2.heap.size 3 1 v3 W.length (intsZ W)
  o4 : wr.ownsRow w2.heap.size 3 1 v4 O.length (intsZ O)
  ne : ∀ j, v3.ownBlock = some j → v4.ownBlock ≠ some j
  below : Below w2.heap.size w2 wr
theorem not_take {S : List Int} (hn : S.Nodup) {i : Nat} (h : i < S.length) : S[i] ∉ S.take i := fun hm => by
  rw [← List.take_append_drop i S, List.nodup_append] at hn
  refine hn.2.2 _ hm S[i] ?_ rfl
  rw [List.drop_eq_getElem_cons h]
  exact List.mem_cons_self
theorem nodup_mid {W O : List Int} {x : Int} (hn : (W ++ O).Nodup) (hx : x ∉ W ++ O) : ((W ++ [x]) ++ O).Nodup := by
  rw [List.nodup_append] at hn ⊢
  rw [List.mem_append] at hx
  refine ⟨?_, hn.2.1, fun a ha c hc => ?_⟩
  · rw [List.nodup_append]
    refine ⟨hn.1, by simp, fun a ha c hc e => ?_⟩
    rw [List.mem_singleton] at hc
    rw [e, hc] at ha
    exact hx (Or.inl ha)
  · rcases List.mem_append.1 ha with ha | ha
    · exact hn.2.2 a ha c hc
    · rw [List.mem_singleton] at ha
      rw [ha]
      exact fun e => hx (Or.inr (e ▸ hc))
theorem nodup_end {W O : List Int} {x : Int} (hn : (W ++ O).Nodup) (hx : x ∉ W ++ O) : (W ++ (O ++ [x])).Nodup := by
  rw [← List.append_assoc, List.nodup_append]
  refine ⟨hn, by simp, fun a ha c hc e => ?_⟩
  rw [List.mem_singleton] at hc
  rw [e, hc] at ha
  exact hx ha
theorem take_mem {S : List Int} {i : Nat} (h : i < S.length) (x : Int) : x ∈ S.take (i + 1) ↔ x ∈ S.take i ∨ x = S[i] := by
  rw [List.take_succ_eq_append_getElem h, List.mem_append, List.mem_singleton]
section
variable {w2 : World} {S : List Int} {i : Nat} {v3 v4 : Value} {W O : List Int} {wr : World}
theorem TD.wanted (h : TD w2 S i v3 v4 W O wr) (hn : S.Nodup) (hi : i < S.length) {wy w5 : World} {v5 : Value} (hb : Below wr.heap.size wr wy) (own5 : w5.ownsRow w2.heap.size 3 1 v5 (W.length + 1) (intsZ W ++ [.int .i64 S[i]])) (hg : wy.grownBy w5 v3.ownBlock) (hk : ∀ j, v5.ownBlock = some j → v3.ownBlock = some j ∨ wy.heap.size ≤ j) : TD w2 S (i + 1) v5 v4 (W ++ [S[i]]) O w5 := by
  have hx : S[i] ∉ W ++ O := fun hm => not_take hn hi ((h.mem _).1 hm)
  have hz := hb.size
  have hBy : Below w2.heap.size w2 wy := h.below.trans (hb.mono h.below.size)
  refine ⟨nodup_mid h.nd hx, fun x => ?_, ?_, by simpa [intsZ] using own5, ?_, fun j hj => ?_, hBy.grown hg hBy.size (fun k hk => (h.o3.lt k hk).1)⟩
  · rw [take_mem hi, ← h.mem x]
    simp only [List.mem_append, List.mem_singleton]
    constructor
    · rintro ((h1 | h1) | h1)
      · exact Or.inl (Or.inl h1)
      · exact Or.inr h1
      · exact Or.inl (Or.inr h1)
    · rintro ((h1 | h1) | h1)
      · exact Or.inl (Or.inl h1)
      · exact Or.inr h1
      · exact Or.inl (Or.inr h1)
  · have := h.len
    simp
    omega
  · have h4 := own_below h.o4 hb
    refine ⟨h4.1, ?_⟩
    rcases h4.2 with hn | ⟨g, cap, cur, hv, hb2, hgg, rest⟩
    · exact Or.inl hn
    · refine Or.inr ⟨g, cap, cur, hv, hb2, (hg.block g (Array.getElem?_eq_some_iff.1 hgg).1 (fun e => h.ne g e.symm (by rw [hv]; rfl))).trans hgg, rest⟩
  · rcases hk j hj with h1 | h1
    · exact h.ne j h1
    · intro e
      have := (h.o4.lt j e).2
      omega
theorem TD.other (h : TD w2 S i v3 v4 W O wr) (hn : S.Nodup) (hi : i < S.length) {wy w5 : World} {v5 : Value} (hb : Below wr.heap.size wr wy) (own5 : w5.ownsRow w2.heap.size 3 1 v5 (O.length + 1) (intsZ O ++ [.int .i64 S[i]])) (hg : wy.grownBy w5 v4.ownBlock) (hk : ∀ j, v5.ownBlock = some j → v4.ownBlock = some j ∨ wy.heap.size ≤ j) : TD w2 S (i + 1) v3 v5 W (O ++ [S[i]]) w5 := by
  have hx : S[i] ∉ W ++ O := fun hm => not_take hn hi ((h.mem _).1 hm)
  have hz := hb.size
  have hBy : Below w2.heap.size w2 wy := h.below.trans (hb.mono h.below.size)
  refine ⟨nodup_end h.nd hx, fun x => ?_, ?_, ?_, by simpa [intsZ] using own5, fun j hj e => ?_, hBy.grown hg hBy.size (fun k hk => (h.o4.lt k hk).1)⟩
  · rw [take_mem hi, ← h.mem x, ← List.append_assoc, List.mem_append, List.mem_singleton]
  · have := h.len
    simp
    omega
  · have h4 := own_below h.o3 hb
    refine ⟨h4.1, ?_⟩
    rcases h4.2 with hn | ⟨g, cap, cur, hv, hb2, hgg, rest⟩
    · exact Or.inl hn
    · refine Or.inr ⟨g, cap, cur, hv, hb2, (hg.block g (Array.getElem?_eq_some_iff.1 hgg).1 (fun e => h.ne g (by rw [hv]; rfl) e.symm)).trans hgg, rest⟩
  · rcases hk j e with h1 | h1
    · exact h.ne j hj h1
    · have := (h.o3.lt j hj).2
      omega
end
section
set_option maxRecDepth 100000
set_option maxHeartbeats 4000000
variable (w : World) (b : Nat) (vS : Value × Value) (v : Value) (els : List PEl) (T : Tree) (made : Nat) (M : Nat → Mk) (rs : List PRu) (kl : List (Int × List Int)) (G : Nat → Prop)
theorem ptodo_any (h : DM w b vS v els T made M rs kl G) : Calls Tryz.prog 47 #[.pointer (some ⟨b, 0, none⟩)] w fun e w' => PToDo w (staleL kl (dwnP els)) e w' := by
  obtain ⟨i0, hi0, iz0, iz1, iz2⟩ := info_parts Tryz.info3
  obtain ⟨a, c, hv⟩ := h.pb.pl.shape
  subst hv
  have HD : Hid (DM w b vS (.slice a els.length c) els T made M rs kl G) := h
  have hbl := h.lt
  have HDW := dwnP_ok h.pb.pt h.tw
  have hdl : (dwnP els).length ≤ 24 := by
    have h1 := nodup_int_len HDW.1 HDW.2.1
    have h2 := h.pb.pt.len h.tw
    have h3 := h.pb.few
    omega
  have HSN : Hid ((staleL kl (dwnP els)).Nodup) := HDW.1.filter _
  clear h HDW
  go_enter Tryz.func47, Tryz.ntmps47
  go_wp2_with fail
  refine (pdwn_any w b a c els HD.out.trd).mono ?_
  rintro e w1 ⟨al, cl, rfl, hrow, hB1⟩
  have HD1 : Hid (DM w1 b vS (.slice a els.length c) els T made M rs kl G) := HD.out.below hB1
  have HR1 : Hid (RowI w1 al (dwnP els) ∧ Below w.heap.size w w1) := ⟨RowI.own hrow, hB1⟩
  clear hrow hB1
  go_wp2_with fail
  refine (pstale_any w1 b vS _ els T made M rs kl G al cl (dwnP els) HD1.out HR1.out.1 (by omega)).mono ?_
  rintro e w2 ⟨a2, c2, rfl, hrow2, hB2⟩
  have HD2 : Hid (DM w2 b vS (.slice a els.length c) els T made M rs kl G) := HD1.out.below hB2
  have HR2 : Hid (RowI w2 a2 (staleL kl (dwnP els)) ∧ Below w.heap.size w w2) := ⟨RowI.own hrow2, HR1.out.2.trans (hB2.mono HR1.out.2.size)⟩
  have hsl : (staleL kl (dwnP els)).length ≤ 24 := Nat.le_trans (staleL_len _ _) hdl
  clear hrow2 hB2 HD1 HR1 hdl
  obtain ⟨S, hS⟩ : ∃ S, staleL kl (dwnP els) = S := ⟨_, rfl⟩
  have HSE : Hid (staleL kl (dwnP els) = S) := hS
  rw [hS] at HSN HR2 hsl ⊢
  clear hS
  go_wp2_with fail
  go_loopg [3, 4, 16] S.length (fun gk v3 v4 iv wr => ∃ i : Nat, iv = .int .i64 i ∧ i ≤ S.length ∧ S.length - i ≤ gk ∧ Hid (∃ W O, TD w2 S i v3 v4 W O wr))
  case atStart => exact ⟨0, rfl, Nat.zero_le _, by omega, [], [], by simp, fun x => by simp, rfl, World.ownsRow_nil _ _ _ _, World.ownsRow_nil _ _ _ _, fun j hj => by simp [Value.ownBlock] at hj, Below.refl _ _⟩
  case round =>
    obtain ⟨i, rfl, hi, hgk, HI⟩ := hrel
    obtain ⟨W, O, hTD⟩ := HI.out
    obtain ⟨a3, c3, hv3⟩ := own_shape hTD.o3
    obtain ⟨a4, c4, hv4⟩ := own_shape hTD.o4
    subst hv3 hv4
    have HTD : Hid (TD w2 S i (.slice a3 W.length c3) (.slice a4 O.length c4) W O wr) := hTD
    have hlen := hTD.len
    have hbz := hTD.below.size
    clear HI hTD
    by_cases hlt : i < S.length
    · have hd : decide ((i : Int) < (S.length : Int)) = true := by simp; omega
      obtain ⟨g2, hg2, hgl2, hq2⟩ := HR2.out.1 i hlt
      subst hg2
      have q1 := (HTD.out.below.cell (p := ⟨g2, i, none⟩) hgl2).trans hq2
      rw [List.getElem?_eq_getElem hlt] at q1
      replace q1 : wr.cell? ⟨g2, i, none⟩ = some (.int .i64 S[i]) := q1
      have HNW : Hid (∀ wy w5 v5, Below wr.heap.size wr wy → w5.ownsRow w2.heap.size 3 1 v5 (W.length + 1) (intsZ W ++ [.int .i64 S[i]]) → wy.grownBy w5 (Value.slice a3 W.length c3).ownBlock → (∀ j, v5.ownBlock = some j → (Value.slice a3 W.length c3).ownBlock = some j ∨ wy.heap.size ≤ j) → ∃ W' O', TD w2 S (i + 1) v5 (.slice a4 O.length c4) W' O' w5) := fun wy w5 v5 h1 h2 h3 h4 => ⟨_, _, HTD.out.wanted HSN.out hlt h1 h2 h3 h4⟩
      have HNO : Hid (∀ wy w5 v5, Below wr.heap.size wr wy → w5.ownsRow w2.heap.size 3 1 v5 (O.length + 1) (intsZ O ++ [.int .i64 S[i]]) → wy.grownBy w5 (Value.slice a4 O.length c4).ownBlock → (∀ j, v5.ownBlock = some j → (Value.slice a4 O.length c4).ownBlock = some j ∨ wy.heap.size ≤ j) → ∃ W' O', TD w2 S (i + 1) (.slice a3 W.length c3) v5 W' O' w5) := fun wy w5 v5 h1 h2 h3 h4 => ⟨_, _, HTD.out.other HSN.out hlt h1 h2 h3 h4⟩
      have HDr : Hid (DM wr b vS (.slice a els.length c) els T made M rs kl G) := HD2.out.below HTD.out.below
      have hblr : b < wr.heap.size := HDr.out.lt
      clear hq2
      generalize S[i] = o at q1 HNW HNO
      go_wp2_with fail
      refine (pwanted_any wr b a c els o HDr.out.trd).mono ?_
      rintro e w3 ⟨r, rfl, hB3⟩
      have HB3 : Hid (Below wr.heap.size wr w3) := hB3
      have HO3 : Hid (w3.ownsRow w2.heap.size 3 1 (.slice a3 W.length c3) W.length (intsZ W) ∧ w3.ownsRow w2.heap.size 3 1 (.slice a4 O.length c4) O.length (intsZ O)) := ⟨own_below HTD.out.o3 hB3, own_below HTD.out.o4 hB3⟩
      have hz3 := hB3.size
      clear hB3 q1 HTD HDr
      cases r with
      | true =>
        go_wp2_with (first | (at_builtin; refine wpList_append_kept _ rfl (.tmp 25) (.tmp 27) 40 rfl w2.heap.size 3 i0 (.int .i64 0) 1 8 Tryz.underlying40 hi0 iz0 iz1 iz2 rfl (by decide) _ _ _ rfl (HO3.out.1.alloc _) ⟨w3.heap.size, 0, none⟩ 1 1 [.int .i64 o] rfl rfl ?c1 ?c2 ?c3 ?c4 ?c5 ?_))
        case c1 => exact new_cells w3 _ rfl _ _ _ rfl
        case c2 => exact one_z o
        case c3 => unfold maxLen; omega
        case c4 => omega
        case c5 => simp; omega
        intro v5 w5 own5 hg5 hk5
        have HI5 : Hid (∃ W' O', TD w2 S (i + 1) v5 (.slice a4 O.length c4) W' O' w5) := HNW.out _ w5 v5 (HB3.out.alloc HB3.out.size _) own5 hg5 (fun j hj => (hk5.out j hj).imp id (fun h => by simpa using h))
        clear own5 hg5 hk5 HO3 HB3 HNW HNO
        go_wp2
        go_roundg (S.length - (i + 1))
        case measure => omega
        case rel => exact ⟨i + 1, by go_num, by omega, Nat.le_refl _, HI5⟩
      | false =>
        go_wp2_with (first | (at_builtin; refine wpList_append_kept _ rfl (.tmp 29) (.tmp 31) 40 rfl w2.heap.size 3 i0 (.int .i64 0) 1 8 Tryz.underlying40 hi0 iz0 iz1 iz2 rfl (by decide) _ _ _ rfl (HO3.out.2.alloc _) ⟨w3.heap.size, 0, none⟩ 1 1 [.int .i64 o] rfl rfl ?c1 ?c2 ?c3 ?c4 ?c5 ?_))
        case c1 => exact new_cells w3 _ rfl _ _ _ rfl
        case c2 => exact one_z o
        case c3 => unfold maxLen; omega
        case c4 => omega
        case c5 => simp; omega
        intro v5 w5 own5 hg5 hk5
        have HI5 : Hid (∃ W' O', TD w2 S (i + 1) (.slice a3 W.length c3) v5 W' O' w5) := HNO.out _ w5 v5 (HB3.out.alloc HB3.out.size _) own5 hg5 (fun j hj => (hk5.out j hj).imp id (fun h => by simpa using h))
        clear own5 hg5 hk5 HO3 HB3 HNW HNO
        go_wp2
        go_roundg (S.length - (i + 1))
        case measure => omega
        case rel => exact ⟨i + 1, by go_num, by omega, Nat.le_refl _, HI5⟩
    · have hd : decide ((i : Int) < (S.length : Int)) = false := by simp; omega
      obtain rfl : i = S.length := by omega
      have HEN : Hid (∀ w5 a5 c5, w5.ownsRow w2.heap.size 3 1 (.slice a5 (W ++ O).length c5) (W ++ O).length (intsZ (W ++ O)) → Below w2.heap.size w2 w5 → PToDo w S (.returned (.slice a5 (W ++ O).length c5)) w5) := fun w5 a5 c5 ho hb => ⟨W ++ O, HTD.out.nd, fun x => by rw [HTD.out.mem x, List.take_length], by rw [List.length_append]; exact HTD.out.len, a5, c5, rfl, own_mono ho HR2.out.2.size, HR2.out.2.trans (hb.mono HR2.out.2.size)⟩
      by_cases h4 : a4 = none
      · subst h4
        have hn : O = [] ∧ c4 = 0 := by
          rcases HTD.out.o4.2 with ⟨h, h2⟩ | ⟨_, _, _, h, _⟩
          · injection h with _ h3 h4; exact ⟨List.eq_nil_of_length_eq_zero h2, h4⟩
          · injection h with h; cases h
        obtain ⟨rfl, rfl⟩ := hn
        have HE : Hid (PToDo w S (.returned (.slice a3 W.length c3)) wr) := by
          have := HEN.out wr a3 c3 (by rw [List.append_nil]; exact HTD.out.o3) HTD.out.below
          rw [List.append_nil] at this
          exact this
        simp only [List.length_nil]
        go_wp2_with (first | (at_builtin; refine wpList_append_own_none rfl (.tmp 34) (.tmp 35) 40 rfl w2.heap.size 3 i0 1 Tryz.underlying40 hi0 _ _ _ rfl HTD.out.o3 rfl ?_))
        go_wp2
        go_ret
        rw [HSE.out]
        exact HE.out
      · obtain ⟨g4, hg4⟩ : ∃ g4, a4 = some ⟨g4, 0, none⟩ := by
          rcases HTD.out.o4.2 with ⟨h, _⟩ | ⟨g, _, _, h, _⟩
          · injection h with h; exact absurd h h4
          · injection h with h; exact ⟨g, h⟩
        subst hg4
        clear h4
        have HCE : Hid (∀ j u, (intsZ O)[j]? = some u → wr.cell? ((⟨g4, 0, none⟩ : Addr).add j) = some u) := HTD.out.o4.cells rfl
        go_wp2_with (first | (at_builtin; refine wpList_append_own _ rfl (.tmp 34) (.tmp 35) 40 rfl w2.heap.size 3 i0 (.int .i64 0) 1 8 Tryz.underlying40 hi0 iz0 iz1 iz2 rfl (by decide) _ _ _ rfl HTD.out.o3 ⟨g4, 0, none⟩ O.length c4 (intsZ O) rfl ?c0 HCE.out ?c2 ?c3 ?c4 ?c5 ?_))
        case c0 => simp [intsZ]
        case c2 => exact one_l O
        case c3 => unfold maxLen; omega
        case c4 => omega
        case c5 => exact hbz
        intro v5 w5 own5 hg5 _
        have hown : w5.ownsRow w2.heap.size 3 1 v5 (W ++ O).length (intsZ (W ++ O)) := by rw [List.length_append, show intsZ (W ++ O) = intsZ W ++ intsZ O from List.map_append]; rw [hlen]; exact own5
        obtain ⟨a5, c5, hv5⟩ := own_shape hown
        subst hv5
        have HE := HEN.out w5 a5 c5 hown (HTD.out.below.grown hg5 hbz (fun k hk => (HTD.out.o3.lt k hk).1))
        clear own5 hg5 hown HTD HEN HCE
        generalize (W ++ O).length = nn at HE ⊢
        go_wp2
        go_ret
        rw [HSE.out]
        exact HE
end
end Go.Proofs.YtblfffbmklkhmaaGreat

namespace Go.Proofs.YtblfffbmklkhmaaGreat
open Go.RowKit
theorem findK_snoc (kl : List (Int × List Int)) (y : Int × List Int) (n : Int) : (findK (kl ++ [y]) n).isSome = ((findK kl n).isSome || decide (y.1 = n)) := by
  unfold findK
  rw [Option.isSome_map, Option.isSome_map, List.find?_append]
  cases h : kl.find? fun x => decide (x.1 = n) with
  | some x => simp
  | none => by_cases e : y.1 = n <;> simp [e]
theorem fresh_mono {T : Tree} {M : Nat → Mk} {rs : List PRu} {kl : List (Int × List Int)} {k x : Int} (h : (findK kl x).isSome = true) : (findK (freshK T M rs kl k) x).isSome = true := by
  unfold freshK
  split
  · exact h
  · rw [findK_snoc, h]; rfl
theorem fresh_self (T : Tree) (M : Nat → Mk) (rs : List PRu) (kl : List (Int × List Int)) (k : Int) : (findK (freshK T M rs kl k) k).isSome = true := by
  unfold freshK
  split
  · assumption
  · rw [findK_snoc]; simp
theorem chain_mono {T : Tree} {M : Nat → Mk} {rs : List PRu} {kl : List (Int × List Int)} {x : Int} (h : (findK kl x).isSome = true) : ∀ xs, (findK (chainK T M rs kl xs) x).isSome = true
  | [] => h
  | _ :: xs => fresh_mono (chain_mono h xs)
theorem style_mono {T : Tree} {M : Nat → Mk} {rs : List PRu} {kl : List (Int × List Int)} {k x : Int} (h : (findK kl x).isSome = true) : (findK (styleK T M rs kl k) x).isSome = true := fresh_mono (chain_mono h _)
theorem style_self (T : Tree) (M : Nat → Mk) (rs : List PRu) (kl : List (Int × List Int)) (k : Int) : (findK (styleK T M rs kl k) k).isSome = true := fresh_self _ _ _ _ _
/-- How many are stale. -/
def scT (T : Tree) (kl : List (Int × List Int)) : Nat := (T.filter fun e => (findK kl e.1).isNone).length
theorem sc_le (T : Tree) (kl : List (Int × List Int)) : scT T kl ≤ T.length := List.length_filter_le _ _
theorem int_nodup {l : List Int} (hn : l.Nodup) (h : ∀ x ∈ l, ∃ k : Nat, x = (k : Int)) : (l.map Int.toNat).Nodup := by
  induction l with
  | nil => simp
  | cons x l ih =>
    rw [List.nodup_cons] at hn
    rw [List.map_cons, List.nodup_cons]
    refine ⟨fun hm => hn.1 ?_, ih hn.2 (fun y hy => h y (List.mem_cons_of_mem _ hy))⟩
    obtain ⟨y, hy, e⟩ := List.mem_map.1 hm
    obtain ⟨k, hk⟩ := h x List.mem_cons_self
    obtain ⟨j, hj⟩ := h y (List.mem_cons_of_mem _ hy)
    have : y = x := by omega
    exact this ▸ hy
theorem sc_eq {T : Tree} {made : Nat} {kl : List (Int × List Int)} (hw : TW T made) {l : List Int} (hn : l.Nodup) (hm : ∀ x, x ∈ l ↔ (findK kl x).isNone = true ∧ ∃ k lk, x = ((k : Nat) : Int) ∧ (k, lk) ∈ T) : l.length = scT T kl := by
  have h1 : (l.map Int.toNat).Nodup := int_nodup hn (fun x hx => by obtain ⟨_, k, _, e, _⟩ := (hm x).1 hx; exact ⟨k, e⟩)
  have h2 : ((T.filter fun e => (findK kl e.1).isNone).map Prod.fst).Nodup := hw.nums.sublist (List.filter_sublist.map _)
  have a := nodup_len h1 (m := (T.filter fun e => (findK kl e.1).isNone).map Prod.fst) (fun k hk => by
    obtain ⟨x, hx, rfl⟩ := List.mem_map.1 hk
    obtain ⟨h3, j, lj, e, hj⟩ := (hm x).1 hx
    refine List.mem_map.2 ⟨(j, lj), List.mem_filter.2 ⟨hj, by rw [← e]; exact h3⟩, ?_⟩
    show j = _
    omega)
  have c := nodup_len h2 (m := l.map Int.toNat) (fun k hk => by
    obtain ⟨e, he, rfl⟩ := List.mem_map.1 hk
    obtain ⟨h3, h4⟩ := List.mem_filter.1 he
    exact List.mem_map.2 ⟨(e.1 : Int), (hm _).2 ⟨h4, e.1, e.2, rfl, h3⟩, by omega⟩)
  rw [List.length_map, List.length_map] at a c
  unfold scT
  omega
theorem sc_less {T : Tree} {made : Nat} {kl kl' : List (Int × List Int)} (hw : TW T made) (hmono : ∀ x, (findK kl x).isSome = true → (findK kl' x).isSome = true) {l : List Int} (hn : l.Nodup) (hl : ∀ x ∈ l, (findK kl x).isNone = true ∧ ∃ k lk, x = ((k : Nat) : Int) ∧ (k, lk) ∈ T) (hf : ∀ x ∈ l, (findK kl' x).isSome = true) : scT T kl' + l.length ≤ scT T kl := by
  have h1 : (l.map Int.toNat).Nodup := int_nodup hn (fun x hx => by obtain ⟨_, k, _, e, _⟩ := hl x hx; exact ⟨k, e⟩)
  have h2 : ((T.filter fun e => (findK kl' e.1).isNone).map Prod.fst).Nodup := hw.nums.sublist (List.filter_sublist.map _)
  have h3 : ((T.filter fun e => (findK kl' e.1).isNone).map Prod.fst ++ l.map Int.toNat).Nodup := by
    rw [List.nodup_append]
    refine ⟨h2, h1, fun a ha c hc e => ?_⟩
    obtain ⟨q, hq, rfl⟩ := List.mem_map.1 ha
    obtain ⟨x, hx, rfl⟩ := List.mem_map.1 hc
    obtain ⟨_, k, _, ek, _⟩ := hl x hx
    have hx2 := hf x hx
    have : x = (q.1 : Int) := by omega
    rw [this] at hx2
    have h4 := (List.mem_filter.1 hq).2
    cases hz : findK kl' q.1 with
    | none => rw [hz] at hx2; cases hx2
    | some s => rw [hz] at h4; cases h4
  have := nodup_len h3 (m := (T.filter fun e => (findK kl e.1).isNone).map Prod.fst) (fun k hk => by
    rcases List.mem_append.1 hk with hk | hk
    · obtain ⟨q, hq, rfl⟩ := List.mem_map.1 hk
      obtain ⟨h4, h5⟩ := List.mem_filter.1 hq
      refine List.mem_map.2 ⟨q, List.mem_filter.2 ⟨h4, ?_⟩, rfl⟩
      cases hz : findK kl q.1 with
      | none => rfl
      | some s =>
        have := hmono q.1 (by rw [hz]; rfl)
        cases hz2 : findK kl' q.1 with
        | none => rw [hz2] at this; cases this
        | some s2 => rw [hz2] at h5; cases h5
    · obtain ⟨x, hx, rfl⟩ := List.mem_map.1 hk
      obtain ⟨h4, j, lj, ej, hj⟩ := hl x hx
      refine List.mem_map.2 ⟨(j, lj), List.mem_filter.2 ⟨hj, by rw [← ej]; exact h4⟩, ?_⟩
      show j = _
      omega)
  rw [List.length_append, List.length_map, List.length_map, List.length_map] at this
  unfold scT
  omega
/-- In the midst of Slice: i have been made fresh. -/
structure SLI (w : World) (b : Nat) (vS : Value × Value) (v : Value) (els : List PEl) (T : Tree) (made : Nat) (M : Nat → Mk) (rs : List PRu) (kl : List (Int × List Int)) (G : Nat → Prop) (w2 : World) (al : Option Addr) (l : List Int) (i : Nat) (v2 : Value) (kl' : List (Int × List Int)) (wr : World) : Prop where
  dm : DM wr b (vS.1, v2) v els T made M rs kl' G
  kok : KOK T M rs kl'
  fr : Fr w wr (fun j => j = b ∨ vS.2.ownBlock = some j)
  own : ∀ j, v2.ownBlock = some j → vS.2.ownBlock = some j ∨ w2.heap.size ≤ j
  mono : ∀ x, (findK kl x).isSome = true → (findK kl' x).isSome = true
  done : ∀ x ∈ l.take i, (findK kl' x).isSome = true
  row : RowI wr al l
  far : w2.heap.size ≤ wr.heap.size
section
set_option maxRecDepth 100000
set_option maxHeartbeats 4000000
variable (w : World) (px : Value) (T : Tree) (made : Nat) (M : Nat → Mk) (rs : List PRu) (kl : List (Int × List Int)) (F : Nat → Prop)
def DSliPost (budget : Int) (e : Ending) (w' : World) : Prop :=
  ∃ (n : Nat) (kl' : List (Int × List Int)), e = .returned (.int .i64 n) ∧ n = min budget.toNat (scT T kl) ∧ scT T kl' + n ≤ scT T kl ∧ (∀ x, (findK kl x).isSome = true → (findK kl' x).isSome = true) ∧ DSk w' px T made M rs kl' (More F w) ∧ Fr w w' F
theorem dsli_any (budget : Int) (h : DSk w px T made M rs kl F) : Calls Tryz.prog 30 #[px, .int .i64 budget] w fun e w' => DSliPost w px T made M rs kl F budget e w' := by
  obtain ⟨b, vS, v, els, G, rfl, h2, h3, h4, h5, h6, h7⟩ := h
  have HB : Hid (DM w b vS v els T made M rs kl G ∧ KOK T M rs kl ∧ F b ∧ (∀ j, v.ownBlock = some j → F j) ∧ (∀ j, vS.2.ownBlock = some j → F j) ∧ ∀ k, G k → F k) := ⟨h2, h3, h4, h5, h6, h7⟩
  have HDW : Hid ((dwnP els).Nodup ∧ (∀ x ∈ dwnP els, ∃ k l, x = ((k : Nat) : Int) ∧ (k, l) ∈ T) ∧ ∀ k l, (k, l) ∈ T → (k : Int) ∈ dwnP els) := dwnP_ok h2.pb.pt h2.tw
  have hTl : T.length ≤ 24 := by have := h2.pb.pt.len h2.tw; have := h2.pb.few; omega
  have H0W : Hid (∀ j, j = b ∨ vS.2.ownBlock = some j → j < w.heap.size) := fun j hj => h2.own_lt hj
  clear h2 h3 h4 h5 h6 h7
  go_enter Tryz.func30, Tryz.ntmps30
  go_wp2_with fail
  refine (ptodo_any w b vS v els T made M rs kl G HB.out.1).mono ?_
  rintro e w2 ⟨l, hln, hlm, _, al, cl, rfl, hrow, hB2⟩
  have HM : Hid (∀ x, x ∈ l ↔ (findK kl x).isNone = true ∧ ∃ k lk, x = ((k : Nat) : Int) ∧ (k, lk) ∈ T) := fun x => by
    rw [hlm x]
    unfold staleL
    rw [List.mem_filter]
    constructor
    · rintro ⟨h1, h2⟩
      exact ⟨h2, HDW.out.2.1 x h1⟩
    · rintro ⟨h1, k, lk, rfl, hk⟩
      exact ⟨HDW.out.2.2 k lk hk, h1⟩
  have HLN : Hid l.Nodup := hln
  have HSC : Hid (l.length = scT T kl) := sc_eq HB.out.1.tw hln HM.out
  have hll : l.length ≤ 24 := by have := HSC.out; have := sc_le T kl; omega
  have HGF : Hid (∀ g, al = some ⟨g, 0, none⟩ → w.heap.size ≤ g ∧ g < w2.heap.size) := fun g hg => hrow.lt g (by rw [hg]; rfl)
  have HI0 : Hid (SLI w b vS v els T made M rs kl G w2 al l 0 vS.2 kl w2) := ⟨HB.out.1.below hB2, HB.out.2.1, (Fr.refl w _).below hB2, fun j hj => Or.inl hj, fun _ h => h, fun x hx => by simp at hx, RowI.own hrow, Nat.le_refl _⟩
  have hz2 := hB2.size
  clear hln hlm hrow hB2 HDW
  have HEND : Hid (∀ i v2 kl' wr, SLI w b vS v els T made M rs kl G w2 al l i v2 kl' wr → i ≤ l.length → i = min budget.toNat l.length → DSliPost w (.pointer (some ⟨b, 0, none⟩)) T made M rs kl F budget (.returned (.int .i64 i)) wr) := fun i v2 kl' wr hS hi hm => by
    refine ⟨i, kl', rfl, by rw [← HSC.out]; exact hm, ?_, hS.mono, ⟨b, (vS.1, v2), v, els, G, rfl, hS.dm, hS.kok, Or.inl HB.out.2.2.1, fun j hj => Or.inl (HB.out.2.2.2.1 j hj), fun j hj => ?_, fun k hk => Or.inl (HB.out.2.2.2.2.2 k hk)⟩, hS.fr.mono (fun j hj => by
      rcases hj with e | e
      · exact e ▸ HB.out.2.2.1
      · exact HB.out.2.2.2.2.1 j e)⟩
    · have h1 : (l.take i).Nodup := HLN.out.sublist (List.take_sublist _ _)
      have h2 := sc_less HB.out.1.tw hS.mono h1 (fun x hx => (HM.out x).1 (List.mem_of_mem_take hx)) hS.done
      rw [List.length_take] at h2
      omega
    · rcases hS.own j hj with e | e
      · exact Or.inl (HB.out.2.2.2.2.1 j e)
      · exact Or.inr (Nat.le_trans hz2 e)
  go_wp2_with fail
  go_loopg [5, 11] l.length (fun gk mv iv wr => ∃ i : Nat, mv = .int .i64 i ∧ iv = .int .i64 i ∧ i ≤ l.length ∧ l.length - i ≤ gk ∧ i ≤ budget.toNat ∧ Hid (∃ v2 kl', SLI w b vS v els T made M rs kl G w2 al l i v2 kl' wr))
  case atStart => exact ⟨0, rfl, rfl, Nat.zero_le _, by omega, Nat.zero_le _, vS.2, kl, HI0.out⟩
  case round =>
    obtain ⟨i, rfl, rfl, hi, hgk, hib, HI⟩ := hrel
    obtain ⟨v2, kl', hS⟩ := HI.out
    have HS : Hid (SLI w b vS v els T made M rs kl G w2 al l i v2 kl' wr) := hS
    clear HI hS
    by_cases hlt : i < l.length
    · have hd : decide ((i : Int) < (l.length : Int)) = true := by simp; omega
      obtain ⟨g, hg, hgl, hq⟩ := HS.out.row i hlt
      obtain ⟨hg1, hg2⟩ := HGF.out g hg
      subst hg
      rw [List.getElem?_eq_getElem hlt] at hq
      replace hq : wr.cell? ⟨g, i, none⟩ = some (.int .i64 l[i]) := hq
      obtain ⟨hxn, k, lk, hxk, hkT⟩ := (HM.out l[i]).1 (List.getElem_mem hlt)
      by_cases hbu : budget ≤ (i : Int)
      · have gb : decide (budget ≤ (i : Int)) = true := by simpa using hbu
        have HE := HEND.out i v2 kl' wr HS.out hi (by omega)
        generalize l[i] = x at hq hxn hxk
        clear hxn hxk hkT HS HEND hbu
        go_wp2
        go_ret
        exact HE
      · have gb : decide (budget ≤ (i : Int)) = false := by simpa using hbu
        have HKT : Hid ((k, lk) ∈ T) := hkT
        have HNX : Hid (∀ w3 v3, DM w3 b (vS.1, v3) v els T made M rs (styleK T M rs kl' k) G → Fr wr w3 (fun j => j = b ∨ v2.ownBlock = some j) → (∀ j, v3.ownBlock = some j → v2.ownBlock = some j ∨ wr.heap.size ≤ j) → ∃ v2 kl', SLI w b vS v els T made M rs kl G w2 (some ⟨g, 0, none⟩) l (i + 1) v2 kl' w3) := fun w3 v3 hd3 hf3 hj3 => by
          have hfar := HS.out.far
          refine ⟨v3, styleK T M rs kl' k, hd3, style_kok HS.out.kok HB.out.1.tw HKT.out, HS.out.fr.comp hf3 (fun j hj => ?_), fun j hj => ?_, fun x hx => style_mono (HS.out.mono x hx), fun x hx => ?_, fun j hj => ?_, Nat.le_trans hfar hf3.size⟩
          · rcases hj with e | e
            · exact Or.inl (Or.inl e)
            · rcases HS.out.own j e with e | e
              · exact Or.inl (Or.inr e)
              · exact Or.inr (Nat.le_trans hz2 e)
          · rcases hj3 j hj with e | e
            · exact HS.out.own j e
            · exact Or.inr (Nat.le_trans hfar e)
          · rcases (take_mem hlt x).1 hx with e | e
            · exact style_mono (HS.out.done x e)
            · rw [e, hxk]
              exact style_self T M rs kl' k
          · obtain ⟨g', h1, h2, h3⟩ := HS.out.row j hj
            have hgg : g = g' := by injection h1 with h1; injection h1 with h1 _ _
            subst hgg
            have hne : ¬ (g = b ∨ v2.ownBlock = some g) := by
              rintro (e | e)
              · have := H0W.out g (Or.inl e); omega
              · rcases HS.out.own g e with e | e
                · have := H0W.out g (Or.inr e); omega
                · omega
            have hbk := hf3.block g (by omega) hne
            refine ⟨g, rfl, Nat.lt_of_lt_of_le h2 hf3.size, ?_⟩
            have h4 := h3
            unfold World.cell? at h4 ⊢
            rw [hbk]
            exact h4
        have hbi : i + 1 ≤ budget.toNat := by omega
        rw [hxk] at hq
        clear hxn hxk hkT hbu
        go_wp2_with fail
        refine (pstyleOf_any wr b (vS.1, v2) v els T made M rs kl' G k lk HS.out.dm HS.out.kok HKT.out).mono ?_
        rintro e w3 ⟨rfl, v3, hd3, hf3, hj3⟩
        have HI3 : Hid (∃ v2 kl', SLI w b vS v els T made M rs kl G w2 (some ⟨g, 0, none⟩) l (i + 1) v2 kl' w3) := HNX.out w3 v3 hd3 hf3 hj3
        clear hd3 hf3 hj3 HNX HS hq
        generalize (intsZ (styleV (viewT T M) rs k)).toArray = Z
        go_wp2
        go_roundg (l.length - (i + 1))
        case measure => omega
        case rel => exact ⟨i + 1, by go_num, by go_num, by omega, Nat.le_refl _, hbi, HI3⟩
    · have hd : decide ((i : Int) < (l.length : Int)) = false := by simp; omega
      have HE := HEND.out i v2 kl' wr HS.out hi (by omega)
      clear HEND HS
      go_wp2
      go_ret
      exact HE
end
end Go.Proofs.YtblfffbmklkhmaaGreat
