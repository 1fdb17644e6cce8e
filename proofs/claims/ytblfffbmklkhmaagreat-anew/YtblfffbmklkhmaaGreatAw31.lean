/- Own work. -/
import Derived.Test.YtblfffbmklkhmaaGreatAw30
import Derived.Test.YtblfffbmklkhmaaGreatAw15
import Derived.Test.YtblfffbmklkhmaaGreatAw11
namespace Go.Proofs.YtblfffbmklkhmaaGreat
open Go.RowKit
/-- A cell within a list's own memory is written. -/
theorem own_put {w : World} {base : Nat} {e : TypeId} {sz g n c : Nat} {xs : List Value} (h : w.ownsRow base e sz (.slice (some ⟨g, 0, none⟩) n c) n xs) {i : Nat} (_hi : i < xs.length) (u : Value) : (w.setCell ⟨g, i, none⟩ u).ownsRow base e sz (.slice (some ⟨g, 0, none⟩) n c) n (xs.set i u) := by
  refine ⟨by rw [List.length_set]; exact h.1, ?_⟩
  rcases h.2 with ⟨h1, _⟩ | ⟨g', cap, cur, hv, hb, hg, h3, h4, h5, h6⟩
  · cases h1
  · injection hv with h7 _ h8
    injection h7 with h7
    injection h7 with h7 _ _
    subst h7 h8
    refine Or.inr ⟨g, c, cur.setIfInBounds i u, rfl, hb, heap_setCell_row hg u, h3, h4, by rw [Array.size_setIfInBounds]; exact h5, ?_⟩
    have hl := h.1
    rw [Array.toList_setIfInBounds, ← h6, List.take_set]
theorem own_blk {w : World} {base : Nat} {e : TypeId} {sz g n c : Nat} {xs : List Value} (h : w.ownsRow base e sz (.slice (some ⟨g, 0, none⟩) n c) n xs) : ∃ cur : Array Value, w.heap[g]? = some (.cells cur e (0, 0)) ∧ xs.length ≤ cur.size := by
  rcases h.2 with ⟨h1, _⟩ | ⟨g', cap, cur, hv, hb, hg, h3, h4, h5, h6⟩
  · cases h1
  · injection hv with h7 _ h8
    injection h7 with h7
    injection h7 with h7 _ _
    subst h7
    refine ⟨cur, hg, ?_⟩
    rw [h.1, h5]
    exact Nat.mul_le_mul_right _ h3
/-- One cell of an element is another one. -/
def PEl.put (x : PEl) (j : Nat) (u : Value) : PEl := ⟨x.num, x.par, x.rest.set j u⟩
theorem put_cells (x : PEl) (j : Nat) (u : Value) : (x.put j u).cells = x.cells.set (j + 2) u := rfl
theorem PEl.ok.put {x : PEl} (h : x.ok) (j : Nat) {u : Value} (hu : u.oneCell' = true) : (x.put j u).ok := by
  refine ⟨by show (x.rest.set j u).length = 29; rw [List.length_set]; exact h.1, fun v hv => ?_⟩
  rcases List.mem_or_eq_of_mem_set hv with hv | rfl
  · exact h.2 v hv
  · exact hu
theorem flat_set {els : List PEl} (h : ∀ e ∈ els, e.ok) {i j : Nat} (hi : i < els.length) (hj : j < 29) (u : Value) : flatP (els.set i (els[i].put j u)) = (flatP els).set (i * 31 + (j + 2)) u := by
  induction els generalizing i with
  | nil => simp at hi
  | cons x l ih =>
    have h1 := (h x List.mem_cons_self).len
    have e0 : flatP (x :: l) = x.cells ++ flatP l := rfl
    cases i with
    | zero =>
      have e1 : flatP ((x :: l).set 0 ((x :: l)[0].put j u)) = (x.put j u).cells ++ flatP l := rfl
      rw [e1, e0, put_cells, List.set_append_left _ _ (by omega)]
      simp
    | succ i =>
      have hi' : i < l.length := by simpa using hi
      have e1 : flatP ((x :: l).set (i + 1) ((x :: l)[i + 1].put j u)) = x.cells ++ flatP (l.set i (l[i].put j u)) := rfl
      rw [e1, e0, List.set_append_right _ _ (by omega), ih (fun e he => h e (List.mem_cons_of_mem _ he)) hi', h1, show (i + 1) * 31 + (j + 2) - 31 = i * 31 + (j + 2) from by omega]
theorem PL.put {w : World} {g c : Nat} {els : List PEl} (h : PL w (.slice (some ⟨g, 0, none⟩) els.length c) els) {i j : Nat} (hi : i < els.length) (hj : j < 29) {u : Value} (hu : u.oneCell' = true) : PL (w.setCell ⟨g, i * 31 + (j + 2), none⟩ u) (.slice (some ⟨g, 0, none⟩) els.length c) (els.set i (els[i].put j u)) := by
  have hl : (flatP els).length = els.length * 31 := flat_len h.ok
  refine ⟨?_, fun e he => ?_⟩
  · rw [flat_set h.ok hi hj, List.length_set]
    exact own_put h.row (by rw [hl]; omega) u
  · rcases List.mem_or_eq_of_mem_set he with he | rfl
    · exact h.ok e he
    · exact (h.ok _ (List.getElem_mem hi)).put j hu
/-- The tree hangs on the numbers alone. -/
def PEl.pr (e : PEl) : Int × Nat := (e.par, e.num)
theorem kidsP_pr (els : List PEl) (n : Int) : kidsP els n = ((els.map PEl.pr).filter fun p => decide (p.1 = n)).map Prod.snd := by
  unfold kidsP
  rw [List.filter_map, List.map_map]
  rfl
theorem PT.pairs {els els' : List PEl} {T : Tree} (h : PT els T) (hp : els'.map PEl.pr = els.map PEl.pr) : PT els' T := by
  have hm : ∀ e ∈ els', ∃ f ∈ els, f.num = e.num ∧ f.par = e.par := fun e he => by
    have : e.pr ∈ els.map PEl.pr := by rw [← hp]; exact List.mem_map.2 ⟨e, he, rfl⟩
    obtain ⟨f, hf, hfe⟩ := List.mem_map.1 this
    injection hfe with h1 h2
    exact ⟨f, hf, h2, h1⟩
  have hm' : ∀ e ∈ els, ∃ f ∈ els', f.num = e.num := fun e he => by
    have : e.pr ∈ els'.map PEl.pr := by rw [hp]; exact List.mem_map.2 ⟨e, he, rfl⟩
    obtain ⟨f, hf, hfe⟩ := List.mem_map.1 this
    injection hfe with h1 h2
    exact ⟨f, hf, h2⟩
  have hnum : els'.map PEl.num = els.map PEl.num := by
    have e1 : ∀ l : List PEl, l.map PEl.num = (l.map PEl.pr).map Prod.snd := fun l => by rw [List.map_map]; rfl
    rw [e1, e1, hp]
  refine ⟨by rw [hnum]; exact h.nums, fun e he => ?_, fun n l hl => ?_, fun n l hl => ?_, fun e he h0 => ?_⟩
  · obtain ⟨f, hf, h1, _⟩ := hm e he
    obtain ⟨l, hl⟩ := h.to' f hf
    exact ⟨l, by rw [← h1]; exact hl⟩
  · obtain ⟨e, he, h1⟩ := h.of' n l hl
    obtain ⟨f, hf, h2⟩ := hm' e he
    exact ⟨f, hf, h2.trans h1⟩
  · rw [h.kids n l hl, kidsP_pr, kidsP_pr, hp]
  · obtain ⟨f, hf, h1, h2⟩ := hm e he
    rw [← h2]
    exact h.root f hf (h1.trans h0)
theorem put_pairs {els : List PEl} {i : Nat} (hi : i < els.length) (j : Nat) (u : Value) : (els.set i (els[i].put j u)).map PEl.pr = els.map PEl.pr := by
  rw [List.map_set]
  apply List.ext_getElem?
  intro k
  by_cases hk : i = k
  · subst hk
    rw [List.getElem?_set_self (by simpa using hi), List.getElem?_map, List.getElem?_eq_getElem hi]
    rfl
  · rw [List.getElem?_set_ne hk]
theorem mem_put {els : List PEl} (hn : (els.map PEl.num).Nodup) {i : Nat} (hi : i < els.length) {z y : PEl} (_hz : z.num = els[i].num) (hy : y ∈ els.set i z) : y = z ∨ (y ∈ els ∧ y.num ≠ els[i].num) := by
  obtain ⟨k, hk, rfl⟩ := List.getElem_of_mem hy
  rw [List.length_set] at hk
  by_cases h : i = k
  · subst h
    left
    rw [List.getElem_set_self]
  · right
    rw [List.getElem_set_ne h]
    refine ⟨List.getElem_mem hk, fun e => h ?_⟩
    have h1 := idx_of hn (List.getElem?_eq_getElem hi)
    have h2 := idx_of hn (List.getElem?_eq_getElem hk)
    rw [e, h1] at h2
    exact h2
theorem MkO.put {els : List PEl} {M : Nat → Mk} (h : MkO els M) (hn : (els.map PEl.num).Nodup) {i : Nat} (hi : i < els.length) {z : PEl} {m : Mk} (hz : z.num = els[i].num) (hs : Shp z) (hm : kindP z = m.kd ∧ (∀ i, i < 26 → classP z i = m.cl i) ∧ nameP z = m.nm) : MkO (els.set i z) (setM M els[i].num m) := by
  refine ⟨fun y hy => ?_, fun y hy => ?_⟩
  · unfold setM
    rcases mem_put hn hi hz hy with rfl | ⟨h1, h2⟩
    · rw [if_pos hz]; exact hm
    · rw [if_neg h2]; exact h.1 y h1
  · rcases mem_put hn hi hz hy with rfl | ⟨h1, _⟩
    · exact hs
    · exact h.2 y h1
theorem PB3.put {w : World} {b : Nat} {vS : Value × Value} {g c : Nat} {els : List PEl} {T : Tree} {made : Nat} (h : PB3 w b vS (.slice (some ⟨g, 0, none⟩) els.length c) els T made) {i j : Nat} (hi : i < els.length) (hj : j < 29) {u : Value} (hu : u.oneCell' = true) : PB3 (w.setCell ⟨g, i * 31 + (j + 2), none⟩ u) b vS (.slice (some ⟨g, 0, none⟩) els.length c) (els.set i (els[i].put j u)) T made := by
  have hgb : b ≠ g := fun e => own_ne_type h.pl.row h.doc (by decide) (by rw [e]; rfl)
  refine ⟨(Below.heap_setCell w ⟨g, i * 31 + (j + 2), none⟩ _ b hgb).trans h.doc, ?_, h.pt.pairs (put_pairs hi j u), by rw [List.length_set]; exact h.few⟩
  exact h.pl.put hi hj hu
def PClsPost (w : World) (b : Nat) (vS : Value × Value) (v : Value) (els : List PEl) (T : Tree) (made : Nat) (n : Int) (s : ByteArray) (on : Bool) (e : Ending) (w' : World) : Prop :=
  ∃ (lt y : Int) (els' : List PEl), e = .returned (.tuple #[.int .u8 lt, .int .i64 y]) ∧ y = clsErr T n s ∧ PB3 w' b vS v els' T made ∧ Fr w w' (fun k => v.ownBlock = some k) ∧ (y ≠ 0 → els' = els) ∧ ∀ M, MkO els M → y = 0 → MkO els' (setM M n.toNat (clsMk (M n.toNat) s on)) ∧ (lt = bt s 0 ∨ (97 ≤ bt s 0 ∧ (M n.toNat).cl (bt s 0 - 97) = on))
theorem letter_is {s : ByteArray} (h : isLetter s = true) : ∃ k, k < 26 ∧ bt s 0 = 97 + k := by
  unfold isLetter isL at h
  simp only [Bool.and_eq_true, decide_eq_true_eq] at h
  exact ⟨bt s 0 - 97, by omega, by omega⟩
theorem put_cls {x : PEl} (h : x.ok) (hs : Shp x) {k : Nat} (hk : k < 26) (on : Bool) : Shp (x.put (1 + k) (.bool on)) ∧ kindP (x.put (1 + k) (.bool on)) = kindP x ∧ (∀ i, i < 26 → classP (x.put (1 + k) (.bool on)) i = if i = k then on else classP x i) ∧ nameP (x.put (1 + k) (.bool on)) = nameP x := by
  have h9 := h.1
  have g0 : (x.put (1 + k) (.bool on)).rest[0]? = x.rest[0]? := List.getElem?_set_ne (by omega)
  have g7 : (x.put (1 + k) (.bool on)).rest[27]? = x.rest[27]? := List.getElem?_set_ne (by omega)
  have g8 : (x.put (1 + k) (.bool on)).rest[28]? = x.rest[28]? := List.getElem?_set_ne (by omega)
  have gi : ∀ i, i < 26 → (x.put (1 + k) (.bool on)).rest[1 + i]? = if i = k then some (.bool on) else x.rest[1 + i]? := fun i hi => by
    split
    · rename_i e
      rw [e]
      exact List.getElem?_set_self (by omega)
    · exact List.getElem?_set_ne (by omega)
  refine ⟨⟨by rw [g0]; exact hs.kind, fun i hi => ?_, by rw [g7]; exact hs.name, by rw [g8]; exact hs.shown⟩, by unfold kindP; rw [g0], fun i hi => ?_, by unfold nameP; rw [g7]⟩
  · rw [gi i hi]
    split
    · exact ⟨on, rfl⟩
    · exact hs.cls i hi
  · unfold classP
    rw [gi i hi]
    by_cases e : i = k
    · rw [if_pos e, if_pos e]
    · rw [if_neg e, if_neg e]
theorem put_nam {x : PEl} (h : x.ok) (hs : Shp x) (z : Int) : Shp (x.put 27 (.int .u8 z)) ∧ kindP (x.put 27 (.int .u8 z)) = kindP x ∧ (∀ i, i < 26 → classP (x.put 27 (.int .u8 z)) i = classP x i) ∧ nameP (x.put 27 (.int .u8 z)) = z := by
  have h9 := h.1
  have g0 : (x.put 27 (.int .u8 z)).rest[0]? = x.rest[0]? := List.getElem?_set_ne (by omega)
  have g7 : (x.put 27 (.int .u8 z)).rest[27]? = some (.int .u8 z) := List.getElem?_set_self (by omega)
  have g8 : (x.put 27 (.int .u8 z)).rest[28]? = x.rest[28]? := List.getElem?_set_ne (by omega)
  have gi : ∀ i, i < 26 → (x.put 27 (.int .u8 z)).rest[1 + i]? = x.rest[1 + i]? := fun i hi => List.getElem?_set_ne (by omega)
  refine ⟨⟨by rw [g0]; exact hs.kind, fun i hi => by rw [gi i hi]; exact hs.cls i hi, ⟨z, g7⟩, by rw [g8]; exact hs.shown⟩, by unfold kindP; rw [g0], fun i hi => by unfold classP; rw [gi i hi], by unfold nameP; rw [g7]⟩
theorem put_shw {x : PEl} (h : x.ok) (hs : Shp x) (on : Bool) : Shp (x.put 28 (.bool on)) ∧ kindP (x.put 28 (.bool on)) = kindP x ∧ (∀ i, i < 26 → classP (x.put 28 (.bool on)) i = classP x i) ∧ nameP (x.put 28 (.bool on)) = nameP x := by
  have h9 := h.1
  have g0 : (x.put 28 (.bool on)).rest[0]? = x.rest[0]? := List.getElem?_set_ne (by omega)
  have g7 : (x.put 28 (.bool on)).rest[27]? = x.rest[27]? := List.getElem?_set_ne (by omega)
  have g8 : (x.put 28 (.bool on)).rest[28]? = some (.bool on) := List.getElem?_set_self (by omega)
  have gi : ∀ i, i < 26 → (x.put 28 (.bool on)).rest[1 + i]? = x.rest[1 + i]? := fun i hi => List.getElem?_set_ne (by omega)
  refine ⟨⟨by rw [g0]; exact hs.kind, fun i hi => by rw [gi i hi]; exact hs.cls i hi, by rw [g7]; exact hs.name, ⟨on, g8⟩⟩, by unfold kindP; rw [g0], fun i hi => by unfold classP; rw [gi i hi], by unfold nameP; rw [g7]⟩
theorem ba_empty (s : ByteArray) : s.toList.isEmpty = (s.size == 0) := by
  rw [ByteArray.toList_eq]
  obtain ⟨⟨l⟩⟩ := s
  cases l <;> rfl
section
set_option maxRecDepth 100000
set_option maxHeartbeats 4000000
variable (w : World) (b : Nat) (vS : Value × Value) (v : Value) (els : List PEl) (T : Tree) (made : Nat) (n : Int) (s : ByteArray)
theorem pcls_any (on : Bool) (h : PB3 w b vS v els T made) (hw : TW T made) (hsh : ∀ x ∈ els, Shp x) : Calls Tryz.prog 80 #[.pointer (some ⟨b, 1, none⟩), .int .i64 n, .string s, .bool on] w fun e w' => PClsPost w b vS v els T made n s on e w' := by
  have HB : Hid (PB3 w b vS v els T made ∧ TW T made ∧ ∀ x ∈ els, Shp x) := ⟨h, hw, hsh⟩
  have hfew := h.few
  have HERR : Hid (∀ (y : Int) (w' : World), Below w.heap.size w w' → y ≠ 0 → clsErr T n s = y → PClsPost w b vS v els T made n s on (.returned (.tuple #[.int .u8 0, .int .i64 y])) w') := fun y w' hb hy he =>
    ⟨0, y, els, rfl, he.symm, HB.out.1.below hb, (Fr.refl w _).below hb, fun _ => rfl, fun _ _ h0 => absurd h0 hy⟩
  clear h hw hsh
  go_enter Tryz.func80, Tryz.ntmps80
  go_wp2_with fail
  refine (pfind_any w b v els n HB.out.1.c1 HB.out.1.pl hfew).mono ?_
  rintro e w1 ⟨hB1, ⟨hf, rfl⟩ | ⟨ip, xp, hxp, hf, rfl⟩⟩
  · have HE := HERR.out 5 w1 hB1 (by decide) (by unfold clsErr; rw [HB.out.1.pt.find_none hf])
    clear hf
    go_wp2
    go_ret2
    exact HE
  · have HF : Hid (tFind T n = some (kidsP els n) ∧ n = xp.num) := ⟨(HB.out.1.pt.find_some HB.out.2.1 hf).1, (HB.out.1.pt.find_some HB.out.2.1 hf).2.2⟩
    have HIX : Hid (els[ip]? = some xp) := hxp
    have hip : ip < els.length := (List.getElem?_eq_some_iff.1 hxp).1
    clear hf hxp
    go_wp2_with fail
    refine (pone_any w1 s).mono ?_
    rintro e w2 ⟨cc, rfl, hdr, hcb, _⟩
    have hB2 : Below w.heap.size w w2 := hB1.trans (hdr.below.mono hB1.size)
    clear hB1 hdr
    cases hl : isLetter s with
    | false =>
      have HE := HERR.out 4 w2 hB2 (by decide) (by unfold clsErr; rw [HF.out.1]; show (if _ then _ else _) = _; rw [if_pos hl])
      clear hl hcb
      go_wp2
      go_ret2
      exact HE
    | true =>
      have HOK : Hid (clsErr T n s = 0) := by unfold Hid clsErr; rw [HF.out.1]; show (if _ then _ else _) = _; rw [if_neg (by rw [hl]; decide)]
      obtain ⟨k, hk, hbk⟩ := letter_is hl
      have hcc : cc = 97 + (k : Int) := by rw [hcb hl, hbk]; omega
      have HBT : Hid (bt s 0 = 97 + k) := hbk
      subst hcc
      clear hl hcb hbk
      obtain ⟨av, cv, hvv⟩ := HB.out.1.pl.shape
      subst hvv
      have HB2 : Hid (PB3 w2 b vS (.slice av els.length cv) els T made) := HB.out.1.below hB2
      obtain ⟨g, hg, hgl, hr⟩ := HB2.out.pl.at' hip
      subst hg
      have hxe : els[ip] = xp := (List.getElem?_eq_some_iff.1 HIX.out).2
      have q2 : w2.cell? ⟨g, ip * 31 + 3 + k, none⟩ = some (.bool (classP xp k)) := by rw [← hxe, Nat.add_assoc]; exact hr (3 + k) _ ((HB.out.2.2 _ (List.getElem_mem hip)).cl hk)
      have q0 := HB2.out.c1
      obtain ⟨cur, hcur, _⟩ := own_blk HB2.out.pl.row
      have qf : ∀ j, w2.frozen? ⟨g, j, none⟩ = false := fun _ => frozen_of_blk hcur
      have hil : (ip : Int) < (els.length : Int) := by omega
      have HXN : Hid (els[ip] = xp ∧ n.toNat = els[ip].num) := ⟨hxe, by rw [hxe]; have := HF.out.2; omega⟩
      clear hr hxe hcur
      by_cases hc : classP xp k = on
      · have gc : (classP xp k == on) = true := by simp [hc]
        have HE : Hid (PClsPost w b vS (.slice (some ⟨g, 0, none⟩) els.length cv) els T made n s on (.returned (.tuple #[.int .u8 0, .int .i64 0])) w2) := by
          refine ⟨0, 0, els, rfl, HOK.out.symm, HB2.out, (Fr.refl w _).below hB2, fun _ => rfl, fun M hM _ => ?_⟩
          have hx : xp ∈ els := List.mem_of_getElem? HIX.out
          have hnum : n.toNat = xp.num := by have := HF.out.2; omega
          have hmx := hM.1 xp hx
          have hcl : (M xp.num).cl k = on := by rw [← hmx.2.1 k hk]; exact hc
          refine ⟨hM.ext (fun y _ => ?_), Or.inr ⟨by have := HBT.out; omega, by rw [hnum, HBT.out, show 97 + k - 97 = k from by omega]; exact hcl⟩⟩
          unfold setM
          split
          · rename_i e
            rw [e, hnum]
            unfold clsMk
            have : (fun i => if i + 97 = bt s 0 then on else (M xp.num).cl i) = (M xp.num).cl := by
              funext i
              split
              · rename_i e2
                have e3 : i = k := by have := HBT.out; omega
                rw [e3]
                exact hcl.symm
              · rfl
            rw [this]
          · rfl
        clear hc
        generalize classP xp k = old at q2 gc
        go_wp2
        go_ret2
        exact HE.out
      · have gc : (classP xp k == on) = false := by simp [hc]
        have HB5 : Hid (PB3 (w2.setCell ⟨g, ip * 31 + (1 + k + 2), none⟩ (.bool on)) b vS (.slice (some ⟨g, 0, none⟩) els.length cv) (els.set ip (els[ip].put (1 + k) (.bool on))) T made) := HB2.out.put hip (by omega) rfl
        have HE : Hid (PClsPost w b vS (.slice (some ⟨g, 0, none⟩) els.length cv) els T made n s on (.returned (.tuple #[.int .u8 (97 + (k : Int)), .int .i64 0])) (w2.setCell ⟨g, ip * 31 + 3 + k, none⟩ (.bool on))) := by
          rw [show ip * 31 + 3 + k = ip * 31 + (1 + k + 2) from by omega]
          refine ⟨97 + (k : Int), 0, _, rfl, HOK.out.symm, HB5.out, ((Fr.refl w (fun k => (Value.slice (some ⟨g, 0, none⟩) els.length cv).ownBlock = some k)).below hB2).set (p := ⟨g, ip * 31 + (1 + k + 2), none⟩) (Or.inl rfl) _, fun h => absurd rfl h, fun M hM _ => ⟨?_, Or.inl (by rw [HBT.out]; omega)⟩⟩
          rw [HXN.out.2]
          have hx := List.getElem_mem hip
          have hmx := hM.1 _ hx
          obtain ⟨p1, p2, p3, p4⟩ := put_cls (HB.out.1.pl.ok _ hx) (hM.2 _ hx) hk on
          refine hM.put HB.out.1.pt.nums hip rfl p1 ⟨by rw [p2]; exact hmx.1, fun i hi => ?_, by rw [p4]; exact hmx.2.2⟩
          rw [p3 i hi]
          show _ = if i + 97 = bt s 0 then on else _
          by_cases e : i = k
          · rw [if_pos e, if_pos (by rw [HBT.out]; omega)]
          · rw [if_neg e, if_neg (by rw [HBT.out]; omega)]
            exact hmx.2.1 i hi
        clear hc HB5
        generalize classP xp k = old at q2 gc
        go_wp2
        go_ret2
        exact HE.out
def PNamPost (w : World) (b : Nat) (vS : Value × Value) (v : Value) (els : List PEl) (T : Tree) (made : Nat) (n : Int) (s : ByteArray) (e : Ending) (w' : World) : Prop :=
  ∃ (old now y : Int) (els' : List PEl), e = .returned (.tuple #[.int .u8 old, .int .u8 now, .int .i64 y]) ∧ y = namErr T n s ∧ PB3 w' b vS v els' T made ∧ Fr w w' (fun k => v.ownBlock = some k) ∧ (y ≠ 0 → els' = els ∧ old = now) ∧ ∀ M, MkO els M → y = 0 → MkO els' (setM M n.toNat (namMk (M n.toNat) s)) ∧ old = (M n.toNat).nm ∧ now = (namMk (M n.toNat) s).nm
theorem pnam_any (h : PB3 w b vS v els T made) (hw : TW T made) (hsh : ∀ x ∈ els, Shp x) : Calls Tryz.prog 39 #[.pointer (some ⟨b, 1, none⟩), .int .i64 n, .string s] w fun e w' => PNamPost w b vS v els T made n s e w' := by
  have HB : Hid (PB3 w b vS v els T made ∧ TW T made ∧ ∀ x ∈ els, Shp x) := ⟨h, hw, hsh⟩
  have hfew := h.few
  have HERR : Hid (∀ (y : Int) (w' : World), Below w.heap.size w w' → y ≠ 0 → namErr T n s = y → PNamPost w b vS v els T made n s (.returned (.tuple #[.int .u8 0, .int .u8 0, .int .i64 y])) w') := fun y w' hb hy he =>
    ⟨0, 0, y, els, rfl, he.symm, HB.out.1.below hb, (Fr.refl w _).below hb, fun _ => ⟨rfl, rfl⟩, fun _ _ h0 => absurd h0 hy⟩
  clear h hw hsh
  go_enter Tryz.func39, Tryz.ntmps39
  go_wp2_with fail
  refine (pfind_any w b v els n HB.out.1.c1 HB.out.1.pl hfew).mono ?_
  rintro e w1 ⟨hB1, ⟨hf, rfl⟩ | ⟨ip, xp, hxp, hf, rfl⟩⟩
  · have HE := HERR.out 5 w1 hB1 (by decide) (by unfold namErr; rw [HB.out.1.pt.find_none hf])
    clear hf
    go_wp2
    go_ret3
    exact HE
  · have HF : Hid (tFind T n = some (kidsP els n) ∧ n = xp.num) := ⟨(HB.out.1.pt.find_some HB.out.2.1 hf).1, (HB.out.1.pt.find_some HB.out.2.1 hf).2.2⟩
    have HIX : Hid (els[ip]? = some xp) := hxp
    have hip : ip < els.length := (List.getElem?_eq_some_iff.1 hxp).1
    clear hf hxp
    go_wp2_with fail
    refine (pone_any w1 s).mono ?_
    rintro e w2 ⟨cc, rfl, hdr, hcb, hc0⟩
    have hB2 : Below w.heap.size w w2 := hB1.trans (hdr.below.mono hB1.size)
    clear hB1 hdr
    by_cases hbad : s.size ≠ 0 ∧ isLetter s = false
    · have HE := HERR.out 4 w2 hB2 (by decide) (by unfold namErr; rw [HF.out.1]; show (if _ then _ else _) = _; rw [if_pos hbad])
      have hs1 : s.toList.isEmpty = false := by
        rw [ba_empty, beq_eq_false_iff_ne]
        exact hbad.1
      have hs2 := hbad.2
      rw [hs2]
      clear hbad hcb hc0 hs2
      go_wp2
      go_ret3
      exact HE
    · have HOK : Hid (namErr T n s = 0) := by unfold Hid namErr; rw [HF.out.1]; show (if _ then _ else _) = _; rw [if_neg hbad]
      have HCC : Hid (cc = if s.size = 0 then (0 : Int) else (bt s 0 : Int)) := by
        unfold Hid
        by_cases h0 : s.size = 0
        · rw [if_pos h0]; exact hc0 h0
        · rw [if_neg h0]
          refine hcb ?_
          cases hl : isLetter s with
          | true => rfl
          | false => exact absurd ⟨h0, hl⟩ hbad
      obtain ⟨av, cv, hvv⟩ := HB.out.1.pl.shape
      subst hvv
      have HB2 : Hid (PB3 w2 b vS (.slice av els.length cv) els T made) := HB.out.1.below hB2
      obtain ⟨g, hg, hgl, hr⟩ := HB2.out.pl.at' hip
      subst hg
      have hxe : els[ip] = xp := (List.getElem?_eq_some_iff.1 HIX.out).2
      have q2 : w2.cell? ⟨g, ip * 31 + 29, none⟩ = some (.int .u8 (nameP xp)) := by rw [← hxe]; exact hr 29 _ (HB.out.2.2 _ (List.getElem_mem hip)).nm
      have q0 := HB2.out.c1
      obtain ⟨cur, hcur, _⟩ := own_blk HB2.out.pl.row
      have qf : ∀ j, w2.frozen? ⟨g, j, none⟩ = false := fun _ => frozen_of_blk hcur
      have hil : (ip : Int) < (els.length : Int) := by omega
      have HXN : Hid (els[ip] = xp ∧ n.toNat = els[ip].num) := ⟨hxe, by rw [hxe]; have := HF.out.2; omega⟩
      have HB5 : Hid (PB3 (w2.setCell ⟨g, ip * 31 + 29, none⟩ (.int .u8 cc)) b vS (.slice (some ⟨g, 0, none⟩) els.length cv) (els.set ip (els[ip].put 27 (.int .u8 cc))) T made) := HB2.out.put hip (by omega) rfl
      have HE : Hid (PNamPost w b vS (.slice (some ⟨g, 0, none⟩) els.length cv) els T made n s (.returned (.tuple #[.int .u8 (nameP xp), .int .u8 cc, .int .i64 0])) (w2.setCell ⟨g, ip * 31 + 29, none⟩ (.int .u8 cc))) := by
        refine ⟨nameP xp, cc, 0, _, rfl, HOK.out.symm, HB5.out, ((Fr.refl w (fun k => (Value.slice (some ⟨g, 0, none⟩) els.length cv).ownBlock = some k)).below hB2).set (p := ⟨g, ip * 31 + 29, none⟩) (Or.inl rfl) _, fun h => absurd rfl h, fun M hM _ => ?_⟩
        rw [HXN.out.2]
        have hx := List.getElem_mem hip
        have hmx := hM.1 _ hx
        obtain ⟨p1, p2, p3, p4⟩ := put_nam (HB.out.1.pl.ok _ hx) (hM.2 _ hx) cc
        refine ⟨hM.put HB.out.1.pt.nums hip rfl p1 ⟨by rw [p2]; exact hmx.1, fun i hi => by rw [p3 i hi]; exact hmx.2.1 i hi, by rw [p4]; exact HCC.out⟩, by rw [← HXN.out.1]; exact hmx.2.2, HCC.out⟩
      clear hr hxe hcur HB5 hcb hc0
      generalize nameP xp = old at q2 HE
      cases hl : isLetter s with
      | true =>
        clear hl hbad
        go_wp2
        go_ret3
        exact HE.out
      | false =>
        have hs1 : s.toList.isEmpty = true := by
          have h0 : s.size = 0 := by
            by_cases h0 : s.size = 0
            · exact h0
            · exact absurd ⟨h0, hl⟩ hbad
          rw [ba_empty, h0]
          rfl
        clear hl hbad
        go_wp2
        go_ret3
        exact HE.out
end
end Go.Proofs.YtblfffbmklkhmaaGreat
