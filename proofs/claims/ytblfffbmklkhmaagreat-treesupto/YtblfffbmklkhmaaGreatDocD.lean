/- The document's tree: what a store does; Insert. Own work. -/
import Derived.Test.YtblfffbmklkhmaaGreatDocC
import Derived.Test.YtblfffbmklkhmaaGreatAppMine
namespace Go.Proofs.YtblfffbmklkhmaaGreat
open Go.RowKit

theorem Tryz.info171 : (Tryz.prog.info? 171).map (fun i => (i.zero, i.size, i.bytes)) = some (some (.pointer none), 1, 8) := by kernel_rfl

/-- All but the blocks of S is as it was. -/
structure Fr (w w' : World) (S : Nat → Prop) : Prop where
  os : w'.os = w.os
  tape : w'.tape = w.tape
  output : w'.output = w.output
  size : w.heap.size ≤ w'.heap.size
  block : ∀ k, k < w.heap.size → ¬ S k → w'.heap[k]? = w.heap[k]?
theorem Fr.refl (w : World) (S : Nat → Prop) : Fr w w S := ⟨rfl, rfl, rfl, Nat.le_refl _, fun _ _ _ => rfl⟩
theorem Fr.trans {a b c : World} {S : Nat → Prop} (h : Fr a b S) (k : Fr b c S) : Fr a c S :=
  ⟨k.os.trans h.os, k.tape.trans h.tape, k.output.trans h.output, Nat.le_trans h.size k.size, fun i hi hn => (k.block i (Nat.lt_of_lt_of_le hi h.size) hn).trans (h.block i hi hn)⟩
theorem Fr.below {a w w' : World} {S : Nat → Prop} (h : Fr a w S) (hb : Below w.heap.size w w') : Fr a w' S :=
  ⟨hb.os.trans h.os, hb.tape.trans h.tape, hb.output.trans h.output, Nat.le_trans h.size hb.size, fun i hi hn => (hb.block i (Nat.lt_of_lt_of_le hi h.size)).trans (h.block i hi hn)⟩
theorem Fr.set {a w : World} {S : Nat → Prop} (h : Fr a w S) {p : Addr} (hp : S p.block ∨ a.heap.size ≤ p.block) (u : Value) : Fr a (w.setCell p u) S :=
  ⟨h.os, h.tape, h.output, by simpa [World.setCell] using h.size, fun k hk hn => (Below.heap_setCell _ _ _ _ (fun e => hp.elim (fun x => hn (by rw [e]; exact x)) (fun x => by omega))).trans (h.block k hk hn)⟩
theorem Fr.alloc {a w : World} {S : Nat → Prop} (h : Fr a w S) (o : Obj) : Fr a (w.alloc o) S :=
  ⟨h.os, h.tape, h.output, by simpa using Nat.le_succ_of_le h.size, fun k hk hn => (Below.heap_alloc w o k (Nat.lt_of_lt_of_le hk h.size)).trans (h.block k hk hn)⟩
theorem Fr.gb {a w w' : World} {S : Nat → Prop} (h : Fr a w S) {r : Option Nat} (hg : w.grownBy w' r) (hr : ∀ k, r = some k → S k ∨ a.heap.size ≤ k) : Fr a w' S :=
  ⟨hg.os.trans h.os, hg.tape.trans h.tape, hg.output.trans h.output, Nat.le_trans h.size hg.size, fun k hk hn => (hg.block k (Nat.lt_of_lt_of_le hk h.size) (fun e => (hr k e.symm).elim (fun x => hn x) (fun x => by omega))).trans (h.block k hk hn)⟩

/-- What a document of the reference lies in. -/
def fpR (d : Nat) (els : List REl) (vL : Value) (k : Nat) : Prop := k = d ∨ (∃ e ∈ els, k = e.blk) ∨ vL.ownBlock = some k ∨ ∃ e ∈ els, e.ks.ownBlock = some k

theorem own_ne_type {w : World} {base : Nat} {e : TypeId} {size : Nat} {v : Value} {n : Nat} {xs : List Value} (h : w.ownsRow base e size v n xs) {b : Nat} {cs : Array Value} {t : TypeId} {z : Nat × Nat} (hb : w.heap[b]? = some (.cells cs t z)) (hne : t ≠ e) : v.ownBlock ≠ some b := by
  intro eq
  rcases h.2 with ⟨rfl, _⟩ | ⟨g, cap, cur, rfl, _, hg, _⟩
  · simp [Value.ownBlock] at eq
  · simp [Value.ownBlock] at eq
    subst eq
    rw [hb] at hg
    injection hg with hg
    injection hg with _ h2 _
    exact hne h2
theorem own_set {w : World} {base : Nat} {e : TypeId} {size : Nat} {v : Value} {n : Nat} {xs : List Value} (h : w.ownsRow base e size v n xs) {p : Addr} (hp : v.ownBlock ≠ some p.block) (u : Value) : (w.setCell p u).ownsRow base e size v n xs := by
  refine ⟨h.1, ?_⟩
  rcases h.2 with hn | ⟨g, cap, cur, rfl, hb, hg, rest⟩
  · exact Or.inl hn
  · refine Or.inr ⟨g, cap, cur, rfl, hb, ?_, rest⟩
    rw [Below.heap_setCell _ _ _ _ (fun e => hp (by simp [Value.ownBlock, e]))]
    exact hg
theorem own_below {w w' : World} {base : Nat} {e : TypeId} {size : Nat} {v : Value} {n : Nat} {xs : List Value} (h : w.ownsRow base e size v n xs) (hb : Below w.heap.size w w') : w'.ownsRow base e size v n xs := (keeps_below hb base e).owns h

section
variable {w : World} {d : Nat} {els : List REl} {made : Nat} {hp : Option Addr} {vT : Value} {has : Bool} {vL : Value}

theorem RD.below (h : RD w d els made hp vT has vL) {w' : World} (hb : Below w.heap.size w w') : RD w' d els made hp vT has vL :=
  ⟨(hb.block d (Array.getElem?_eq_some_iff.1 h.doc).1).trans h.doc, own_below h.row hb, fun e he => (hb.block _ (Array.getElem?_eq_some_iff.1 (h.el e he)).1).trans (h.el e he), fun e he => own_below (h.kid e he) hb, h.few, h.kfew⟩
theorem RD.setDoc (h : RD w d els made hp vT has vL) {o : Nat} {u : Value} {made' : Nat} {hp' : Option Addr} {vT' : Value} {has' : Bool} {vL' : Value} (hc : (#[Value.pointer hp, vL, .int .i64 made, vT, .bool has] : Array Value).setIfInBounds o u = #[.pointer hp', vL', .int .i64 made', vT', .bool has'])
    {els' : List REl} (hr : w.ownsRow 0 171 1 vL' els'.length (els'.map fun e => .pointer (some ⟨e.blk, 0, none⟩))) (he : ∀ e ∈ els', w.heap[e.blk]? = some (.cells e.cells 176 (0, 0))) (hk : ∀ e ∈ els', w.ownsRow 0 3 1 e.ks e.kids.length (ints e.kids)) (h1 : els'.length ≤ 24) (h2 : ∀ e ∈ els', e.kids.length ≤ 24) :
    RD (w.setCell ⟨d, o, none⟩ u) d els' made' hp' vT' has' vL' := by
  refine ⟨by rw [heap_setCell_row h.doc, hc], own_set hr (own_ne_type hr h.doc (by decide)) _, fun e hee => ?_, fun e hee => own_set (hk e hee) (own_ne_type (hk e hee) h.doc (by decide)) _, h1, h2⟩
  rw [Below.heap_setCell]
  · exact he e hee
  · intro eq
    have h3 := he e hee
    rw [show e.blk = d from eq, h.doc] at h3
    injection h3 with h3
    injection h3 with _ h4 _
    exact absurd h4 (by decide)
theorem RD.setDoc' (h : RD w d els made hp vT has vL) {o : Nat} {u : Value} {made' : Nat} {hp' : Option Addr} {vT' : Value} {has' : Bool} (hc : (#[Value.pointer hp, vL, .int .i64 made, vT, .bool has] : Array Value).setIfInBounds o u = #[.pointer hp', vL, .int .i64 made', vT', .bool has']) :
    RD (w.setCell ⟨d, o, none⟩ u) d els made' hp' vT' has' vL := h.setDoc hc h.row h.el h.kid h.few h.kfew
end

/-- Other children for the element of a block. -/
def updK (b : Nat) (kids : List Nat) (ks : Value) (e : REl) : REl := if e.blk = b then { e with kids := kids, ks := ks } else e
theorem updK_blk (b : Nat) (kids : List Nat) (ks : Value) (e : REl) : (updK b kids ks e).blk = e.blk := by unfold updK; split <;> rfl
theorem updK_num (b : Nat) (kids : List Nat) (ks : Value) (e : REl) : (updK b kids ks e).num = e.num := by unfold updK; split <;> rfl

theorem RD.setKids {w : World} {d : Nat} {els : List REl} {made : Nat} {hp : Option Addr} {vT : Value} {has : Bool} {vL : Value} (h : RD w d els made hp vT has vL) {p : REl} (hpe : p ∈ els) {kids : List Nat} {ks : Value}
    (ho : w.ownsRow 0 3 1 ks kids.length (ints kids)) (hl : kids.length ≤ 24) : RD (w.setCell ⟨p.blk, 4, none⟩ ks) d (els.map (updK p.blk kids ks)) made hp vT has vL := by
  have hpb := h.el p hpe
  have hkid : ∀ e ∈ els.map (updK p.blk kids ks), w.ownsRow 0 3 1 e.ks e.kids.length (ints e.kids) := by
    intro e he
    obtain ⟨f, hf, rfl⟩ := List.mem_map.1 he
    unfold updK
    split
    · exact ho
    · exact h.kid f hf
  refine ⟨?_, ?_, ?_, ?_, by simpa using h.few, ?_⟩
  · rw [Below.heap_setCell]
    · exact h.doc
    · intro eq
      rw [← show d = p.blk from eq, h.doc] at hpb
      injection hpb with h3
      injection h3 with _ h4 _
      exact absurd h4 (by decide)
  · have hr := h.row
    have hm : (els.map (updK p.blk kids ks)).map (fun e => Value.pointer (some ⟨e.blk, 0, none⟩)) = els.map fun e => Value.pointer (some ⟨e.blk, 0, none⟩) := by
      rw [List.map_map]
      refine List.map_congr_left fun e _ => ?_
      simp [updK_blk]
    rw [hm, List.length_map]
    exact own_set hr (own_ne_type hr hpb (by decide)) _
  · intro e he
    obtain ⟨f, hf, rfl⟩ := List.mem_map.1 he
    rw [updK_blk]
    by_cases hb : f.blk = p.blk
    · have hfe := h.el f hf
      rw [hb] at hfe ⊢
      rw [heap_setCell_row hfe]
      unfold updK
      rw [if_pos hb]
      rfl
    · rw [Below.heap_setCell _ _ _ _ (by exact hb)]
      unfold updK
      rw [if_neg hb]
      exact h.el f hf
  · intro e he
    exact own_set (hkid e he) (own_ne_type (hkid e he) hpb (by decide)) _
  · intro e he
    obtain ⟨f, hf, rfl⟩ := List.mem_map.1 he
    unfold updK
    split
    · exact hl
    · exact h.kfew f hf

theorem find_mem {els : List REl} {n : Int} {e : REl} (h : findR els n = some e) : e ∈ els ∧ (e.num : Int) = n := by
  unfold findR at h
  exact ⟨List.mem_of_find?_eq_some h, by simpa using List.find?_some h⟩

def insErr (els : List REl) (par at' : Int) (kind : ByteArray) : Int :=
  match findR els par with
  | none => 5
  | some p => if at' < 0 ∨ (p.kids.length : Int) < at' then 8 else if isLetter kind = false then 4 else if 24 ≤ els.length then 9 else 0

def newEl (b n : Nat) (kind : ByteArray) : REl := ⟨b, n, [], kind, ⟨#[]⟩, ⟨#[]⟩, .slice none 0 0, false⟩

def InsPost (w : World) (d : Nat) (els : List REl) (made : Nat) (hp : Option Addr) (vT : Value) (vL : Value) (par at' : Int) (kind : ByteArray) (e : Ending) (w' : World) : Prop :=
  (∃ y : Int, e = .returned (.tuple #[.int .i64 0, .int .i64 y]) ∧ y ≠ 0 ∧ insErr els par at' kind = y ∧ w' = w) ∨
  (∃ (p : REl) (k : Nat) (ks : Value) (b : Nat) (vL' : Value), e = .returned (.tuple #[.int .i64 made, .int .i64 0]) ∧ insErr els par at' kind = 0 ∧ findR els par = some p ∧ at' = k ∧ k ≤ p.kids.length ∧
    RD w' d (els.map (updK p.blk (insL p.kids k made) ks) ++ [newEl b made kind]) (made + 1) hp vT false vL' ∧ Fr w w' (fpR d els vL) ∧ w.heap.size ≤ b ∧ (∀ j, ks.ownBlock = some j → w.heap.size ≤ j) ∧ (∀ j, vL'.ownBlock = some j → vL.ownBlock = some j ∨ w.heap.size ≤ j))

theorem one_ptr (b : Nat) : ∀ u ∈ [Value.pointer (some ⟨b, 0, none⟩)], u.oneCell' = true := by
  intro u hu
  simp at hu
  subst hu
  rfl

theorem heap_two (W : World) (a b : Obj) (k : Nat) (h : k < W.heap.size) : ((W.alloc a).alloc b).heap[k]? = W.heap[k]? := by
  rw [Below.heap_alloc _ _ _ (by simp; omega), Below.heap_alloc _ _ _ h]

theorem RD.addEl {W : World} {d : Nat} {els : List REl} {made : Nat} {hp : Option Addr} {vT : Value} {has : Bool} {vL : Value} (h : RD W d els made hp vT has vL) {n : Nat} {kind : ByteArray} {sl : Obj} {w6 : World} {v' : Value}
    (ho : w6.ownsRow 0 171 1 v' (els.length + 1) ((els.map fun e => Value.pointer (some ⟨e.blk, 0, none⟩)) ++ [.pointer (some ⟨W.heap.size, 0, none⟩)]))
    (hg : ((W.alloc (.cells (newEl W.heap.size n kind).cells 176)).alloc sl).grownBy w6 vL.ownBlock) (hl : els.length < 24) :
    w6.heap[d]? = some (.cells #[.pointer hp, vL, .int .i64 made, vT, .bool has] 121 (0, 0)) ∧ RD (w6.setCell ⟨d, 1, none⟩ v') d (els ++ [newEl W.heap.size n kind]) made hp vT has v' := by
  have hsz : ((W.alloc (.cells (newEl W.heap.size n kind).cells 176)).alloc sl).heap.size = W.heap.size + 2 := by simp
  have hrow := h.row
  have keep : ∀ k, k < W.heap.size → vL.ownBlock ≠ some k → w6.heap[k]? = W.heap[k]? := fun k hk hn => (hg.block k (by omega) (fun e => hn e.symm)).trans (heap_two W _ _ k hk)
  have hdoc : w6.heap[d]? = some (.cells #[.pointer hp, vL, .int .i64 made, vT, .bool has] 121 (0, 0)) := (keep d (Array.getElem?_eq_some_iff.1 h.doc).1 (own_ne_type hrow h.doc (by decide))).trans h.doc
  have hel : ∀ e ∈ els ++ [newEl W.heap.size n kind], w6.heap[e.blk]? = some (.cells e.cells 176 (0, 0)) := by
    intro e he
    rcases List.mem_append.1 he with he | he
    · exact (keep _ (Array.getElem?_eq_some_iff.1 (h.el e he)).1 (own_ne_type hrow (h.el e he) (by decide))).trans (h.el e he)
    · simp only [List.mem_cons, List.not_mem_nil, or_false] at he
      subst he
      show w6.heap[W.heap.size]? = _
      have hne : some W.heap.size ≠ vL.ownBlock := fun e => by have := (hrow.lt _ e.symm).2; omega
      rw [hg.block W.heap.size (by omega) hne, Below.heap_alloc _ _ _ (by simp), heap_alloc_new W]
  have hkid : ∀ e ∈ els ++ [newEl W.heap.size n kind], w6.ownsRow 0 3 1 e.ks e.kids.length (ints e.kids) := by
    intro e he
    rcases List.mem_append.1 he with he | he
    · have hk := h.kid e he
      refine ⟨hk.1, ?_⟩
      rcases hk.2 with hn | ⟨g, cap, cur, hv, hb, hh, rest⟩
      · exact Or.inl hn
      · exact Or.inr ⟨g, cap, cur, hv, hb, (keep g (Array.getElem?_eq_some_iff.1 hh).1 (own_ne_type hrow hh (by decide))).trans hh, rest⟩
    · simp only [List.mem_cons, List.not_mem_nil, or_false] at he
      subst he
      exact World.ownsRow_nil _ _ _ _
  refine ⟨hdoc, by rw [heap_setCell_row hdoc]; rfl, ?_, fun e he => ?_, fun e he => own_set (hkid e he) (own_ne_type (hkid e he) hdoc (by decide)) _, by simp; omega, fun e he => ?_⟩
  · have ho' : w6.ownsRow 0 171 1 v' (els ++ [newEl W.heap.size n kind]).length ((els ++ [newEl W.heap.size n kind]).map fun e => Value.pointer (some ⟨e.blk, 0, none⟩)) := by simpa [newEl] using ho
    exact own_set ho' (own_ne_type ho' hdoc (by decide)) _
  · rw [Below.heap_setCell]
    · exact hel e he
    · intro eq
      have h3 := hel e he
      rw [show e.blk = d from eq, hdoc] at h3
      injection h3 with h3
      injection h3 with _ h4 _
      exact absurd h4 (by decide)
  · rcases List.mem_append.1 he with he | he
    · exact h.kfew e he
    · simp only [List.mem_cons, List.not_mem_nil, or_false] at he
      subst he
      exact Nat.zero_le _

set_option maxRecDepth 100000 in
set_option maxHeartbeats 4000000 in
theorem refinsert_any (w : World) (d : Nat) (els : List REl) (made : Nat) (hp : Option Addr) (vT : Value) (has : Bool) (vL : Value) (par at' : Int) (kind : ByteArray) (h : RD w d els made hp vT has vL) (hkl : ∀ e ∈ els, e.kids.length < els.length) (hmade : made ≤ 1099511627776) :
    Calls Tryz.prog 142 #[.pointer (some ⟨d, 0, none⟩), .int .i64 par, .int .i64 at', .string kind] w fun e w' => InsPost w d els made hp vT vL par at' kind e w' := by
  obtain ⟨aL, cL, hvL⟩ := h.shape
  subst hvL
  have d1 := h.c1
  have d2 : w.cell? ⟨d, 2, none⟩ = some (.int .i64 made) := cell_of_blk h.doc rfl
  have dz : ∀ k, w.frozen? ⟨d, k, none⟩ = false := fun _ => frozen_of_blk h.doc
  have d4 : w.cell? ⟨d, 4, none⟩ = some (.bool has) := cell_of_blk h.doc rfl
  have hfew := h.few
  have HR : Hid (RD w d els made hp vT has (.slice aL els.length cL)) := h
  have HL : Hid (∀ e ∈ els, e.kids.length < els.length) := hkl
  clear h hkl
  obtain ⟨i0, hi, iz0, iz1, iz2⟩ := info_parts Tryz.info171
  go_enter Tryz.func142, Tryz.ntmps142
  go_wp2_with fail
  refine (find_any _ d els made hp vT has _ par HR.out).mono ?_
  rintro e w1 ⟨rfl, rfl⟩
  obtain ⟨w, rfl⟩ : ∃ w, w = w1 := ⟨_, rfl⟩
  cases hfind : findR els par with
  | none =>
    have HE : Hid (insErr els par at' kind = 5) := by unfold Hid insErr; rw [hfind]
    clear hfind
    rw [show ptrOf none = Value.pointer none from rfl]
    go_wp2
    go_ret2
    exact Or.inl ⟨5, rfl, by decide, HE.out, rfl⟩
  | some p =>
    have HF : Hid (findR els par = some p) := hfind
    obtain ⟨hpm, _⟩ := find_mem hfind
    clear hfind
    obtain ⟨_, p4⟩ := el_cells (HR.out.el p hpm)
    have pz : ∀ k, w.frozen? ⟨p.blk, k, none⟩ = false := fun _ => frozen_of_blk (HR.out.el p hpm)
    have pk := HR.out.kid p hpm
    have hpl := HL.out p hpm
    obtain ⟨ka, kc, hks⟩ := own_shape pk
    rw [hks] at p4 pk
    have HPK : Hid (w.ownsRow 0 3 1 (.slice ka p.kids.length kc) p.kids.length (ints p.kids)) := pk
    have HPM : Hid (p ∈ els) := hpm
    have HKS : Hid (p.ks = .slice ka p.kids.length kc) := hks
    clear hks pk hpm
    have HI : Hid (insErr els par at' kind = if at' < 0 ∨ (p.kids.length : Int) < at' then 8 else if isLetter kind = false then 4 else if 24 ≤ els.length then 9 else 0) := by unfold Hid insErr; rw [HF.out]
    rw [show ptrOf (some p) = Value.pointer (some ⟨p.blk, 0, none⟩) from rfl]
    by_cases h0 : at' < 0
    · have g0 : decide (at' < 0) = true := by simpa using h0
      have HE : Hid (insErr els par at' kind = 8) := by unfold Hid; rw [HI.out, if_pos (Or.inl h0)]
      clear h0 HI
      go_wp2
      go_ret2
      exact Or.inl ⟨8, rfl, by decide, HE.out, rfl⟩
    have g0 : decide (at' < 0) = false := by simpa using h0
    obtain ⟨k, rfl⟩ : ∃ k : Nat, at' = k := ⟨at'.toNat, by omega⟩
    by_cases h1 : p.kids.length < k
    · have g1 : decide ((p.kids.length : Int) < (k : Int)) = true := by simp; omega
      have HE : Hid (insErr els par k kind = 8) := by unfold Hid; rw [HI.out, if_pos (Or.inr (by omega))]
      clear h0 HI
      go_wp2
      go_ret2
      exact Or.inl ⟨8, rfl, by decide, HE.out, rfl⟩
    have g1 : decide ((p.kids.length : Int) < (k : Int)) = false := by simp; omega
    have hkk : k ≤ p.kids.length := by omega
    have HI2 : Hid (insErr els par k kind = if isLetter kind = false then 4 else if 24 ≤ els.length then 9 else 0) := by unfold Hid; rw [HI.out, if_neg (by omega)]
    clear HI h0 h1
    go_wp2_with fail
    refine (letter_ref _ kind).mono ?_
    rintro e w2 ⟨rfl, rfl⟩
    obtain ⟨w, rfl⟩ : ∃ w, w = w2 := ⟨_, rfl⟩
    cases hlet : isLetter kind with
    | false =>
      have HE : Hid (insErr els par k kind = 4) := by unfold Hid; rw [HI2.out, if_pos hlet]
      clear hlet HI2
      go_wp2
      go_ret2
      exact Or.inl ⟨4, rfl, by decide, HE.out, rfl⟩
    | true =>
      by_cases h24 : 24 ≤ els.length
      · have g24 : decide ((24 : Int) ≤ (els.length : Int)) = true := by simp; omega
        have HE : Hid (insErr els par k kind = 9) := by unfold Hid; rw [HI2.out, if_neg (by rw [hlet]; decide), if_pos h24]
        clear hlet HI2
        go_wp2
        go_ret2
        exact Or.inl ⟨9, rfl, by decide, HE.out, rfl⟩
      · have g24 : decide ((24 : Int) ≤ (els.length : Int)) = false := by simp; omega
        have HE : Hid (insErr els par k kind = 0) := by unfold Hid; rw [HI2.out, if_neg (by rw [hlet]; decide), if_neg h24]
        clear hlet HI2
        have hpd : p.blk ≠ d := fun eq => by
          have h3 := HR.out.el p HPM.out
          rw [eq, HR.out.doc] at h3
          injection h3 with h3
          injection h3 with _ h4 _
          exact absurd h4 (by decide)
        have hdp : d ≠ p.blk := fun eq => hpd eq.symm
        have R1 : RD (w.setCell ⟨d, 4, none⟩ (.bool false)) d els made hp vT false (.slice aL els.length cL) := HR.out.setDoc' rfl
        have R2 : RD ((w.setCell ⟨d, 4, none⟩ (.bool false)).setCell ⟨d, 2, none⟩ (.int .i64 ((made : Int) + 1))) d els (made + 1) hp vT false (.slice aL els.length cL) := R1.setDoc' rfl
        have F2 : Fr w ((w.setCell ⟨d, 4, none⟩ (.bool false)).setCell ⟨d, 2, none⟩ (.int .i64 ((made : Int) + 1))) (fpR d els (.slice aL els.length cL)) := ((Fr.refl w _).set (Or.inl (Or.inl rfl)) _).set (Or.inl (Or.inl rfl)) _
        have HR2 : Hid (RD ((w.setCell ⟨d, 4, none⟩ (.bool false)).setCell ⟨d, 2, none⟩ (.int .i64 ((made : Int) + 1))) d els (made + 1) hp vT false (.slice aL els.length cL) ∧ Fr w ((w.setCell ⟨d, 4, none⟩ (.bool false)).setCell ⟨d, 2, none⟩ (.int .i64 ((made : Int) + 1))) (fpR d els (.slice aL els.length cL))) := ⟨R2, F2⟩
        clear R1 R2 F2
        go_wp2_with fail
        obtain ⟨W2, hW2⟩ : ∃ W2, W2 = (w.setCell ⟨d, 4, none⟩ (.bool false)).setCell ⟨d, 2, none⟩ (.int .i64 ((made : Int) + 1)) := ⟨_, rfl⟩
        rw [← hW2] at HR2 ⊢
        clear hW2 d1 d2 dz d4 p4 pz HPK
        have hpk2 := HR2.out.1.kid p HPM.out
        rw [HKS.out] at hpk2
        refine (inserted_any W2 ka kc p.kids k made 0 hpk2 (by omega) hkk).mono ?_
        rintro e W3 ⟨a3, c3, rfl, own3, hb3⟩
        have hil : (insL p.kids k made).length = p.kids.length + 1 := by simp [insL]; omega
        have R3 := HR2.out.1.below hb3
        have F3 := HR2.out.2.below hb3
        have p4 := (el_cells (R3.el p HPM.out)).2
        rw [HKS.out] at p4
        have pz : ∀ k, W3.frozen? ⟨p.blk, k, none⟩ = false := fun _ => frozen_of_blk (R3.el p HPM.out)
        have R4 := R3.setKids HPM.out (own_mono own3 (Nat.zero_le _)) (by omega)
        have F4 := F3.set (p := ⟨p.blk, 4, none⟩) (Or.inl (Or.inr (Or.inl ⟨p, HPM.out, rfl⟩))) (.slice a3 (insL p.kids k made).length c3)
        have HK3 : Hid (∀ j, (Value.slice a3 (insL p.kids k made).length c3).ownBlock = some j → w.heap.size ≤ j) := fun j hj => by
          have := (own3.lt j hj).1
          have := HR2.out.2.size
          omega
        have HR4 : Hid (RD (W3.setCell ⟨p.blk, 4, none⟩ (.slice a3 (insL p.kids k made).length c3)) d (els.map (updK p.blk (insL p.kids k made) (.slice a3 (insL p.kids k made).length c3))) (made + 1) hp vT false (.slice aL els.length cL) ∧ Fr w (W3.setCell ⟨p.blk, 4, none⟩ (.slice a3 (insL p.kids k made).length c3)) (fpR d els (.slice aL els.length cL))) := ⟨R4, F4⟩
        have HIL : Hid ((insL p.kids k made).length = p.kids.length + 1) := hil
        clear R3 F3 R4 F4 hpk2 own3 hb3 hil
        go_upto_region 15 with fail
        obtain ⟨W4, hW4⟩ : ∃ W4, W4 = W3.setCell ⟨p.blk, 4, none⟩ (.slice a3 (insL p.kids k made).length c3) := ⟨_, rfl⟩
        rw [← hW4] at HR4 ⊢
        clear hW4 p4 pz
        have e1 : W4.cell? ⟨d, 1, none⟩ = some (.slice aL els.length cL) := HR4.out.1.c1
        have ez : ∀ k, W4.frozen? ⟨d, k, none⟩ = false := fun _ => frozen_of_blk HR4.out.1.doc
        have hd4 : d < W4.heap.size := (Array.getElem?_eq_some_iff.1 HR4.out.1.doc).1
        have row4 := HR4.out.1.row
        rw [List.length_map] at row4
        obtain ⟨rs, hrs⟩ : ∃ rs, rs = (els.map (updK p.blk (insL p.kids k made) (.slice a3 (insL p.kids k made).length c3))).map fun e => Value.pointer (some ⟨e.blk, 0, none⟩) := ⟨_, rfl⟩
        rw [← hrs] at row4
        have HRS : Hid (rs = (els.map (updK p.blk (insL p.kids k made) (.slice a3 (insL p.kids k made).length c3))).map fun e => Value.pointer (some ⟨e.blk, 0, none⟩)) := hrs
        clear hrs
        go_wp2_with (at_builtin; refine wpList_append_kept _ rfl (.tmp 67) (.tmp 72) 118 rfl 0 171 i0 (.pointer none) 1 8 Tryz.underlying118 hi iz0 iz1 iz2 rfl (by decide) _ _ _ rfl ((row4.alloc _).alloc _) ⟨W4.heap.size + 1, 0, none⟩ 1 1 [.pointer (some ⟨W4.heap.size, 0, none⟩)] rfl rfl ?c1 ?c2 ?c3 ?c4 ?c5 ?_)
        case c1 => exact new_cells (W4.alloc _) _ (by simp) _ _ _ rfl
        case c2 => exact one_ptr _
        case c3 => unfold maxLen; omega
        case c4 => omega
        case c5 => exact Nat.zero_le _
        · intro v' w6 hown6 hg6 HV6'
          have hl6 : (els.map (updK p.blk (insL p.kids k made) (.slice a3 (insL p.kids k made).length c3))).length < 24 := by simp; omega
          rw [HRS.out] at hown6
          have hown6' : w6.ownsRow 0 171 1 v' ((els.map (updK p.blk (insL p.kids k made) (.slice a3 (insL p.kids k made).length c3))).length + 1) (((els.map (updK p.blk (insL p.kids k made) (.slice a3 (insL p.kids k made).length c3))).map fun e => Value.pointer (some ⟨e.blk, 0, none⟩)) ++ [.pointer (some ⟨W4.heap.size, 0, none⟩)]) := by rw [List.length_map]; exact hown6
          obtain ⟨hdoc6, R6⟩ := HR4.out.1.addEl (n := made) (kind := kind) hown6' hg6 hl6
          have F6 : Fr w w6 (fpR d els (.slice aL els.length cL)) := ((HR4.out.2.alloc _).alloc _).gb hg6 (fun j hj => Or.inl (Or.inr (Or.inr (Or.inl hj))))
          have HB6 : Hid (w.heap.size ≤ W4.heap.size) := HR4.out.2.size
          have HV6 : Hid (∀ j, v'.ownBlock = some j → (Value.slice aL els.length cL).ownBlock = some j ∨ w.heap.size ≤ j) := fun j hj => (HV6'.out j hj).elim Or.inl (fun x => Or.inr (by have := HR4.out.2.size; first | omega | (simp at x; omega)))
          obtain ⟨a6, c6, hv6⟩ := own_shape hown6
          subst hv6
          have f1 : w6.cell? ⟨d, 1, none⟩ = some (.slice aL els.length cL) := cell_of_blk hdoc6 rfl
          have fz : ∀ k, w6.frozen? ⟨d, k, none⟩ = false := fun _ => frozen_of_blk hdoc6
          have HR6 : Hid (RD (w6.setCell ⟨d, 1, none⟩ (.slice a6 (els.length + 1) c6)) d (els.map (updK p.blk (insL p.kids k made) (.slice a3 (insL p.kids k made).length c3)) ++ [newEl W4.heap.size made kind]) (made + 1) hp vT false (.slice a6 (els.length + 1) c6)) := R6
          have HF6 : Hid (Fr w (w6.setCell ⟨d, 1, none⟩ (.slice a6 (els.length + 1) c6)) (fpR d els (.slice aL els.length cL))) := F6.set (Or.inl (Or.inl rfl)) _
          clear hown6 hg6 hown6' R6 F6 row4 hdoc6 HV6'
          go_wp2
          go_ret2
          exact Or.inr ⟨p, k, .slice a3 (insL p.kids k made).length c3, W4.heap.size, .slice a6 (els.length + 1) c6, rfl, HE.out, HF.out, rfl, hkk, HR6.out, HF6.out, HB6.out, HK3.out, HV6.out⟩

end Go.Proofs.YtblfffbmklkhmaaGreat
