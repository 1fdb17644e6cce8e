/- The document's answer: the compounds of a selector. Own work. -/
import Derived.Test.YtblfffbmklkhmaaGreatRefPlace
import Derived.Test.YtblfffbmklkhmaaGreatSelector
namespace Go.Proofs.YtblfffbmklkhmaaGreat
open Go.RowKit

theorem Tryz.info206 : (Tryz.prog.info? 206).map (fun i => (i.zero, i.size, i.bytes)) = some (some (.agg #[.int .u8 0, .string ⟨#[]⟩]), 2, 24) := by kernel_rfl

/-- The cells hold the texts from place to place. -/
def Txs (s : ByteArray) : List Value → List (Nat × Nat) → Prop
  | xs, [] => xs = []
  | xs, (p, q) :: r => ∃ (sg : Int) (ys : List Value), xs = .int .u8 sg :: .string (s.extract p q) :: ys ∧ Txs s ys r
theorem Txs.snoc {s : ByteArray} (sg : Int) (p q : Nat) : ∀ {xs : List Value} {segs : List (Nat × Nat)}, Txs s xs segs → Txs s (xs ++ [.int .u8 sg, .string (s.extract p q)]) (segs ++ [(p, q)])
  | _, [], h => by simp only [Txs] at h; subst h; exact ⟨sg, [], rfl, rfl⟩
  | _, (_, _) :: _, ⟨sg', ys, h1, h2⟩ => ⟨sg', _, by rw [h1]; rfl, Txs.snoc sg p q h2⟩

theorem Txs.len {s : ByteArray} : ∀ {xs : List Value} {segs : List (Nat × Nat)}, Txs s xs segs → xs.length = segs.length * 2
  | _, [], h => by simp only [Txs] at h; subst h; rfl
  | _, (_, _) :: _, ⟨sg, ys, h1, h2⟩ => by rw [h1]; simp only [List.length_cons]; rw [Txs.len h2]; omega
/-- The sign ahead of the compound of a number that begins at p. -/
def sgAt (s : ByteArray) (n p : Nat) : Int := if n = 0 then 0 else (bt s (p - 1) : Int)
/-- The cells hold the signs. -/
def Sgs (s : ByteArray) (xs : List Value) (segs : List (Nat × Nat)) : Prop := ∀ i p q, segs[i]? = some (p, q) → xs[i * 2]? = some (.int .u8 (sgAt s i p))
theorem Sgs.snoc {s : ByteArray} {xs : List Value} {segs : List (Nat × Nat)} (h : Sgs s xs segs) (ht : Txs s xs segs) {sg : Int} {p q : Nat} (hs : sg = sgAt s segs.length p) : Sgs s (xs ++ [.int .u8 sg, .string (s.extract p q)]) (segs ++ [(p, q)]) := by
  intro i p' q' hi
  have hl := ht.len
  by_cases he : i < segs.length
  · rw [List.getElem?_append_left he] at hi
    rw [List.getElem?_append_left (by omega)]
    exact h i p' q' hi
  · rw [List.getElem?_append_right (by omega)] at hi
    obtain rfl : i = segs.length := by
      have := (List.getElem?_eq_some_iff.1 hi).1
      simp at this
      omega
    rw [Nat.sub_self] at hi
    injection hi with hi
    injection hi with h1 h2
    rw [List.getElem?_append_right (by omega), hl, Nat.sub_self, hs, h1]
    rfl

/-- From i to j there are pieces without a sign, each with a sign behind it. -/
def Segs (s : ByteArray) : Nat → Nat → List (Nat × Nat) → Prop
  | i, j, [] => i = j
  | i, j, (p, q) :: r => p = i ∧ (∀ k, p ≤ k → k < q → isS (bt s k) = false) ∧ p ≤ q ∧ isS (bt s q) = true ∧ Segs s (q + 1) j r
theorem Segs.snoc {s : ByteArray} {p q : Nat} (h1 : ∀ k, p ≤ k → k < q → isS (bt s k) = false) (h2 : p ≤ q) (h3 : isS (bt s q) = true) : ∀ {segs : List (Nat × Nat)} {i : Nat}, Segs s i p segs → Segs s i (q + 1) (segs ++ [(p, q)])
  | [], _, h => by simp only [Segs] at h; subst h; exact ⟨rfl, h1, h2, h3, rfl⟩
  | (_, _) :: _, _, ⟨a, b, c, d, e⟩ => ⟨a, b, c, d, Segs.snoc h1 h2 h3 e⟩
def SegsAt (s : ByteArray) (i j : Nat) (segs : List (Nat × Nat)) : Prop :=
  ∃ pre p, segs = pre ++ [(p, j)] ∧ Segs s i p pre ∧ p ≤ j ∧ ∀ k, p ≤ k → k < j → isS (bt s k) = false

structure Ch (w wr : World) (b : Nat) (v : Value) (hm : Int) (vo : Value) (n : Nat) (xs : List Value) (sg : Int) : Prop where
  sh : Sh wr b v hm
  gb : w.grownBy wr (some b)
  cb : ∃ tx, wr.heap[w.heap.size]? = some (.cells #[.int .u8 sg, .string tx] 206 (0, 0))
  own : wr.ownsRow (w.heap.size + 1) 206 2 vo n xs
  lt : b < w.heap.size

theorem Ch.cells {w wr : World} {b : Nat} {v : Value} {hm : Int} {vo : Value} {n : Nat} {xs : List Value} {sg : Int} (h : Ch w wr b v hm vo n xs sg) :
    (∃ tx, wr.cell? ⟨w.heap.size, 0, none⟩ = some (.int .u8 sg) ∧ wr.cell? ⟨w.heap.size, 1, none⟩ = some (.string tx)) ∧ (∀ k, wr.frozen? ⟨w.heap.size, k, none⟩ = false) := by
  obtain ⟨tx, h1⟩ := h.cb
  exact ⟨⟨tx, cell_of_blk h1 rfl, cell_of_blk h1 rfl⟩, fun k => frozen_of_blk h1⟩
theorem Ch.set1 {w wr : World} {b : Nat} {v : Value} {hm : Int} {vo : Value} {n : Nat} {xs : List Value} {sg : Int} (h : Ch w wr b v hm vo n xs sg) (tx : ByteArray) :
    Ch w (wr.setCell ⟨w.heap.size, 1, none⟩ (.string tx)) b v hm vo n xs sg := by
  have hl := h.lt
  obtain ⟨tx0, h1⟩ := h.cb
  refine ⟨(Below.heap_setCell _ _ _ _ (by show b ≠ w.heap.size; omega)).trans h.sh, gb_setNew h.gb (Nat.le_refl _) _, ⟨tx, ?_⟩, ownsRow_setCell_below h.own (by show w.heap.size < w.heap.size + 1; omega) _, hl⟩
  rw [heap_setCell_row h1]; rfl
theorem Ch.set0 {w wr : World} {b : Nat} {v : Value} {hm : Int} {vo : Value} {n : Nat} {xs : List Value} {sg : Int} (h : Ch w wr b v hm vo n xs sg) (x : Int) :
    Ch w (wr.setCell ⟨w.heap.size, 0, none⟩ (.int .u8 x)) b v hm vo n xs x := by
  have hl := h.lt
  obtain ⟨tx0, h1⟩ := h.cb
  refine ⟨(Below.heap_setCell _ _ _ _ (by show b ≠ w.heap.size; omega)).trans h.sh, gb_setNew h.gb (Nat.le_refl _) _, ⟨tx0, ?_⟩, ownsRow_setCell_below h.own (by show w.heap.size < w.heap.size + 1; omega) _, hl⟩
  rw [heap_setCell_row h1]; rfl
theorem Ch.noted {w wr w2 : World} {b : Nat} {v : Value} {hm hm' : Int} {vo : Value} {n : Nat} {xs : List Value} {sg : Int} (h : Ch w wr b v hm vo n xs sg) (hs : Sh w2 b v hm') (hg : wr.grownBy w2 (some b)) : Ch w w2 b v hm' vo n xs sg := by
  have hl := h.lt
  obtain ⟨tx0, h1⟩ := h.cb
  refine ⟨hs, gb_trans h.gb hg, ⟨tx0, (hg.block _ (Array.getElem?_eq_some_iff.1 h1).1 (fun e => by injection e with e; omega)).trans h1⟩, h.own.kept hg ?_, hl⟩
  cases hv : vo.ownBlock with
  | none => exact Or.inl rfl
  | some g => right; intro e; injection e with e; have := (h.own.lt g hv).1; omega
theorem Ch.alloc {w wr : World} {b : Nat} {v : Value} {hm : Int} {vo : Value} {n : Nat} {xs : List Value} {sg : Int} (h : Ch w wr b v hm vo n xs sg) (o : Obj) : Ch w (wr.alloc o) b v hm vo n xs sg := by
  obtain ⟨tx0, h1⟩ := h.cb
  exact ⟨(Below.heap_alloc wr o b h.sh.lt).trans h.sh, gb_alloc h.gb o, ⟨tx0, (Below.heap_alloc wr o _ (Array.getElem?_eq_some_iff.1 h1).1).trans h1⟩, h.own.alloc o, h.lt⟩
theorem Ch.app {w wr w3 : World} {b : Nat} {v : Value} {hm : Int} {vo : Value} {n : Nat} {xs : List Value} {sg : Int} (h : Ch w wr b v hm vo n xs sg) {vo' : Value} {n' : Nat} {xs' : List Value} (hg : wr.grownBy w3 vo.ownBlock) (ho : w3.ownsRow (w.heap.size + 1) 206 2 vo' n' xs') : Ch w w3 b v hm vo' n' xs' sg := by
  have hl := h.lt
  have hne : ∀ k, k ≤ w.heap.size → some k ≠ vo.ownBlock := by
    intro k hk e
    have := (h.own.lt k e.symm).1
    omega
  obtain ⟨tx0, h1⟩ := h.cb
  refine ⟨(hg.block b h.sh.lt (hne b (by omega))).trans h.sh, ?_, ⟨tx0, (hg.block _ (Array.getElem?_eq_some_iff.1 h1).1 (hne _ (Nat.le_refl _))).trans h1⟩, ho, hl⟩
  exact ⟨hg.os.trans h.gb.os, hg.tape.trans h.gb.tape, hg.output.trans h.gb.output, Nat.le_trans h.gb.size hg.size,
    fun k hk hn => (hg.block k (Nat.lt_of_lt_of_le hk h.gb.size) (hne k (by omega))).trans (h.gb.block k hk hn)⟩

structure ChRel (w : World) (b : Nat) (v : Value) (s : ByteArray) (fr to : Nat) (nr : Nat) (M : Int) (vo : Value) (p i : Nat) (wr : World) (hm : Int) (segs : List (Nat × Nat)) (xs : List Value) (sg : Int) : Prop where
  ch : Ch w wr b v hm vo segs.length xs sg
  noted : Noted hm p
  txs : Txs s xs segs
  sgs : Sgs s xs segs
  sgn : i ≤ to → sg = sgAt s segs.length p
  lo : fr ≤ i
  hi : i ≤ to + 1
  few : segs.length ≤ i - fr
  pi : p ≤ i
  pf : fr ≤ p
  go : i ≤ to → Segs s fr p segs ∧ (∀ k, p ≤ k → k < i → isS (bt s k) = false) ∧ ∃ md, inSel md ∧ Acc s md ⟨nr, segs.length + 1, noteIf (decide (segs.length = 4)) hm p⟩ i M
  done : i = to + 1 → SegsAt s fr to segs ∧ Noted hm to ∧ ∃ nc, Acc s 3 ⟨nr, nc, hm⟩ to M

def ChPost (w : World) (b : Nat) (v : Value) (s : ByteArray) (fr to : Nat) (nr : Nat) (M : Int) (e : Ending) (w' : World) : Prop :=
  ∃ (a : Option Addr) (c : Nat) (segs : List (Nat × Nat)) (xs : List Value) (hm : Int), e = .returned (.slice a segs.length c) ∧ Sh w' b v hm ∧ w.grownBy w' (some b) ∧ w'.ownsRow w.heap.size 206 2 (.slice a segs.length c) segs.length xs ∧
    Hid ((Txs s xs segs ∧ Sgs s xs segs) ∧ SegsAt s fr to segs ∧ Noted hm to ∧ ∃ nc, Acc s 3 ⟨nr, nc, hm⟩ to M)

/-- What chain is called with. -/
structure ChPre (s : ByteArray) (fr to : Nat) (nr : Nat) (M : Int) (hm : Int) : Prop where
  le : fr ≤ to
  lt : to < s.size
  top : s.size ≤ 400
  no : ∀ k, fr ≤ k → k < to → bt s k ≠ 44 ∧ bt s k ≠ 123
  mark : bt s to = 44 ∨ bt s to = 123
  noted : Noted hm fr
  acc : Acc s 2 ⟨nr, 1, hm⟩ fr M

theorem noted_note {hm : Int} {p : Nat} (h : Noted hm p) (bl : Bool) {q : Nat} (hq : p ≤ q) : Noted (noteIf bl hm p) q := by
  unfold Noted noteIf note at *
  repeat' split
  all_goals omega

theorem one2 (a : Int) (t : ByteArray) : ∀ u ∈ [Value.int .u8 a, Value.string t], u.oneCell' = true := by
  intro u hu
  simp only [List.mem_cons, List.not_mem_nil, or_false] at hu
  rcases hu with rfl | rfl <;> rfl

/-- A byte that is no sign. -/
theorem ch_skip {s : ByteArray} {fr to nr : Nat} {M hm0 : Int} (P : ChPre s fr to nr M hm0) {md : Int} {k : Cn} {i : Nat} (hm : inSel md) (h : Acc s md k i M) (hlo : fr ≤ i) (hlt : i < to) (hs : isS (bt s i) = false) : ∃ md', inSel md' ∧ Acc s md' k (i + 1) M := by
  have hl := h.lt (by unfold inSel at hm; omega)
  obtain ⟨n1, n2⟩ := P.no i hlo hlt
  refine ⟨_, sel_stay hm n2 (h.ok hl), ?_⟩
  have := h.step hl
  rwa [sel_cnt hm hs n1] at this
/-- A sign. -/
theorem ch_sign {s : ByteArray} {M : Int} {md : Int} {nr nc : Nat} {x : Int} {i : Nat} (hm : inSel md) (h : Acc s md ⟨nr, nc, x⟩ i M) (hs : isS (bt s i) = true) : Acc s 2 ⟨nr, nc + 1, noteIf (decide (nc = 4)) x (i + 1)⟩ (i + 1) M := by
  have hl := h.lt (by unfold inSel at hm; omega)
  obtain rfl := sel_mark hm (Or.inl hs) (h.ok hl)
  unfold Acc at h ⊢
  rw [← h, sign_go ⟨hs, hl⟩]
/-- The end. -/
theorem ch_end {s : ByteArray} {M : Int} {md : Int} {k : Cn} {i : Nat} (hm : inSel md) (h : Acc s md k i M) (hs : bt s i = 44 ∨ bt s i = 123) : Acc s 3 k i M := by
  have hl := h.lt (by unfold inSel at hm; omega)
  obtain rfl := sel_mark hm (Or.inr hs) (h.ok hl)
  exact h

theorem sg_next (s : ByteArray) {i : Nat} (h : i < s.size) (segs : List (Nat × Nat)) (x : Nat × Nat) : (s[i].toNat : Int) = sgAt s (segs ++ [x]).length (i + 1) := by
  unfold sgAt
  rw [if_neg (by simp), Nat.add_sub_cancel, bt_at s i h]

set_option maxRecDepth 100000 in
set_option maxHeartbeats 4000000 in
theorem chain_any (w : World) (b : Nat) (v : Value) (hm0 : Int) (s : ByteArray) (fr to nr : Nat) (M : Int) (h : Sh w b v hm0) (hP : ChPre s fr to nr M hm0) :
    Calls Tryz.prog 132 #[.pointer (some ⟨b, 0, none⟩), .string s, .int .i64 fr, .int .i64 to] w fun e w' => ChPost w b v s fr to nr M e w' := by
  have h_lt := h.lt
  have P_le := hP.le
  have P_lt := hP.lt
  have P_top := hP.top
  have HP : Hid (ChPre s fr to nr M hm0) := hP
  clear hP
  obtain ⟨i0, hi, iz0, iz1, iz2⟩ := info_parts Tryz.info206
  go_enter Tryz.func132, Tryz.ntmps132
  go_wp2_with fail
  go_loopg [9, 11, 12] (to + 1 - fr) (fun gk vo pv iv wr => ∃ (p i : Nat) (hm : Int) (segs : List (Nat × Nat)) (xs : List Value) (sg : Int), pv = .int .i64 p ∧ iv = .int .i64 i ∧ to + 1 - i ≤ gk ∧ ChRel w b v s fr to nr M vo p i wr hm segs xs sg)
  case atStart =>
    refine ⟨fr, fr, hm0, [], [], 0, rfl, rfl, Nat.le_refl _, ⟨(Below.heap_alloc w _ b h_lt).trans h, World.grownBy_alloc _ _ _, ⟨_, heap_alloc_new w _⟩, World.ownsRow_nil _ _ _ _, h_lt⟩, HP.out.noted, rfl, fun i p q h => by simp at h, fun _ => rfl, Nat.le_refl _, by omega, by simp, Nat.le_refl _, Nat.le_refl _, fun _ => ⟨rfl, fun k h1 h2 => by omega, 2, Or.inl rfl, ?_⟩, fun e => by omega⟩
    simpa [noteIf] using HP.out.acc
  case round =>
    obtain ⟨p, i, hm, segs, xs, sg, rfl, rfl, hgk, R⟩ := hrel
    have R_lo := R.lo
    have R_hi := R.hi
    have R_pi := R.pi
    obtain ⟨a, c, hv⟩ := own_shape R.ch.own
    subst hv
    by_cases hlt : i < to
    · have hlt' : i < s.size := by omega
      have hd : decide ((i : Int) < (to : Int)) = true := by simp; omega
      have hd2 : decide ((i : Int) ≤ (to : Int)) = true := by simp; omega
      go_wp2_with fail
      have hbt := bt_at s i hlt'
      rw [← hbt]
      refine (among_any _ (bt s i) _ (by decide)).mono ?_
      rw [amg_sign4]
      rintro e w1 ⟨rfl, rfl⟩
      obtain ⟨wr, rfl⟩ : ∃ wr, wr = w1 := ⟨_, rfl⟩
      clear hbt
      cases hS : isS (bt s i)
      · have HS : Hid (isS (bt s i) = false) := hS
        have R2 : ChRel w b v s fr to nr M (.slice a segs.length c) p (i + 1) wr hm segs xs sg := by
          obtain ⟨q1, q2, md, q3, q4⟩ := R.go (by omega)
          refine ⟨R.ch, R.noted, R.txs, R.sgs, fun _ => R.sgn (by omega), by omega, by omega, by have := R.few; omega, by omega, R.pf, fun _ => ⟨q1, fun k k1 k2 => ?_, ch_skip HP.out q3 q4 R_lo hlt hS⟩, fun e => by omega⟩
          by_cases e : k = i
          · rw [e]; exact hS
          · exact q2 k k1 (by omega)
        clear hS R
        go_wp2
        go_roundg (to + 1 - (i + 1))
        case measure => omega
        case rel => exact ⟨p, i + 1, hm, segs, xs, sg, rfl, by go_num, Nat.le_refl _, R2⟩
      · have HS : Hid (isS (bt s i) = true) := hS
        clear hS
        have cblt : w.heap.size < wr.heap.size := by obtain ⟨tx, h1⟩ := R.ch.cb; exact (Array.getElem?_eq_some_iff.1 h1).1
        obtain ⟨⟨tx, cc0', cc1'⟩, cz'⟩ := R.ch.cells
        by_cases h4 : segs.length = 4
        · have g4 : ((segs.length : Int) == 4) = true := by simp [h4]
          obtain ⟨X, HX, HX2⟩ : ∃ X, Hid (noteIf (decide (segs.length = 4)) hm p = X) ∧ Hid (note hm p = X) := ⟨note hm p, by simp [Hid, noteIf, h4], rfl⟩
          clear h4
          go_wp2_with fail
          refine (noted_any _ b v hm p (by exact (R.ch.set1 _).sh) R.noted).mono ?_
          rw [HX2.out]
          rintro e w2 ⟨rfl, hsh2, hg2⟩
          have ch2 : Ch w w2 b v X (.slice a segs.length c) segs.length xs sg := (R.ch.set1 _).noted hsh2 hg2
          have cc1x : w2.cell? ⟨w.heap.size, 1, none⟩ = some (.string (s.extract p i)) := by
            have e := (World.cell?_of_block (a := ⟨w.heap.size, 1, none⟩) (hg2.block w.heap.size (by simpa [World.setCell] using cblt) (by simp; omega)))
            rw [e]
            obtain ⟨tx, h1⟩ := R.ch.cb
            exact cell_of_blk (heap_setCell_row h1 _) rfl
          have hfew := R.few
          have hsz2 := ch2.gb.size
          obtain ⟨⟨tx2, cc0, _⟩, cz⟩ := ch2.cells
          go_wp2_with (at_builtin; refine wpList_append_own _ rfl (.tmp 49) (.tmp 51) 166 rfl (w.heap.size + 1) 206 i0 (.agg #[.int .u8 0, .string ⟨#[]⟩]) 2 24 Tryz.underlying166 hi iz0 iz1 iz2 rfl (by decide) _ _ _ rfl (ch2.own.alloc _) ⟨w2.heap.size, 0, none⟩ 1 1 [.int .u8 sg, .string (s.extract p i)] rfl rfl ?c1sx ?c2sx ?c3sx ?c4sx ?c5sx ?_)
          case c1sx => exact new_cells w2 _ rfl _ _ _ rfl
          case c2sx => exact one2 _ _
          case c3sx => unfold maxLen; omega
          case c4sx => omega
          case c5sx => simp only [World.size_alloc]; have := (R.ch.own.lt); have := cblt; have hq := hsz2; omega
          · intro v' w3 hown3 hg3 _
            have own3 : w3.ownsRow (w.heap.size + 1) 206 2 v' (segs ++ [(p, i)]).length (xs ++ [.int .u8 sg, .string (s.extract p i)]) := by simpa using hown3
            have ch3 := (ch2.alloc (Obj.cells #[.int .u8 sg, .string (s.extract p i)] 206)).app hg3 own3
            obtain ⟨⟨tx3, cd0, cd1⟩, cz3⟩ := ch3.cells
            have R3 : ChRel w b v s fr to nr M v' (i + 1) (i + 1) ((w3.setCell ⟨w.heap.size, 0, none⟩ (.int .u8 (s[i].toNat : Int))).setCell ⟨w.heap.size, 1, none⟩ (.string ⟨#[]⟩)) X (segs ++ [(p, i)]) (xs ++ [.int .u8 sg, .string (s.extract p i)]) (s[i].toNat : Int) := by
              obtain ⟨q1, q2, md, q3, q4⟩ := R.go (by omega)
              have hsn := ch_sign q3 q4 HS.out
              rw [HX.out] at hsn
              exact ⟨(ch3.set0 _).set1 _, by rw [← HX.out]; exact noted_note R.noted _ (by omega), R.txs.snoc _ _ _, R.sgs.snoc R.txs (R.sgn (by omega)), fun _ => sg_next s hlt' segs (p, i), by omega, by omega, by simp; omega, Nat.le_refl _, by omega, fun _ => ⟨q1.snoc q2 R_pi HS.out, fun k k1 k2 => by omega, 2, Or.inl rfl, by simpa using hsn⟩, fun e => by omega⟩
            clear hown3 hg3 own3 ch3 ch2 R
            go_wp2
            go_roundg (to + 1 - (i + 1))
            case measure => omega
            case rel => exact ⟨i + 1, i + 1, X, _, _, _, by go_num, by go_num, Nat.le_refl _, R3⟩
        · have g4 : ((segs.length : Int) == 4) = false := by simp; omega
          obtain ⟨X, HX, hX⟩ : ∃ X, Hid (noteIf (decide (segs.length = 4)) hm p = X) ∧ hm = X := ⟨hm, by simp [Hid, noteIf, h4], rfl⟩
          clear h4
          have ch2 : Ch w (wr.setCell ⟨w.heap.size, 1, none⟩ (.string (s.extract p i))) b v X (.slice a segs.length c) segs.length xs sg := by rw [← hX]; exact R.ch.set1 _
          clear hX
          have hfew := R.few
          have hsz2 := ch2.gb.size
          go_wp2_with (at_builtin; refine wpList_append_own _ rfl (.tmp 49) (.tmp 51) 166 rfl (w.heap.size + 1) 206 i0 (.agg #[.int .u8 0, .string ⟨#[]⟩]) 2 24 Tryz.underlying166 hi iz0 iz1 iz2 rfl (by decide) _ _ _ rfl (ch2.own.alloc _) ⟨wr.heap.size, 0, none⟩ 1 1 [.int .u8 sg, .string (s.extract p i)] rfl rfl ?c1sy ?c2sy ?c3sy ?c4sy ?c5sy ?_)
          case c1sy => exact new_cells (wr.setCell ⟨w.heap.size, 1, none⟩ (.string (s.extract p i))) _ (by simp [World.setCell]) _ _ _ rfl
          case c2sy => exact one2 _ _
          case c3sy => unfold maxLen; omega
          case c4sy => omega
          case c5sy => simp only [World.size_alloc]; have := (R.ch.own.lt); have := cblt; have hq := hsz2; omega
          · intro v' w3 hown3 hg3 _
            have own3 : w3.ownsRow (w.heap.size + 1) 206 2 v' (segs ++ [(p, i)]).length (xs ++ [.int .u8 sg, .string (s.extract p i)]) := by simpa using hown3
            have ch3 := (ch2.alloc (Obj.cells #[.int .u8 sg, .string (s.extract p i)] 206)).app hg3 own3
            obtain ⟨⟨tx3, cd0, cd1⟩, cz3⟩ := ch3.cells
            have R3 : ChRel w b v s fr to nr M v' (i + 1) (i + 1) ((w3.setCell ⟨w.heap.size, 0, none⟩ (.int .u8 (s[i].toNat : Int))).setCell ⟨w.heap.size, 1, none⟩ (.string ⟨#[]⟩)) X (segs ++ [(p, i)]) (xs ++ [.int .u8 sg, .string (s.extract p i)]) (s[i].toNat : Int) := by
              obtain ⟨q1, q2, md, q3, q4⟩ := R.go (by omega)
              have hsn := ch_sign q3 q4 HS.out
              rw [HX.out] at hsn
              exact ⟨(ch3.set0 _).set1 _, by rw [← HX.out]; exact noted_note R.noted _ (by omega), R.txs.snoc _ _ _, R.sgs.snoc R.txs (R.sgn (by omega)), fun _ => sg_next s hlt' segs (p, i), by omega, by omega, by simp; omega, Nat.le_refl _, by omega, fun _ => ⟨q1.snoc q2 R_pi HS.out, fun k k1 k2 => by omega, 2, Or.inl rfl, by simpa using hsn⟩, fun e => by omega⟩
            clear hown3 hg3 own3 ch3 ch2 R
            go_wp2
            go_roundg (to + 1 - (i + 1))
            case measure => omega
            case rel => exact ⟨i + 1, i + 1, X, _, _, _, by go_num, by go_num, Nat.le_refl _, R3⟩
    · by_cases hle : i ≤ to
      · obtain rfl : i = to := by omega
        have hlt' : i < s.size := by omega
        have hd : decide ((i : Int) < (i : Int)) = false := by simp
        have cblt : w.heap.size < wr.heap.size := by obtain ⟨tx, h1⟩ := R.ch.cb; exact (Array.getElem?_eq_some_iff.1 h1).1
        obtain ⟨⟨tx, cc0', cc1'⟩, cz'⟩ := R.ch.cells
        by_cases h4 : segs.length = 4
        · have g4 : ((segs.length : Int) == 4) = true := by simp [h4]
          obtain ⟨X, HX, HX2⟩ : ∃ X, Hid (noteIf (decide (segs.length = 4)) hm p = X) ∧ Hid (note hm p = X) := ⟨note hm p, by simp [Hid, noteIf, h4], rfl⟩
          clear h4
          go_wp2_with fail
          refine (noted_any _ b v hm p (by exact (R.ch.set1 _).sh) R.noted).mono ?_
          rw [HX2.out]
          rintro e w2 ⟨rfl, hsh2, hg2⟩
          have ch2 : Ch w w2 b v X (.slice a segs.length c) segs.length xs sg := (R.ch.set1 _).noted hsh2 hg2
          have cc1x : w2.cell? ⟨w.heap.size, 1, none⟩ = some (.string (s.extract p i)) := by
            have e := (World.cell?_of_block (a := ⟨w.heap.size, 1, none⟩) (hg2.block w.heap.size (by simpa [World.setCell] using cblt) (by simp; omega)))
            rw [e]
            obtain ⟨tx, h1⟩ := R.ch.cb
            exact cell_of_blk (heap_setCell_row h1 _) rfl
          have hfew := R.few
          have hsz2 := ch2.gb.size
          obtain ⟨⟨tx2, cc0, _⟩, cz⟩ := ch2.cells
          go_wp2_with (at_builtin; refine wpList_append_own _ rfl (.tmp 49) (.tmp 51) 166 rfl (w.heap.size + 1) 206 i0 (.agg #[.int .u8 0, .string ⟨#[]⟩]) 2 24 Tryz.underlying166 hi iz0 iz1 iz2 rfl (by decide) _ _ _ rfl (ch2.own.alloc _) ⟨w2.heap.size, 0, none⟩ 1 1 [.int .u8 sg, .string (s.extract p i)] rfl rfl ?c1ex ?c2ex ?c3ex ?c4ex ?c5ex ?_)
          case c1ex => exact new_cells w2 _ rfl _ _ _ rfl
          case c2ex => exact one2 _ _
          case c3ex => unfold maxLen; omega
          case c4ex => omega
          case c5ex => simp only [World.size_alloc]; have := (R.ch.own.lt); have := cblt; have hq := hsz2; omega
          · intro v' w3 hown3 hg3 _
            have own3 : w3.ownsRow (w.heap.size + 1) 206 2 v' (segs ++ [(p, i)]).length (xs ++ [.int .u8 sg, .string (s.extract p i)]) := by simpa using hown3
            have ch3 := (ch2.alloc (Obj.cells #[.int .u8 sg, .string (s.extract p i)] 206)).app hg3 own3
            obtain ⟨⟨tx3, cd0, cd1⟩, cz3⟩ := ch3.cells
            have R3 : ChRel w b v s fr i nr M v' (i + 1) (i + 1) w3 X (segs ++ [(p, i)]) (xs ++ [.int .u8 sg, .string (s.extract p i)]) sg := by
              obtain ⟨q1, q2, md, q3, q4⟩ := R.go (by omega)
              have hen := ch_end q3 q4 HP.out.mark
              rw [HX.out] at hen
              have hnn := noted_note R.noted (decide (segs.length = 4)) R_pi
              rw [HX.out] at hnn
              exact ⟨ch3, by unfold Noted at hnn ⊢; omega, R.txs.snoc _ _ _, R.sgs.snoc R.txs (R.sgn (by omega)), fun e => by omega, by omega, by omega, by simp; omega, Nat.le_refl _, by omega, fun e => by omega, fun _ => ⟨⟨segs, p, rfl, q1, R_pi, q2⟩, hnn, _, hen⟩⟩
            clear hown3 hg3 own3 ch3 ch2 R
            go_wp2
            go_roundg 0
            case measure => omega
            case rel => exact ⟨i + 1, i + 1, X, _, _, _, by go_num, by go_num, by omega, R3⟩
        · have g4 : ((segs.length : Int) == 4) = false := by simp; omega
          obtain ⟨X, HX, hX⟩ : ∃ X, Hid (noteIf (decide (segs.length = 4)) hm p = X) ∧ hm = X := ⟨hm, by simp [Hid, noteIf, h4], rfl⟩
          clear h4
          have ch2 : Ch w (wr.setCell ⟨w.heap.size, 1, none⟩ (.string (s.extract p i))) b v X (.slice a segs.length c) segs.length xs sg := by rw [← hX]; exact R.ch.set1 _
          clear hX
          have hfew := R.few
          have hsz2 := ch2.gb.size
          go_wp2_with (at_builtin; refine wpList_append_own _ rfl (.tmp 49) (.tmp 51) 166 rfl (w.heap.size + 1) 206 i0 (.agg #[.int .u8 0, .string ⟨#[]⟩]) 2 24 Tryz.underlying166 hi iz0 iz1 iz2 rfl (by decide) _ _ _ rfl (ch2.own.alloc _) ⟨wr.heap.size, 0, none⟩ 1 1 [.int .u8 sg, .string (s.extract p i)] rfl rfl ?c1ey ?c2ey ?c3ey ?c4ey ?c5ey ?_)
          case c1ey => exact new_cells (wr.setCell ⟨w.heap.size, 1, none⟩ (.string (s.extract p i))) _ (by simp [World.setCell]) _ _ _ rfl
          case c2ey => exact one2 _ _
          case c3ey => unfold maxLen; omega
          case c4ey => omega
          case c5ey => simp only [World.size_alloc]; have := (R.ch.own.lt); have := cblt; have hq := hsz2; omega
          · intro v' w3 hown3 hg3 _
            have own3 : w3.ownsRow (w.heap.size + 1) 206 2 v' (segs ++ [(p, i)]).length (xs ++ [.int .u8 sg, .string (s.extract p i)]) := by simpa using hown3
            have ch3 := (ch2.alloc (Obj.cells #[.int .u8 sg, .string (s.extract p i)] 206)).app hg3 own3
            obtain ⟨⟨tx3, cd0, cd1⟩, cz3⟩ := ch3.cells
            have R3 : ChRel w b v s fr i nr M v' (i + 1) (i + 1) w3 X (segs ++ [(p, i)]) (xs ++ [.int .u8 sg, .string (s.extract p i)]) sg := by
              obtain ⟨q1, q2, md, q3, q4⟩ := R.go (by omega)
              have hen := ch_end q3 q4 HP.out.mark
              rw [HX.out] at hen
              have hnn := noted_note R.noted (decide (segs.length = 4)) R_pi
              rw [HX.out] at hnn
              exact ⟨ch3, by unfold Noted at hnn ⊢; omega, R.txs.snoc _ _ _, R.sgs.snoc R.txs (R.sgn (by omega)), fun e => by omega, by omega, by omega, by simp; omega, Nat.le_refl _, by omega, fun e => by omega, fun _ => ⟨⟨segs, p, rfl, q1, R_pi, q2⟩, hnn, _, hen⟩⟩
            clear hown3 hg3 own3 ch3 ch2 R
            go_wp2
            go_roundg 0
            case measure => omega
            case rel => exact ⟨i + 1, i + 1, X, _, _, _, by go_num, by go_num, by omega, R3⟩
      · obtain rfl : i = to + 1 := by omega
        have R2 := R
        clear R
        have hd : decide (((to + 1 : Nat) : Int) ≤ (to : Int)) = false := by simp; omega
        go_wp2
        go_ret
        obtain ⟨q1, q2, q3⟩ := R2.done rfl
        exact ⟨a, c, segs, xs, hm, rfl, R2.ch.sh, R2.ch.gb, own_mono R2.ch.own (by omega), ⟨R2.txs, R2.sgs⟩, q1, q2, q3⟩

end Go.Proofs.YtblfffbmklkhmaaGreat
