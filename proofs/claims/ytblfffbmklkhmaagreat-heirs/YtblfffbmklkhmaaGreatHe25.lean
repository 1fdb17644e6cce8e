/- Own work. -/
import Derived.Test.YtblfffbmklkhmaaGreatHe24
namespace Go.Proofs.YtblfffbmklkhmaaGreat
open Go.RowKit
def rootS (b : Nat) : PNd := ⟨0, -1, letB b, ⟨#[]⟩, false, false, false, false, []⟩
abbrev rootN (n0 b : Nat) : GN := ⟨n0, 0, -1, letB b, ⟨#[]⟩, false, false, false, false, [], .slice none 0 0⟩
theorem root_pw {T : Tree} (h : TW T 1) (hT : T = [(0, [])]) (b : Nat) : PW [rootS b] 1 := by
  subst hT
  refine ⟨h, fun x hx => ?_, by simp⟩
  rw [List.mem_singleton] at hx
  subst hx
  exact h.root_par.symm
theorem root_marks (b : Nat) : ∀ k l, (k, l) ∈ treeS [rootS b] → newMk (letB b) = mOf b [rootS b] k := by
  intro k l h
  have h' : (k, l) = (0, []) := by simpa [treeS, rootS] using h
  injection h' with h1 _
  subst h1
  show newMk (letB b) = mkS b (rootS b)
  unfold newMk mkS rootS clS
  simp
  intro h9
  exact absurd rfl h9
theorem gd_root {DS : World → Value → Tree → Nat → (Nat → Mk) → List PRu → (Nat → Prop) → Prop} (hP : DocOK DS) {W : World} {px : Value} {b : Nat} {rs : List PRu} {F : Nat → Prop} (hds : DS W px [(0, [])] 1 (fun _ => newMk (letB b)) rs F) :
    GD DS (((W.alloc (rootN W.heap.size b).blk).alloc (.cells #[.pointer (some ⟨W.heap.size, 0, none⟩)] 43)).alloc (.cells #[px, .slice (some ⟨W.heap.size + 1, 0, none⟩) 1 1, .int .i64 1, .int .i64 b] 36)) (W.heap.size + 2) px (.slice (some ⟨W.heap.size + 1, 0, none⟩) 1 1) 1 b [rootN W.heap.size b] rs (fun k => W.heap.size ≤ k ∧ k < W.heap.size + 3) (fun k => F k ∧ k < W.heap.size) := by
  have z1 : (W.alloc (rootN W.heap.size b).blk).heap.size = W.heap.size + 1 := by simp
  have z2 : ((W.alloc (rootN W.heap.size b).blk).alloc (.cells #[.pointer (some ⟨W.heap.size, 0, none⟩)] 43)).heap.size = W.heap.size + 2 := by simp
  have z3 : (((W.alloc (rootN W.heap.size b).blk).alloc (.cells #[.pointer (some ⟨W.heap.size, 0, none⟩)] 43)).alloc (.cells #[px, .slice (some ⟨W.heap.size + 1, 0, none⟩) 1 1, .int .i64 1, .int .i64 b] 36)).heap.size = W.heap.size + 3 := by simp
  have hn : (((W.alloc (rootN W.heap.size b).blk).alloc (.cells #[.pointer (some ⟨W.heap.size, 0, none⟩)] 43)).alloc (.cells #[px, .slice (some ⟨W.heap.size + 1, 0, none⟩) 1 1, .int .i64 1, .int .i64 b] 36)).heap[W.heap.size]? = some (rootN W.heap.size b).blk :=
    (Below.heap_alloc _ _ W.heap.size (by omega)).trans ((Below.heap_alloc _ _ W.heap.size (by omega)).trans (heap_alloc_new W _))
  have hr : (((W.alloc (rootN W.heap.size b).blk).alloc (.cells #[.pointer (some ⟨W.heap.size, 0, none⟩)] 43)).alloc (.cells #[px, .slice (some ⟨W.heap.size + 1, 0, none⟩) 1 1, .int .i64 1, .int .i64 b] 36)).heap[W.heap.size + 1]? = some (.cells #[.pointer (some ⟨W.heap.size, 0, none⟩)] 43) := by
    refine (Below.heap_alloc _ _ (W.heap.size + 1) (by omega)).trans ?_
    have := heap_alloc_new (W.alloc (rootN W.heap.size b).blk) (.cells #[.pointer (some ⟨W.heap.size, 0, none⟩)] 43)
    rwa [z1] at this
  have hg : (((W.alloc (rootN W.heap.size b).blk).alloc (.cells #[.pointer (some ⟨W.heap.size, 0, none⟩)] 43)).alloc (.cells #[px, .slice (some ⟨W.heap.size + 1, 0, none⟩) 1 1, .int .i64 1, .int .i64 b] 36)).heap[W.heap.size + 2]? = some (.cells #[px, .slice (some ⟨W.heap.size + 1, 0, none⟩) 1 1, .int .i64 1, .int .i64 b] 36) := by
    have := heap_alloc_new ((W.alloc (rootN W.heap.size b).blk).alloc (.cells #[.pointer (some ⟨W.heap.size, 0, none⟩)] 43)) (.cells #[px, .slice (some ⟨W.heap.size + 1, 0, none⟩) 1 1, .int .i64 1, .int .i64 b] 36)
    rwa [z2] at this
  have hold : ∀ k, k < W.heap.size → (((W.alloc (rootN W.heap.size b).blk).alloc (.cells #[.pointer (some ⟨W.heap.size, 0, none⟩)] 43)).alloc (.cells #[px, .slice (some ⟨W.heap.size + 1, 0, none⟩) 1 1, .int .i64 1, .int .i64 b] 36)).heap[k]? = W.heap[k]? := fun k hk =>
    (Below.heap_alloc _ _ k (by omega)).trans ((Below.heap_alloc _ _ k (by omega)).trans (Below.heap_alloc W _ k hk))
  have hm := hP.mark (M' := mOf b [rootS b]) hds (root_marks b)
  refine ⟨⟨hg, own_one hr, fun n hn' => ?_, fun n hn' => ?_⟩, root_pw (hP.tw hds) rfl b, hP.keep (hP.here hm) (fun k hk _ => hold k hk.2) (by omega), ⟨by omega, by omega⟩, fun n hn' => ?_, fun j hj => ?_, fun n hn' j hj => ?_, fun k hk hx => ?_, fun k hk => ?_⟩
  · rw [List.mem_singleton] at hn'
    subst hn'
    exact hn
  · rw [List.mem_singleton] at hn'
    subst hn'
    exact World.ownsRow_nil _ _ _ _
  · rw [List.mem_singleton] at hn'
    subst hn'
    exact ⟨Nat.le_refl _, by show W.heap.size < _; omega⟩
  · have e : W.heap.size + 1 = j := by simpa [Value.ownBlock] using hj
    exact ⟨by omega, by omega⟩
  · rw [List.mem_singleton] at hn'
    subst hn'
    simp [Value.ownBlock] at hj
  · have := hk.1
    have := hx.2
    omega
  · rcases hk with hk | hk
    · have := hk.2; omega
    · have := hk.2; omega
def KPlantPost (DS : World → Value → Tree → Nat → (Nat → Mk) → List PRu → (Nat → Prop) → Prop) (w : World) (b : Nat) (rs : List PRu) (e : Ending) (w' : World) : Prop :=
  ∃ g px vl n0 Fg Fx, e = .returned (.pointer (some ⟨g, 0, none⟩)) ∧ GD DS w' g px vl 1 b [rootN n0 b] rs Fg Fx ∧ (∀ k, Fg k ∨ Fx k → w.heap.size ≤ k) ∧ Below w.heap.size w w'
section
set_option maxRecDepth 100000
set_option maxHeartbeats 1500000
variable {DS : World → Value → Tree → Nat → (Nat → Mk) → List PRu → (Nat → Prop) → Prop}
theorem kplant_any (hP : DocOK DS) (w : World) (s : ByteArray) (b : Nat) (hb : b ≤ 25) (hs : s.size ≤ maxLen) (hc : (chk s).1 = 0) :
    Calls Tryz.prog 19 #[.string s, .int .i64 b] w fun e w' => KPlantPost DS w b (sheetOf s) e w' := by
  have HP : Hid (DocOK DS) := hP
  have hne : newErr s (letB b) = 0 := by unfold newErr; rw [if_neg (by rw [hc]; simp), if_neg (by rw [isLetter_letB]; simp)]
  have HN : Hid (∀ W, Calls Tryz.prog 24 #[.string s, .string (letB b)] W fun e w' => Below W.heap.size W w' ∧ ∃ px, e = .returned (.tuple #[px, .int .i64 0]) ∧ DS w' px [(0, [])] 1 (fun _ => newMk (letB b)) (sheetOf s) (fun k => W.heap.size ≤ k)) := fun W => (hP.new W s (letB b) hs).mono (fun e w' h => by
    obtain ⟨h1, h2 | h2⟩ := h
    · exact absurd hne h2.1
    · exact ⟨h1, h2.2⟩)
  have HL : Hid (∀ W, Calls Tryz.prog 25 #[.int .i64 0, .int .i64 b] W fun e w' => e = .returned (.string (letB b)) ∧ Below W.heap.size W w') := fun W => by
    have := kletter_any (w := W) 0 b (by omega) hb
    rwa [Nat.zero_add] at this
  clear hP hne hc hs
  go_enter Tryz.func19, Tryz.ntmps19
  go_wp2_with fail
  refine (HL.out _).mono ?_
  rintro e w1 ⟨rfl, hB1⟩
  have HB1 : Hid (Below w.heap.size w w1) := hB1
  clear hB1
  go_wp2_with fail
  refine (HN.out _).mono ?_
  rintro e w2 ⟨hB2, px, rfl, hds⟩
  obtain ⟨pa, rfl⟩ := HP.out.ptr hds
  have HB2 : Hid (Below w.heap.size w w2) := HB1.out.trans (hB2.mono HB1.out.size)
  have HDS : Hid (DS w2 (.pointer (some pa)) [(0, [])] 1 (fun _ => newMk (letB b)) (sheetOf s) (fun k => w1.heap.size ≤ k)) := hds
  clear hB2 hds
  go_wp2_with fail
  refine (HL.out _).mono ?_
  rintro e w3 ⟨rfl, hB3⟩
  have HB3 : Hid (Below w.heap.size w w3) := HB2.out.trans (hB3.mono HB2.out.size)
  have HDS3 : Hid (DS w3 (.pointer (some pa)) [(0, [])] 1 (fun _ => newMk (letB b)) (sheetOf s) (fun k => w1.heap.size ≤ k)) := HP.out.keep HDS.out (fun k _ hl => hB3.block k hl) hB3.size
  clear hB3
  have HR : Hid (KPlantPost DS w b (sheetOf s) (.returned (.pointer (some ⟨w3.heap.size + 2, 0, none⟩))) (((w3.alloc (rootN w3.heap.size b).blk).alloc (.cells #[.pointer (some ⟨w3.heap.size, 0, none⟩)] 43)).alloc (.cells #[.pointer (some pa), .slice (some ⟨w3.heap.size + 1, 0, none⟩) 1 1, .int .i64 1, .int .i64 b] 36))) := by
    have hz := HB3.out.size
    have hz1 := HB1.out.size
    refine ⟨_, _, _, _, _, _, rfl, gd_root HP.out HDS3.out, fun k hk => ?_, ((HB3.out.alloc hz _).alloc (by simp; omega) _).alloc (by simp; omega) _⟩
    rcases hk with hk | hk
    · have := hk.1; omega
    · have := hk.1; omega
  go_wp2
  go_ret
  exact HR.out
end
end Go.Proofs.YtblfffbmklkhmaaGreat

namespace Go.Proofs.YtblfffbmklkhmaaGreat
open Go.RowKit
def headT : ByteArray := ⟨#[97, 123, 65, 58, 55, 59, 68, 58, 56, 125, 97, 62, 98, 123, 68, 58, 105, 59, 69, 58, 57, 33, 125, 98, 123, 69, 58, 49, 48, 125]⟩
def headM : Nat → Mk := setM (fun _ => newMk ⟨#[97]⟩) 1 (newMk ⟨#[98]⟩)
theorem head_new : newErr headT ⟨#[97]⟩ = 0 := by decide +kernel
theorem head_ins : tInsErr [(0, [])] 0 0 ⟨#[98]⟩ = 0 := by decide +kernel
theorem head_tree : tIns [(0, [])] 0 0 1 = [(0, [1]), (1, [])] := by decide +kernel
theorem head_A : qryVal [(0, [1]), (1, [])] headM (sheetOf headT) 1 ⟨#[65]⟩ = 7 := by decide +kernel
theorem head_Ae : qryErr [(0, [1]), (1, [])] 1 ⟨#[65]⟩ = 0 := by decide +kernel
theorem head_D : qryVal [(0, [1]), (1, [])] headM (sheetOf headT) 1 ⟨#[68]⟩ = 8 := by decide +kernel
theorem head_De : qryErr [(0, [1]), (1, [])] 1 ⟨#[68]⟩ = 0 := by decide +kernel
theorem head_E : qryVal [(0, [1]), (1, [])] headM (sheetOf headT) 1 ⟨#[69]⟩ = 9 := by decide +kernel
theorem head_Ee : qryErr [(0, [1]), (1, [])] 1 ⟨#[69]⟩ = 0 := by decide +kernel
theorem head_F : qryVal [(0, [1]), (1, [])] headM (sheetOf headT) 1 ⟨#[70]⟩ = 6 := by decide +kernel
theorem head_Fe : qryErr [(0, [1]), (1, [])] 1 ⟨#[70]⟩ = 0 := by decide +kernel
/-- A document above a bound, since a world. -/
def HSt (DS : World → Value → Tree → Nat → (Nat → Mk) → List PRu → (Nat → Prop) → Prop) (w : World) (px : Value) (T : Tree) (made : Nat) (M : Nat → Mk) (rs : List PRu) (W : World) : Prop :=
  Below w.heap.size w W ∧ ∃ F, DS W px T made M rs F ∧ ∀ k, F k → w.heap.size ≤ k
section
set_option maxRecDepth 100000
set_option maxHeartbeats 1500000
variable {DS : World → Value → Tree → Nat → (Nat → Mk) → List PRu → (Nat → Prop) → Prop}
theorem below_fr {w w' : World} {S : Nat → Prop} {base : Nat} (h : Fr w w' S) (hb : base ≤ w.heap.size) (hs : ∀ k, S k → base ≤ k) : Below base w w' :=
  ⟨h.os, h.tape, h.output, h.size, fun k hk => h.block k (by omega) (fun x => by have := hs k x; omega)⟩
theorem hst_more {w W W' : World} {px : Value} {T : Tree} {made : Nat} {M : Nat → Mk} {rs : List PRu} {F : Nat → Prop} (hB : Below w.heap.size w W) (hF : ∀ k, F k → w.heap.size ≤ k) (hd : DS W' px T made M rs (More F W)) (hf : Fr W W' F) : HSt DS w px T made M rs W' :=
  ⟨hB.trans (below_fr hf hB.size hF), More F W, hd, fun k hk => hk.elim (hF k) (fun h => Nat.le_trans hB.size h)⟩
theorem hst_qry (hP : DocOK DS) {w W : World} {px : Value} {T : Tree} {made : Nat} {M : Nat → Mk} {rs : List PRu} (h : HSt DS w px T made M rs W) (n : Int) (s : ByteArray) : Calls Tryz.prog 37 #[px, .int .i64 n, .string s] W fun e w' => e = .returned (.tuple #[.int .i64 (qryVal T M rs n s), .int .i64 (qryErr T n s)]) ∧ HSt DS w px T made M rs w' := by
  obtain ⟨hB, F, hd, hF⟩ := h
  exact (hP.qry W px T made M rs F n s hd).mono (fun e w' h => ⟨h.1, hst_more hB hF h.2.1 h.2.2⟩)
theorem khead_any (hP : DocOK DS) (w : World) : Calls Tryz.prog 16 #[] w fun e w' => e = .returned (.bool true) ∧ Below w.heap.size w w' := by
  have HP : Hid (DocOK DS) := hP
  have HN : Hid (Calls Tryz.prog 24 #[.string headT, .string ⟨#[97]⟩] w fun e w' => ∃ px, e = .returned (.tuple #[px, .int .i64 0]) ∧ HSt DS w px [(0, [])] 1 (fun _ => newMk ⟨#[97]⟩) (sheetOf headT) w') := (hP.new w headT ⟨#[97]⟩ (by decide)).mono (fun e w' h => by
    obtain ⟨h1, h2 | ⟨_, px, h2, h3⟩⟩ := h
    · exact absurd head_new h2.1
    · exact ⟨px, h2, h1, _, h3, fun k hk => hk⟩)
  have HI : Hid (∀ W px, HSt DS w px [(0, [])] 1 (fun _ => newMk ⟨#[97]⟩) (sheetOf headT) W → Calls Tryz.prog 36 #[px, .int .i64 0, .int .i64 0, .string ⟨#[98]⟩] W fun e w' => e = .returned (.tuple #[.int .i64 1, .int .i64 0]) ∧ HSt DS w px [(0, [1]), (1, [])] 2 headM (sheetOf headT) w') := fun W px h => by
    obtain ⟨hB, F, hd, hF⟩ := h
    refine (hP.ins W px [(0, [])] 1 _ _ F 0 0 ⟨#[98]⟩ hd (by decide)).mono (fun e w' h => ?_)
    obtain ⟨y, T', made', n, rfl, hT, hds, hf⟩ := h
    have hy : y = 0 := hT.1.trans head_ins
    subst hy
    rcases hT.2 with ⟨h1, _⟩ | ⟨_, rfl, rfl, p, k, hp, hk, _, rfl⟩
    · exact absurd rfl h1
    · have ep : p = 0 := by omega
      have ek : k = 0 := by omega
      subst ep ek
      rw [head_tree, if_pos rfl] at hds
      exact ⟨rfl, hst_more hB hF hds hf⟩
  have HQ : Hid (∀ W px s, HSt DS w px [(0, [1]), (1, [])] 2 headM (sheetOf headT) W → Calls Tryz.prog 37 #[px, .int .i64 1, .string s] W fun e w' => e = .returned (.tuple #[.int .i64 (qryVal [(0, [1]), (1, [])] headM (sheetOf headT) 1 s), .int .i64 (qryErr [(0, [1]), (1, [])] 1 s)]) ∧ HSt DS w px [(0, [1]), (1, [])] 2 headM (sheetOf headT) w') := fun W px s h => hst_qry hP h 1 s
  clear hP
  go_enter Tryz.func16, Tryz.ntmps16
  go_wp2_with fail
  refine HN.out.mono ?_
  rintro e w1 ⟨px, rfl, hs1⟩
  obtain ⟨pa, rfl⟩ := HP.out.ptr hs1.2.choose_spec.1
  have HS1 : Hid (HSt DS w (.pointer (some pa)) [(0, [])] 1 (fun _ => newMk ⟨#[97]⟩) (sheetOf headT) w1) := hs1
  clear hs1 HN
  go_wp2_with fail
  refine (HI.out w1 _ HS1.out).mono ?_
  rintro e w2 ⟨rfl, hs2⟩
  have HS2 : Hid (HSt DS w (.pointer (some pa)) [(0, [1]), (1, [])] 2 headM (sheetOf headT) w2) := hs2
  clear hs2 HS1 HI
  go_wp2_with fail
  refine (HQ.out w2 _ ⟨#[65]⟩ HS2.out).mono ?_
  rw [head_A, head_Ae]
  rintro e w3 ⟨rfl, hs3⟩
  have HS3 : Hid (HSt DS w (.pointer (some pa)) [(0, [1]), (1, [])] 2 headM (sheetOf headT) w3) := hs3
  clear hs3 HS2
  go_wp2_with fail
  refine (HQ.out w3 _ ⟨#[68]⟩ HS3.out).mono ?_
  rw [head_D, head_De]
  rintro e w4 ⟨rfl, hs4⟩
  have HS4 : Hid (HSt DS w (.pointer (some pa)) [(0, [1]), (1, [])] 2 headM (sheetOf headT) w4) := hs4
  clear hs4 HS3
  go_wp2_with fail
  refine (HQ.out w4 _ ⟨#[69]⟩ HS4.out).mono ?_
  rw [head_E, head_Ee]
  rintro e w5 ⟨rfl, hs5⟩
  have HS5 : Hid (HSt DS w (.pointer (some pa)) [(0, [1]), (1, [])] 2 headM (sheetOf headT) w5) := hs5
  clear hs5 HS4
  go_wp2_with fail
  refine (HQ.out w5 _ ⟨#[70]⟩ HS5.out).mono ?_
  rw [head_F, head_Fe]
  rintro e w6 ⟨rfl, hs6⟩
  have HS6 : Hid (HSt DS w (.pointer (some pa)) [(0, [1]), (1, [])] 2 headM (sheetOf headT) w6) := hs6
  clear hs6 HS5
  go_wp2
  go_ret
  exact ⟨rfl, HS6.out.1⟩
end
end Go.Proofs.YtblfffbmklkhmaaGreat

namespace Go.Proofs.YtblfffbmklkhmaaGreat
open Go.RowKit
deriving instance DecidableEq for PPt
deriving instance DecidableEq for PCp
deriving instance DecidableEq for PDc
deriving instance DecidableEq for PRu
theorem countP_less {α : Type} (p r : α → Bool) : ∀ (l : List α), (∀ x ∈ l, p x = true → r x = true) → (∃ x ∈ l, r x = true ∧ p x = false) → l.countP p < l.countP r
  | [], _, h => by obtain ⟨x, hx, _⟩ := h; cases hx
  | a :: l, hm, h => by
    rw [List.countP_cons, List.countP_cons]
    have hle : l.countP p ≤ l.countP r := List.countP_mono_left (fun x hx => hm x (List.mem_cons_of_mem _ hx))
    obtain ⟨x, hx, h1, h2⟩ := h
    rcases List.mem_cons.1 hx with rfl | hx
    · rw [h1, h2]
      simp
      omega
    · have ih := countP_less p r l (fun y hy => hm y (List.mem_cons_of_mem _ hy)) ⟨x, hx, h1, h2⟩
      have : (if p a = true then 1 else 0) ≤ (if r a = true then 1 else 0) := by
        by_cases hp : p a = true
        · rw [if_pos hp, if_pos (hm a List.mem_cons_self hp)]; exact Nat.le_refl _
        · rw [if_neg hp]; exact Nat.zero_le _
      omega
theorem above_root {T : Tree} {made : Nat} (h : TW T made) {rk : Nat → Nat} (hrk : ∀ e ∈ T, ∀ k ∈ e.2, rk e.1 < rk k) : ∀ (f k : Nat) (l : List Nat), (k, l) ∈ T → k ≠ 0 → T.countP (fun x => decide (rk x.1 < rk k)) ≤ f → ∃ L : List Nat, aboveT T f k = (L ++ [0]).map (fun x : Nat => (x : Int)) ∧ ∀ x ∈ L, x ≠ 0 ∧ ∃ l, (x, l) ∈ T
  | f, k, l, hk, h0, hc => by
    obtain ⟨q, hq, hm, hp⟩ := h.up hk h0
    have hlt := hrk q hq k hm
    have hcl : T.countP (fun x => decide (rk x.1 < rk q.1)) < T.countP (fun x => decide (rk x.1 < rk k)) := countP_less _ _ T (fun x _ hx => by
      have := of_decide_eq_true hx
      exact decide_eq_true (by omega)) ⟨q, hq, decide_eq_true hlt, decide_eq_false (by omega)⟩
    match f, hc with
    | 0, hc => exact absurd hcl (by omega)
    | f + 1, hc =>
      have e1 : aboveT T (f + 1) k = (q.1 : Int) :: aboveT T f q.1 := by
        show (if tPar T k = -1 then [] else tPar T k :: aboveT T f (tPar T k)) = _
        rw [hp, if_neg (by omega)]
      by_cases hq0 : q.1 = 0
      · refine ⟨[], ?_, by simp⟩
        rw [e1, hq0]
        have : aboveT T f ((0 : Nat) : Int) = [] := by
          cases f with
          | zero => rfl
          | succ f =>
            show (if tPar T 0 = -1 then [] else _) = _
            rw [if_pos h.root_par]
        rw [this]
        rfl
      · obtain ⟨L, hL, hm⟩ := above_root h hrk f q.1 q.2 hq hq0 (by omega)
        refine ⟨q.1 :: L, ?_, ?_⟩
        · rw [e1, hL]
          rfl
        · intro x hx
          rcases List.mem_cons.1 hx with rfl | hx
          · exact ⟨hq0, q.2, hq⟩
          · exact hm x hx
theorem above_end {T : Tree} {made : Nat} (h : TW T made) {k : Nat} {l : List Nat} (hk : (k, l) ∈ T) (h0 : k ≠ 0) : ∃ L : List Nat, aboveT T T.length k = (L ++ [0]).map (fun x : Nat => (x : Int)) ∧ ∀ x ∈ L, x ≠ 0 ∧ ∃ l, (x, l) ∈ T := by
  obtain ⟨rk, hrk⟩ := h.rank
  exact above_root h hrk T.length k l hk h0 List.countP_le_length
theorem above_top {T : Tree} {made : Nat} (h : TW T made) : aboveT T T.length ((0 : Nat) : Int) = [] := by
  cases T.length with
  | zero => rfl
  | succ f =>
    show (if tPar T 0 = -1 then [] else _) = _
    rw [if_pos h.root_par]
def digB (k : Nat) : ByteArray := ⟨#[UInt8.ofNat (48 + k)]⟩
def heirsD (k : Nat) : ByteArray := digB (1 + k / 10) ++ digB (k % 10)
def heirsT (k : Nat) : ByteArray := ((((((((⟨#[35, 122, 123, 65, 58]⟩ : ByteArray) ++ heirsD k) ++ ⟨#[59, 66, 58, 50]⟩) ++ heirsD k) ++ ⟨#[59, 88, 58, 51]⟩) ++ heirsD k) ++ ⟨#[59, 89, 58, 36, 88, 59, 68, 58, 52]⟩) ++ heirsD k) ++ ⟨#[59, 69, 58, 36, 88, 59, 67, 58, 36, 89, 125]⟩
def heirsC : PCp := ⟨0, 0, [⟨false, 3, 122, 0, 0⟩]⟩
def heirsU (k : Nat) : PRu := ⟨10, [[heirsC]], [⟨65, 1, 10 + (k : Int), 0, false⟩, ⟨66, 1, 210 + (k : Int), 0, false⟩, ⟨88, 1, 310 + (k : Int), 0, false⟩, ⟨89, 5, 0, 88, false⟩, ⟨68, 1, 410 + (k : Int), 0, false⟩, ⟨69, 5, 0, 88, false⟩, ⟨67, 5, 0, 89, false⟩]⟩
theorem heirs_chk : ∀ k, k < 90 → (chk (heirsT k)).1 = 0 := by decide +kernel
theorem heirs_rules : ∀ k, k < 90 → sheetOf (heirsT k) = [heirsU k] := by decide +kernel
def heirsF (k : Nat) (m : Bool) (comes : List Int) : List Int := (List.range 9).map fun p => valueF (if m then afterP (List.replicate 9 Clm.none) (heirsU k) (max 0 ((cws [heirsC] : Nat) : Int)) else List.replicate 9 Clm.none) comes 9 p
theorem heirs_of (v : Vw) (k : Nat) (e : Int) (comes : List Int) : ofV v [heirsU k] e comes = heirsF k (v.nm e 122) comes := by
  have hm : matchV v [heirsC] e = v.nm e 122 := by
    show ((heirsC.ty == 0 || v.ty e heirsC.ty) && heirsC.ps.all fun p => simpV v p e != p.nt) = _
    simp [heirsC, simpV]
  have hw : winnersV v [heirsU k] e = if v.nm e 122 then afterP (List.replicate 9 Clm.none) (heirsU k) (max 0 ((cws [heirsC] : Nat) : Int)) else List.replicate 9 Clm.none := by
    show ruleStepV v e (List.replicate 9 Clm.none) (heirsU k) = _
    unfold ruleStepV
    have hq : weighV v e (heirsU k).ss = if v.nm e 122 then (max 0 ((cws [heirsC] : Nat) : Int), true) else (0, false) := by
      show weighStepV v e (0, false) [heirsC] = _
      unfold weighStepV
      rw [hm]
    rw [hq]
    cases v.nm e 122 <;> simp only [↓reduceIte, Bool.false_eq_true]
  unfold ofV heirsF
  rw [hw]
def rootV (k : Nat) : List Int := [10 + k, 210 + k, 310 + k, 410 + k, 310 + k, 6, 310 + k, 310 + k, 0]
def restV (k : Nat) : List Int := [10 + k, 210 + k, 310 + k, 4, 5, 6, 310 + k, 310 + k, 0]
theorem heirs_root : ∀ k, k < 90 → heirsF k true initP = rootV k := by decide +kernel
theorem heirs_next : ∀ k, k < 90 → heirsF k false (rootV k) = restV k := by decide +kernel
theorem heirs_more : ∀ k, k < 90 → heirsF k false (restV k) = restV k := by decide +kernel
theorem heirs_val {T : Tree} {made : Nat} {M : Nat → Mk} (h : TW T made) (h0 : (M 0).nm = 122) (hn : ∀ k l, (k, l) ∈ T → k ≠ 0 → (M k).nm ≠ 122) {j : Nat} (hj : j < 90) {k : Nat} {l : List Nat} (hk : (k, l) ∈ T) :
    styleV (viewT T M) [heirsU j] k = if k = 0 then rootV j else restV j := by
  have nm0 : (viewT T M).nm ((0 : Nat) : Int) 122 = true := by
    obtain ⟨l0, hl0⟩ := h.root
    show ((tFind T ((0 : Nat) : Int)).isSome && (M ((0 : Nat) : Int).toNat).nm == (122 : Int)) = true
    rw [tFind_mem h.nums hl0]
    simp [h0]
  have nmk : ∀ (x : Nat), x ≠ 0 → (∃ l, (x, l) ∈ T) → (viewT T M).nm (x : Int) 122 = false := fun x hx hl => by
    obtain ⟨l, hl⟩ := hl
    show ((tFind T (x : Int)).isSome && (M (x : Int).toNat).nm == (122 : Int)) = false
    have := hn x l hl hx
    simp
    intro _
    exact this
  have hroot : ofV (viewT T M) [heirsU j] ((0 : Nat) : Int) initP = rootV j := by rw [heirs_of, nm0]; exact heirs_root j hj
  unfold styleV
  by_cases hk0 : k = 0
  · subst hk0
    rw [if_pos rfl, show (viewT T M).ab ((0 : Nat) : Int) = [] from above_top h]
    exact hroot
  · rw [if_neg hk0]
    obtain ⟨L, hL, hm⟩ := above_end h hk hk0
    have eab : (viewT T M).ab (k : Int) = (L ++ [0]).map (fun x : Nat => (x : Int)) := hL
    rw [eab]
    have key : ∀ L : List Nat, (∀ x ∈ L, x ≠ 0 ∧ ∃ l, (x, l) ∈ T) → ((L ++ [0]).map (fun x : Nat => (x : Int))).foldr (fun x comes => ofV (viewT T M) [heirsU j] x comes) initP = rootV j ∨ ((L ++ [0]).map (fun x : Nat => (x : Int))).foldr (fun x comes => ofV (viewT T M) [heirsU j] x comes) initP = restV j := by
      intro L
      induction L with
      | nil => intro _; exact Or.inl hroot
      | cons a L ih =>
        intro hm
        right
        show ofV (viewT T M) [heirsU j] (a : Int) (((L ++ [0]).map (fun x : Nat => (x : Int))).foldr (fun x comes => ofV (viewT T M) [heirsU j] x comes) initP) = _
        have ha := hm a List.mem_cons_self
        rw [heirs_of, nmk a ha.1 ha.2]
        rcases ih (fun x hx => hm x (List.mem_cons_of_mem _ hx)) with e | e
        · rw [e]; exact heirs_next j hj
        · rw [e]; exact heirs_more j hj
    rw [heirs_of, nmk k hk0 ⟨l, hk⟩]
    rcases key L hm with e | e
    · rw [e]; exact heirs_next j hj
    · rw [e]; exact heirs_more j hj
end Go.Proofs.YtblfffbmklkhmaaGreat

namespace Go.Proofs.YtblfffbmklkhmaaGreat
open Go.RowKit
def NamOK (S : List PNd) : Prop := ∀ x ∈ S, (mkS 0 x).nm ≠ 122
theorem nm_none : (if (⟨#[]⟩ : ByteArray).size = 0 then (0 : Int) else ((bt (⟨#[]⟩ : ByteArray) 0 : Nat) : Int)) ≠ 122 := by decide
theorem nam_let (k : Nat) (h : k < 4) : bt (letB (k + 0)) 0 ≠ 122 := by
  rw [bt_letB]
  omega
theorem nam_step (last : Int) (S : List PNd) (made : Nat) (kd X Y Z : Int) (h : NamOK S) : NamOK (stepS 0 last S made kd X Y Z).1 := by
  unfold stepS
  split
  · exact h
  split
  · unfold insertS
    split
    · exact h
    · intro y hy
      unfold insS at hy
      rw [List.mem_append, List.mem_singleton] at hy
      rcases hy with hy | rfl
      · obtain ⟨x, hx, rfl⟩ := mem_updS.1 hy
        have := h x hx
        split <;> exact this
      · exact nm_none
  split
  · show NamOK (removeS S X)
    unfold removeS
    split
    · exact h
    · intro y hy
      obtain ⟨x, hx, _, _, _, hm, _⟩ := mem_remS hy
      rw [hm 0]
      exact h x hx
  split
  · show NamOK (moveS S X Y Z)
    unfold moveS
    split
    · exact h
    split
    · exact h
    · intro y hy
      obtain ⟨x, hx, _, _, _, hm⟩ := mem_movS hy
      rw [hm 0]
      exact h x hx
  split
  · show NamOK (markS 0 S kd X Y)
    unfold markS
    split
    · intro y hy
      obtain ⟨x, hx, rfl⟩ := mem_updS.1 hy
      split
      · show (if (nameOf 0 Y).size = 0 then (0 : Int) else bt (nameOf 0 Y) 0) ≠ 122
        unfold nameOf
        by_cases hp : pickZ Y 5 < 4
        · rw [if_pos hp, if_neg (by rw [size_letB]; decide)]
          have := nam_let _ hp
          omega
        · rw [if_neg hp]
          exact nm_none
      · exact h x hx
    · intro y hy
      obtain ⟨x, hx, rfl⟩ := mem_updS.1 hy
      split
      · have e : (x.setC (pickZ Y 4) (kd == 4)).name = x.name := by unfold PNd.setC; (repeat' split) <;> rfl
        have := h x hx
        unfold mkS at this ⊢
        rw [e]
        exact this
      · exact h x hx
  · exact h
theorem nam_grow (last : Int) (K X Y Z : Nat → Int) (S : List PNd) (made : Nat) (h : NamOK S) : ∀ i, NamOK (growS 0 last K X Y Z S made i).1
  | 0 => h
  | i + 1 => nam_step last _ _ _ _ _ _ (nam_grow last K X Y Z S made h i)
theorem nam_root : NamOK [rootS 0] := by
  intro x hx
  rw [List.mem_singleton] at hx
  subst hx
  exact nm_none
/-- The marks once the root is named. -/
def zM (S : List PNd) : Nat → Mk := setM (mOf 0 S) 0 (namMk (mOf 0 S 0) ⟨#[122]⟩)
theorem zM_root (S : List PNd) : (zM S 0).nm = 122 := rfl
theorem zM_rest {S : List PNd} {made : Nat} (hp : PW S made) (h : NamOK S) : ∀ k l, (k, l) ∈ treeS S → k ≠ 0 → (zM S k).nm ≠ 122 := by
  intro k l hk h0
  obtain ⟨x, hx, rfl, _⟩ := of_treeS hk
  show (if x.num = 0 then _ else mOf 0 S x.num).nm ≠ 122
  rw [if_neg h0, mOf_at hp.nums hx]
  exact h x hx
set_option maxHeartbeats 1000000 in
theorem kdigit_any (w : World) (k : Nat) (hk : k ≤ 9) : Calls Tryz.prog 18 #[.int .i64 k] w fun e w' => e = .returned (.string (digB k)) ∧ Below w.heap.size w w' := by
  have hcv : (convert 75 9 (.slice (some ⟨w.heap.size, 0, none⟩) 1 1)).run Tryz.prog (w.alloc (.cells #[.int .u8 (48 + (k : Int))] 5)) = .ok (.string (digB k)) (w.alloc (.cells #[.int .u8 (48 + (k : Int))] 5)) :=
    run_convert_bytes_back _ 75 9 5 ⟨w.heap.size, 0, none⟩ 1 [UInt8.ofNat (48 + k)] Tryz.underlying75 Tryz.underlying5 Tryz.underlying9 (fun j hj => by
      obtain rfl : j = 0 := by simpa using hj
      rw [show (⟨w.heap.size, 0, none⟩ : Addr).add 0 = ⟨w.heap.size, 0, none⟩ from Addr.add_mid _ _ _, new_at w _ _ rfl]
      have e : (((UInt8.ofNat (48 + k)).toNat : Nat) : Int) = 48 + (k : Int) := by rw [UInt8.toNat_ofNat']; omega
      show some (Value.int .u8 (48 + (k : Int))) = some (.int .u8 (((UInt8.ofNat (48 + k)).toNat : Nat) : Int))
      rw [e])
  have HB : Hid (Below w.heap.size w (w.alloc (.cells #[.int .u8 (48 + (k : Int))] 5))) := (Below.refl _ _).alloc (Nat.le_refl _) _
  go_enter Tryz.func18, Tryz.ntmps18
  go_wp2
  go_ret
  exact ⟨rfl, HB.out⟩
end Go.Proofs.YtblfffbmklkhmaaGreat
