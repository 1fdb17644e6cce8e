/- Own work. -/
import Derived.Test.YtblfffbmklkhmaaGreatAw25
import Derived.Test.YtblfffbmklkhmaaGreatAw18
import Derived.ProofKit
import Derived.Deep.Slices
import Derived.OpenShut
namespace Go.Proofs.YtblfffbmklkhmaaGreat
open Go.RowKit
def rootS (b : Nat) : PNd := ⟨0, -1, letB b, ⟨#[]⟩, false, false, false, false, []⟩
abbrev rootN (n0 b : Nat) : GN := ⟨n0, 0, -1, letB b, ⟨#[]⟩, false, false, false, false, [], .slice none 0 0⟩
theorem root_pw {T : Tree} (h : TW T 1) (hT : T = [(0, [])]) (b : Nat) : PW [rootS b] 1 := by
  subst hT
  refine ⟨h, fun x hx => ?_, by simp⟩
  rw [List.mem_singleton] at hx
  subst hx
  exact h.root_par.symm
theorem root_marks (b : Nat) : ∀ k l, (k, l) ∈ treeS [rootS b] → newMk (letB b) = mOf b [rootS b] k := by
  intro k l h
  have h' : (k, l) = (0, []) := by simpa [treeS, rootS] using h
  injection h' with h1 _
  subst h1
  show newMk (letB b) = mkS b (rootS b)
  unfold newMk mkS rootS clS
  simp
  intro h9
  exact absurd rfl h9
theorem gd_root {DS : World → Value → Tree → Nat → (Nat → Mk) → List PRu → (Nat → Prop) → Prop} (hP : DocOK DS) {W : World} {px : Value} {b : Nat} {rs : List PRu} {F : Nat → Prop} (hds : DS W px [(0, [])] 1 (fun _ => newMk (letB b)) rs F) :
    GD DS (((W.alloc (rootN W.heap.size b).blk).alloc (.cells #[.pointer (some ⟨W.heap.size, 0, none⟩)] 43)).alloc (.cells #[px, .slice (some ⟨W.heap.size + 1, 0, none⟩) 1 1, .int .i64 1, .int .i64 b] 36)) (W.heap.size + 2) px (.slice (some ⟨W.heap.size + 1, 0, none⟩) 1 1) 1 b [rootN W.heap.size b] rs (fun k => W.heap.size ≤ k ∧ k < W.heap.size + 3) (fun k => F k ∧ k < W.heap.size) := by
  have z1 : (W.alloc (rootN W.heap.size b).blk).heap.size = W.heap.size + 1 := by simp
  have z2 : ((W.alloc (rootN W.heap.size b).blk).alloc (.cells #[.pointer (some ⟨W.heap.size, 0, none⟩)] 43)).heap.size = W.heap.size + 2 := by simp
  have z3 : (((W.alloc (rootN W.heap.size b).blk).alloc (.cells #[.pointer (some ⟨W.heap.size, 0, none⟩)] 43)).alloc (.cells #[px, .slice (some ⟨W.heap.size + 1, 0, none⟩) 1 1, .int .i64 1, .int .i64 b] 36)).heap.size = W.heap.size + 3 := by simp
  have hn : (((W.alloc (rootN W.heap.size b).blk).alloc (.cells #[.pointer (some ⟨W.heap.size, 0, none⟩)] 43)).alloc (.cells #[px, .slice (some ⟨W.heap.size + 1, 0, none⟩) 1 1, .int .i64 1, .int .i64 b] 36)).heap[W.heap.size]? = some (rootN W.heap.size b).blk :=
    (Below.heap_alloc _ _ W.heap.size (by omega)).trans ((Below.heap_alloc _ _ W.heap.size (by omega)).trans (heap_alloc_new W _))
  have hr : (((W.alloc (rootN W.heap.size b).blk).alloc (.cells #[.pointer (some ⟨W.heap.size, 0, none⟩)] 43)).alloc (.cells #[px, .slice (some ⟨W.heap.size + 1, 0, none⟩) 1 1, .int .i64 1, .int .i64 b] 36)).heap[W.heap.size + 1]? = some (.cells #[.pointer (some ⟨W.heap.size, 0, none⟩)] 43) := by
    refine (Below.heap_alloc _ _ (W.heap.size + 1) (by omega)).trans ?_
    have := heap_alloc_new (W.alloc (rootN W.heap.size b).blk) (.cells #[.pointer (some ⟨W.heap.size, 0, none⟩)] 43)
    rwa [z1] at this
  have hg : (((W.alloc (rootN W.heap.size b).blk).alloc (.cells #[.pointer (some ⟨W.heap.size, 0, none⟩)] 43)).alloc (.cells #[px, .slice (some ⟨W.heap.size + 1, 0, none⟩) 1 1, .int .i64 1, .int .i64 b] 36)).heap[W.heap.size + 2]? = some (.cells #[px, .slice (some ⟨W.heap.size + 1, 0, none⟩) 1 1, .int .i64 1, .int .i64 b] 36) := by
    have := heap_alloc_new ((W.alloc (rootN W.heap.size b).blk).alloc (.cells #[.pointer (some ⟨W.heap.size, 0, none⟩)] 43)) (.cells #[px, .slice (some ⟨W.heap.size + 1, 0, none⟩) 1 1, .int .i64 1, .int .i64 b] 36)
    rwa [z2] at this
  have hold : ∀ k, k < W.heap.size → (((W.alloc (rootN W.heap.size b).blk).alloc (.cells #[.pointer (some ⟨W.heap.size, 0, none⟩)] 43)).alloc (.cells #[px, .slice (some ⟨W.heap.size + 1, 0, none⟩) 1 1, .int .i64 1, .int .i64 b] 36)).heap[k]? = W.heap[k]? := fun k hk =>
    (Below.heap_alloc _ _ k (by omega)).trans ((Below.heap_alloc _ _ k (by omega)).trans (Below.heap_alloc W _ k hk))
  have hm := hP.mark (M' := mOf b [rootS b]) hds (root_marks b)
  refine ⟨⟨hg, own_one hr, fun n hn' => ?_, fun n hn' => ?_⟩, root_pw (hP.tw hds) rfl b, hP.keep (hP.here hm) (fun k hk _ => hold k hk.2) (by omega), ⟨by omega, by omega⟩, fun n hn' => ?_, fun j hj => ?_, fun n hn' j hj => ?_, fun k hk hx => ?_, fun k hk => ?_⟩
  · rw [List.mem_singleton] at hn'
    subst hn'
    exact hn
  · rw [List.mem_singleton] at hn'
    subst hn'
    exact World.ownsRow_nil _ _ _ _
  · rw [List.mem_singleton] at hn'
    subst hn'
    exact ⟨Nat.le_refl _, by show W.heap.size < _; omega⟩
  · have e : W.heap.size + 1 = j := by simpa [Value.ownBlock] using hj
    exact ⟨by omega, by omega⟩
  · rw [List.mem_singleton] at hn'
    subst hn'
    simp [Value.ownBlock] at hj
  · have := hk.1
    have := hx.2
    omega
  · rcases hk with hk | hk
    · have := hk.2; omega
    · have := hk.2; omega
def KPlantPost (DS : World → Value → Tree → Nat → (Nat → Mk) → List PRu → (Nat → Prop) → Prop) (w : World) (b : Nat) (rs : List PRu) (e : Ending) (w' : World) : Prop :=
  ∃ g px vl n0 Fg Fx, e = .returned (.pointer (some ⟨g, 0, none⟩)) ∧ GD DS w' g px vl 1 b [rootN n0 b] rs Fg Fx ∧ (∀ k, Fg k ∨ Fx k → w.heap.size ≤ k) ∧ Below w.heap.size w w'
section
set_option maxRecDepth 100000
set_option maxHeartbeats 1500000
variable {DS : World → Value → Tree → Nat → (Nat → Mk) → List PRu → (Nat → Prop) → Prop}
theorem kplant_any (hP : DocOK DS) (w : World) (s : ByteArray) (b : Nat) (hb : b ≤ 25) (hs : s.size ≤ maxLen) (hc : (chk s).1 = 0) :
    Calls Tryz.prog 19 #[.string s, .int .i64 b] w fun e w' => KPlantPost DS w b (sheetOf s) e w' := by
  have HP : Hid (DocOK DS) := hP
  have hne : newErr s (letB b) = 0 := by unfold newErr; rw [if_neg (by rw [hc]; simp), if_neg (by rw [isLetter_letB]; simp)]
  have HN : Hid (∀ W, Calls Tryz.prog 24 #[.string s, .string (letB b)] W fun e w' => Below W.heap.size W w' ∧ ∃ px, e = .returned (.tuple #[px, .int .i64 0]) ∧ DS w' px [(0, [])] 1 (fun _ => newMk (letB b)) (sheetOf s) (fun k => W.heap.size ≤ k)) := fun W => (hP.new W s (letB b) hs).mono (fun e w' h => by
    obtain ⟨h1, h2 | h2⟩ := h
    · exact absurd hne h2.1
    · exact ⟨h1, h2.2⟩)
  have HL : Hid (∀ W, Calls Tryz.prog 25 #[.int .i64 0, .int .i64 b] W fun e w' => e = .returned (.string (letB b)) ∧ Below W.heap.size W w') := fun W => by
    have := kletter_any (w := W) 0 b (by omega) hb
    rwa [Nat.zero_add] at this
  clear hP hne hc hs
  go_enter Tryz.func19, Tryz.ntmps19
  go_wp2_with fail
  refine (HL.out _).mono ?_
  rintro e w1 ⟨rfl, hB1⟩
  have HB1 : Hid (Below w.heap.size w w1) := hB1
  clear hB1
  go_wp2_with fail
  refine (HN.out _).mono ?_
  rintro e w2 ⟨hB2, px, rfl, hds⟩
  obtain ⟨pa, rfl⟩ := HP.out.ptr hds
  have HB2 : Hid (Below w.heap.size w w2) := HB1.out.trans (hB2.mono HB1.out.size)
  have HDS : Hid (DS w2 (.pointer (some pa)) [(0, [])] 1 (fun _ => newMk (letB b)) (sheetOf s) (fun k => w1.heap.size ≤ k)) := hds
  clear hB2 hds
  go_wp2_with fail
  refine (HL.out _).mono ?_
  rintro e w3 ⟨rfl, hB3⟩
  have HB3 : Hid (Below w.heap.size w w3) := HB2.out.trans (hB3.mono HB2.out.size)
  have HDS3 : Hid (DS w3 (.pointer (some pa)) [(0, [])] 1 (fun _ => newMk (letB b)) (sheetOf s) (fun k => w1.heap.size ≤ k)) := HP.out.keep HDS.out (fun k _ hl => hB3.block k hl) hB3.size
  clear hB3
  have HR : Hid (KPlantPost DS w b (sheetOf s) (.returned (.pointer (some ⟨w3.heap.size + 2, 0, none⟩))) (((w3.alloc (rootN w3.heap.size b).blk).alloc (.cells #[.pointer (some ⟨w3.heap.size, 0, none⟩)] 43)).alloc (.cells #[.pointer (some pa), .slice (some ⟨w3.heap.size + 1, 0, none⟩) 1 1, .int .i64 1, .int .i64 b] 36))) := by
    have hz := HB3.out.size
    have hz1 := HB1.out.size
    refine ⟨_, _, _, _, _, _, rfl, gd_root HP.out HDS3.out, fun k hk => ?_, ((HB3.out.alloc hz _).alloc (by simp; omega) _).alloc (by simp; omega) _⟩
    rcases hk with hk | hk
    · have := hk.1; omega
    · have := hk.1; omega
  go_wp2
  go_ret
  exact HR.out
end
end Go.Proofs.YtblfffbmklkhmaaGreat

namespace Go.Proofs.YtblfffbmklkhmaaGreat
open Go.RowKit
def headT : ByteArray := ⟨#[97, 123, 65, 58, 55, 59, 68, 58, 56, 125, 97, 62, 98, 123, 68, 58, 105, 59, 69, 58, 57, 33, 125, 98, 123, 69, 58, 49, 48, 125]⟩
def headM : Nat → Mk := setM (fun _ => newMk ⟨#[97]⟩) 1 (newMk ⟨#[98]⟩)
theorem head_new : newErr headT ⟨#[97]⟩ = 0 := by decide +kernel
theorem head_ins : tInsErr [(0, [])] 0 0 ⟨#[98]⟩ = 0 := by decide +kernel
theorem head_tree : tIns [(0, [])] 0 0 1 = [(0, [1]), (1, [])] := by decide +kernel
theorem head_A : qryVal [(0, [1]), (1, [])] headM (sheetOf headT) 1 ⟨#[65]⟩ = 7 := by decide +kernel
theorem head_Ae : qryErr [(0, [1]), (1, [])] 1 ⟨#[65]⟩ = 0 := by decide +kernel
theorem head_D : qryVal [(0, [1]), (1, [])] headM (sheetOf headT) 1 ⟨#[68]⟩ = 8 := by decide +kernel
theorem head_De : qryErr [(0, [1]), (1, [])] 1 ⟨#[68]⟩ = 0 := by decide +kernel
theorem head_E : qryVal [(0, [1]), (1, [])] headM (sheetOf headT) 1 ⟨#[69]⟩ = 9 := by decide +kernel
theorem head_Ee : qryErr [(0, [1]), (1, [])] 1 ⟨#[69]⟩ = 0 := by decide +kernel
theorem head_F : qryVal [(0, [1]), (1, [])] headM (sheetOf headT) 1 ⟨#[70]⟩ = 6 := by decide +kernel
theorem head_Fe : qryErr [(0, [1]), (1, [])] 1 ⟨#[70]⟩ = 0 := by decide +kernel
/-- A document above a bound, since a world. -/
def HSt (DS : World → Value → Tree → Nat → (Nat → Mk) → List PRu → (Nat → Prop) → Prop) (w : World) (px : Value) (T : Tree) (made : Nat) (M : Nat → Mk) (rs : List PRu) (W : World) : Prop :=
  Below w.heap.size w W ∧ ∃ F, DS W px T made M rs F ∧ ∀ k, F k → w.heap.size ≤ k
section
set_option maxRecDepth 100000
set_option maxHeartbeats 1500000
variable {DS : World → Value → Tree → Nat → (Nat → Mk) → List PRu → (Nat → Prop) → Prop}
theorem below_fr {w w' : World} {S : Nat → Prop} {base : Nat} (h : Fr w w' S) (hb : base ≤ w.heap.size) (hs : ∀ k, S k → base ≤ k) : Below base w w' :=
  ⟨h.os, h.tape, h.output, h.size, fun k hk => h.block k (by omega) (fun x => by have := hs k x; omega)⟩
theorem hst_more {w W W' : World} {px : Value} {T : Tree} {made : Nat} {M : Nat → Mk} {rs : List PRu} {F : Nat → Prop} (hB : Below w.heap.size w W) (hF : ∀ k, F k → w.heap.size ≤ k) (hd : DS W' px T made M rs (More F W)) (hf : Fr W W' F) : HSt DS w px T made M rs W' :=
  ⟨hB.trans (below_fr hf hB.size hF), More F W, hd, fun k hk => hk.elim (hF k) (fun h => Nat.le_trans hB.size h)⟩
theorem hst_qry (hP : DocOK DS) {w W : World} {px : Value} {T : Tree} {made : Nat} {M : Nat → Mk} {rs : List PRu} (h : HSt DS w px T made M rs W) (n : Int) (s : ByteArray) : Calls Tryz.prog 37 #[px, .int .i64 n, .string s] W fun e w' => e = .returned (.tuple #[.int .i64 (qryVal T M rs n s), .int .i64 (qryErr T n s)]) ∧ HSt DS w px T made M rs w' := by
  obtain ⟨hB, F, hd, hF⟩ := h
  exact (hP.qry W px T made M rs F n s hd).mono (fun e w' h => ⟨h.1, hst_more hB hF h.2.1 h.2.2⟩)
theorem khead_any (hP : DocOK DS) (w : World) : Calls Tryz.prog 16 #[] w fun e w' => e = .returned (.bool true) ∧ Below w.heap.size w w' := by
  have HP : Hid (DocOK DS) := hP
  have HN : Hid (Calls Tryz.prog 24 #[.string headT, .string ⟨#[97]⟩] w fun e w' => ∃ px, e = .returned (.tuple #[px, .int .i64 0]) ∧ HSt DS w px [(0, [])] 1 (fun _ => newMk ⟨#[97]⟩) (sheetOf headT) w') := (hP.new w headT ⟨#[97]⟩ (by decide)).mono (fun e w' h => by
    obtain ⟨h1, h2 | ⟨_, px, h2, h3⟩⟩ := h
    · exact absurd head_new h2.1
    · exact ⟨px, h2, h1, _, h3, fun k hk => hk⟩)
  have HI : Hid (∀ W px, HSt DS w px [(0, [])] 1 (fun _ => newMk ⟨#[97]⟩) (sheetOf headT) W → Calls Tryz.prog 36 #[px, .int .i64 0, .int .i64 0, .string ⟨#[98]⟩] W fun e w' => e = .returned (.tuple #[.int .i64 1, .int .i64 0]) ∧ HSt DS w px [(0, [1]), (1, [])] 2 headM (sheetOf headT) w') := fun W px h => by
    obtain ⟨hB, F, hd, hF⟩ := h
    refine (hP.ins W px [(0, [])] 1 _ _ F 0 0 ⟨#[98]⟩ hd (by decide)).mono (fun e w' h => ?_)
    obtain ⟨y, T', made', n, rfl, hT, hds, hf⟩ := h
    have hy : y = 0 := hT.1.trans head_ins
    subst hy
    rcases hT.2 with ⟨h1, _⟩ | ⟨_, rfl, rfl, p, k, hp, hk, _, rfl⟩
    · exact absurd rfl h1
    · have ep : p = 0 := by omega
      have ek : k = 0 := by omega
      subst ep ek
      rw [head_tree, if_pos rfl] at hds
      exact ⟨rfl, hst_more hB hF hds hf⟩
  have HQ : Hid (∀ W px s, HSt DS w px [(0, [1]), (1, [])] 2 headM (sheetOf headT) W → Calls Tryz.prog 37 #[px, .int .i64 1, .string s] W fun e w' => e = .returned (.tuple #[.int .i64 (qryVal [(0, [1]), (1, [])] headM (sheetOf headT) 1 s), .int .i64 (qryErr [(0, [1]), (1, [])] 1 s)]) ∧ HSt DS w px [(0, [1]), (1, [])] 2 headM (sheetOf headT) w') := fun W px s h => hst_qry hP h 1 s
  clear hP
  go_enter Tryz.func16, Tryz.ntmps16
  go_wp2_with fail
  refine HN.out.mono ?_
  rintro e w1 ⟨px, rfl, hs1⟩
  obtain ⟨pa, rfl⟩ := HP.out.ptr hs1.2.choose_spec.1
  have HS1 : Hid (HSt DS w (.pointer (some pa)) [(0, [])] 1 (fun _ => newMk ⟨#[97]⟩) (sheetOf headT) w1) := hs1
  clear hs1 HN
  go_wp2_with fail
  refine (HI.out w1 _ HS1.out).mono ?_
  rintro e w2 ⟨rfl, hs2⟩
  have HS2 : Hid (HSt DS w (.pointer (some pa)) [(0, [1]), (1, [])] 2 headM (sheetOf headT) w2) := hs2
  clear hs2 HS1 HI
  go_wp2_with fail
  refine (HQ.out w2 _ ⟨#[65]⟩ HS2.out).mono ?_
  rw [head_A, head_Ae]
  rintro e w3 ⟨rfl, hs3⟩
  have HS3 : Hid (HSt DS w (.pointer (some pa)) [(0, [1]), (1, [])] 2 headM (sheetOf headT) w3) := hs3
  clear hs3 HS2
  go_wp2_with fail
  refine (HQ.out w3 _ ⟨#[68]⟩ HS3.out).mono ?_
  rw [head_D, head_De]
  rintro e w4 ⟨rfl, hs4⟩
  have HS4 : Hid (HSt DS w (.pointer (some pa)) [(0, [1]), (1, [])] 2 headM (sheetOf headT) w4) := hs4
  clear hs4 HS3
  go_wp2_with fail
  refine (HQ.out w4 _ ⟨#[69]⟩ HS4.out).mono ?_
  rw [head_E, head_Ee]
  rintro e w5 ⟨rfl, hs5⟩
  have HS5 : Hid (HSt DS w (.pointer (some pa)) [(0, [1]), (1, [])] 2 headM (sheetOf headT) w5) := hs5
  clear hs5 HS4
  go_wp2_with fail
  refine (HQ.out w5 _ ⟨#[70]⟩ HS5.out).mono ?_
  rw [head_F, head_Fe]
  rintro e w6 ⟨rfl, hs6⟩
  have HS6 : Hid (HSt DS w (.pointer (some pa)) [(0, [1]), (1, [])] 2 headM (sheetOf headT) w6) := hs6
  clear hs6 HS5
  go_wp2
  go_ret
  exact ⟨rfl, HS6.out.1⟩
end
end Go.Proofs.YtblfffbmklkhmaaGreat

namespace Go.Proofs.YtblfffbmklkhmaaGreat
open Go.RowKit
deriving instance DecidableEq for PPt
deriving instance DecidableEq for PCp
deriving instance DecidableEq for PDc
deriving instance DecidableEq for PRu
def digB (k : Nat) : ByteArray := ⟨#[UInt8.ofNat (48 + k)]⟩
end Go.Proofs.YtblfffbmklkhmaaGreat

namespace Go.Proofs.YtblfffbmklkhmaaGreat
open Go.RowKit
set_option maxHeartbeats 1000000 in
theorem kdigit_any (w : World) (k : Nat) (hk : k ≤ 9) : Calls Tryz.prog 18 #[.int .i64 k] w fun e w' => e = .returned (.string (digB k)) ∧ Below w.heap.size w w' := by
  have hcv : (convert 75 9 (.slice (some ⟨w.heap.size, 0, none⟩) 1 1)).run Tryz.prog (w.alloc (.cells #[.int .u8 (48 + (k : Int))] 5)) = .ok (.string (digB k)) (w.alloc (.cells #[.int .u8 (48 + (k : Int))] 5)) :=
    run_convert_bytes_back _ 75 9 5 ⟨w.heap.size, 0, none⟩ 1 [UInt8.ofNat (48 + k)] Tryz.underlying75 Tryz.underlying5 Tryz.underlying9 (fun j hj => by
      obtain rfl : j = 0 := by simpa using hj
      rw [show (⟨w.heap.size, 0, none⟩ : Addr).add 0 = ⟨w.heap.size, 0, none⟩ from Addr.add_mid _ _ _, new_at w _ _ rfl]
      have e : (((UInt8.ofNat (48 + k)).toNat : Nat) : Int) = 48 + (k : Int) := by rw [UInt8.toNat_ofNat']; omega
      show some (Value.int .u8 (48 + (k : Int))) = some (.int .u8 (((UInt8.ofNat (48 + k)).toNat : Nat) : Int))
      rw [e])
  have HB : Hid (Below w.heap.size w (w.alloc (.cells #[.int .u8 (48 + (k : Int))] 5))) := (Below.refl _ _).alloc (Nat.le_refl _) _
  go_enter Tryz.func18, Tryz.ntmps18
  go_wp2
  go_ret
  exact ⟨rfl, HB.out⟩
end Go.Proofs.YtblfffbmklkhmaaGreat

namespace Go.Proofs.YtblfffbmklkhmaaGreat
open Go.RowKit
/-- A script, or none. -/
def Sc (w : World) (a0 : Option Addr) (len : Nat) (K X Y Z : Nat → Int) : Prop := len = 0 ∨ ∃ b0 off, a0 = some ⟨b0, off, none⟩ ∧ Stp w b0 off len K X Y Z
section
set_option maxRecDepth 100000
set_option maxHeartbeats 1500000
variable {DS : World → Value → Tree → Nat → (Nat → Mk) → List PRu → (Nat → Prop) → Prop}
end
end Go.Proofs.YtblfffbmklkhmaaGreat

namespace Go.Proofs.YtblfffbmklkhmaaGreat
open Go.ChangeShapes Go.WideShapes Go.ChangeAt Go.RowKit
theorem Tryz.own : ownKnob Tryz.prog.godebug = none := by kernel_rfl
theorem Tryz.laidOut : laidOutB Tryz.prog = true := by kernel_rfl
theorem Tryz.cells3 : Tryz.prog.cellsOf 3 = 1 := by kernel_rfl
end Go.Proofs.YtblfffbmklkhmaaGreat

namespace Go.Proofs.YtblfffbmklkhmaaGreat
open Go.ChangeShapes Go.WideShapes Go.ChangeAt Go.RowKit
theorem Tryz.cells78 : Tryz.prog.cellsOf 78 = 4 := by kernel_rfl
theorem four {α : Type} (l : List α) (h : l.length = 4) : ∃ a b c d, l = [a, b, c, d] := by
  match l, h with
  | [a, b, c, d], _ => exact ⟨a, b, c, d, rfl⟩
theorem fit_wf {n : Int} (h : (Lit.int .i64 n).wf = true) : Fit n := by
  have h2 : IntKind.i64.min ≤ n ∧ n ≤ IntKind.i64.max := by simpa [Lit.wf] using h
  exact h2
theorem open_steps {H : Type} {enc : TypeId × Value → H} {W : World} {a0 : Option Addr} {len cap fuel : Nat} {x : DataW H × List MemPlace} (h : DataW.trod enc Tryz.prog W 0 (fun _ => true) true fuel 25 [.slice a0 len cap] = some x) :
    ∃ K X Y Z, Sc W a0 len K X Y Z ∧ len ≤ maxLen := by
  rcases Go.Deep.open_slice Tryz.underlying25 h with ⟨hcs, _⟩ | ⟨a, len', cap', m, n, D, Pl, hcs, _, hl, hm, hmm, _, hx⟩
  · simp only [List.cons.injEq, Value.slice.injEq, and_true] at hcs
    exact ⟨fun _ => 0, fun _ => 0, fun _ => 0, fun _ => 0, Or.inl hcs.2.1, by rw [hcs.2.1]; exact Nat.zero_le _⟩
  · simp only [List.cons.injEq, Value.slice.injEq, and_true] at hcs
    obtain ⟨rfl, rfl, rfl⟩ := hcs
    by_cases h0 : len = 0
    · exact ⟨fun _ => 0, fun _ => 0, fun _ => 0, fun _ => 0, Or.inl h0, by rw [h0]; exact Nat.zero_le _⟩
    simp only [if_true] at hmm
    rw [Tryz.cells78] at hx
    have each : ∀ i, i < len → ∃ q : Int × Int × Int × Int,
        W.cell? (a.add (i * 4)) = some (.int .i64 q.1) ∧ W.cell? (a.add (i * 4 + 1)) = some (.int .i64 q.2.1) ∧ W.cell? (a.add (i * 4 + 2)) = some (.int .i64 q.2.2.1) ∧ W.cell? (a.add (i * 4 + 3)) = some (.int .i64 q.2.2.2) ∧ Fit q.2.1 ∧ Fit q.2.2.1 ∧ Fit q.2.2.2 := by
      intro i hi
      obtain ⟨cs', h1, h2⟩ := hx i (by omega)
      obtain ⟨_, hlen, hcell⟩ := World.cells?_some h1
      obtain ⟨xs, k, _, _, _, hxl, hf⟩ := DataW.trod_struct Tryz.underlying78 h2
      obtain ⟨v0, v1, v2, v3, rfl⟩ := four cs' hlen
      obtain ⟨y0, y1, y2, y3, rfl⟩ := four xs (by rw [hxl]; rfl)
      have g0 := hf 0 _ rfl
      have g1 := hf 1 _ rfl
      have g2 := hf 2 _ rfl
      have g3 := hf 3 _ rfl
      simp [Tryz.cells3] at g0 g1 g2 g3
      obtain ⟨n0, e0, _, _⟩ := DataW.trod_int Tryz.underlying3 g0
      obtain ⟨n1, e1, _, f1⟩ := DataW.trod_int Tryz.underlying3 g1
      obtain ⟨n2, e2, _, f2⟩ := DataW.trod_int Tryz.underlying3 g2
      obtain ⟨n3, e3, _, f3⟩ := DataW.trod_int Tryz.underlying3 g3
      simp only [List.cons.injEq, and_true] at e0 e1 e2 e3
      subst e0 e1 e2 e3
      have c0 := hcell 0 (by omega)
      have c1 := hcell 1 (by omega)
      have c2 := hcell 2 (by omega)
      have c3 := hcell 3 (by omega)
      rw [Go.Deep.add_add] at c0 c1 c2 c3
      exact ⟨(n0, n1, n2, n3), by simpa using c0, by simpa using c1, by simpa using c2, by simpa using c3, fit_wf f1, fit_wf f2, fit_wf f3⟩
    obtain ⟨q, hq⟩ := Go.Deep.choose_lt each
    obtain ⟨b, off, spot⟩ := a
    have hspot : spot = none := by simpa [Addr.add] using World.cell?_spot (hq 0 (by omega)).1
    subst hspot
    have hlt : b < W.heap.size := by simpa [Addr.add] using World.block_lt_of_cell? W _ (hq 0 (by omega)).1
    refine ⟨fun i => (q i).1, fun i => (q i).2.1, fun i => (q i).2.2.1, fun i => (q i).2.2.2, Or.inr ⟨b, off, rfl, ⟨?_, ?_, ?_, ?_, fun i hi => (hq i hi).2.2.2.2, hlt⟩⟩, by omega⟩
    all_goals intro i hi
    · have := (hq i hi).1; rw [Go.WideShapes.add_plain] at this; exact this
    · have := (hq i hi).2.1; rw [Go.WideShapes.add_plain, ← Nat.add_assoc] at this; exact this
    · have := (hq i hi).2.2.1; rw [Go.WideShapes.add_plain, ← Nat.add_assoc] at this; exact this
    · have := (hq i hi).2.2.2.1; rw [Go.WideShapes.add_plain, ← Nat.add_assoc] at this; exact this
end Go.Proofs.YtblfffbmklkhmaaGreat
