/- Own work. -/
import Derived.Test.YtblfffbmklkhmaaGreatFi22
import Derived.Laws.Rows
import Derived.Test.YtblfffbmklkhmaaGreatFi17
import Derived.ProofKit
import Derived.Deep.Slices
import Derived.OpenShut
namespace Go.Proofs.YtblfffbmklkhmaaGreat
open Go.RowKit
/-- The p-th property's letter. -/
def prB (p : Nat) : ByteArray := (⟨#[65, 66, 67, 68, 69, 70, 88, 89, 90]⟩ : ByteArray).extract p (p + 1)
theorem prB_prop : ∀ p, p < 9 → propP (prB p) = some p := by decide
theorem qryErr_in {S : List PNd} {made : Nat} (h : PW S made) {x : PNd} (hx : x ∈ S) {p : Nat} (hp : p < 9) : qryErr (treeS S) x.num (prB p) = 0 := by
  unfold qryErr
  rw [treeS_find h hx, prB_prop p hp]
section
set_option maxRecDepth 100000
set_option maxHeartbeats 1500000
variable {DS : World → Value → Tree → Nat → (Nat → Mk) → List PRu → (Nat → Prop) → Prop}
theorem klook_any (hP : DocOK DS) (w : World) (g : Nat) (px vl : Value) (made b : Nat) (ns : List GN) (rs : List PRu) (Fg Fx : Nat → Prop) (h : GD DS w g px vl made b ns rs Fg Fx) (kd X Y Z : Int) (hX : Fit X) (hY : Fit Y) (hk : kd ≤ 7) :
    Calls Tryz.prog 71 #[.pointer (some ⟨g, 0, none⟩), .agg #[.int .i64 kd, .int .i64 X, .int .i64 Y, .int .i64 Z]] w fun e w' => KStepPost DS w (fun k => Fg k ∨ Fx k) g px b (ns.map GN.pl) made rs e w' := by
  obtain ⟨pa, rfl⟩ := hP.ptr h.ds
  obtain ⟨a, c, hv⟩ := own_shape h.gr.row
  subst hv
  have HP : Hid (DocOK DS) := hP
  have hlen := h.len
  obtain ⟨h0, hl⟩ := hlen
  obtain ⟨n, hn, hpk, r, hr, hrl, hrc⟩ := pick_node h.gr h0 X
  subst hr
  have HD : Hid (GD DS w g (.pointer (some pa)) (.slice (some ⟨r, 0, none⟩) ns.length c) made b ns rs Fg Fx ∧ n ∈ ns) := ⟨h, hn⟩
  have HB0 : Hid (∀ k, Below w.heap.size w ((w.alloc (stepO kd X Y Z)).drewN k)) := fun k => below_draws ((Below.refl _ _).alloc (Nat.le_refl _) _) k
  have hgl := h.gr.lt
  have q1 := h.gr.c1
  obtain ⟨n0, _, _, _, _, hnb⟩ := node_cells (h.gr.nd n hn)
  have hpl : ((pickZ X ns.length : Nat) : Int) < (ns.length : Int) := by have := pickZ_lt X h0; omega
  have HPC : Hid (∀ k, Calls Tryz.prog 17 #[.int .i64 X, .int .i64 (ns.length : Int)] ((w.alloc (stepO kd X Y Z)).drewN k) fun e w' => e = .returned (.int .i64 ((pickZ X ns.length : Nat) : Int)) ∧ w' = (w.alloc (stepO kd X Y Z)).drewN k) := fun k => kpick_any _ X ns.length hX h0 (by omega)
  clear h hn hpk hP
  generalize pickZ X ns.length = xi at hrc hpl HPC
  go_enter Tryz.func71, Tryz.ntmps71
  go_upto_region 1 with fail
  go_quiet ((go_at_call 17; exact Calls.quiet_of_same (HPC.out _)))
  go_upto_region 2 with fail
  have HB4 : Hid (Below w.heap.size w ((w.alloc (stepO kd X Y Z)).drewN nq)) := HB0.out nq
  have HSB : Hid (((w.alloc (stepO kd X Y Z)).drewN nq).heap[w.heap.size]? = some (stepO kd X Y Z)) := heap_alloc_new w _
  clear q1 hrc HB0 HPC n0 hgl hrl hnb
  generalize (w.alloc (stepO kd X Y Z)).drewN nq = W3 at HB4 HSB ⊢
  have s2 : W3.cell? ⟨w.heap.size, 2, none⟩ = some (.int .i64 Y) := cell_of_blk HSB.out rfl
  have s0 : W3.cell? ⟨w.heap.size, 0, none⟩ = some (.int .i64 kd) := cell_of_blk HSB.out rfl
  have hszl : w.heap.size < W3.heap.size := (Array.getElem?_eq_some_iff.1 HSB.out).1
  have HPD : Hid (Calls Tryz.prog 17 #[.int .i64 Y, .int .i64 9] W3 fun e w' => e = .returned (.int .i64 ((pickZ Y 9 : Nat) : Int)) ∧ w' = W3) := kpick_any _ Y 9 hY (by decide) (by decide)
  have hp9 : pickZ Y 9 < 9 := pickZ_lt Y (by decide)
  generalize pickZ Y 9 = p at HPD hp9
  go_wp2_with fail
  refine HPD.out.mono ?_
  rintro e w4 ⟨rfl, rfl⟩
  have g8 : (kd == 8) = false := by simp; omega
  have g9 : (kd == 9) = false := by simp; omega
  have g10 : (kd == 10) = false := by simp; omega
  have g11 : (kd == 11) = false := by simp; omega
  have HG3 : Hid (GR w4 g (.pointer (some pa)) (.slice (some ⟨r, 0, none⟩) ns.length c) made b ns) := HD.out.1.gr.below HB4.out
  have HDIS : Hid (∀ k, Fg k → ¬ More Fx w4.drew k) := fun k hk hx => by
    rcases hx with hx | hx
    · exact HD.out.1.gx k hk hx
    · have h1 := HD.out.1.here k (Or.inl hk)
      have h2 := HB4.out.size
      have h3 : w4.heap.size ≤ k := hx
      omega
  clear HPD HSB
  by_cases hk7 : kd = 7
  · subst hk7
    have HDS3 : Hid (DS w4.drew (.pointer (some pa)) (treeS (ns.map GN.pl)) made (mOf b (ns.map GN.pl)) rs Fx) := HP.out.keep HD.out.1.ds (fun k _ hl => HB4.out.block k hl) HB4.out.size
    have HC4 : Hid (∀ wx, Fr w4.drew wx Fx → wx.cell? ⟨g, 0, none⟩ = some (.pointer (some pa))) := fun wx hf => by
      have e1 : wx.heap[g]? = w4.heap[g]? := hf.block g HG3.out.lt (HD.out.1.gx g HD.out.1.inb)
      exact cell_of_blk (e1.trans HG3.out.blk) rfl
    have H04 : Hid (Fr w4.drew w4.drew Fx) := Fr.refl _ _
    have hwr : IntKind.i64.wrap ((p : Int) + 1) = (p : Int) + 1 := by rw [IntKind.wrap_i64]; omega
    have hpa : (0 : Int) ≤ (p : Int) := by omega
    have hpb : (p : Int) ≤ (p : Int) + 1 := by omega
    have hpc : (p : Int) + 1 ≤ 9 := by omega
    have hpd : (p : Int) + 1 ≤ ((⟨#[65, 66, 67, 68, 69, 70, 88, 89, 90]⟩ : ByteArray).size : Int) := hpc
    have hpe : (0 : Int) ≤ (p : Int) + 1 := by omega
    have HER : Hid (qryErr (treeS (ns.map GN.pl)) n.num (prB p) = 0) := qryErr_in HD.out.1.pw (List.mem_map.2 ⟨n, HD.out.2, rfl⟩ : n.pl ∈ ns.map GN.pl) hp9
    go_upto_region 12 with fail
    go_cut [10, 11] (fun v yv wx => (∃ z, v = .int .i64 z) ∧ yv = .int .i64 0 ∧ Hid (DS wx (.pointer (some pa)) (treeS (ns.map GN.pl)) made (mOf b (ns.map GN.pl)) rs (More Fx w4.drew) ∧ Fr w4.drew wx Fx))
    case first =>
      go_region_held3 (fun w' => w'.cell? ⟨g, 0, none⟩ = some (.pointer (some pa))) (first | exact HC4.out _ H04.out | exact HC4.out _ HX.out.2)
        (first | (go_at_call 37; refine (HP.out.qry _ (.pointer (some pa)) (treeS (ns.map GN.pl)) made (mOf b (ns.map GN.pl)) rs Fx n.num (prB p) HDS3.out).mono ?_; rw [HER.out]; rintro e w5 ⟨rfl, hds, hf5⟩; have HX : Hid (DS w5 (.pointer (some pa)) (treeS (ns.map GN.pl)) made (mOf b (ns.map GN.pl)) rs (More Fx w4.drew) ∧ Fr w4.drew w5 Fx) := ⟨hds, hf5⟩; clear hds hf5))
      all_goals
        go_wp2_with fail
        go_meet
        exact ⟨⟨_, rfl⟩, rfl, HX⟩
    case rest =>
      obtain ⟨⟨z, rfl⟩, rfl, HX⟩ := hcut
      obtain ⟨W4, rfl⟩ : ∃ W4, W4 = wc := ⟨_, rfl⟩
      have HG4 : Hid (GR W4 g (.pointer (some pa)) (.slice (some ⟨r, 0, none⟩) ns.length c) made b ns) := (HG3.out.below (Below.refl _ _).drew).keep (fun k hl hk => HX.out.2.block k hl (HD.out.1.gx k (HD.out.1.mine hk)))
      have HF4 : Hid (Fr w W4 (fun k => Fg k ∨ Fx k)) := ((Fr.refl w (fun k => Fg k ∨ Fx k)).below HB4.out).drew1.trans (HX.out.2.mono (fun k hk => Or.inr hk))
      have HR : Hid (KStepPost DS w (fun k => Fg k ∨ Fx k) g (.pointer (some pa)) b (ns.map GN.pl) made rs (.returned (.bool true)) W4) := by
        refine ⟨rfl, ?_⟩
        exact gq_close HP.out rfl HG4.out HD.out.1.pw HX.out.1 HF4.out (fun k hk => Or.inl (HD.out.1.mine hk)) (fun k hk => hk.imp id (fun hk => Nat.le_trans HB4.out.size hk)) (fun k hk => HDIS.out k (HD.out.1.mine hk))
      go_wp2
      go_ret
      exact HR.out
  · have g7 : (kd == 7) = false := by simp; omega
    have HR : Hid (KStepPost DS w (fun k => Fg k ∨ Fx k) g (.pointer (some pa)) b (ns.map GN.pl) made rs (.returned (.bool true)) w4) := by
      refine ⟨rfl, ?_⟩
      exact gq_close HP.out rfl HG3.out HD.out.1.pw (HP.out.keep HD.out.1.ds (fun k _ hl => HB4.out.block k hl) HB4.out.size) ((Fr.refl w (fun k => Fg k ∨ Fx k)).below HB4.out) (fun k hk => Or.inl (HD.out.1.mine hk)) (fun k hk => Or.inl hk) (fun k hk => HD.out.1.gx k (HD.out.1.mine hk))
    clear hk7
    go_wp2
    go_ret
    exact HR.out
end
end Go.Proofs.YtblfffbmklkhmaaGreat

namespace Go.Proofs.YtblfffbmklkhmaaGreat
open Go.RowKit
/-- One step. -/
noncomputable def stepS (b : Nat) (last : Int) (S : List PNd) (made : Nat) (kd X Y Z : Int) : List PNd × Nat :=
  if last < kd then (S, made)
  else if kd = 1 then insertS b S made X Y Z
  else if kd = 2 then (removeS S X, made)
  else if kd = 3 then (moveS S X Y Z, made)
  else if kd = 4 ∨ kd = 5 ∨ kd = 6 then (markS b S kd X Y, made)
  else (S, made)
section
variable {DS : World → Value → Tree → Nat → (Nat → Mk) → List PRu → (Nat → Prop) → Prop} {w W1 w2 : World} {g : Nat} {px vl : Value} {made made' b : Nat} {ns : List GN} {rs : List PRu} {Fg Fx : Nat → Prop} {S' : List PNd}
theorem kpre {e : Ending} (hB : Below w.heap.size w W1) (hq : KStepPost DS W1 (fun k => Fg k ∨ Fx k) g px b S' made' rs e w2) : KStepPost DS w (fun k => Fg k ∨ Fx k) g px b S' made' rs e w2 := by
  obtain ⟨h1, vl', ns', Fg', Fx', h2, h3, h4, h5⟩ := hq
  exact ⟨h1, vl', ns', Fg', Fx', h2, h3, fun k hk => (h4 k hk).imp id (fun h => Nat.le_trans hB.size h), ((Fr.refl w _).below hB).trans h5⟩
theorem kpre0 (hP : DocOK DS) (h : GD DS w g px vl made b ns rs Fg Fx) (hB : Below w.heap.size w W1) : KStepPost DS w (fun k => Fg k ∨ Fx k) g px b (ns.map GN.pl) made rs (.returned (.bool true)) W1 :=
  kpre hB ⟨rfl, (h.below hP hB).gq⟩
end
section
set_option maxRecDepth 100000
set_option maxHeartbeats 1500000
variable {DS : World → Value → Tree → Nat → (Nat → Mk) → List PRu → (Nat → Prop) → Prop}
end
end Go.Proofs.YtblfffbmklkhmaaGreat

namespace Go.Proofs.YtblfffbmklkhmaaGreat
open Go.RowKit
/-- A script of steps in memory. -/
structure Stp (w : World) (b off len : Nat) (K X Y Z : Nat → Int) : Prop where
  c0 : ∀ i, i < len → w.cell? ⟨b, off + i * 4, none⟩ = some (.int .i64 (K i))
  c1 : ∀ i, i < len → w.cell? ⟨b, off + i * 4 + 1, none⟩ = some (.int .i64 (X i))
  c2 : ∀ i, i < len → w.cell? ⟨b, off + i * 4 + 2, none⟩ = some (.int .i64 (Y i))
  c3 : ∀ i, i < len → w.cell? ⟨b, off + i * 4 + 3, none⟩ = some (.int .i64 (Z i))
  fit : ∀ i, i < len → Fit (X i) ∧ Fit (Y i) ∧ Fit (Z i)
  lt : b < w.heap.size
theorem Stp.keep {w w' : World} {b off len : Nat} {K X Y Z : Nat → Int} (h : Stp w b off len K X Y Z) (he : w'.heap[b]? = w.heap[b]?) : Stp w' b off len K X Y Z := by
  have e : ∀ o, w'.cell? ⟨b, o, none⟩ = w.cell? ⟨b, o, none⟩ := fun o => by unfold World.cell?; simp only [he]
  exact ⟨fun i hi => (e _).trans (h.c0 i hi), fun i hi => (e _).trans (h.c1 i hi), fun i hi => (e _).trans (h.c2 i hi), fun i hi => (e _).trans (h.c3 i hi), h.fit, by
    have h1 := Array.getElem?_eq_getElem h.lt
    rw [h1] at he
    exact (Array.getElem?_eq_some_iff.1 he).1⟩
/-- What becomes of a grove. -/
noncomputable def growS (b : Nat) (last : Int) (K X Y Z : Nat → Int) (S : List PNd) (made : Nat) : Nat → List PNd × Nat
  | 0 => (S, made)
  | i + 1 => stepS b last (growS b last K X Y Z S made i).1 (growS b last K X Y Z S made i).2 (K i) (X i) (Y i) (Z i)
theorem stepS_made (b : Nat) (last : Int) (S : List PNd) (made : Nat) (kd X Y Z : Int) : (stepS b last S made kd X Y Z).2 ≤ made + 1 := by
  unfold stepS insertS
  (repeat' split) <;> simp
theorem growS_made (b : Nat) (last : Int) (K X Y Z : Nat → Int) (S : List PNd) (made : Nat) : ∀ i, (growS b last K X Y Z S made i).2 ≤ made + i
  | 0 => Nat.le_refl _
  | i + 1 => by
    have h1 := growS_made b last K X Y Z S made i
    have h2 := stepS_made b last (growS b last K X Y Z S made i).1 (growS b last K X Y Z S made i).2 (K i) (X i) (Y i) (Z i)
    show (stepS b last _ _ _ _ _ _).2 ≤ _
    omega
section
set_option maxRecDepth 100000
set_option maxHeartbeats 1500000
variable {DS : World → Value → Tree → Nat → (Nat → Mk) → List PRu → (Nat → Prop) → Prop}
theorem kgrow_none (w : World) (g : Nat) (px vl : Value) (made b : Nat) (ns : List GN) (rs : List PRu) (Fg Fx : Nat → Prop) (h : GD DS w g px vl made b ns rs Fg Fx) (last : Int) (a0 : Option Addr) (cap : Nat) :
    Calls Tryz.prog 20 #[.pointer (some ⟨g, 0, none⟩), .slice a0 0 cap, .int .i64 last] w fun e w' => KStepPost DS w (fun k => Fg k ∨ Fx k) g px b (ns.map GN.pl) made rs e w' := by
  have HR : Hid (KStepPost DS w (fun k => Fg k ∨ Fx k) g px b (ns.map GN.pl) made rs (.returned (.bool true)) w) := ⟨rfl, h.gq⟩
  clear h
  go_enter Tryz.func20, Tryz.ntmps20
  go_wp2_with fail
  go_loopg [7] 0 (fun gk iv wr => iv = .int .i64 (0 : Nat) ∧ wr = w)
  case atStart => exact ⟨rfl, rfl⟩
  case round =>
    obtain ⟨rfl, rfl⟩ := hrel
    go_wp2
    go_ret
    exact HR.out
end
end Go.Proofs.YtblfffbmklkhmaaGreat

namespace Go.Proofs.YtblfffbmklkhmaaGreat
open Go.RowKit
def rootS (b : Nat) : PNd := ⟨0, -1, letB b, ⟨#[]⟩, false, false, false, false, []⟩
abbrev rootN (n0 b : Nat) : GN := ⟨n0, 0, -1, letB b, ⟨#[]⟩, false, false, false, false, [], .slice none 0 0⟩
theorem root_pw {T : Tree} (h : TW T 1) (hT : T = [(0, [])]) (b : Nat) : PW [rootS b] 1 := by
  subst hT
  refine ⟨h, fun x hx => ?_, by simp⟩
  rw [List.mem_singleton] at hx
  subst hx
  exact h.root_par.symm
theorem root_marks (b : Nat) : ∀ k l, (k, l) ∈ treeS [rootS b] → newMk (letB b) = mOf b [rootS b] k := by
  intro k l h
  have h' : (k, l) = (0, []) := by simpa [treeS, rootS] using h
  injection h' with h1 _
  subst h1
  show newMk (letB b) = mkS b (rootS b)
  unfold newMk mkS rootS clS
  simp
  intro h9
  exact absurd rfl h9
theorem gd_root {DS : World → Value → Tree → Nat → (Nat → Mk) → List PRu → (Nat → Prop) → Prop} (hP : DocOK DS) {W : World} {px : Value} {b : Nat} {rs : List PRu} {F : Nat → Prop} (hds : DS W px [(0, [])] 1 (fun _ => newMk (letB b)) rs F) :
    GD DS (((W.alloc (rootN W.heap.size b).blk).alloc (.cells #[.pointer (some ⟨W.heap.size, 0, none⟩)] 43)).alloc (.cells #[px, .slice (some ⟨W.heap.size + 1, 0, none⟩) 1 1, .int .i64 1, .int .i64 b] 36)) (W.heap.size + 2) px (.slice (some ⟨W.heap.size + 1, 0, none⟩) 1 1) 1 b [rootN W.heap.size b] rs (fun k => W.heap.size ≤ k ∧ k < W.heap.size + 3) (fun k => F k ∧ k < W.heap.size) := by
  have z1 : (W.alloc (rootN W.heap.size b).blk).heap.size = W.heap.size + 1 := by simp
  have z2 : ((W.alloc (rootN W.heap.size b).blk).alloc (.cells #[.pointer (some ⟨W.heap.size, 0, none⟩)] 43)).heap.size = W.heap.size + 2 := by simp
  have z3 : (((W.alloc (rootN W.heap.size b).blk).alloc (.cells #[.pointer (some ⟨W.heap.size, 0, none⟩)] 43)).alloc (.cells #[px, .slice (some ⟨W.heap.size + 1, 0, none⟩) 1 1, .int .i64 1, .int .i64 b] 36)).heap.size = W.heap.size + 3 := by simp
  have hn : (((W.alloc (rootN W.heap.size b).blk).alloc (.cells #[.pointer (some ⟨W.heap.size, 0, none⟩)] 43)).alloc (.cells #[px, .slice (some ⟨W.heap.size + 1, 0, none⟩) 1 1, .int .i64 1, .int .i64 b] 36)).heap[W.heap.size]? = some (rootN W.heap.size b).blk :=
    (Below.heap_alloc _ _ W.heap.size (by omega)).trans ((Below.heap_alloc _ _ W.heap.size (by omega)).trans (heap_alloc_new W _))
  have hr : (((W.alloc (rootN W.heap.size b).blk).alloc (.cells #[.pointer (some ⟨W.heap.size, 0, none⟩)] 43)).alloc (.cells #[px, .slice (some ⟨W.heap.size + 1, 0, none⟩) 1 1, .int .i64 1, .int .i64 b] 36)).heap[W.heap.size + 1]? = some (.cells #[.pointer (some ⟨W.heap.size, 0, none⟩)] 43) := by
    refine (Below.heap_alloc _ _ (W.heap.size + 1) (by omega)).trans ?_
    have := heap_alloc_new (W.alloc (rootN W.heap.size b).blk) (.cells #[.pointer (some ⟨W.heap.size, 0, none⟩)] 43)
    rwa [z1] at this
  have hg : (((W.alloc (rootN W.heap.size b).blk).alloc (.cells #[.pointer (some ⟨W.heap.size, 0, none⟩)] 43)).alloc (.cells #[px, .slice (some ⟨W.heap.size + 1, 0, none⟩) 1 1, .int .i64 1, .int .i64 b] 36)).heap[W.heap.size + 2]? = some (.cells #[px, .slice (some ⟨W.heap.size + 1, 0, none⟩) 1 1, .int .i64 1, .int .i64 b] 36) := by
    have := heap_alloc_new ((W.alloc (rootN W.heap.size b).blk).alloc (.cells #[.pointer (some ⟨W.heap.size, 0, none⟩)] 43)) (.cells #[px, .slice (some ⟨W.heap.size + 1, 0, none⟩) 1 1, .int .i64 1, .int .i64 b] 36)
    rwa [z2] at this
  have hold : ∀ k, k < W.heap.size → (((W.alloc (rootN W.heap.size b).blk).alloc (.cells #[.pointer (some ⟨W.heap.size, 0, none⟩)] 43)).alloc (.cells #[px, .slice (some ⟨W.heap.size + 1, 0, none⟩) 1 1, .int .i64 1, .int .i64 b] 36)).heap[k]? = W.heap[k]? := fun k hk =>
    (Below.heap_alloc _ _ k (by omega)).trans ((Below.heap_alloc _ _ k (by omega)).trans (Below.heap_alloc W _ k hk))
  have hm := hP.mark (M' := mOf b [rootS b]) hds (root_marks b)
  refine ⟨⟨hg, own_one hr, fun n hn' => ?_, fun n hn' => ?_⟩, root_pw (hP.tw hds) rfl b, hP.keep (hP.here hm) (fun k hk _ => hold k hk.2) (by omega), ⟨by omega, by omega⟩, fun n hn' => ?_, fun j hj => ?_, fun n hn' j hj => ?_, fun k hk hx => ?_, fun k hk => ?_⟩
  · rw [List.mem_singleton] at hn'
    subst hn'
    exact hn
  · rw [List.mem_singleton] at hn'
    subst hn'
    exact World.ownsRow_nil _ _ _ _
  · rw [List.mem_singleton] at hn'
    subst hn'
    exact ⟨Nat.le_refl _, by show W.heap.size < _; omega⟩
  · have e : W.heap.size + 1 = j := by simpa [Value.ownBlock] using hj
    exact ⟨by omega, by omega⟩
  · rw [List.mem_singleton] at hn'
    subst hn'
    simp [Value.ownBlock] at hj
  · have := hk.1
    have := hx.2
    omega
  · rcases hk with hk | hk
    · have := hk.2; omega
    · have := hk.2; omega
def KPlantPost (DS : World → Value → Tree → Nat → (Nat → Mk) → List PRu → (Nat → Prop) → Prop) (w : World) (b : Nat) (rs : List PRu) (e : Ending) (w' : World) : Prop :=
  ∃ g px vl n0 Fg Fx, e = .returned (.pointer (some ⟨g, 0, none⟩)) ∧ GD DS w' g px vl 1 b [rootN n0 b] rs Fg Fx ∧ (∀ k, Fg k ∨ Fx k → w.heap.size ≤ k) ∧ Below w.heap.size w w'
section
set_option maxRecDepth 100000
set_option maxHeartbeats 1500000
variable {DS : World → Value → Tree → Nat → (Nat → Mk) → List PRu → (Nat → Prop) → Prop}
theorem kplant_any (hP : DocOK DS) (w : World) (s : ByteArray) (b : Nat) (hb : b ≤ 25) (hs : s.size ≤ maxLen) (hc : (chk s).1 = 0) :
    Calls Tryz.prog 19 #[.string s, .int .i64 b] w fun e w' => KPlantPost DS w b (sheetOf s) e w' := by
  have HP : Hid (DocOK DS) := hP
  have hne : newErr s (letB b) = 0 := by unfold newErr; rw [if_neg (by rw [hc]; simp), if_neg (by rw [isLetter_letB]; simp)]
  have HN : Hid (∀ W, Calls Tryz.prog 24 #[.string s, .string (letB b)] W fun e w' => Below W.heap.size W w' ∧ ∃ px, e = .returned (.tuple #[px, .int .i64 0]) ∧ DS w' px [(0, [])] 1 (fun _ => newMk (letB b)) (sheetOf s) (fun k => W.heap.size ≤ k)) := fun W => (hP.new W s (letB b) hs).mono (fun e w' h => by
    obtain ⟨h1, h2 | h2⟩ := h
    · exact absurd hne h2.1
    · exact ⟨h1, h2.2⟩)
  have HL : Hid (∀ W, Calls Tryz.prog 25 #[.int .i64 0, .int .i64 b] W fun e w' => e = .returned (.string (letB b)) ∧ Below W.heap.size W w') := fun W => by
    have := kletter_any (w := W) 0 b (by omega) hb
    rwa [Nat.zero_add] at this
  clear hP hne hc hs
  go_enter Tryz.func19, Tryz.ntmps19
  go_wp2_with fail
  refine (HL.out _).mono ?_
  rintro e w1 ⟨rfl, hB1⟩
  have HB1 : Hid (Below w.heap.size w w1) := hB1
  clear hB1
  go_wp2_with fail
  refine (HN.out _).mono ?_
  rintro e w2 ⟨hB2, px, rfl, hds⟩
  obtain ⟨pa, rfl⟩ := HP.out.ptr hds
  have HB2 : Hid (Below w.heap.size w w2) := HB1.out.trans (hB2.mono HB1.out.size)
  have HDS : Hid (DS w2 (.pointer (some pa)) [(0, [])] 1 (fun _ => newMk (letB b)) (sheetOf s) (fun k => w1.heap.size ≤ k)) := hds
  clear hB2 hds
  go_wp2_with fail
  refine (HL.out _).mono ?_
  rintro e w3 ⟨rfl, hB3⟩
  have HB3 : Hid (Below w.heap.size w w3) := HB2.out.trans (hB3.mono HB2.out.size)
  have HDS3 : Hid (DS w3 (.pointer (some pa)) [(0, [])] 1 (fun _ => newMk (letB b)) (sheetOf s) (fun k => w1.heap.size ≤ k)) := HP.out.keep HDS.out (fun k _ hl => hB3.block k hl) hB3.size
  clear hB3
  have HR : Hid (KPlantPost DS w b (sheetOf s) (.returned (.pointer (some ⟨w3.heap.size + 2, 0, none⟩))) (((w3.alloc (rootN w3.heap.size b).blk).alloc (.cells #[.pointer (some ⟨w3.heap.size, 0, none⟩)] 43)).alloc (.cells #[.pointer (some pa), .slice (some ⟨w3.heap.size + 1, 0, none⟩) 1 1, .int .i64 1, .int .i64 b] 36))) := by
    have hz := HB3.out.size
    have hz1 := HB1.out.size
    refine ⟨_, _, _, _, _, _, rfl, gd_root HP.out HDS3.out, fun k hk => ?_, ((HB3.out.alloc hz _).alloc (by simp; omega) _).alloc (by simp; omega) _⟩
    rcases hk with hk | hk
    · have := hk.1; omega
    · have := hk.1; omega
  go_wp2
  go_ret
  exact HR.out
end
end Go.Proofs.YtblfffbmklkhmaaGreat

namespace Go.Proofs.YtblfffbmklkhmaaGreat
open Go.RowKit
def headT : ByteArray := ⟨#[97, 123, 65, 58, 55, 59, 68, 58, 56, 125, 97, 62, 98, 123, 68, 58, 105, 59, 69, 58, 57, 33, 125, 98, 123, 69, 58, 49, 48, 125]⟩
def headM : Nat → Mk := setM (fun _ => newMk ⟨#[97]⟩) 1 (newMk ⟨#[98]⟩)
theorem head_new : newErr headT ⟨#[97]⟩ = 0 := by decide +kernel
theorem head_ins : tInsErr [(0, [])] 0 0 ⟨#[98]⟩ = 0 := by decide +kernel
theorem head_tree : tIns [(0, [])] 0 0 1 = [(0, [1]), (1, [])] := by decide +kernel
theorem head_A : qryVal [(0, [1]), (1, [])] headM (sheetOf headT) 1 ⟨#[65]⟩ = 7 := by decide +kernel
theorem head_Ae : qryErr [(0, [1]), (1, [])] 1 ⟨#[65]⟩ = 0 := by decide +kernel
theorem head_D : qryVal [(0, [1]), (1, [])] headM (sheetOf headT) 1 ⟨#[68]⟩ = 8 := by decide +kernel
theorem head_De : qryErr [(0, [1]), (1, [])] 1 ⟨#[68]⟩ = 0 := by decide +kernel
theorem head_E : qryVal [(0, [1]), (1, [])] headM (sheetOf headT) 1 ⟨#[69]⟩ = 9 := by decide +kernel
theorem head_Ee : qryErr [(0, [1]), (1, [])] 1 ⟨#[69]⟩ = 0 := by decide +kernel
theorem head_F : qryVal [(0, [1]), (1, [])] headM (sheetOf headT) 1 ⟨#[70]⟩ = 6 := by decide +kernel
theorem head_Fe : qryErr [(0, [1]), (1, [])] 1 ⟨#[70]⟩ = 0 := by decide +kernel
/-- A document above a bound, since a world. -/
def HSt (DS : World → Value → Tree → Nat → (Nat → Mk) → List PRu → (Nat → Prop) → Prop) (w : World) (px : Value) (T : Tree) (made : Nat) (M : Nat → Mk) (rs : List PRu) (W : World) : Prop :=
  Below w.heap.size w W ∧ ∃ F, DS W px T made M rs F ∧ ∀ k, F k → w.heap.size ≤ k
section
set_option maxRecDepth 100000
set_option maxHeartbeats 1500000
variable {DS : World → Value → Tree → Nat → (Nat → Mk) → List PRu → (Nat → Prop) → Prop}
theorem below_fr {w w' : World} {S : Nat → Prop} {base : Nat} (h : Fr w w' S) (hb : base ≤ w.heap.size) (hs : ∀ k, S k → base ≤ k) : Below base w w' :=
  ⟨h.os, h.tape, h.output, h.size, fun k hk => h.block k (by omega) (fun x => by have := hs k x; omega)⟩
theorem hst_more {w W W' : World} {px : Value} {T : Tree} {made : Nat} {M : Nat → Mk} {rs : List PRu} {F : Nat → Prop} (hB : Below w.heap.size w W) (hF : ∀ k, F k → w.heap.size ≤ k) (hd : DS W' px T made M rs (More F W)) (hf : Fr W W' F) : HSt DS w px T made M rs W' :=
  ⟨hB.trans (below_fr hf hB.size hF), More F W, hd, fun k hk => hk.elim (hF k) (fun h => Nat.le_trans hB.size h)⟩
theorem hst_qry (hP : DocOK DS) {w W : World} {px : Value} {T : Tree} {made : Nat} {M : Nat → Mk} {rs : List PRu} (h : HSt DS w px T made M rs W) (n : Int) (s : ByteArray) : Calls Tryz.prog 37 #[px, .int .i64 n, .string s] W fun e w' => e = .returned (.tuple #[.int .i64 (qryVal T M rs n s), .int .i64 (qryErr T n s)]) ∧ HSt DS w px T made M rs w' := by
  obtain ⟨hB, F, hd, hF⟩ := h
  exact (hP.qry W px T made M rs F n s hd).mono (fun e w' h => ⟨h.1, hst_more hB hF h.2.1 h.2.2⟩)
theorem khead_any (hP : DocOK DS) (w : World) : Calls Tryz.prog 16 #[] w fun e w' => e = .returned (.bool true) ∧ Below w.heap.size w w' := by
  have HP : Hid (DocOK DS) := hP
  have HN : Hid (Calls Tryz.prog 24 #[.string headT, .string ⟨#[97]⟩] w fun e w' => ∃ px, e = .returned (.tuple #[px, .int .i64 0]) ∧ HSt DS w px [(0, [])] 1 (fun _ => newMk ⟨#[97]⟩) (sheetOf headT) w') := (hP.new w headT ⟨#[97]⟩ (by decide)).mono (fun e w' h => by
    obtain ⟨h1, h2 | ⟨_, px, h2, h3⟩⟩ := h
    · exact absurd head_new h2.1
    · exact ⟨px, h2, h1, _, h3, fun k hk => hk⟩)
  have HI : Hid (∀ W px, HSt DS w px [(0, [])] 1 (fun _ => newMk ⟨#[97]⟩) (sheetOf headT) W → Calls Tryz.prog 36 #[px, .int .i64 0, .int .i64 0, .string ⟨#[98]⟩] W fun e w' => e = .returned (.tuple #[.int .i64 1, .int .i64 0]) ∧ HSt DS w px [(0, [1]), (1, [])] 2 headM (sheetOf headT) w') := fun W px h => by
    obtain ⟨hB, F, hd, hF⟩ := h
    refine (hP.ins W px [(0, [])] 1 _ _ F 0 0 ⟨#[98]⟩ hd (by decide)).mono (fun e w' h => ?_)
    obtain ⟨y, T', made', n, rfl, hT, hds, hf⟩ := h
    have hy : y = 0 := hT.1.trans head_ins
    subst hy
    rcases hT.2 with ⟨h1, _⟩ | ⟨_, rfl, rfl, p, k, hp, hk, _, rfl⟩
    · exact absurd rfl h1
    · have ep : p = 0 := by omega
      have ek : k = 0 := by omega
      subst ep ek
      rw [head_tree, if_pos rfl] at hds
      exact ⟨rfl, hst_more hB hF hds hf⟩
  have HQ : Hid (∀ W px s, HSt DS w px [(0, [1]), (1, [])] 2 headM (sheetOf headT) W → Calls Tryz.prog 37 #[px, .int .i64 1, .string s] W fun e w' => e = .returned (.tuple #[.int .i64 (qryVal [(0, [1]), (1, [])] headM (sheetOf headT) 1 s), .int .i64 (qryErr [(0, [1]), (1, [])] 1 s)]) ∧ HSt DS w px [(0, [1]), (1, [])] 2 headM (sheetOf headT) w') := fun W px s h => hst_qry hP h 1 s
  clear hP
  go_enter Tryz.func16, Tryz.ntmps16
  go_wp2_with fail
  refine HN.out.mono ?_
  rintro e w1 ⟨px, rfl, hs1⟩
  obtain ⟨pa, rfl⟩ := HP.out.ptr hs1.2.choose_spec.1
  have HS1 : Hid (HSt DS w (.pointer (some pa)) [(0, [])] 1 (fun _ => newMk ⟨#[97]⟩) (sheetOf headT) w1) := hs1
  clear hs1 HN
  go_wp2_with fail
  refine (HI.out w1 _ HS1.out).mono ?_
  rintro e w2 ⟨rfl, hs2⟩
  have HS2 : Hid (HSt DS w (.pointer (some pa)) [(0, [1]), (1, [])] 2 headM (sheetOf headT) w2) := hs2
  clear hs2 HS1 HI
  go_wp2_with fail
  refine (HQ.out w2 _ ⟨#[65]⟩ HS2.out).mono ?_
  rw [head_A, head_Ae]
  rintro e w3 ⟨rfl, hs3⟩
  have HS3 : Hid (HSt DS w (.pointer (some pa)) [(0, [1]), (1, [])] 2 headM (sheetOf headT) w3) := hs3
  clear hs3 HS2
  go_wp2_with fail
  refine (HQ.out w3 _ ⟨#[68]⟩ HS3.out).mono ?_
  rw [head_D, head_De]
  rintro e w4 ⟨rfl, hs4⟩
  have HS4 : Hid (HSt DS w (.pointer (some pa)) [(0, [1]), (1, [])] 2 headM (sheetOf headT) w4) := hs4
  clear hs4 HS3
  go_wp2_with fail
  refine (HQ.out w4 _ ⟨#[69]⟩ HS4.out).mono ?_
  rw [head_E, head_Ee]
  rintro e w5 ⟨rfl, hs5⟩
  have HS5 : Hid (HSt DS w (.pointer (some pa)) [(0, [1]), (1, [])] 2 headM (sheetOf headT) w5) := hs5
  clear hs5 HS4
  go_wp2_with fail
  refine (HQ.out w5 _ ⟨#[70]⟩ HS5.out).mono ?_
  rw [head_F, head_Fe]
  rintro e w6 ⟨rfl, hs6⟩
  have HS6 : Hid (HSt DS w (.pointer (some pa)) [(0, [1]), (1, [])] 2 headM (sheetOf headT) w6) := hs6
  clear hs6 HS5
  go_wp2
  go_ret
  exact ⟨rfl, HS6.out.1⟩
end
end Go.Proofs.YtblfffbmklkhmaaGreat

namespace Go.Proofs.YtblfffbmklkhmaaGreat
open Go.RowKit
deriving instance DecidableEq for PPt
deriving instance DecidableEq for PCp
deriving instance DecidableEq for PDc
deriving instance DecidableEq for PRu
def digB (k : Nat) : ByteArray := ⟨#[UInt8.ofNat (48 + k)]⟩
end Go.Proofs.YtblfffbmklkhmaaGreat

namespace Go.Proofs.YtblfffbmklkhmaaGreat
open Go.RowKit
set_option maxHeartbeats 1000000 in
theorem kdigit_any (w : World) (k : Nat) (hk : k ≤ 9) : Calls Tryz.prog 18 #[.int .i64 k] w fun e w' => e = .returned (.string (digB k)) ∧ Below w.heap.size w w' := by
  have hcv : (convert 75 9 (.slice (some ⟨w.heap.size, 0, none⟩) 1 1)).run Tryz.prog (w.alloc (.cells #[.int .u8 (48 + (k : Int))] 5)) = .ok (.string (digB k)) (w.alloc (.cells #[.int .u8 (48 + (k : Int))] 5)) :=
    run_convert_bytes_back _ 75 9 5 ⟨w.heap.size, 0, none⟩ 1 [UInt8.ofNat (48 + k)] Tryz.underlying75 Tryz.underlying5 Tryz.underlying9 (fun j hj => by
      obtain rfl : j = 0 := by simpa using hj
      rw [show (⟨w.heap.size, 0, none⟩ : Addr).add 0 = ⟨w.heap.size, 0, none⟩ from Addr.add_mid _ _ _, new_at w _ _ rfl]
      have e : (((UInt8.ofNat (48 + k)).toNat : Nat) : Int) = 48 + (k : Int) := by rw [UInt8.toNat_ofNat']; omega
      show some (Value.int .u8 (48 + (k : Int))) = some (.int .u8 (((UInt8.ofNat (48 + k)).toNat : Nat) : Int))
      rw [e])
  have HB : Hid (Below w.heap.size w (w.alloc (.cells #[.int .u8 (48 + (k : Int))] 5))) := (Below.refl _ _).alloc (Nat.le_refl _) _
  go_enter Tryz.func18, Tryz.ntmps18
  go_wp2
  go_ret
  exact ⟨rfl, HB.out⟩
end Go.Proofs.YtblfffbmklkhmaaGreat

namespace Go.Proofs.YtblfffbmklkhmaaGreat
open Go.RowKit
/-- A script, or none. -/
def Sc (w : World) (a0 : Option Addr) (len : Nat) (K X Y Z : Nat → Int) : Prop := len = 0 ∨ ∃ b0 off, a0 = some ⟨b0, off, none⟩ ∧ Stp w b0 off len K X Y Z
section
set_option maxRecDepth 100000
set_option maxHeartbeats 1500000
variable {DS : World → Value → Tree → Nat → (Nat → Mk) → List PRu → (Nat → Prop) → Prop}
end
end Go.Proofs.YtblfffbmklkhmaaGreat

namespace Go.Proofs.YtblfffbmklkhmaaGreat
open Go.ChangeShapes Go.WideShapes Go.ChangeAt Go.RowKit
theorem Tryz.own : ownKnob Tryz.prog.godebug = none := by kernel_rfl
theorem Tryz.laidOut : laidOutB Tryz.prog = true := by kernel_rfl
theorem Tryz.cells3 : Tryz.prog.cellsOf 3 = 1 := by kernel_rfl
end Go.Proofs.YtblfffbmklkhmaaGreat
