/- Own work. -/
import Derived.Test.YtblfffbmklkhmaaGreatAw23
namespace Go.Proofs.YtblfffbmklkhmaaGreat
open Go.RowKit
/-- The p-th property's letter. -/
def prB (p : Nat) : ByteArray := (⟨#[65, 66, 67, 68, 69, 70, 88, 89, 90]⟩ : ByteArray).extract p (p + 1)
theorem prB_prop : ∀ p, p < 9 → propP (prB p) = some p := by decide
theorem qryErr_in {S : List PNd} {made : Nat} (h : PW S made) {x : PNd} (hx : x ∈ S) {p : Nat} (hp : p < 9) : qryErr (treeS S) x.num (prB p) = 0 := by
  unfold qryErr
  rw [treeS_find h hx, prB_prop p hp]
theorem qryVal_in {S : List PNd} {made : Nat} (h : PW S made) (M : Nat → Mk) (rs : List PRu) {x : PNd} (hx : x ∈ S) {p : Nat} (hp : p < 9) : qryVal (treeS S) M rs x.num (prB p) = (styleV (viewT (treeS S) M) rs x.num).getD p 0 := by
  unfold qryVal
  rw [if_pos (qryErr_in h hx hp), prB_prop p hp]
  rfl
section
set_option maxRecDepth 100000
set_option maxHeartbeats 1500000
variable {DS : World → Value → Tree → Nat → (Nat → Mk) → List PRu → (Nat → Prop) → Prop}
theorem klook_any (hP : DocOK DS) (w : World) (g : Nat) (px vl : Value) (made b : Nat) (ns : List GN) (rs : List PRu) (Fg Fx : Nat → Prop) (h : GD DS w g px vl made b ns rs Fg Fx) (kd X Y Z : Int) (hX : Fit X) (hY : Fit Y) (hk : kd ≤ 7) :
    Calls Tryz.prog 71 #[.pointer (some ⟨g, 0, none⟩), .agg #[.int .i64 kd, .int .i64 X, .int .i64 Y, .int .i64 Z]] w fun e w' => KStepPost DS w (fun k => Fg k ∨ Fx k) g px b (ns.map GN.pl) made rs e w' := by
  obtain ⟨pa, rfl⟩ := hP.ptr h.ds
  obtain ⟨a, c, hv⟩ := own_shape h.gr.row
  subst hv
  have HP : Hid (DocOK DS) := hP
  have hlen := h.len
  obtain ⟨h0, hl⟩ := hlen
  obtain ⟨n, hn, hpk, r, hr, hrl, hrc⟩ := pick_node h.gr h0 X
  subst hr
  have HD : Hid (GD DS w g (.pointer (some pa)) (.slice (some ⟨r, 0, none⟩) ns.length c) made b ns rs Fg Fx ∧ n ∈ ns) := ⟨h, hn⟩
  have HB0 : Hid (∀ k, Below w.heap.size w ((w.alloc (stepO kd X Y Z)).drewN k)) := fun k => below_draws ((Below.refl _ _).alloc (Nat.le_refl _) _) k
  have hgl := h.gr.lt
  have q1 := h.gr.c1
  obtain ⟨n0, _, _, _, _, hnb⟩ := node_cells (h.gr.nd n hn)
  have hpl : ((pickZ X ns.length : Nat) : Int) < (ns.length : Int) := by have := pickZ_lt X h0; omega
  have HPC : Hid (∀ k, Calls Tryz.prog 17 #[.int .i64 X, .int .i64 (ns.length : Int)] ((w.alloc (stepO kd X Y Z)).drewN k) fun e w' => e = .returned (.int .i64 ((pickZ X ns.length : Nat) : Int)) ∧ w' = (w.alloc (stepO kd X Y Z)).drewN k) := fun k => kpick_any _ X ns.length hX h0 (by omega)
  clear h hn hpk hP
  generalize pickZ X ns.length = xi at hrc hpl HPC
  go_enter Tryz.func71, Tryz.ntmps71
  go_upto_region 1 with fail
  go_quiet ((go_at_call 17; exact Calls.quiet_of_same (HPC.out _)))
  go_upto_region 2 with fail
  have HB4 : Hid (Below w.heap.size w ((w.alloc (stepO kd X Y Z)).drewN nq)) := HB0.out nq
  have HSB : Hid (((w.alloc (stepO kd X Y Z)).drewN nq).heap[w.heap.size]? = some (stepO kd X Y Z)) := heap_alloc_new w _
  clear q1 hrc HB0 HPC n0 hgl hrl hnb
  generalize (w.alloc (stepO kd X Y Z)).drewN nq = W3 at HB4 HSB ⊢
  have s2 : W3.cell? ⟨w.heap.size, 2, none⟩ = some (.int .i64 Y) := cell_of_blk HSB.out rfl
  have s0 : W3.cell? ⟨w.heap.size, 0, none⟩ = some (.int .i64 kd) := cell_of_blk HSB.out rfl
  have hszl : w.heap.size < W3.heap.size := (Array.getElem?_eq_some_iff.1 HSB.out).1
  have HPD : Hid (Calls Tryz.prog 17 #[.int .i64 Y, .int .i64 9] W3 fun e w' => e = .returned (.int .i64 ((pickZ Y 9 : Nat) : Int)) ∧ w' = W3) := kpick_any _ Y 9 hY (by decide) (by decide)
  have hp9 : pickZ Y 9 < 9 := pickZ_lt Y (by decide)
  generalize pickZ Y 9 = p at HPD hp9
  go_wp2_with fail
  refine HPD.out.mono ?_
  rintro e w4 ⟨rfl, rfl⟩
  have g8 : (kd == 8) = false := by simp; omega
  have g9 : (kd == 9) = false := by simp; omega
  have g10 : (kd == 10) = false := by simp; omega
  have g11 : (kd == 11) = false := by simp; omega
  have HG3 : Hid (GR w4 g (.pointer (some pa)) (.slice (some ⟨r, 0, none⟩) ns.length c) made b ns) := HD.out.1.gr.below HB4.out
  have HDIS : Hid (∀ k, Fg k → ¬ More Fx w4.drew k) := fun k hk hx => by
    rcases hx with hx | hx
    · exact HD.out.1.gx k hk hx
    · have h1 := HD.out.1.here k (Or.inl hk)
      have h2 := HB4.out.size
      have h3 : w4.heap.size ≤ k := hx
      omega
  clear HPD HSB
  by_cases hk7 : kd = 7
  · subst hk7
    have HDS3 : Hid (DS w4.drew (.pointer (some pa)) (treeS (ns.map GN.pl)) made (mOf b (ns.map GN.pl)) rs Fx) := HP.out.keep HD.out.1.ds (fun k _ hl => HB4.out.block k hl) HB4.out.size
    have HC4 : Hid (∀ wx, Fr w4.drew wx Fx → wx.cell? ⟨g, 0, none⟩ = some (.pointer (some pa))) := fun wx hf => by
      have e1 : wx.heap[g]? = w4.heap[g]? := hf.block g HG3.out.lt (HD.out.1.gx g HD.out.1.inb)
      exact cell_of_blk (e1.trans HG3.out.blk) rfl
    have H04 : Hid (Fr w4.drew w4.drew Fx) := Fr.refl _ _
    have hwr : IntKind.i64.wrap ((p : Int) + 1) = (p : Int) + 1 := by rw [IntKind.wrap_i64]; omega
    have hpa : (0 : Int) ≤ (p : Int) := by omega
    have hpb : (p : Int) ≤ (p : Int) + 1 := by omega
    have hpc : (p : Int) + 1 ≤ 9 := by omega
    have hpd : (p : Int) + 1 ≤ ((⟨#[65, 66, 67, 68, 69, 70, 88, 89, 90]⟩ : ByteArray).size : Int) := hpc
    have hpe : (0 : Int) ≤ (p : Int) + 1 := by omega
    have HER : Hid (qryErr (treeS (ns.map GN.pl)) n.num (prB p) = 0) := qryErr_in HD.out.1.pw (List.mem_map.2 ⟨n, HD.out.2, rfl⟩ : n.pl ∈ ns.map GN.pl) hp9
    go_upto_region 12 with fail
    go_cut [10, 11] (fun v yv wx => (∃ z, v = .int .i64 z) ∧ yv = .int .i64 0 ∧ Hid (DS wx (.pointer (some pa)) (treeS (ns.map GN.pl)) made (mOf b (ns.map GN.pl)) rs (More Fx w4.drew) ∧ Fr w4.drew wx Fx))
    case first =>
      go_region_held3 (fun w' => w'.cell? ⟨g, 0, none⟩ = some (.pointer (some pa))) (first | exact HC4.out _ H04.out | exact HC4.out _ HX.out.2)
        (first | (go_at_call 37; refine (HP.out.qry _ (.pointer (some pa)) (treeS (ns.map GN.pl)) made (mOf b (ns.map GN.pl)) rs Fx n.num (prB p) HDS3.out).mono ?_; rw [HER.out]; rintro e w5 ⟨rfl, hds, hf5⟩; have HX : Hid (DS w5 (.pointer (some pa)) (treeS (ns.map GN.pl)) made (mOf b (ns.map GN.pl)) rs (More Fx w4.drew) ∧ Fr w4.drew w5 Fx) := ⟨hds, hf5⟩; clear hds hf5))
      all_goals
        go_wp2_with fail
        go_meet
        exact ⟨⟨_, rfl⟩, rfl, HX⟩
    case rest =>
      obtain ⟨⟨z, rfl⟩, rfl, HX⟩ := hcut
      obtain ⟨W4, rfl⟩ : ∃ W4, W4 = wc := ⟨_, rfl⟩
      have HG4 : Hid (GR W4 g (.pointer (some pa)) (.slice (some ⟨r, 0, none⟩) ns.length c) made b ns) := (HG3.out.below (Below.refl _ _).drew).keep (fun k hl hk => HX.out.2.block k hl (HD.out.1.gx k (HD.out.1.mine hk)))
      have HF4 : Hid (Fr w W4 (fun k => Fg k ∨ Fx k)) := ((Fr.refl w (fun k => Fg k ∨ Fx k)).below HB4.out).drew1.trans (HX.out.2.mono (fun k hk => Or.inr hk))
      have HR : Hid (KStepPost DS w (fun k => Fg k ∨ Fx k) g (.pointer (some pa)) b (ns.map GN.pl) made rs (.returned (.bool true)) W4) := by
        refine ⟨rfl, ?_⟩
        exact gq_close HP.out rfl HG4.out HD.out.1.pw HX.out.1 HF4.out (fun k hk => Or.inl (HD.out.1.mine hk)) (fun k hk => hk.imp id (fun hk => Nat.le_trans HB4.out.size hk)) (fun k hk => HDIS.out k (HD.out.1.mine hk))
      go_wp2
      go_ret
      exact HR.out
  · have g7 : (kd == 7) = false := by simp; omega
    have HR : Hid (KStepPost DS w (fun k => Fg k ∨ Fx k) g (.pointer (some pa)) b (ns.map GN.pl) made rs (.returned (.bool true)) w4) := by
      refine ⟨rfl, ?_⟩
      exact gq_close HP.out rfl HG3.out HD.out.1.pw (HP.out.keep HD.out.1.ds (fun k _ hl => HB4.out.block k hl) HB4.out.size) ((Fr.refl w (fun k => Fg k ∨ Fx k)).below HB4.out) (fun k hk => Or.inl (HD.out.1.mine hk)) (fun k hk => Or.inl hk) (fun k hk => HD.out.1.gx k (HD.out.1.mine hk))
    clear hk7
    go_wp2
    go_ret
    exact HR.out
end
end Go.Proofs.YtblfffbmklkhmaaGreat

namespace Go.Proofs.YtblfffbmklkhmaaGreat
open Go.RowKit
/-- One step. -/
noncomputable def stepS (b : Nat) (last : Int) (S : List PNd) (made : Nat) (kd X Y Z : Int) : List PNd × Nat :=
  if last < kd then (S, made)
  else if kd = 1 then insertS b S made X Y Z
  else if kd = 2 then (removeS S X, made)
  else if kd = 3 then (moveS S X Y Z, made)
  else if kd = 4 ∨ kd = 5 ∨ kd = 6 then (markS b S kd X Y, made)
  else (S, made)
section
variable {DS : World → Value → Tree → Nat → (Nat → Mk) → List PRu → (Nat → Prop) → Prop} {w W1 w2 : World} {g : Nat} {px vl : Value} {made made' b : Nat} {ns : List GN} {rs : List PRu} {Fg Fx : Nat → Prop} {S' : List PNd}
theorem kpre {e : Ending} (hB : Below w.heap.size w W1) (hq : KStepPost DS W1 (fun k => Fg k ∨ Fx k) g px b S' made' rs e w2) : KStepPost DS w (fun k => Fg k ∨ Fx k) g px b S' made' rs e w2 := by
  obtain ⟨h1, vl', ns', Fg', Fx', h2, h3, h4, h5⟩ := hq
  exact ⟨h1, vl', ns', Fg', Fx', h2, h3, fun k hk => (h4 k hk).imp id (fun h => Nat.le_trans hB.size h), ((Fr.refl w _).below hB).trans h5⟩
theorem kpre0 (hP : DocOK DS) (h : GD DS w g px vl made b ns rs Fg Fx) (hB : Below w.heap.size w W1) : KStepPost DS w (fun k => Fg k ∨ Fx k) g px b (ns.map GN.pl) made rs (.returned (.bool true)) W1 :=
  kpre hB ⟨rfl, (h.below hP hB).gq⟩
end
section
set_option maxRecDepth 100000
set_option maxHeartbeats 1500000
variable {DS : World → Value → Tree → Nat → (Nat → Mk) → List PRu → (Nat → Prop) → Prop}
end
end Go.Proofs.YtblfffbmklkhmaaGreat

namespace Go.Proofs.YtblfffbmklkhmaaGreat
open Go.RowKit
/-- A script of steps in memory. -/
structure Stp (w : World) (b off len : Nat) (K X Y Z : Nat → Int) : Prop where
  c0 : ∀ i, i < len → w.cell? ⟨b, off + i * 4, none⟩ = some (.int .i64 (K i))
  c1 : ∀ i, i < len → w.cell? ⟨b, off + i * 4 + 1, none⟩ = some (.int .i64 (X i))
  c2 : ∀ i, i < len → w.cell? ⟨b, off + i * 4 + 2, none⟩ = some (.int .i64 (Y i))
  c3 : ∀ i, i < len → w.cell? ⟨b, off + i * 4 + 3, none⟩ = some (.int .i64 (Z i))
  fit : ∀ i, i < len → Fit (X i) ∧ Fit (Y i) ∧ Fit (Z i)
  lt : b < w.heap.size
theorem Stp.keep {w w' : World} {b off len : Nat} {K X Y Z : Nat → Int} (h : Stp w b off len K X Y Z) (he : w'.heap[b]? = w.heap[b]?) : Stp w' b off len K X Y Z := by
  have e : ∀ o, w'.cell? ⟨b, o, none⟩ = w.cell? ⟨b, o, none⟩ := fun o => by unfold World.cell?; simp only [he]
  exact ⟨fun i hi => (e _).trans (h.c0 i hi), fun i hi => (e _).trans (h.c1 i hi), fun i hi => (e _).trans (h.c2 i hi), fun i hi => (e _).trans (h.c3 i hi), h.fit, by
    have h1 := Array.getElem?_eq_getElem h.lt
    rw [h1] at he
    exact (Array.getElem?_eq_some_iff.1 he).1⟩
/-- What becomes of a grove. -/
noncomputable def growS (b : Nat) (last : Int) (K X Y Z : Nat → Int) (S : List PNd) (made : Nat) : Nat → List PNd × Nat
  | 0 => (S, made)
  | i + 1 => stepS b last (growS b last K X Y Z S made i).1 (growS b last K X Y Z S made i).2 (K i) (X i) (Y i) (Z i)
theorem stepS_made (b : Nat) (last : Int) (S : List PNd) (made : Nat) (kd X Y Z : Int) : (stepS b last S made kd X Y Z).2 ≤ made + 1 := by
  unfold stepS insertS
  (repeat' split) <;> simp
theorem growS_made (b : Nat) (last : Int) (K X Y Z : Nat → Int) (S : List PNd) (made : Nat) : ∀ i, (growS b last K X Y Z S made i).2 ≤ made + i
  | 0 => Nat.le_refl _
  | i + 1 => by
    have h1 := growS_made b last K X Y Z S made i
    have h2 := stepS_made b last (growS b last K X Y Z S made i).1 (growS b last K X Y Z S made i).2 (K i) (X i) (Y i) (Z i)
    show (stepS b last _ _ _ _ _ _).2 ≤ _
    omega
section
set_option maxRecDepth 100000
set_option maxHeartbeats 1500000
variable {DS : World → Value → Tree → Nat → (Nat → Mk) → List PRu → (Nat → Prop) → Prop}
theorem kgrow_none (w : World) (g : Nat) (px vl : Value) (made b : Nat) (ns : List GN) (rs : List PRu) (Fg Fx : Nat → Prop) (h : GD DS w g px vl made b ns rs Fg Fx) (last : Int) (a0 : Option Addr) (cap : Nat) :
    Calls Tryz.prog 20 #[.pointer (some ⟨g, 0, none⟩), .slice a0 0 cap, .int .i64 last] w fun e w' => KStepPost DS w (fun k => Fg k ∨ Fx k) g px b (ns.map GN.pl) made rs e w' := by
  have HR : Hid (KStepPost DS w (fun k => Fg k ∨ Fx k) g px b (ns.map GN.pl) made rs (.returned (.bool true)) w) := ⟨rfl, h.gq⟩
  clear h
  go_enter Tryz.func20, Tryz.ntmps20
  go_wp2_with fail
  go_loopg [7] 0 (fun gk iv wr => iv = .int .i64 (0 : Nat) ∧ wr = w)
  case atStart => exact ⟨rfl, rfl⟩
  case round =>
    obtain ⟨rfl, rfl⟩ := hrel
    go_wp2
    go_ret
    exact HR.out
end
end Go.Proofs.YtblfffbmklkhmaaGreat
