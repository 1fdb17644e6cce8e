/- Own work. -/
import Derived.Test.YtblfffbmklkhmaaGreatAw24
import Derived.Test.YtblfffbmklkhmaaGreatAw42
namespace Go.Proofs.YtblfffbmklkhmaaGreat
open Go.RowKit
/-- The program's document, with Show, Slice, Stale and Stored. -/
structure DocOK4 (DS : World → Value → Tree → Nat → (Nat → Mk) → List PRu → (Nat → Prop) → Prop) : Prop extends DocOK DS where
  shw : ∀ (w : World) (px : Value) (T : Tree) (made : Nat) (M : Nat → Mk) (rs : List PRu) (F : Nat → Prop) (n : Int) (on : Bool), DS w px T made M rs F → Calls Tryz.prog 106 #[px, .int .i64 n, .bool on] w fun e w' =>
    e = .returned (.int .i64 (if (tFind T n).isSome then 0 else 5)) ∧ DS w' px T made M rs (More F w) ∧ Fr w w' F
  sli : ∀ (w : World) (px : Value) (T : Tree) (made : Nat) (M : Nat → Mk) (rs : List PRu) (F : Nat → Prop) (budget : Int), DS w px T made M rs F → Calls Tryz.prog 30 #[px, .int .i64 budget] w fun e w' =>
    ∃ n : Nat, e = .returned (.int .i64 n) ∧ n ≤ budget.toNat ∧ n ≤ T.length ∧ DS w' px T made M rs (More F w) ∧ Fr w w' F
  stl : ∀ (w : World) (px : Value) (T : Tree) (made : Nat) (M : Nat → Mk) (rs : List PRu) (F : Nat → Prop), DS w px T made M rs F → Calls Tryz.prog 31 #[px] w fun e w' =>
    ∃ (a : Option Addr) (l c : Nat), e = .returned (.slice a l c) ∧ l ≤ T.length ∧ DS w' px T made M rs (More F w) ∧ Fr w w' F
  sto : ∀ (w : World) (px : Value) (T : Tree) (made : Nat) (M : Nat → Mk) (rs : List PRu) (F : Nat → Prop) (n : Int) (s : ByteArray), DS w px T made M rs F → Calls Tryz.prog 51 #[px, .int .i64 n, .string s] w fun e w' =>
    ∃ (v : Int) (f : Bool), e = .returned (.tuple #[.int .i64 v, .bool f, .int .i64 (qryErr T n s)]) ∧ DS w' px T made M rs (More F w) ∧ Fr w w' F
theorem DSk.wide {w : World} {px : Value} {T : Tree} {made : Nat} {M : Nat → Mk} {rs : List PRu} {kl : List (Int × List Int)} {F F' : Nat → Prop} (h : DSk w px T made M rs kl F) (hs : ∀ k, F k → F' k) : DSk w px T made M rs kl F' := by
  obtain ⟨b, vS, v, els, G, h1, h2, h3, h4, h5, h6, h7⟩ := h
  exact ⟨b, vS, v, els, G, h1, h2, h3, hs _ h4, fun j hj => hs j (h5 j hj), fun j hj => hs j (h6 j hj), fun k hk => hs k (h7 k hk)⟩
theorem doc_ok4 : DocOK4 DSd where
  toDocOK := doc_ok
  shw := fun w px T made M rs F n on ⟨kl, h⟩ => (dshw_any w px T made M rs kl F n on h).mono fun e w' ⟨h1, h2, h3⟩ => ⟨h1, ⟨kl, h2⟩, h3⟩
  sli := fun w px T made M rs F budget ⟨kl, h⟩ => (dsli_any w px T made M rs kl F budget h).mono fun e w' ⟨n, kl', h1, h2, _, _, h3, h4⟩ => ⟨n, h1, by omega, by have := sc_le T kl; omega, ⟨kl', h3⟩, h4⟩
  stl := fun w px T made M rs F ⟨kl, h⟩ => (dstl_any w px T made M rs kl F h).mono fun e w' ⟨l, a, c, h1, h2, _, h3, h4, _⟩ => ⟨a, l.length, c, h1, h2, ⟨kl, h3.wide (fun k hk => Or.inl hk.1)⟩, (Fr.refl w F).below h4⟩
  sto := fun w px T made M rs F n s ⟨kl, h⟩ => (dsto_any w px T made M rs kl F n s h).mono fun e w' ⟨h1, h2, h3⟩ => ⟨_, _, h1, ⟨kl, h2.wide (fun k hk => Or.inl hk.1)⟩, (Fr.refl w F).below h3⟩
section
set_option maxRecDepth 100000
set_option maxHeartbeats 1500000
variable {DS : World → Value → Tree → Nat → (Nat → Mk) → List PRu → (Nat → Prop) → Prop}
theorem klook4_any (hP4 : DocOK4 DS) (w : World) (g : Nat) (px vl : Value) (made b : Nat) (ns : List GN) (rs : List PRu) (Fg Fx : Nat → Prop) (h : GD DS w g px vl made b ns rs Fg Fx) (kd X Y Z : Int) (hX : Fit X) (hY : Fit Y) (hk : kd ≤ 11) :
    Calls Tryz.prog 71 #[.pointer (some ⟨g, 0, none⟩), .agg #[.int .i64 kd, .int .i64 X, .int .i64 Y, .int .i64 Z]] w fun e w' => KStepPost DS w (fun k => Fg k ∨ Fx k) g px b (ns.map GN.pl) made rs e w' := by
  by_cases hk7 : kd ≤ 7
  · exact klook_any hP4.toDocOK w g px vl made b ns rs Fg Fx h kd X Y Z hX hY hk7
  have hP := hP4.toDocOK
  have HP4 : Hid (DocOK4 DS) := hP4
  clear hP4
  obtain ⟨pa, rfl⟩ := hP.ptr h.ds
  obtain ⟨a, c, hv⟩ := own_shape h.gr.row
  subst hv
  have HP : Hid (DocOK DS) := hP
  have hlen := h.len
  obtain ⟨h0, hl⟩ := hlen
  obtain ⟨n, hn, hpk, r, hr, hrl, hrc⟩ := pick_node h.gr h0 X
  subst hr
  have HD : Hid (GD DS w g (.pointer (some pa)) (.slice (some ⟨r, 0, none⟩) ns.length c) made b ns rs Fg Fx ∧ n ∈ ns) := ⟨h, hn⟩
  have HB0 : Hid (∀ k, Below w.heap.size w ((w.alloc (stepO kd X Y Z)).drewN k)) := fun k => below_draws ((Below.refl _ _).alloc (Nat.le_refl _) _) k
  have hgl := h.gr.lt
  have q1 := h.gr.c1
  obtain ⟨n0, _, _, _, _, hnb⟩ := node_cells (h.gr.nd n hn)
  have hpl : ((pickZ X ns.length : Nat) : Int) < (ns.length : Int) := by have := pickZ_lt X h0; omega
  have HPC : Hid (∀ k, Calls Tryz.prog 17 #[.int .i64 X, .int .i64 (ns.length : Int)] ((w.alloc (stepO kd X Y Z)).drewN k) fun e w' => e = .returned (.int .i64 ((pickZ X ns.length : Nat) : Int)) ∧ w' = (w.alloc (stepO kd X Y Z)).drewN k) := fun k => kpick_any _ X ns.length hX h0 (by omega)
  clear h hn hpk hP
  generalize pickZ X ns.length = xi at hrc hpl HPC
  go_enter Tryz.func71, Tryz.ntmps71
  go_upto_region 1 with fail
  go_quiet ((go_at_call 17; exact Calls.quiet_of_same (HPC.out _)))
  go_upto_region 2 with fail
  have HB4 : Hid (Below w.heap.size w ((w.alloc (stepO kd X Y Z)).drewN nq)) := HB0.out nq
  have HSB : Hid (((w.alloc (stepO kd X Y Z)).drewN nq).heap[w.heap.size]? = some (stepO kd X Y Z)) := heap_alloc_new w _
  clear q1 hrc HB0 HPC n0 hgl hrl hnb
  generalize (w.alloc (stepO kd X Y Z)).drewN nq = W3 at HB4 HSB ⊢
  have s2 : W3.cell? ⟨w.heap.size, 2, none⟩ = some (.int .i64 Y) := cell_of_blk HSB.out rfl
  have s0 : W3.cell? ⟨w.heap.size, 0, none⟩ = some (.int .i64 kd) := cell_of_blk HSB.out rfl
  have hszl : w.heap.size < W3.heap.size := (Array.getElem?_eq_some_iff.1 HSB.out).1
  have HPD : Hid (Calls Tryz.prog 17 #[.int .i64 Y, .int .i64 9] W3 fun e w' => e = .returned (.int .i64 ((pickZ Y 9 : Nat) : Int)) ∧ w' = W3) := kpick_any _ Y 9 hY (by decide) (by decide)
  have hp9 : pickZ Y 9 < 9 := pickZ_lt Y (by decide)
  generalize pickZ Y 9 = p at HPD hp9
  go_wp2_with fail
  refine HPD.out.mono ?_
  rintro e w4 ⟨rfl, rfl⟩
  have g7 : (kd == 7) = false := by simp; omega
  have HG3 : Hid (GR w4 g (.pointer (some pa)) (.slice (some ⟨r, 0, none⟩) ns.length c) made b ns) := HD.out.1.gr.below HB4.out
  have HDIS : Hid (∀ k, Fg k → ¬ More Fx w4.drew k) := fun k hk hx => by
    rcases hx with hx | hx
    · exact HD.out.1.gx k hk hx
    · have h1 := HD.out.1.here k (Or.inl hk)
      have h2 := HB4.out.size
      have h3 : w4.heap.size ≤ k := hx
      omega
  have HS0 : Hid (w4.heap[w.heap.size]? = some (stepO kd X Y Z)) := HSB.out
  have HNF : Hid (¬ Fx w.heap.size) := fun hx => by have := HD.out.1.here _ (Or.inr hx); omega
  clear HPD HSB
  have HTL : Hid ((treeS (ns.map GN.pl)).length = ns.length) := by unfold Hid; rw [treeS_len, List.length_map]
  have HTF : Hid ((tFind (treeS (ns.map GN.pl)) n.num).isSome = true) := by
    unfold Hid
    have := treeS_find HD.out.1.pw (List.mem_map.2 ⟨n, HD.out.2, rfl⟩ : n.pl ∈ ns.map GN.pl)
    rw [show (n.pl.num : Int) = (n.num : Int) from rfl] at this
    rw [this]
    rfl
  have hkc : kd = 8 ∨ kd = 9 ∨ kd = 10 ∨ kd = 11 := by omega
  clear hk hk7
  rcases hkc with rfl | rfl | rfl | rfl
  · have HDS3 : Hid (DS w4.drew (.pointer (some pa)) (treeS (ns.map GN.pl)) made (mOf b (ns.map GN.pl)) rs Fx) := HP.out.keep HD.out.1.ds (fun k _ hl => HB4.out.block k hl) HB4.out.size
    have HC4 : Hid (∀ wx, Fr w4.drew wx Fx → wx.cell? ⟨g, 0, none⟩ = some (.pointer (some pa)) ∧ wx.cell? ⟨w.heap.size, 2, none⟩ = some (.int .i64 Y)) := fun wx hf => by
      have e1 : wx.heap[g]? = w4.heap[g]? := hf.block g HG3.out.lt (HD.out.1.gx g HD.out.1.inb)
      have e2 : wx.heap[w.heap.size]? = w4.heap[w.heap.size]? := hf.block w.heap.size hszl HNF.out
      exact ⟨cell_of_blk (e1.trans HG3.out.blk) rfl, cell_of_blk (e2.trans HS0.out) rfl⟩
    have H04 : Hid (Fr w4.drew w4.drew Fx) := Fr.refl _ _
    go_upto_region 5 with fail
    go_cut [7] (fun yv wx => yv = .int .i64 0 ∧ Hid (DS wx (.pointer (some pa)) (treeS (ns.map GN.pl)) made (mOf b (ns.map GN.pl)) rs (More Fx w4.drew) ∧ Fr w4.drew wx Fx))
    case first =>
      go_region_held3 (fun w' => w'.cell? ⟨g, 0, none⟩ = some (.pointer (some pa)) ∧ w'.cell? ⟨w.heap.size, 2, none⟩ = some (.int .i64 Y)) (first | exact HC4.out _ H04.out | exact HC4.out _ HX.out.2)
        (first | (go_at_call 106; refine (HP4.out.shw _ (.pointer (some pa)) (treeS (ns.map GN.pl)) made (mOf b (ns.map GN.pl)) rs Fx n.num _ HDS3.out).mono ?_; rw [HTF.out]; rintro e w5 ⟨rfl, hds, hf5⟩; have HX : Hid (DS w5 (.pointer (some pa)) (treeS (ns.map GN.pl)) made (mOf b (ns.map GN.pl)) rs (More Fx w4.drew) ∧ Fr w4.drew w5 Fx) := ⟨hds, hf5⟩; clear hds hf5))
      all_goals
        go_wp2_with fail
        go_meet
        exact ⟨rfl, HX⟩
    case rest =>
      obtain ⟨rfl, HX⟩ := hcut
      obtain ⟨W4, rfl⟩ : ∃ W4, W4 = wc := ⟨_, rfl⟩
      have HG4 : Hid (GR W4 g (.pointer (some pa)) (.slice (some ⟨r, 0, none⟩) ns.length c) made b ns) := (HG3.out.below (Below.refl _ _).drew).keep (fun k hl hk => HX.out.2.block k hl (HD.out.1.gx k (HD.out.1.mine hk)))
      have HF4 : Hid (Fr w W4 (fun k => Fg k ∨ Fx k)) := ((Fr.refl w (fun k => Fg k ∨ Fx k)).below HB4.out).drew1.trans (HX.out.2.mono (fun k hk => Or.inr hk))
      have HR : Hid (KStepPost DS w (fun k => Fg k ∨ Fx k) g (.pointer (some pa)) b (ns.map GN.pl) made rs (.returned (.bool true)) W4) := by
        refine ⟨rfl, ?_⟩
        exact gq_close HP.out rfl HG4.out HD.out.1.pw HX.out.1 HF4.out (fun k hk => Or.inl (HD.out.1.mine hk)) (fun k hk => hk.imp id (fun hk => Nat.le_trans HB4.out.size hk)) (fun k hk => HDIS.out k (HD.out.1.mine hk))
      go_wp2
      go_ret
      exact HR.out
  · have HDS3 : Hid (DS w4 (.pointer (some pa)) (treeS (ns.map GN.pl)) made (mOf b (ns.map GN.pl)) rs Fx) := HP.out.keep HD.out.1.ds (fun k _ hl => HB4.out.block k hl) HB4.out.size
    have s1 : w4.cell? ⟨w.heap.size, 1, none⟩ = some (.int .i64 X) := cell_of_blk HS0.out rfl
    have HPE : Hid (Calls Tryz.prog 17 #[.int .i64 X, .int .i64 30] w4 fun e w' => e = .returned (.int .i64 ((pickZ X 30 : Nat) : Int)) ∧ w' = w4) := kpick_any _ X 30 hX (by decide) (by decide)
    have g0 : w4.cell? ⟨g, 0, none⟩ = some (.pointer (some pa)) := cell_of_blk HG3.out.blk rfl
    generalize pickZ X 30 = bu at HPE
    go_wp2_with fail
    refine HPE.out.mono ?_
    rintro e w5 ⟨rfl, rfl⟩
    go_wp2_with fail
    refine (HP4.out.sli w5 (.pointer (some pa)) (treeS (ns.map GN.pl)) made (mOf b (ns.map GN.pl)) rs Fx (bu : Int) HDS3.out).mono ?_
    rintro e w6 ⟨m, rfl, hm1, hm2, hds, hf6⟩
    rw [HTL.out] at hm2
    have HX : Hid (DS w6 (.pointer (some pa)) (treeS (ns.map GN.pl)) made (mOf b (ns.map GN.pl)) rs (More Fx w5.drew) ∧ Fr w5.drew w6 Fx) := ⟨hds, ⟨hf6.os, hf6.tape, hf6.output, hf6.size, hf6.block⟩⟩
    obtain ⟨W4, rfl⟩ : ∃ W4, W4 = w6 := ⟨_, rfl⟩
    have hmb : m ≤ bu := by omega
    have d1 : decide ((0 : Int) ≤ (m : Int)) = true := by simp
    have d2 : decide (m ≤ bu) = true := by simpa using hmb
    have d2' : decide ((m : Int) ≤ (bu : Int)) = true := by simp; omega
    have d3 : decide (m ≤ ns.length) = true := by simpa using hm2
    have d3' : decide ((m : Int) ≤ (ns.length : Int)) = true := by simp; omega
    have HG4 : Hid (GR W4 g (.pointer (some pa)) (.slice (some ⟨r, 0, none⟩) ns.length c) made b ns) := (HG3.out.below (Below.refl _ _).drew).keep (fun k hl hk => HX.out.2.block k hl (HD.out.1.gx k (HD.out.1.mine hk)))
    have HF4 : Hid (Fr w W4 (fun k => Fg k ∨ Fx k)) := ((Fr.refl w (fun k => Fg k ∨ Fx k)).below HB4.out).drew1.trans (HX.out.2.mono (fun k hk => Or.inr hk))
    have HR : Hid (KStepPost DS w (fun k => Fg k ∨ Fx k) g (.pointer (some pa)) b (ns.map GN.pl) made rs (.returned (.bool true)) W4) := by
        refine ⟨rfl, ?_⟩
        exact gq_close HP.out rfl HG4.out HD.out.1.pw HX.out.1 HF4.out (fun k hk => Or.inl (HD.out.1.mine hk)) (fun k hk => hk.imp id (fun hk => Nat.le_trans HB4.out.size hk)) (fun k hk => HDIS.out k (HD.out.1.mine hk))
    have y1 : W4.cell? ⟨g, 1, none⟩ = some (.slice (some ⟨r, 0, none⟩) ns.length c) := HG4.out.c1
    clear hds hf6
    go_wp2
    go_ret
    exact HR.out
  · have HDS3 : Hid (DS w4 (.pointer (some pa)) (treeS (ns.map GN.pl)) made (mOf b (ns.map GN.pl)) rs Fx) := HP.out.keep HD.out.1.ds (fun k _ hl => HB4.out.block k hl) HB4.out.size
    have g0 : w4.cell? ⟨g, 0, none⟩ = some (.pointer (some pa)) := cell_of_blk HG3.out.blk rfl
    go_wp2_with fail
    refine (HP4.out.stl w4 (.pointer (some pa)) (treeS (ns.map GN.pl)) made (mOf b (ns.map GN.pl)) rs Fx HDS3.out).mono ?_
    rintro e w6 ⟨av, m, cv, rfl, hm2, hds, hf6⟩
    rw [HTL.out] at hm2
    have HX : Hid (DS w6 (.pointer (some pa)) (treeS (ns.map GN.pl)) made (mOf b (ns.map GN.pl)) rs (More Fx w4.drew) ∧ Fr w4.drew w6 Fx) := ⟨hds, ⟨hf6.os, hf6.tape, hf6.output, hf6.size, hf6.block⟩⟩
    obtain ⟨W4, rfl⟩ : ∃ W4, W4 = w6 := ⟨_, rfl⟩
    have d3 : decide (m ≤ ns.length) = true := by simpa using hm2
    have d3' : decide ((m : Int) ≤ (ns.length : Int)) = true := by simp; omega
    have HG4 : Hid (GR W4 g (.pointer (some pa)) (.slice (some ⟨r, 0, none⟩) ns.length c) made b ns) := (HG3.out.below (Below.refl _ _).drew).keep (fun k hl hk => HX.out.2.block k hl (HD.out.1.gx k (HD.out.1.mine hk)))
    have HF4 : Hid (Fr w W4 (fun k => Fg k ∨ Fx k)) := ((Fr.refl w (fun k => Fg k ∨ Fx k)).below HB4.out).drew1.trans (HX.out.2.mono (fun k hk => Or.inr hk))
    have HR : Hid (KStepPost DS w (fun k => Fg k ∨ Fx k) g (.pointer (some pa)) b (ns.map GN.pl) made rs (.returned (.bool true)) W4) := by
        refine ⟨rfl, ?_⟩
        exact gq_close HP.out rfl HG4.out HD.out.1.pw HX.out.1 HF4.out (fun k hk => Or.inl (HD.out.1.mine hk)) (fun k hk => hk.imp id (fun hk => Nat.le_trans HB4.out.size hk)) (fun k hk => HDIS.out k (HD.out.1.mine hk))
    have y1 : W4.cell? ⟨g, 1, none⟩ = some (.slice (some ⟨r, 0, none⟩) ns.length c) := HG4.out.c1
    clear hds hf6
    go_wp2
    go_ret
    exact HR.out
  · have HDS3 : Hid (DS w4.drew (.pointer (some pa)) (treeS (ns.map GN.pl)) made (mOf b (ns.map GN.pl)) rs Fx) := HP.out.keep HD.out.1.ds (fun k _ hl => HB4.out.block k hl) HB4.out.size
    have HC4 : Hid (∀ wx, Fr w4.drew wx Fx → wx.cell? ⟨g, 0, none⟩ = some (.pointer (some pa))) := fun wx hf => by
      have e1 : wx.heap[g]? = w4.heap[g]? := hf.block g HG3.out.lt (HD.out.1.gx g HD.out.1.inb)
      exact cell_of_blk (e1.trans HG3.out.blk) rfl
    have H04 : Hid (Fr w4.drew w4.drew Fx) := Fr.refl _ _
    have hwr : IntKind.i64.wrap ((p : Int) + 1) = (p : Int) + 1 := by rw [IntKind.wrap_i64]; omega
    have hpa : (0 : Int) ≤ (p : Int) := by omega
    have hpb : (p : Int) ≤ (p : Int) + 1 := by omega
    have hpc : (p : Int) + 1 ≤ 9 := by omega
    have hpd : (p : Int) + 1 ≤ ((⟨#[65, 66, 67, 68, 69, 70, 88, 89, 90]⟩ : ByteArray).size : Int) := hpc
    have hpe : (0 : Int) ≤ (p : Int) + 1 := by omega
    have HER : Hid (qryErr (treeS (ns.map GN.pl)) n.num (prB p) = 0) := qryErr_in HD.out.1.pw (List.mem_map.2 ⟨n, HD.out.2, rfl⟩ : n.pl ∈ ns.map GN.pl) hp9
    go_upto_region 18 with fail
    go_cut [15] (fun yv wx => yv = .int .i64 0 ∧ Hid (DS wx (.pointer (some pa)) (treeS (ns.map GN.pl)) made (mOf b (ns.map GN.pl)) rs (More Fx w4.drew) ∧ Fr w4.drew wx Fx))
    case first =>
      go_region_held3 (fun w' => w'.cell? ⟨g, 0, none⟩ = some (.pointer (some pa))) (first | exact HC4.out _ H04.out | exact HC4.out _ HX.out.2)
        (first | (go_at_call 51; refine (HP4.out.sto _ (.pointer (some pa)) (treeS (ns.map GN.pl)) made (mOf b (ns.map GN.pl)) rs Fx n.num (prB p) HDS3.out).mono ?_; rw [HER.out]; rintro e w5 ⟨zv, zf, rfl, hds, hf5⟩; have HX : Hid (DS w5 (.pointer (some pa)) (treeS (ns.map GN.pl)) made (mOf b (ns.map GN.pl)) rs (More Fx w4.drew) ∧ Fr w4.drew w5 Fx) := ⟨hds, hf5⟩; clear hds hf5))
      all_goals
        go_wp2_with fail
        go_meet
        exact ⟨rfl, HX⟩
    case rest =>
      obtain ⟨rfl, HX⟩ := hcut
      obtain ⟨W4, rfl⟩ : ∃ W4, W4 = wc := ⟨_, rfl⟩
      have HG4 : Hid (GR W4 g (.pointer (some pa)) (.slice (some ⟨r, 0, none⟩) ns.length c) made b ns) := (HG3.out.below (Below.refl _ _).drew).keep (fun k hl hk => HX.out.2.block k hl (HD.out.1.gx k (HD.out.1.mine hk)))
      have HF4 : Hid (Fr w W4 (fun k => Fg k ∨ Fx k)) := ((Fr.refl w (fun k => Fg k ∨ Fx k)).below HB4.out).drew1.trans (HX.out.2.mono (fun k hk => Or.inr hk))
      have HR : Hid (KStepPost DS w (fun k => Fg k ∨ Fx k) g (.pointer (some pa)) b (ns.map GN.pl) made rs (.returned (.bool true)) W4) := by
        refine ⟨rfl, ?_⟩
        exact gq_close HP.out rfl HG4.out HD.out.1.pw HX.out.1 HF4.out (fun k hk => Or.inl (HD.out.1.mine hk)) (fun k hk => hk.imp id (fun hk => Nat.le_trans HB4.out.size hk)) (fun k hk => HDIS.out k (HD.out.1.mine hk))
      go_wp2
      go_ret
      exact HR.out
end
end Go.Proofs.YtblfffbmklkhmaaGreat

namespace Go.Proofs.YtblfffbmklkhmaaGreat
open Go.RowKit
section
set_option maxRecDepth 100000
set_option maxHeartbeats 1500000
variable {DS : World → Value → Tree → Nat → (Nat → Mk) → List PRu → (Nat → Prop) → Prop}
theorem kstep4_any (hP4 : DocOK4 DS) (w : World) (g : Nat) (px vl : Value) (made b : Nat) (ns : List GN) (rs : List PRu) (Fg Fx : Nat → Prop) (h : GD DS w g px vl made b ns rs Fg Fx) (last kd X Y Z : Int) (hl11 : last ≤ 11) (hX : Fit X) (hY : Fit Y) (hZ : Fit Z) (hb : b ≤ 25) (hmade : made ≤ 4611686018427387904) :
    Calls Tryz.prog 38 #[.pointer (some ⟨g, 0, none⟩), .agg #[.int .i64 kd, .int .i64 X, .int .i64 Y, .int .i64 Z], .int .i64 last] w fun e w' => KStepPost DS w (fun k => Fg k ∨ Fx k) g px b (stepS b last (ns.map GN.pl) made kd X Y Z).1 (stepS b last (ns.map GN.pl) made kd X Y Z).2 rs e w' := by
  have hP := hP4.toDocOK
  have HP4 : Hid (DocOK4 DS) := hP4
  clear hP4
  have HP : Hid (DocOK DS) := hP
  have HB : Hid (Below w.heap.size w (w.alloc (stepO kd X Y Z))) := (Below.refl _ _).alloc (Nat.le_refl _) _
  have HD1 : Hid (GD DS (w.alloc (stepO kd X Y Z)) g px vl made b ns rs Fg Fx) := h.below hP HB.out
  have HR0 : Hid (KStepPost DS w (fun k => Fg k ∨ Fx k) g px b (ns.map GN.pl) made rs (.returned (.bool true)) (w.alloc (stepO kd X Y Z))) := kpre0 hP h HB.out
  clear h hP
  by_cases hlk : last < kd
  · have HS : Hid (stepS b last (ns.map GN.pl) made kd X Y Z = (ns.map GN.pl, made)) := by unfold Hid stepS; rw [if_pos hlk]
    rw [HS.out]
    have gl : decide (last < kd) = true := by simpa using hlk
    clear hlk
    go_enter Tryz.func38, Tryz.ntmps38
    go_wp2
    go_ret
    exact HR0.out
  have gl : decide (last < kd) = false := by simpa using hlk
  have hk11 : kd ≤ 11 := by omega
  by_cases h1 : kd = 1
  · subst h1
    have HS : Hid (stepS b last (ns.map GN.pl) made 1 X Y Z = insertS b (ns.map GN.pl) made X Y Z) := by unfold Hid stepS; rw [if_neg hlk, if_pos rfl]
    rw [HS.out]
    clear hlk hk11
    go_enter Tryz.func38, Tryz.ntmps38
    go_wp2_with fail
    refine (kinsert_any HP.out _ g px vl made b ns rs Fg Fx HD1.out 1 X Y Z hX hY hZ hb hmade).mono ?_
    intro e w2 hq
    have HQ := kpre HB.out hq
    obtain ⟨rfl, -⟩ := hq
    go_wp2
    go_ret
    exact HQ
  by_cases h2 : kd = 2
  · subst h2
    have HS : Hid (stepS b last (ns.map GN.pl) made 2 X Y Z = (removeS (ns.map GN.pl) X, made)) := by unfold Hid stepS; rw [if_neg hlk, if_neg (by decide), if_pos rfl]
    rw [HS.out]
    clear hlk hk11
    go_enter Tryz.func38, Tryz.ntmps38
    go_wp2_with fail
    refine (kremove_any HP.out _ g px vl made b ns rs Fg Fx HD1.out 2 X Y Z hX).mono ?_
    intro e w2 hq
    have HQ := kpre HB.out hq
    obtain ⟨rfl, -⟩ := hq
    go_wp2
    go_ret
    exact HQ
  by_cases h3 : kd = 3
  · subst h3
    have HS : Hid (stepS b last (ns.map GN.pl) made 3 X Y Z = (moveS (ns.map GN.pl) X Y Z, made)) := by unfold Hid stepS; rw [if_neg hlk, if_neg (by decide), if_neg (by decide), if_pos rfl]
    rw [HS.out]
    clear hlk hk11
    go_enter Tryz.func38, Tryz.ntmps38
    go_wp2_with fail
    refine (kmove_any HP.out _ g px vl made b ns rs Fg Fx HD1.out 3 X Y Z hX hY hZ).mono ?_
    intro e w2 hq
    have HQ := kpre HB.out hq
    obtain ⟨rfl, -⟩ := hq
    go_wp2
    go_ret
    exact HQ
  by_cases h4 : kd = 4
  · subst h4
    have HS : Hid (stepS b last (ns.map GN.pl) made 4 X Y Z = (markS b (ns.map GN.pl) 4 X Y, made)) := by unfold Hid stepS; rw [if_neg hlk, if_neg (by decide), if_neg (by decide), if_neg (by decide), if_pos (by decide)]
    rw [HS.out]
    clear hlk hk11
    go_enter Tryz.func38, Tryz.ntmps38
    go_wp2_with fail
    refine (kclass_any HP.out _ g px vl made b ns rs Fg Fx HD1.out 4 X Y Z (by decide) hX hY hb).mono ?_
    intro e w2 hq
    have HQ := kpre HB.out hq
    obtain ⟨rfl, -⟩ := hq
    go_wp2
    go_ret
    exact HQ
  by_cases h5 : kd = 5
  · subst h5
    have HS : Hid (stepS b last (ns.map GN.pl) made 5 X Y Z = (markS b (ns.map GN.pl) 5 X Y, made)) := by unfold Hid stepS; rw [if_neg hlk, if_neg (by decide), if_neg (by decide), if_neg (by decide), if_pos (by decide)]
    rw [HS.out]
    clear hlk hk11
    go_enter Tryz.func38, Tryz.ntmps38
    go_wp2_with fail
    refine (kclass_any HP.out _ g px vl made b ns rs Fg Fx HD1.out 5 X Y Z (by decide) hX hY hb).mono ?_
    intro e w2 hq
    have HQ := kpre HB.out hq
    obtain ⟨rfl, -⟩ := hq
    go_wp2
    go_ret
    exact HQ
  by_cases h6 : kd = 6
  · subst h6
    have HS : Hid (stepS b last (ns.map GN.pl) made 6 X Y Z = (markS b (ns.map GN.pl) 6 X Y, made)) := by unfold Hid stepS; rw [if_neg hlk, if_neg (by decide), if_neg (by decide), if_neg (by decide), if_pos (by decide)]
    rw [HS.out]
    clear hlk hk11
    go_enter Tryz.func38, Tryz.ntmps38
    go_wp2_with fail
    refine (kname_any HP.out _ g px vl made b ns rs Fg Fx HD1.out X Y Z hX hY hb).mono ?_
    intro e w2 hq
    have HQ := kpre HB.out hq
    obtain ⟨rfl, -⟩ := hq
    go_wp2
    go_ret
    exact HQ
  have HS : Hid (stepS b last (ns.map GN.pl) made kd X Y Z = (ns.map GN.pl, made)) := by unfold Hid stepS; rw [if_neg hlk, if_neg h1, if_neg h2, if_neg h3, if_neg (by omega)]
  rw [HS.out]
  have g1 : (kd == 1) = false := by simpa using h1
  have g2 : (kd == 2) = false := by simpa using h2
  have g3 : (kd == 3) = false := by simpa using h3
  have g4 : (kd == 4) = false := by simpa using h4
  have g5 : (kd == 5) = false := by simpa using h5
  have g6 : (kd == 6) = false := by simpa using h6
  clear hlk h1 h2 h3 h4 h5 h6
  go_enter Tryz.func38, Tryz.ntmps38
  go_wp2_with fail
  refine (klook4_any HP4.out _ g px vl made b ns rs Fg Fx HD1.out kd X Y Z hX hY hk11).mono ?_
  intro e w2 hq
  have HQ := kpre HB.out hq
  obtain ⟨rfl, -⟩ := hq
  go_wp2
  go_ret
  exact HQ
theorem kgrow4_any (hP : DocOK4 DS) (w : World) (g : Nat) (px vl : Value) (made b : Nat) (ns : List GN) (rs : List PRu) (Fg Fx : Nat → Prop) (h : GD DS w g px vl made b ns rs Fg Fx) (last : Int) (hl11 : last ≤ 11) (hb : b ≤ 25) (b0 off len cap : Nat) (K X Y Z : Nat → Int) (hs : Stp w b0 off len K X Y Z) (hna : ¬ (Fg b0 ∨ Fx b0)) (hm : made + len ≤ 4611686018427387904) :
    Calls Tryz.prog 20 #[.pointer (some ⟨g, 0, none⟩), .slice (some ⟨b0, off, none⟩) len cap, .int .i64 last] w fun e w' => KStepPost DS w (fun k => Fg k ∨ Fx k) g px b (growS b last K X Y Z (ns.map GN.pl) made len).1 (growS b last K X Y Z (ns.map GN.pl) made len).2 rs e w' := by
  have HP : Hid (DocOK4 DS) := hP
  have HS : Hid (Stp w b0 off len K X Y Z ∧ ¬ (Fg b0 ∨ Fx b0)) := ⟨hs, hna⟩
  have HQ0 : Hid (GQ DS w (fun k => Fg k ∨ Fx k) w g px made b (ns.map GN.pl) rs) := h.gq
  clear h hP hs hna
  generalize ns.map GN.pl = S at HQ0
  go_enter Tryz.func20, Tryz.ntmps20
  go_wp2_with fail
  go_loopg [7] len (fun gk iv wr => ∃ i : Nat, iv = .int .i64 i ∧ i ≤ len ∧ len - i ≤ gk ∧ Hid (GQ DS w (fun k => Fg k ∨ Fx k) wr g px (growS b last K X Y Z S made i).2 b (growS b last K X Y Z S made i).1 rs))
  case atStart => exact ⟨0, rfl, Nat.zero_le _, by omega, HQ0⟩
  case round =>
    obtain ⟨i, rfl, hi, hgk, HI⟩ := hrel
    by_cases hlt : i < len
    · have hd : decide ((i : Int) < (len : Int)) = true := by simp; omega
      have HNX : Hid (growS b last K X Y Z S made (i + 1) = stepS b last (growS b last K X Y Z S made i).1 (growS b last K X Y Z S made i).2 (K i) (X i) (Y i) (Z i)) := rfl
      have hmi := growS_made b last K X Y Z S made i
      obtain ⟨vl', ns', Fg', Fx', hS', gd', inc', fr'⟩ := HI.out
      have HG : Hid (GD DS wr g px vl' (growS b last K X Y Z S made i).2 b ns' rs Fg' Fx' ∧ (growS b last K X Y Z S made i).1 = ns'.map GN.pl ∧ (∀ k, Fg' k ∨ Fx' k → (Fg k ∨ Fx k) ∨ w.heap.size ≤ k) ∧ Fr w wr (fun k => Fg k ∨ Fx k)) := ⟨gd', hS', inc', fr'⟩
      have hst := HS.out.1.keep (fr'.block b0 HS.out.1.lt HS.out.2)
      have q0 := hst.c0 i hlt
      have q1 := hst.c1 i hlt
      have q2 := hst.c2 i hlt
      have q3 := hst.c3 i hlt
      have hblt := hst.lt
      have HF : Hid (Fit (X i) ∧ Fit (Y i) ∧ Fit (Z i)) := hst.fit i hlt
      clear hst hS' gd' inc' fr'
      generalize K i = k0 at q0 HNX
      generalize X i = k1 at q1 HNX HF
      generalize Y i = k2 at q2 HNX HF
      generalize Z i = k3 at q3 HNX HF
      obtain ⟨S1, hS1⟩ : ∃ S1, growS b last K X Y Z S made (i + 1) = S1 := ⟨_, rfl⟩
      have HS1 : Hid (growS b last K X Y Z S made (i + 1) = S1) := hS1
      rw [hS1] at HNX
      clear hS1
      generalize growS b last K X Y Z S made i = S0 at HNX HI HG hmi
      go_wp2_with fail
      refine (kstep4_any HP.out wr g px vl' S0.2 b ns' rs Fg' Fx' HG.out.1 last k0 k1 k2 k3 hl11 HF.out.1 HF.out.2.1 HF.out.2.2 hb (by omega)).mono ?_
      rintro e w2 ⟨rfl, hq⟩
      have HI2 : Hid (GQ DS w (fun k => Fg k ∨ Fx k) w2 g px S1.2 b S1.1 rs) := by
        unfold Hid
        rw [HNX.out, HG.out.2.1]
        obtain ⟨vl1, ns1, Fg1, Fx1, hS1, gd1, inc1, fr1⟩ := hq
        refine ⟨vl1, ns1, Fg1, Fx1, hS1, gd1, fun j hj => ?_, HG.out.2.2.2.comp fr1 (fun j hj => HG.out.2.2.1 j hj)⟩
        rcases inc1 j hj with h5 | h5
        · exact HG.out.2.2.1 j h5
        · exact Or.inr (Nat.le_trans HG.out.2.2.2.size h5)
      clear q0 q1 q2 q3 hq HI
      go_wp2
      go_roundg (len - (i + 1))
      case measure => omega
      case rel => exact ⟨i + 1, by go_num, by omega, Nat.le_refl _, by unfold Hid; rw [HS1.out]; exact HI2.out⟩
    · have hd : decide ((i : Int) < (len : Int)) = false := by simp; omega
      obtain rfl : i = len := by omega
      have HR : Hid (KStepPost DS w (fun k => Fg k ∨ Fx k) g px b (growS b last K X Y Z S made i).1 (growS b last K X Y Z S made i).2 rs (.returned (.bool true)) wr) := ⟨rfl, HI.out⟩
      go_wp2
      go_ret
      exact HR.out
end
end Go.Proofs.YtblfffbmklkhmaaGreat
