/- Own work. -/
import Derived.Test.YtblfffbmklkhmaaGreatAw22
namespace Go.Proofs.YtblfffbmklkhmaaGreat
open Go.RowKit
theorem mov_answer {S : List PNd} {made : Nat} (h : PW S made) {a p : PNd} (ha : a ∈ S) (hp : p ∈ S) {k : Nat} (hk : k ≤ (noneOf a.num p.kids).length) {y : Int} {T' : Tree} (ht : TMov (treeS S) a.num p.num k y T') :
    (a.par < 0 → y = 6 ∧ T' = treeS S) ∧ (¬ a.par < 0 → tUnderB (treeS S) a.num p.num = true → y = 7 ∧ T' = treeS S) ∧ (¬ a.par < 0 → tUnderB (treeS S) a.num p.num = false → y = 0 ∧ T' = treeS (movS S a.num p.num k) ∧ a.num ≠ 0 ∧ ¬ tUnder (treeS S) a.num p.num) := by
  have hpa := h.par a ha
  have hy : y = if tPar (treeS S) a.num < 0 then 6 else if tUnderB (treeS S) a.num p.num = true then 7 else if (k : Int) < 0 ∨ ((noneOf a.num p.kids).length : Int) < k then 8 else 0 := by
    rw [ht.1]
    unfold tMovErr
    rw [treeS_find h ha, treeS_find h hp]
  refine ⟨fun hn => ?_, fun hn hu => ?_, fun hn hu => ?_⟩
  · rw [hpa] at hn
    rw [if_pos hn] at hy
    rcases ht.2 with ⟨_, h2⟩ | ⟨h1, _⟩
    · exact ⟨hy, h2⟩
    · omega
  · rw [hpa] at hn
    rw [if_neg hn, if_pos hu] at hy
    rcases ht.2 with ⟨_, h2⟩ | ⟨h1, _⟩
    · exact ⟨hy, h2⟩
    · omega
  · rw [hpa] at hn
    rw [if_neg hn, if_neg (by rw [hu]; simp), if_neg (by omega)] at hy
    rcases ht.2 with ⟨h1, _⟩ | ⟨_, a', p', k', e1, e2, e3, h0, _, _, hnu, h2⟩
    · exact absurd hy h1
    · have f1 : a.num = a' := by omega
      have f2 : p.num = p' := by omega
      have f3 : k = k' := by omega
      subst f1 f2 f3
      exact ⟨hy, by rw [h2, movS_tree], h0, hnu⟩
noncomputable def moveS (S : List PNd) (X Y Z : Int) : List PNd := if (pickS S X).par < 0 then S else if tUnderB (treeS S) (pickS S X).num (pickS S Y).num = true then S else movS S (pickS S X).num (pickS S Y).num (pickZ Z ((noneOf (pickS S X).num (pickS S Y).kids).length + 1))
def kidsF (a : Nat) (a6 : Option Addr) (l6 c6 : Nat) (x : GN) : GN := { x with kids := noneOf a x.kids, ks := .slice a6 l6 c6 }
def putF (a at' : Nat) (a6 : Option Addr) (l6 c6 : Nat) (x : GN) : GN := { x with kids := insL (noneOf a x.kids) at' a, ks := .slice a6 l6 c6 }
theorem mem_updG {ns : List GN} {k : Nat} {f : GN → GN} {n : GN} (hn : n ∈ ns) : (if n.num = k then f n else n) ∈ updG ns k f := List.mem_map.2 ⟨n, hn, rfl⟩
theorem updG_nums {ns : List GN} {k : Nat} {f : GN → GN} (hf : ∀ x, (f x).num = x.num) : (updG ns k f).map GN.num = ns.map GN.num := by
  unfold updG
  rw [List.map_map]
  apply List.map_congr_left
  intro x _
  show GN.num (if x.num = k then f x else x) = x.num
  split
  · exact hf x
  · rfl
/-- A node stays where it is, its list too, if another value is written. -/
theorem GR.parOf {w W2 : World} {g : Nat} {px vl : Value} {made b : Nat} {ns : List GN} (h : GR w g px vl made b ns) (hnn : (ns.map GN.num).Nodup) {n : GN} (hn : n ∈ ns) (p : Int) (hblk : W2.heap[n.b]? = some ({ n with par := p } : GN).blk) (hoth : ∀ k, k < w.heap.size → k ≠ n.b → W2.heap[k]? = w.heap[k]?) : GR W2 g px vl made b (updG ns n.num fun x => { x with par := p }) :=
  h.put hnn hn (f := fun x => { x with par := p }) (fun _ => rfl) hblk hoth (own_keep (h.kid n hn) (fun k hk hl => hoth k hl (fun e => by
    rw [e] at hk
    exact own_ne_type (h.kid n hn) (h.nd n hn) (by decide) hk)))
section
set_option maxRecDepth 100000
set_option maxHeartbeats 1500000
variable {DS : World → Value → Tree → Nat → (Nat → Mk) → List PRu → (Nat → Prop) → Prop}
theorem kmove_any (hP : DocOK DS) (w : World) (g : Nat) (px vl : Value) (made b : Nat) (ns : List GN) (rs : List PRu) (Fg Fx : Nat → Prop) (h : GD DS w g px vl made b ns rs Fg Fx) (kd X Y Z : Int) (hX : Fit X) (hY : Fit Y) (hZ : Fit Z) :
    Calls Tryz.prog 69 #[.pointer (some ⟨g, 0, none⟩), .agg #[.int .i64 kd, .int .i64 X, .int .i64 Y, .int .i64 Z]] w fun e w' => KStepPost DS w (fun k => Fg k ∨ Fx k) g px b (moveS (ns.map GN.pl) X Y Z) made rs e w' := by
  obtain ⟨pa, rfl⟩ := hP.ptr h.ds
  obtain ⟨a, c, hv⟩ := own_shape h.gr.row
  subst hv
  have HP : Hid (DocOK DS) := hP
  have hlen := h.len
  obtain ⟨h0, hl⟩ := hlen
  obtain ⟨n, hn, hpk, r, hr, hrl, hrc⟩ := pick_node h.gr h0 X
  subst hr
  obtain ⟨p, hp, hpk2, r2, hr2, _, hrc2⟩ := pick_node h.gr h0 Y
  injection hr2 with hr2
  injection hr2 with hr2 _ _
  subst hr2
  have HRS : Hid (moveS (ns.map GN.pl) X Y Z = if n.par < 0 then ns.map GN.pl else if tUnderB (treeS (ns.map GN.pl)) n.num p.num = true then ns.map GN.pl else movS (ns.map GN.pl) n.num p.num (pickZ Z ((noneOf n.num p.kids).length + 1))) := by
    unfold Hid moveS
    rw [hpk, hpk2]
    rfl
  have HD : Hid (GD DS w g (.pointer (some pa)) (.slice (some ⟨r, 0, none⟩) ns.length c) made b ns rs Fg Fx ∧ n ∈ ns ∧ p ∈ ns) := ⟨h, hn, hp⟩
  have HB0 : Hid (∀ k, Below w.heap.size w ((w.alloc (stepO kd X Y Z)).drewN k)) := fun k => below_draws ((Below.refl _ _).alloc (Nat.le_refl _) _) k
  have hgl := h.gr.lt
  have q1 := h.gr.c1
  have hpl : ((pickZ X ns.length : Nat) : Int) < (ns.length : Int) := by have := pickZ_lt X h0; omega
  have hpl2 : ((pickZ Y ns.length : Nat) : Int) < (ns.length : Int) := by have := pickZ_lt Y h0; omega
  have HPC : Hid (∀ k, Calls Tryz.prog 17 #[.int .i64 X, .int .i64 (ns.length : Int)] ((w.alloc (stepO kd X Y Z)).drewN k) fun e w' => e = .returned (.int .i64 ((pickZ X ns.length : Nat) : Int)) ∧ w' = (w.alloc (stepO kd X Y Z)).drewN k) := fun k => kpick_any _ X ns.length hX h0 (by omega)
  have HPD : Hid (∀ W, Calls Tryz.prog 17 #[.int .i64 Y, .int .i64 (ns.length : Int)] W fun e w' => e = .returned (.int .i64 ((pickZ Y ns.length : Nat) : Int)) ∧ w' = W) := fun W => kpick_any _ Y ns.length hY h0 (by omega)
  have HRC2 : Hid (w.cell? ⟨r, pickZ Y ns.length, none⟩ = some p.ptr ∧ r < w.heap.size) := ⟨hrc2, hrl⟩
  have hkl : p.kids.length ≤ 24 := by
    have := h.pw.tw.len (mem_treeS (List.mem_map.2 ⟨p, hp, rfl⟩ : p.pl ∈ ns.map GN.pl))
    rw [treeS_len, List.length_map] at this
    have h2 : p.kids.length < ns.length := this
    omega
  obtain ⟨ak, ck, hks⟩ := own_shape (h.gr.kid p hp)
  have HKS : Hid (p.ks = .slice ak p.kids.length ck) := hks
  clear h hn hp hpk hpk2 hP hrc2 hks
  generalize pickZ X ns.length = xi at hrc hpl HPC
  generalize pickZ Y ns.length = yi at hpl2 HPD HRC2
  go_enter Tryz.func69, Tryz.ntmps69
  go_upto_region 1 with fail
  go_quiet ((go_at_call 17; exact Calls.quiet_of_same (HPC.out _)))
  go_upto_region 2 with fail
  have HB1 : Hid (Below w.heap.size w ((w.alloc (stepO kd X Y Z)).drewN nq)) := HB0.out nq
  have HSB : Hid (((w.alloc (stepO kd X Y Z)).drewN nq).heap[w.heap.size]? = some (stepO kd X Y Z)) := heap_alloc_new w _
  clear q1 hrc HB0 HPC
  generalize (w.alloc (stepO kd X Y Z)).drewN nq = W1 at HB1 HSB ⊢
  have HG1 : Hid (GR W1 g (.pointer (some pa)) (.slice (some ⟨r, 0, none⟩) ns.length c) made b ns) := HD.out.1.gr.below HB1.out
  have s2 : W1.cell? ⟨w.heap.size, 2, none⟩ = some (.int .i64 Y) := cell_of_blk HSB.out rfl
  have hszl : w.heap.size < W1.heap.size := (Array.getElem?_eq_some_iff.1 HSB.out).1
  have hgl1 := HG1.out.lt
  have q1 := HG1.out.c1
  have hrl1 : r < W1.heap.size := Nat.lt_trans HRC2.out.2 hszl
  have hrc1 : W1.cell? ⟨r, yi, none⟩ = some p.ptr := (HB1.out.cell (p := ⟨r, yi, none⟩) HRC2.out.2).trans HRC2.out.1
  go_quiet ((go_at_call 17; exact Calls.quiet_of_same (HPD.out _)))
  go_upto_region 3 with fail
  have HB2 : Hid (∀ k, Below w.heap.size w (W1.drewN k)) := fun k => below_draws HB1.out k
  have HS2 : Hid (∀ k, (W1.drewN k).heap[w.heap.size]? = some (stepO kd X Y Z)) := fun _ => HSB.out
  have HB3 : Hid (Below w.heap.size w (W1.drewN nq)) := HB2.out _
  have HS3 : Hid ((W1.drewN nq).heap[w.heap.size]? = some (stepO kd X Y Z)) := HS2.out _
  clear HB2 HS2 HG1 HB1 HSB s2 hszl hgl1 q1 hrl1 hrc1 HPD HRC2 hrl
  generalize W1.drewN nq = W2 at HB3 HS3 ⊢
  have HG2 : Hid (GR W2 g (.pointer (some pa)) (.slice (some ⟨r, 0, none⟩) ns.length c) made b ns) := HD.out.1.gr.below HB3.out
  have HK2 : Hid (W2.drew.ownsRow 0 3 1 (.slice ak p.kids.length ck) p.kids.length (ints p.kids)) := by have := HG2.out.kid p HD.out.2.2; rw [HKS.out] at this; exact this
  have HC3 : Hid (∀ wx, Below W2.drew.heap.size W2.drew wx → wx.cell? ⟨p.b, 8, none⟩ = some (.slice ak p.kids.length ck) ∧ wx.cell? ⟨n.b, 0, none⟩ = some (.int .i64 n.num)) := fun wx hb => by
    have hg := (HG2.out.below (Below.refl _ _).drew).below hb
    have h8 := (node_cells (hg.nd p HD.out.2.2)).2.2.2.1
    rw [HKS.out] at h8
    exact ⟨h8, (node_cells (hg.nd n HD.out.2.1)).1⟩
  have H03 : Hid (Below W2.drew.heap.size W2.drew W2.drew) := Below.refl _ _
  go_cut [7] (fun v wx => ∃ (a3 : Option Addr) (c3 : Nat), v = .slice a3 (noneOf n.num p.kids).length c3 ∧ Hid (wx.ownsRow W2.drew.heap.size 3 1 (.slice a3 (noneOf n.num p.kids).length c3) (noneOf n.num p.kids).length (ints (noneOf n.num p.kids)) ∧ Below W2.drew.heap.size W2.drew wx))
  case first =>
    go_region_held3 (fun w' => w'.cell? ⟨p.b, 8, none⟩ = some (.slice ak p.kids.length ck) ∧ w'.cell? ⟨n.b, 0, none⟩ = some (.int .i64 n.num)) (first | exact HC3.out _ HO3.out.2 | exact HC3.out _ H03.out)
      (first | (go_at_call 118; refine (kwithout_any _ ak ck 0 p.kids n.num HK2.out hkl).mono ?_; rintro e w7 ⟨a3, c3, rfl, hown7, hB7⟩; have HO3 : Hid (w7.ownsRow W2.drew.heap.size 3 1 (.slice a3 (noneOf n.num p.kids).length c3) (noneOf n.num p.kids).length (ints (noneOf n.num p.kids)) ∧ Below W2.drew.heap.size W2.drew w7) := ⟨hown7, hB7⟩; clear hown7 hB7))
    all_goals
      go_wp2_with fail
      go_meet
      exact ⟨a3, c3, rfl, HO3⟩
  case rest =>
    obtain ⟨a3, c3, rfl, HO3⟩ := hcut
    have hll : (noneOf n.num p.kids).length ≤ 24 := Nat.le_trans (List.length_filter_le _ _) hkl
    have HAT : Hid (pickZ Z ((noneOf n.num p.kids).length + 1) ≤ (noneOf n.num p.kids).length) := by have := pickZ_lt Z (show 0 < (noneOf n.num p.kids).length + 1 by omega); unfold Hid; omega
    obtain ⟨L3, hL3⟩ : ∃ L3, noneOf n.num p.kids = L3 := ⟨_, rfl⟩
    have HL3 : Hid (noneOf n.num p.kids = L3) := hL3
    rw [hL3] at HO3 hll HAT HRS ⊢
    clear hL3
    have hwr : IntKind.i64.wrap ((L3.length : Int) + 1) = (L3.length : Int) + 1 := by rw [IntKind.wrap_i64]; omega
    have HPE : Hid (∀ W, Calls Tryz.prog 17 #[.int .i64 Z, .int .i64 ((L3.length : Int) + 1)] W fun e w' => e = .returned (.int .i64 ((pickZ Z (L3.length + 1) : Nat) : Int)) ∧ w' = W) := fun W => by
      have := kpick_any W Z (L3.length + 1) hZ (by omega) (by omega)
      rwa [show ((L3.length + 1 : Nat) : Int) = (L3.length : Int) + 1 from by omega] at this
    generalize pickZ Z (L3.length + 1) = at' at HAT HPE HRS
    obtain ⟨W3, rfl⟩ : ∃ W3, W3 = wc := ⟨_, rfl⟩
    have HB4 : Hid (Below w.heap.size w W3) := (HB3.out.drew).trans (HO3.out.2.mono (by have := HB3.out.size; exact this))
    have HSB : Hid (W3.heap[w.heap.size]? = some (stepO kd X Y Z)) := (HO3.out.2.block _ (Array.getElem?_eq_some_iff.1 HS3.out).1).trans HS3.out
    have s3 : W3.cell? ⟨w.heap.size, 3, none⟩ = some (.int .i64 Z) := cell_of_blk HSB.out rfl
    have hszl : w.heap.size < W3.heap.size := (Array.getElem?_eq_some_iff.1 HSB.out).1
    have HOB : Hid (W3.ownsRow w.heap.size 3 1 (.slice a3 L3.length c3) L3.length (ints L3)) := own_mono HO3.out.1 (by have := HB3.out.size; exact this)
    clear HC3 H03 HK2 HG2 HS3 HB3 HO3
    go_wp2_with fail
    refine (HPE.out _).mono ?_
    rintro e w4 ⟨rfl, rfl⟩
    go_upto_region 5 with fail
    clear s3 hszl hwr HPE HSB
    have HG3 : Hid (GR w4 g (.pointer (some pa)) (.slice (some ⟨r, 0, none⟩) ns.length c) made b ns) := HD.out.1.gr.below HB4.out
    have HDS3 : Hid (DS w4.drew (.pointer (some pa)) (treeS (ns.map GN.pl)) made (mOf b (ns.map GN.pl)) rs Fx) := HP.out.keep HD.out.1.ds (fun k _ hl => HB4.out.block k hl) HB4.out.size
    have HC4 : Hid (∀ wx, Fr w4.drew wx Fx → wx.cell? ⟨g, 0, none⟩ = some (.pointer (some pa)) ∧ wx.cell? ⟨n.b, 0, none⟩ = some (.int .i64 n.num) ∧ wx.cell? ⟨p.b, 0, none⟩ = some (.int .i64 p.num)) := fun wx hf => by
      have hnd := HG3.out.nd n HD.out.2.1
      have hpd := HG3.out.nd p HD.out.2.2
      have e1 : wx.heap[g]? = w4.heap[g]? := hf.block g HG3.out.lt (HD.out.1.gx g HD.out.1.inb)
      have e2 : wx.heap[n.b]? = w4.heap[n.b]? := hf.block n.b (Array.getElem?_eq_some_iff.1 hnd).1 (HD.out.1.gx n.b (HD.out.1.inn n HD.out.2.1))
      have e3 : wx.heap[p.b]? = w4.heap[p.b]? := hf.block p.b (Array.getElem?_eq_some_iff.1 hpd).1 (HD.out.1.gx p.b (HD.out.1.inn p HD.out.2.2))
      exact ⟨cell_of_blk (e1.trans HG3.out.blk) rfl, cell_of_blk (e2.trans hnd) rfl, cell_of_blk (e3.trans hpd) rfl⟩
    have H04 : Hid (Fr w4.drew w4.drew Fx) := Fr.refl _ _
    go_cut [9] (fun yv wx => ∃ (y : Int) (T' : Tree), yv = .int .i64 y ∧ Hid (TMov (treeS (ns.map GN.pl)) n.num p.num at' y T' ∧ DS wx (.pointer (some pa)) T' made (mOf b (ns.map GN.pl)) rs (More Fx w4.drew) ∧ Fr w4.drew wx Fx))
    case first =>
      go_region_held3 (fun w' => w'.cell? ⟨g, 0, none⟩ = some (.pointer (some pa)) ∧ w'.cell? ⟨n.b, 0, none⟩ = some (.int .i64 n.num) ∧ w'.cell? ⟨p.b, 0, none⟩ = some (.int .i64 p.num)) (first | exact HC4.out _ H04.out | exact HC4.out _ HX.out.2.2)
        (first | (go_at_call 119; refine (HP.out.mov _ (.pointer (some pa)) (treeS (ns.map GN.pl)) made (mOf b (ns.map GN.pl)) rs Fx n.num p.num at' HDS3.out).mono ?_; rintro e w5 ⟨y, T', rfl, hT, hds, hf5⟩; have HX : Hid (TMov (treeS (ns.map GN.pl)) n.num p.num at' y T' ∧ DS w5 (.pointer (some pa)) T' made (mOf b (ns.map GN.pl)) rs (More Fx w4.drew) ∧ Fr w4.drew w5 Fx) := ⟨hT, hds, hf5⟩; clear hT hds hf5))
      all_goals
        go_wp2_with fail
        go_meet
        exact ⟨y, T', rfl, HX⟩
    case rest =>
      obtain ⟨y, T', rfl, HX⟩ := hcut
      have hnm : n.pl ∈ ns.map GN.pl := List.mem_map.2 ⟨n, HD.out.2.1, rfl⟩
      have hpm : p.pl ∈ ns.map GN.pl := List.mem_map.2 ⟨p, HD.out.2.2, rfl⟩
      have hans := mov_answer HD.out.1.pw hnm hpm (by show at' ≤ (noneOf n.num p.kids).length; rw [HL3.out]; exact HAT.out) HX.out.1
      obtain ⟨W4, rfl⟩ : ∃ W4, W4 = wc := ⟨_, rfl⟩
      have HG4 : Hid (GR W4 g (.pointer (some pa)) (.slice (some ⟨r, 0, none⟩) ns.length c) made b ns) := (HG3.out.below (Below.refl _ _).drew).keep (fun k hl hk => HX.out.2.2.block k hl (HD.out.1.gx k (HD.out.1.mine hk)))
      have HF4 : Hid (Fr w W4 (fun k => Fg k ∨ Fx k)) := ((Fr.refl w (fun k => Fg k ∨ Fx k)).below HB4.out).drew1.trans (HX.out.2.2.mono (fun k hk => Or.inr hk))
      have HO4 : Hid (W4.ownsRow w.heap.size 3 1 (.slice a3 L3.length c3) L3.length (ints L3)) := own_keepB (HOB.out.drew) (fun k hk hl => HX.out.2.2.block k hl (fun hx => by
        have h1 := HD.out.1.here k (Or.inr hx)
        have h2 := (HOB.out.lt k hk).1
        omega))
      have hgl4 := HG4.out.lt
      obtain ⟨m0, m1, _, _, _, hnb4⟩ := node_cells (HG4.out.nd n HD.out.2.1)
      have HDIS : Hid (∀ k, Fg k → ¬ More Fx w4.drew k) := fun k hk hx => by
        rcases hx with hx | hx
        · exact HD.out.1.gx k hk hx
        · have h1 := HD.out.1.here k (Or.inl hk)
          have h2 := HB4.out.size
          have h3 : w4.heap.size ≤ k := hx
          omega
      have HEND0 : Hid (T' = treeS (ns.map GN.pl) → moveS (ns.map GN.pl) X Y Z = ns.map GN.pl → KStepPost DS w (fun k => Fg k ∨ Fx k) g (.pointer (some pa)) b (moveS (ns.map GN.pl) X Y Z) made rs (.returned (.bool true)) W4) := fun hT hm => by
        refine ⟨rfl, ?_⟩
        rw [hm]
        have hds := HX.out.2.1
        rw [hT] at hds
        exact gq_close HP.out rfl HG4.out HD.out.1.pw hds HF4.out (fun k hk => Or.inl (HD.out.1.mine hk)) (fun k hk => hk.imp id (fun hk => Nat.le_trans HB4.out.size hk)) (fun k hk => HDIS.out k (HD.out.1.mine hk))
      clear HC4 H04 HDS3 HG3 HOB
      clear hnm hpm
      by_cases hpn : n.par < 0
      · obtain ⟨rfl, hT⟩ := hans.1 hpn
        have gp : decide (n.par < 0) = true := by simpa using hpn
        have HR := HEND0.out hT (by rw [HRS.out, if_pos hpn])
        clear hT hans hpn HEND0
        go_wp2
        go_ret
        exact HR
      · have gp : decide (n.par < 0) = false := by simpa using hpn
        have HTR : Hid (GT ns (treeS (ns.map GN.pl)) made) := HD.out.1.gt
        have HUC : Hid (Calls Tryz.prog 117 #[.pointer (some ⟨g, 0, none⟩), .int .i64 n.num, p.ptr] W4 fun e w' => e = .returned (.bool (tUnderB (treeS (ns.map GN.pl)) n.num p.num)) ∧ w' = W4) := kunder_any W4 g (.pointer (some pa)) (.slice (some ⟨r, 0, none⟩) ns.length c) made b ns n.num p HD.out.2.2 HG4.out HTR.out
        cases hu : tUnderB (treeS (ns.map GN.pl)) n.num p.num with
        | true =>
          obtain ⟨rfl, hT⟩ := hans.2.1 hpn hu
          have HR := HEND0.out hT (by rw [HRS.out, if_neg hpn, if_pos hu])
          rw [hu] at HUC
          clear hT hans hpn HEND0 hu
          go_wp2_with fail
          refine HUC.out.mono ?_
          rintro e w5 ⟨rfl, rfl⟩
          go_wp2
          go_ret
          exact HR
        | false =>
          obtain ⟨rfl, hT, hn0, hnu⟩ := hans.2.2 hpn hu
          have HTT : Hid (T' = treeS (movS (ns.map GN.pl) n.num p.num at') ∧ n.num ≠ 0 ∧ ¬ tUnder (treeS (ns.map GN.pl)) n.num p.num) := ⟨hT, hn0, hnu⟩
          have HM : Hid (moveS (ns.map GN.pl) X Y Z = movS (ns.map GN.pl) n.num p.num at') := by unfold Hid; rw [HRS.out, if_neg hpn, if_neg (by rw [hu]; simp)]
          rw [hu] at HUC
          obtain ⟨q, hq⟩ : ∃ q, Hid (q ∈ ns ∧ (q.num : Int) = n.par ∧ (q.num : Int) = tPar (treeS (ns.map GN.pl)) n.num) := by
            have hpp := HTR.out.par n HD.out.2.1
            rcases tPar_cases (treeS (ns.map GN.pl)) n.num with ⟨h1, _⟩ | ⟨e, he, _, h2⟩
            · exfalso
              rw [hpp, h1] at hpn
              revert hpn
              decide
            · rw [HTR.out.tree] at he
              obtain ⟨q, hq, hqe⟩ := List.mem_map.1 he
              have h3 : (q.num : Int) = tPar (treeS (ns.map GN.pl)) n.num := by rw [h2, ← hqe]
              exact ⟨q, hq, h3.trans hpp.symm, h3⟩
          have HFQ : Hid ((findG ns n.par).getD ns[0] = q) := by
            unfold Hid
            rw [← hq.out.2.1, findG_mem HTR.out.nums hq.out.1]
            rfl
          clear hT hans hpn HEND0 hu hn0 hnu HRS
          go_wp2_with fail
          refine HUC.out.mono ?_
          rintro e w5 ⟨rfl, rfl⟩
          clear HUC
          go_wp2_with fail
          refine (kfind_any w5 g (.pointer (some pa)) (.slice (some ⟨r, 0, none⟩) ns.length c) made b ns n.par HG4.out hl h0).mono ?_
          rw [HFQ.out]
          rintro e w6 ⟨rfl, rfl⟩
          obtain ⟨aq, cq, hkq⟩ := own_shape (HG4.out.kid q hq.out.1)
          obtain ⟨_, _, _, p8, pf, hqb⟩ := node_cells (HG4.out.nd q hq.out.1)
          rw [hkq] at p8
          have pf8 := pf 8
          have hkl2 : q.kids.length ≤ 24 := by
            have := HD.out.1.pw.tw.len (mem_treeS (List.mem_map.2 ⟨q, hq.out.1, rfl⟩ : q.pl ∈ ns.map GN.pl))
            rw [treeS_len, List.length_map] at this
            have h2 : q.kids.length < ns.length := this
            omega
          have HKQ : Hid (w6.drew.ownsRow 0 3 1 (.slice aq q.kids.length cq) q.kids.length (ints q.kids)) := by have := HG4.out.kid q hq.out.1; rw [hkq] at this; exact this
          clear pf hkq
          go_upto_region 12 with fail
          go_cut [5] (fun v wx => v = n.ptr ∧ ∃ (a6 : Option Addr) (c6 : Nat), Hid (wx.heap[q.b]? = some ({ q with kids := noneOf n.num q.kids, ks := .slice a6 (noneOf n.num q.kids).length c6 } : GN).blk ∧ (∀ k, k < w6.heap.size → k ≠ q.b → wx.heap[k]? = w6.heap[k]?) ∧ wx.ownsRow w6.heap.size 3 1 (.slice a6 (noneOf n.num q.kids).length c6) (noneOf n.num q.kids).length (ints (noneOf n.num q.kids)) ∧ Fr w6 wx (fun k => k = q.b)))
          case first =>
            go_region_with ((go_at_call 118; refine (kwithout_any _ aq cq 0 q.kids n.num HKQ.out hkl2).mono ?_; rintro e w7 ⟨a6, c6, rfl, hown7, hB7⟩; have HO7 : Hid (w7.ownsRow w6.heap.size 3 1 (.slice a6 (noneOf n.num q.kids).length c6) (noneOf n.num q.kids).length (ints (noneOf n.num q.kids)) ∧ Below w6.heap.size w6 w7) := ⟨hown7, (Below.refl _ _).drew.trans hB7⟩; have o8 : w7.cell? ⟨q.b, 8, none⟩ = some (.slice aq q.kids.length cq) := (hB7.cell (p := ⟨q.b, 8, none⟩) hqb).trans p8; have o8f : w7.frozen? ⟨q.b, 8, none⟩ = false := frozen_of_blk ((hB7.block q.b hqb).trans (HG4.out.nd q hq.out.1)); have hqb7 : q.b < w7.heap.size := Nat.lt_of_lt_of_le hqb hB7.size; clear hown7 hB7))
            all_goals
              go_wp2_with fail
              go_meet
              refine ⟨rfl, a6, c6, ?_, fun k hk hne => ?_, ?_, ?_⟩
              · have hh : w7.heap[q.b]? = some q.blk := (HO7.out.2.block q.b hqb).trans (HG4.out.nd q hq.out.1)
                unfold GN.blk at hh ⊢
                rw [heap_setCell_row hh]; rfl
              · exact (Below.heap_setCell w7 ⟨q.b, 8, none⟩ _ k hne).trans (HO7.out.2.block k hk)
              · exact ownsRow_setCell_below HO7.out.1 (by exact hqb) _
              · exact ((Fr.refl w6 (fun k => k = q.b)).below HO7.out.2).set (p := ⟨q.b, 8, none⟩) (Or.inl rfl) _
          case rest =>
            obtain ⟨rfl, a6, c6, H13⟩ := hcut
            obtain ⟨W7, rfl⟩ : ∃ W7, W7 = wc := ⟨_, rfl⟩
            have HG7 : Hid (GR W7 g (.pointer (some pa)) (.slice (some ⟨r, 0, none⟩) ns.length c) made b (updG ns q.num (kidsF n.num a6 (noneOf n.num q.kids).length c6))) := HG4.out.put HD.out.1.gt.nums hq.out.1 (f := kidsF n.num a6 (noneOf n.num q.kids).length c6) (fun _ => rfl) H13.out.1 H13.out.2.1 (own_mono H13.out.2.2.1 (Nat.zero_le _))
            have HO7 : Hid (W7.ownsRow w.heap.size 3 1 (.slice a3 L3.length c3) L3.length (ints L3)) := own_keepB HO4.out (fun k hk hl => H13.out.2.1 k hl (fun ek => by
              rw [ek] at hk
              exact own_ne_type HO4.out (HG4.out.nd q hq.out.1) (by decide) hk))
            have HN1 : Hid (((updG ns q.num (kidsF n.num a6 (noneOf n.num q.kids).length c6)).map GN.num).Nodup) := by unfold Hid; rw [updG_nums (f := kidsF n.num a6 (noneOf n.num q.kids).length c6) (fun _ => rfl)]; exact HD.out.1.gt.nums
            obtain ⟨p1, hp1⟩ : ∃ p1, Hid (p1 ∈ updG ns q.num (kidsF n.num a6 (noneOf n.num q.kids).length c6) ∧ p1.b = p.b ∧ p1.num = p.num ∧ noneOf n.num p1.kids = L3) := by
              refine ⟨_, mem_updG HD.out.2.2, ?_, ?_, ?_⟩
              · split <;> rfl
              · split <;> rfl
              · split
                · show noneOf n.num (noneOf n.num p.kids) = L3
                  rw [noneOf_twice]; exact HL3.out
                · exact HL3.out
            obtain ⟨n1, hn1⟩ : ∃ n1, Hid (n1 ∈ updG ns q.num (kidsF n.num a6 (noneOf n.num q.kids).length c6) ∧ n1.b = n.b ∧ n1.num = n.num) := by
              refine ⟨_, mem_updG HD.out.2.1, ?_, ?_⟩ <;> (split <;> rfl)
            have HZ7 : Hid (w6.heap.size ≤ W7.heap.size) := H13.out.2.2.2.size
            have HF7 : Hid (Fr w W7 (fun k => Fg k ∨ Fx k)) := HF4.out.trans (H13.out.2.2.2.mono (fun k hk => Or.inl (by rw [hk]; exact HD.out.1.inn q hq.out.1)))
            have HOT7 : Hid (∀ k, k < w6.heap.size → ¬ Fg k → W7.heap[k]? = w6.heap[k]?) := fun k hk hF => H13.out.2.1 k hk (fun e => hF (by rw [e]; exact HD.out.1.inn q hq.out.1))
            have HK6 : Hid (∀ j, (Value.slice a6 (noneOf n.num q.kids).length c6).ownBlock = some j → w6.heap.size ≤ j) := fun j hj => (H13.out.2.2.1.lt j hj).1
            generalize (noneOf n.num q.kids).length = l6 at HG7 HN1 hp1 hn1 HK6
            have x0 : W7.cell? ⟨n.b, 0, none⟩ = some (.int .i64 n.num) := by
              have := (node_cells (HG7.out.nd n1 hn1.out.1)).1
              rwa [hn1.out.2.1, hn1.out.2.2] at this
            have hnb7 : n.b < W7.heap.size := by
              have := (node_cells (HG7.out.nd n1 hn1.out.1)).2.2.2.2.2
              rwa [hn1.out.2.1] at this
            clear H13 HKQ p8 pf8 hqb hkl2 m0 m1 hgl4 hnb4
            go_wp2_with fail
            refine (kput_any W7 a3 c3 L3 at' n.num w.heap.size HO7.out hll HAT.out).mono ?_
            rintro e w8 ⟨a8, c8, rfl, hown8, hB8⟩
            have HO8 : Hid (w8.ownsRow W7.heap.size 3 1 (.slice a8 (insL L3 at' n.num).length c8) (insL L3 at' n.num).length (ints (insL L3 at' n.num)) ∧ Below W7.heap.size W7 w8) := ⟨hown8, hB8⟩
            have HPB : Hid (w8.heap[p.b]? = some p1.blk) := by
              have h1 := HG7.out.nd p1 hp1.out.1
              have h2 := (hB8.block p1.b (Array.getElem?_eq_some_iff.1 h1).1).trans h1
              rw [hp1.out.2.1] at h2
              exact h2
            have v8 : w8.cell? ⟨p.b, 8, none⟩ = some p1.ks := cell_of_blk HPB.out rfl
            have v8f : w8.frozen? ⟨p.b, 8, none⟩ = false := frozen_of_blk HPB.out
            have hpb8 : p.b < w8.heap.size := (Array.getElem?_eq_some_iff.1 HPB.out).1
            clear hown8 hB8 x0 hnb7
            go_upto_region 14 with fail
            obtain ⟨L8, hL8⟩ : ∃ L8, insL L3 at' n.num = L8 := ⟨_, rfl⟩
            rw [hL8] at HO8 ⊢
            have HL8 : Hid (insL L3 at' n.num = L8) := hL8
            clear hL8
            have HW9 : Hid ((w8.setCell ⟨p.b, 8, none⟩ (.slice a8 L8.length c8)).heap[p1.b]? = some (putF n.num at' a8 L8.length c8 p1).blk ∧ (∀ k, k < W7.heap.size → k ≠ p1.b → (w8.setCell ⟨p.b, 8, none⟩ (.slice a8 L8.length c8)).heap[k]? = W7.heap[k]?) ∧ (w8.setCell ⟨p.b, 8, none⟩ (.slice a8 L8.length c8)).ownsRow W7.heap.size 3 1 (.slice a8 L8.length c8) L8.length (ints L8) ∧ Fr w (w8.setCell ⟨p.b, 8, none⟩ (.slice a8 L8.length c8)) (fun k => Fg k ∨ Fx k) ∧ W7.heap.size ≤ (w8.setCell ⟨p.b, 8, none⟩ (.slice a8 L8.length c8)).heap.size) := by
              refine ⟨?_, fun k hk hne => ?_, ?_, ?_, ?_⟩
              · rw [hp1.out.2.1]
                have hh := HPB.out
                unfold GN.blk at hh ⊢
                rw [heap_setCell_row hh]; rfl
              · rw [hp1.out.2.1] at hne
                exact (Below.heap_setCell w8 ⟨p.b, 8, none⟩ _ k hne).trans (HO8.out.2.block k hk)
              · refine ownsRow_setCell_below HO8.out.1 ?_ _
                have h1 := (Array.getElem?_eq_some_iff.1 (HG7.out.nd p1 hp1.out.1)).1
                rw [hp1.out.2.1] at h1
                exact h1
              · exact (HF7.out.below HO8.out.2).set (p := ⟨p.b, 8, none⟩) (Or.inl (Or.inl (HD.out.1.inn p HD.out.2.2))) _
              · have := HO8.out.2.size; simpa using this
            clear v8 v8f hpb8 HPB HO8
            generalize w8.setCell ⟨p.b, 8, none⟩ (.slice a8 L8.length c8) = W9 at HW9 ⊢
            have HG9 : Hid (GR W9 g (.pointer (some pa)) (.slice (some ⟨r, 0, none⟩) ns.length c) made b (updG (updG ns q.num (kidsF n.num a6 l6 c6)) p.num (putF n.num at' a8 L8.length c8))) := by
              have h1 := HG7.out.put HN1.out hp1.out.1 (f := putF n.num at' a8 L8.length c8) (fun _ => rfl) HW9.out.1 HW9.out.2.1 (by
                show W9.ownsRow 0 3 1 (.slice a8 L8.length c8) (insL (noneOf n.num p1.kids) at' n.num).length (ints (insL (noneOf n.num p1.kids) at' n.num))
                rw [hp1.out.2.2.2, HL8.out]
                exact own_mono HW9.out.2.2.1 (Nat.zero_le _))
              rw [hp1.out.2.2.1] at h1
              exact h1
            obtain ⟨n2, hn2⟩ : ∃ n2, Hid (n2 ∈ updG (updG ns q.num (kidsF n.num a6 l6 c6)) p.num (putF n.num at' a8 L8.length c8) ∧ n2.b = n.b ∧ n2.num = n.num) := by
              refine ⟨_, mem_updG hn1.out.1, ?_, ?_⟩
              · split <;> exact hn1.out.2.1
              · split <;> exact hn1.out.2.2
            obtain ⟨p2, hp2⟩ : ∃ p2, Hid (p2 ∈ updG (updG ns q.num (kidsF n.num a6 l6 c6)) p.num (putF n.num at' a8 L8.length c8) ∧ p2.b = p.b ∧ p2.num = p.num) := by
              refine ⟨_, mem_updG hp1.out.1, ?_, ?_⟩
              · split <;> exact hp1.out.2.1
              · split <;> exact hp1.out.2.2.1
            have HNB : Hid (W9.heap[n.b]? = some n2.blk) := by have h1 := HG9.out.nd n2 hn2.out.1; rw [hn2.out.2.1] at h1; exact h1
            have y1 : W9.cell? ⟨n.b, 1, none⟩ = some (.int .i64 n2.par) := cell_of_blk HNB.out rfl
            have y1f : W9.frozen? ⟨n.b, 1, none⟩ = false := frozen_of_blk HNB.out
            have hnb9 : n.b < W9.heap.size := (Array.getElem?_eq_some_iff.1 HNB.out).1
            have y0 : W9.cell? ⟨p.b, 0, none⟩ = some (.int .i64 p.num) := by
              have := (node_cells (HG9.out.nd p2 hp2.out.1)).1
              rwa [hp2.out.2.1, hp2.out.2.2] at this
            have hpb9 : p.b < W9.heap.size := by
              have := (node_cells (HG9.out.nd p2 hp2.out.1)).2.2.2.2.2
              rwa [hp2.out.2.1] at this
            have HGA : Hid (GR (W9.setCell ⟨n.b, 1, none⟩ (.int .i64 p.num)) g (.pointer (some pa)) (.slice (some ⟨r, 0, none⟩) ns.length c) made b (updG (updG (updG ns q.num (kidsF n.num a6 l6 c6)) p.num (putF n.num at' a8 L8.length c8)) n.num fun x => { x with par := p.num })) := by
              have h1 := HG9.out.parOf (W2 := W9.setCell ⟨n.b, 1, none⟩ (.int .i64 p.num)) (by rw [updG_nums (f := putF n.num at' a8 L8.length c8) (fun _ => rfl)]; exact HN1.out) hn2.out.1 (p.num : Int) (by
                rw [hn2.out.2.1]
                have hh := HNB.out
                unfold GN.blk at hh ⊢
                rw [heap_setCell_row hh]; rfl) (fun k _ hne => by
                rw [hn2.out.2.1] at hne
                exact Below.heap_setCell W9 ⟨n.b, 1, none⟩ _ k hne)
              rw [hn2.out.2.2] at h1
              exact h1
            have HSS : Hid (movS (ns.map GN.pl) n.num p.num at' = (updG (updG (updG ns q.num (kidsF n.num a6 l6 c6)) p.num (putF n.num at' a8 L8.length c8)) n.num fun x => { x with par := p.num }).map GN.pl) := by
              unfold Hid
              rw [updG_pl (f' := fun x => { x with par := p.num }) _ (fun _ => rfl), updG_pl (f' := fun x => { x with kids := insL (noneOf n.num x.kids) at' n.num }) _ (fun _ => rfl), updG_pl (f' := fun x => { x with kids := noneOf n.num x.kids }) _ (fun _ => rfl)]
              have e1 : (tPar (treeS (ns.map GN.pl)) n.num).toNat = q.num := by rw [← hq.out.2.2]; rfl
              unfold movS
              rw [e1]
            have HR : Hid (KStepPost DS w (fun k => Fg k ∨ Fx k) g (.pointer (some pa)) b (moveS (ns.map GN.pl) X Y Z) made rs (.returned (.bool true)) (W9.setCell ⟨n.b, 1, none⟩ (.int .i64 p.num))) := by
              have hnm : n.pl ∈ ns.map GN.pl := List.mem_map.2 ⟨n, HD.out.2.1, rfl⟩
              have hpm : p.pl ∈ ns.map GN.pl := List.mem_map.2 ⟨p, HD.out.2.2, rfl⟩
              have hz4 : w.heap.size ≤ w6.heap.size := HF4.out.size
              have hz7 : w6.heap.size ≤ W7.heap.size := HZ7.out
              have hz9 : W7.heap.size ≤ W9.heap.size := HW9.out.2.2.2.2
              have hfp : ∀ k, fpG g (.slice (some ⟨r, 0, none⟩) ns.length c) (updG (updG (updG ns q.num (kidsF n.num a6 l6 c6)) p.num (putF n.num at' a8 L8.length c8)) n.num fun x => { x with par := p.num }) k → Fg k ∨ w6.heap.size ≤ k := fun k hk => by
                rcases hk with rfl | ⟨y, hy, rfl⟩ | hk | ⟨y, hy, hk⟩
                · exact Or.inl HD.out.1.inb
                · obtain ⟨x2, hx2, rfl⟩ := List.mem_map.1 hy
                  obtain ⟨x1, hx1, rfl⟩ := List.mem_map.1 hx2
                  obtain ⟨x, hx, rfl⟩ := List.mem_map.1 hx1
                  left
                  have := HD.out.1.inn x hx
                  (repeat' split) <;> exact this
                · exact Or.inl (HD.out.1.inl k hk)
                · obtain ⟨x2, hx2, rfl⟩ := List.mem_map.1 hy
                  have e2 : (if x2.num = n.num then ({ x2 with par := p.num } : GN) else x2).ks = x2.ks := by split <;> rfl
                  rw [e2] at hk
                  obtain ⟨x1, hx1, rfl⟩ := List.mem_map.1 hx2
                  by_cases he : x1.num = p.num
                  · rw [if_pos he] at hk
                    exact Or.inr (Nat.le_trans hz7 (HW9.out.2.2.1.lt k hk).1)
                  · rw [if_neg he] at hk
                    obtain ⟨x, hx, rfl⟩ := List.mem_map.1 hx1
                    by_cases he : x.num = q.num
                    · rw [if_pos he] at hk
                      exact Or.inr (HK6.out k hk)
                    · rw [if_neg he] at hk
                      exact Or.inl (HD.out.1.ink x hx k hk)
              refine ⟨rfl, ?_⟩
              rw [HM.out]
              refine gq_close HP.out HSS.out HGA.out (HD.out.1.pw.mov hnm HTT.out.2.1 hpm HTT.out.2.2 at') (Fx2 := fun k => More Fx w4.drew k ∧ k < w6.heap.size) ?_ ?_ (fun k hk => (hfp k hk).imp id (fun hk => Nat.le_trans hz4 hk)) (fun k hk => hk.1.imp id (fun hk => Nat.le_trans HB4.out.size hk)) (fun k hk hx => ?_)
              · have hds := HX.out.2.1
                rw [HTT.out.1] at hds
                have hds2 := HP.out.here (HP.out.mark hds (movS_marks HD.out.1.pw hnm HTT.out.2.1 hpm HTT.out.2.2 at'))
                refine HP.out.keep hds2 (fun k hk hl => ?_) (by simp; omega)
                have hnF : ¬ Fg k := fun hF => HDIS.out k hF hk.1
                have hkn : k ≠ n.b := fun e => hnF (by rw [e]; exact HD.out.1.inn n HD.out.2.1)
                have hkp : k ≠ p1.b := fun e => hnF (by rw [e, hp1.out.2.1]; exact HD.out.1.inn p HD.out.2.2)
                exact (Below.heap_setCell W9 ⟨n.b, 1, none⟩ _ k hkn).trans ((HW9.out.2.1 k (by omega) hkp).trans (HOT7.out k hl hnF))
              · exact HW9.out.2.2.2.1.set (p := ⟨n.b, 1, none⟩) (Or.inl (Or.inl (HD.out.1.inn n HD.out.2.1))) _
              · rcases hfp k hk with hF | hN
                · exact HDIS.out k hF hx.1
                · have := hx.2
                  omega
            clear HG7 HG9 HGA HSS HW9 HX HF4 HF7 HG4 HTT HO4 HO7 HN1 HOT7 HK6 hn1 hp1 hn2 hp2 HNB
            go_wp2
            go_ret
            exact HR.out
end
end Go.Proofs.YtblfffbmklkhmaaGreat
