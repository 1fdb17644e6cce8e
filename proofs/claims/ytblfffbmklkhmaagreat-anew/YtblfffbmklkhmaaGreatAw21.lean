/- Own work. -/
import Derived.Test.YtblfffbmklkhmaaGreatAw20
namespace Go.Proofs.YtblfffbmklkhmaaGreat
open Go.RowKit
/-- What insert makes of a grove. -/
def insertS (b : Nat) (S : List PNd) (made : Nat) (X Y Z : Int) : List PNd × Nat :=
  if 24 ≤ S.length then (S, made) else (insS S made (pickS S X).num (pickZ Y ((pickS S X).kids.length + 1)) (letB (pickZ Z 4 + b)), made + 1)
abbrev stepO (kd X Y Z : Int) : Obj := .cells #[.int .i64 kd, .int .i64 X, .int .i64 Y, .int .i64 Z] 78
theorem one_p (x : Option Addr) : ∀ u ∈ [Value.pointer x], u.oneCell' = true := by
  intro u hu
  rw [List.mem_singleton] at hu
  rw [hu]
  rfl
theorem ins_answer {S : List PNd} {made : Nat} (h : PW S made) {p : PNd} (hp : p ∈ S) {at' : Nat} (hat : at' ≤ p.kids.length) {kind : ByteArray} (hk : isLetter kind = true) {y nn : Int} {T' : Tree} {made' : Nat} (ht : TIns (treeS S) made p.num at' kind y T' made' nn) :
    (24 ≤ S.length → y = 9 ∧ nn = 0 ∧ T' = treeS S ∧ made' = made) ∧ (¬ 24 ≤ S.length → y = 0 ∧ nn = made ∧ made' = made + 1 ∧ T' = treeS (insS S made p.num at' kind)) := by
  have hy : y = if 24 ≤ S.length then 9 else 0 := by
    rw [ht.1]
    unfold tInsErr
    rw [treeS_find h hp]
    show (if (at' : Int) < 0 ∨ (p.kids.length : Int) < (at' : Int) then (8 : Int) else if isLetter kind = false then 4 else if 24 ≤ (treeS S).length then 9 else 0) = _
    rw [if_neg (by omega), if_neg (by rw [hk]; simp), treeS_len]
  refine ⟨fun h24 => ?_, fun h24 => ?_⟩
  · rw [if_pos h24] at hy
    rcases ht.2 with ⟨_, h2, h3, h4⟩ | ⟨h1, _⟩
    · exact ⟨hy, h2, h3, h4⟩
    · omega
  · rw [if_neg h24] at hy
    rcases ht.2 with ⟨h1, _⟩ | ⟨_, h2, h3, q, k, hq, hk2, _, h4⟩
    · exact absurd hy h1
    · have e1 : p.num = q := by omega
      have e2 : at' = k := by omega
      subst e1 e2
      exact ⟨hy, h2, h3, by rw [h4, insS_tree]⟩
section
set_option maxRecDepth 100000
set_option maxHeartbeats 1500000
variable {DS : World → Value → Tree → Nat → (Nat → Mk) → List PRu → (Nat → Prop) → Prop}
theorem kinsert_any (hP : DocOK DS) (w : World) (g : Nat) (px vl : Value) (made b : Nat) (ns : List GN) (rs : List PRu) (Fg Fx : Nat → Prop) (h : GD DS w g px vl made b ns rs Fg Fx) (kd X Y Z : Int) (hX : Fit X) (hY : Fit Y) (hZ : Fit Z) (hb : b ≤ 25) (hmade : made ≤ 4611686018427387904) :
    Calls Tryz.prog 67 #[.pointer (some ⟨g, 0, none⟩), .agg #[.int .i64 kd, .int .i64 X, .int .i64 Y, .int .i64 Z]] w fun e w' => KStepPost DS w (fun k => Fg k ∨ Fx k) g px b (insertS b (ns.map GN.pl) made X Y Z).1 (insertS b (ns.map GN.pl) made X Y Z).2 rs e w' := by
  obtain ⟨pa, rfl⟩ := hP.ptr h.ds
  obtain ⟨a, c, hv⟩ := own_shape h.gr.row
  subst hv
  have HP : Hid (DocOK DS) := hP
  have hlen := h.len
  obtain ⟨h0, hl⟩ := hlen
  obtain ⟨n, hn, hpk, r, hr, hrl, hrc⟩ := pick_node h.gr h0 X
  subst hr
  have hkl : n.kids.length ≤ 24 := by
    have := h.pw.tw.len (mem_treeS (List.mem_map.2 ⟨n, hn, rfl⟩ : n.pl ∈ ns.map GN.pl))
    rw [treeS_len, List.length_map] at this
    have h2 : n.kids.length < ns.length := this
    omega
  have HIS : Hid (insertS b (ns.map GN.pl) made X Y Z = if 24 ≤ ns.length then (ns.map GN.pl, made) else (insS (ns.map GN.pl) made n.num (pickZ Y (n.kids.length + 1)) (letB (pickZ Z 4 + b)), made + 1)) := by
    unfold Hid insertS
    rw [hpk, List.length_map]
    rfl
  have HD : Hid (GD DS w g (.pointer (some pa)) (.slice (some ⟨r, 0, none⟩) ns.length c) made b ns rs Fg Fx ∧ n ∈ ns) := ⟨h, hn⟩
  have HB0 : Hid (∀ k, Below w.heap.size w ((w.alloc (stepO kd X Y Z)).drewN k)) := fun k => below_draws ((Below.refl _ _).alloc (Nat.le_refl _) _) k
  have hgl := h.gr.lt
  have q1 := h.gr.c1
  have q3 := h.gr.c3
  obtain ⟨ak, ck, hks⟩ := own_shape (h.gr.kid n hn)
  obtain ⟨_, _, _, n8, _, hnb⟩ := node_cells (h.gr.nd n hn)
  rw [hks] at n8
  have hpl : ((pickZ X ns.length : Nat) : Int) < (ns.length : Int) := by have := pickZ_lt X h0; omega
  have HPC : Hid (∀ k, Calls Tryz.prog 17 #[.int .i64 X, .int .i64 (ns.length : Int)] ((w.alloc (stepO kd X Y Z)).drewN k) fun e w' => e = .returned (.int .i64 ((pickZ X ns.length : Nat) : Int)) ∧ w' = (w.alloc (stepO kd X Y Z)).drewN k) := fun k => kpick_any _ X ns.length hX h0 (by omega)
  have hwr : IntKind.i64.wrap ((n.kids.length : Int) + 1) = (n.kids.length : Int) + 1 := by rw [IntKind.wrap_i64]; omega
  have HPD : Hid (∀ W, Calls Tryz.prog 17 #[.int .i64 Y, .int .i64 (IntKind.i64.wrap ((n.kids.length : Int) + 1))] W fun e w' => e = .returned (.int .i64 ((pickZ Y (n.kids.length + 1) : Nat) : Int)) ∧ w' = W) := fun W => by
    have := kpick_any W Y (n.kids.length + 1) hY (by omega) (by omega)
    rw [hwr]
    rwa [show ((n.kids.length + 1 : Nat) : Int) = (n.kids.length : Int) + 1 from by omega] at this
  have HPE : Hid (∀ W, Calls Tryz.prog 17 #[.int .i64 Y, .int .i64 ((n.kids.length : Int) + 1)] W fun e w' => e = .returned (.int .i64 ((pickZ Y (n.kids.length + 1) : Nat) : Int)) ∧ w' = W) := fun W => by have := HPD.out W; rwa [hwr] at this
  have HKS : Hid (n.ks = .slice ak n.kids.length ck) := hks
  clear h hn hpk hP hks hwr
  generalize pickZ X ns.length = xi at hrc hpl HPC
  go_enter Tryz.func67, Tryz.ntmps67
  go_upto_region 1 with fail
  go_quiet ((go_at_call 17; exact Calls.quiet_of_same (HPC.out _)))
  go_upto_region 2 with fail
  have HB1 : Hid (Below w.heap.size w ((w.alloc (stepO kd X Y Z)).drewN nq)) := HB0.out nq
  have HSB : Hid (((w.alloc (stepO kd X Y Z)).drewN nq).heap[w.heap.size]? = some (stepO kd X Y Z)) := heap_alloc_new w _
  clear q1 q3 n8 hrc HB0 HPC
  generalize (w.alloc (stepO kd X Y Z)).drewN nq = W1 at HB1 HSB ⊢
  have HG1 : Hid (GR W1 g (.pointer (some pa)) (.slice (some ⟨r, 0, none⟩) ns.length c) made b ns) := HD.out.1.gr.below HB1.out
  have s2 : W1.cell? ⟨w.heap.size, 2, none⟩ = some (.int .i64 Y) := cell_of_blk HSB.out rfl
  have s3 : W1.cell? ⟨w.heap.size, 3, none⟩ = some (.int .i64 Z) := cell_of_blk HSB.out rfl
  have hszl : w.heap.size < W1.heap.size := (Array.getElem?_eq_some_iff.1 HSB.out).1
  have hgl1 := HG1.out.lt
  obtain ⟨_, _, _, m8, _, hnb1⟩ := node_cells (HG1.out.nd n HD.out.2)
  rw [HKS.out] at m8
  go_quiet ((go_at_call 17; first | exact Calls.quiet_of_same (HPE.out _) | exact Calls.quiet_of_same (HPD.out _)))
  go_upto_region 3 with fail
  have hat : pickZ Y (n.kids.length + 1) ≤ n.kids.length := by have := pickZ_lt Y (show 0 < n.kids.length + 1 by omega); omega
  generalize pickZ Y (n.kids.length + 1) = at' at hat HIS ⊢
  clear HPD HPE s2 m8
  have HB2 : Hid (∀ k, Below w.heap.size w (W1.drewN k)) := fun k => below_draws HB1.out k
  have HS2 : Hid (∀ k, (W1.drewN k).heap[w.heap.size]? = some (stepO kd X Y Z)) := fun _ => HSB.out
  have HB3 : Hid (Below w.heap.size w (W1.drewN nq)) := HB2.out _
  have HS3 : Hid ((W1.drewN nq).heap[w.heap.size]? = some (stepO kd X Y Z)) := HS2.out _
  clear HB2 HS2 HG1 HB1 HSB s3 hszl hgl1 hnb1
  generalize W1.drewN nq = W2 at HB3 HS3 ⊢
  have HG2 : Hid (GR W2 g (.pointer (some pa)) (.slice (some ⟨r, 0, none⟩) ns.length c) made b ns) := HD.out.1.gr.below HB3.out
  have HC3 : Hid (∀ wx, Below W2.drew.heap.size W2.drew wx → wx.cell? ⟨w.heap.size, 3, none⟩ = some (.int .i64 Z) ∧ wx.cell? ⟨g, 3, none⟩ = some (.int .i64 b)) := fun wx hb => by
    have hs : wx.heap[w.heap.size]? = some (stepO kd X Y Z) := (hb.block _ (Array.getElem?_eq_some_iff.1 HS3.out).1).trans HS3.out
    exact ⟨cell_of_blk hs rfl, ((HG2.out.below (Below.refl _ _).drew).below hb).c3⟩
  have H03 : Hid (Below W2.drew.heap.size W2.drew W2.drew) := Below.refl _ _
  have hz4 : pickZ Z 4 ≤ 3 := by have := pickZ_lt Z (show 0 < 4 by decide); omega
  go_cut [7] (fun v wx => v = .string (letB (pickZ Z 4 + b)) ∧ Hid (Below W2.drew.heap.size W2.drew wx))
  case first =>
    go_region_held3 (fun w' => w'.cell? ⟨w.heap.size, 3, none⟩ = some (.int .i64 Z) ∧ w'.cell? ⟨g, 3, none⟩ = some (.int .i64 b)) (first | exact HC3.out _ HL.out | exact HC3.out _ H03.out)
      (first | (go_at_call 17; refine (kpick_any _ Z 4 hZ (by decide) (by decide)).mono ?_; rintro e w3 ⟨rfl, rfl⟩) | (go_at_call 25; refine (kletter_any _ (pickZ Z 4) b hz4 hb).mono ?_; rintro e w3 ⟨rfl, hB3⟩; have HL : Hid (Below W2.drew.heap.size W2.drew w3) := hB3; clear hB3))
    all_goals
      go_wp2_with fail
      go_meet
      exact ⟨rfl, HL⟩
  case rest =>
    obtain ⟨rfl, HL⟩ := hcut
    have HKL : Hid (isLetter (letB (pickZ Z 4 + b)) = true) := isLetter_letB _
    generalize letB (pickZ Z 4 + b) = kind at HKL HIS ⊢
    have HB4 : Hid (Below w.heap.size w wc) := (HB3.out.drew).trans (HL.out.mono (by have := HB3.out.size; exact this))
    obtain ⟨W3, rfl⟩ : ∃ W3, W3 = wc := ⟨_, rfl⟩
    clear HL HC3 H03 HG2 HB3 HS3 hz4
    have HG3 : Hid (GR W3 g (.pointer (some pa)) (.slice (some ⟨r, 0, none⟩) ns.length c) made b ns) := HD.out.1.gr.below HB4.out
    have HDS3 : Hid (DS W3.drew (.pointer (some pa)) (treeS (ns.map GN.pl)) made (mOf b (ns.map GN.pl)) rs Fx) := HP.out.keep HD.out.1.ds (fun k _ hl => HB4.out.block k hl) HB4.out.size
    have HC4 : Hid (∀ wx, Fr W3.drew wx Fx → wx.cell? ⟨g, 0, none⟩ = some (.pointer (some pa)) ∧ wx.cell? ⟨n.b, 0, none⟩ = some (.int .i64 n.num)) := fun wx hf => by
      have hnd := HG3.out.nd n HD.out.2
      have e1 : wx.heap[g]? = W3.heap[g]? := hf.block g HG3.out.lt (HD.out.1.gx g HD.out.1.inb)
      have e2 : wx.heap[n.b]? = W3.heap[n.b]? := hf.block n.b (Array.getElem?_eq_some_iff.1 hnd).1 (HD.out.1.gx n.b (HD.out.1.inn n HD.out.2))
      exact ⟨cell_of_blk (e1.trans HG3.out.blk) rfl, cell_of_blk (e2.trans hnd) rfl⟩
    have H04 : Hid (Fr W3.drew W3.drew Fx) := Fr.refl _ _
    go_upto_region 4 with fail
    go_cut [8, 9] (fun nv yv wx => ∃ (y nn : Int) (T' : Tree) (made' : Nat), nv = .int .i64 nn ∧ yv = .int .i64 y ∧ Hid (TIns (treeS (ns.map GN.pl)) made n.num at' kind y T' made' nn ∧ DS wx (.pointer (some pa)) T' made' (if y = 0 then setM (mOf b (ns.map GN.pl)) made (newMk kind) else mOf b (ns.map GN.pl)) rs (More Fx W3.drew) ∧ Fr W3.drew wx Fx))
    case first =>
      go_region_held3 (fun w' => w'.cell? ⟨g, 0, none⟩ = some (.pointer (some pa)) ∧ w'.cell? ⟨n.b, 0, none⟩ = some (.int .i64 n.num)) (first | exact HC4.out _ H04.out | exact HC4.out _ HX.out.2.2)
        (first | (go_at_call 36; refine (HP.out.ins _ (.pointer (some pa)) (treeS (ns.map GN.pl)) made (mOf b (ns.map GN.pl)) rs Fx n.num at' kind HDS3.out hmade).mono ?_; rintro e w5 ⟨y, T', made', nn, rfl, hT, hds, hf5⟩; have HX : Hid (TIns (treeS (ns.map GN.pl)) made n.num at' kind y T' made' nn ∧ DS w5 (.pointer (some pa)) T' made' (if y = 0 then setM (mOf b (ns.map GN.pl)) made (newMk kind) else mOf b (ns.map GN.pl)) rs (More Fx W3.drew) ∧ Fr W3.drew w5 Fx) := ⟨hT, hds, hf5⟩; clear hT hds hf5))
      all_goals
        go_wp2_with fail
        go_meet
        exact ⟨y, nn, T', made', rfl, rfl, HX⟩
    case rest =>
      obtain ⟨y, nn, T', made', rfl, rfl, HX⟩ := hcut
      have hans := ins_answer HD.out.1.pw (List.mem_map.2 ⟨n, HD.out.2, rfl⟩ : n.pl ∈ ns.map GN.pl) hat HKL.out HX.out.1
      rw [List.length_map] at hans
      obtain ⟨W4, rfl⟩ : ∃ W4, W4 = wc := ⟨_, rfl⟩
      have HG4 : Hid (GR W4 g (.pointer (some pa)) (.slice (some ⟨r, 0, none⟩) ns.length c) made b ns) := (HG3.out.below (Below.refl _ _).drew).keep (fun k hl hk => HX.out.2.2.block k hl (HD.out.1.gx k (HD.out.1.mine hk)))
      have u1 := HG4.out.c1
      have hgl4 := HG4.out.lt
      by_cases h24 : 24 ≤ ns.length
      · obtain ⟨rfl, rfl, hT, rfl⟩ := hans.1 h24
        have HR : Hid (KStepPost DS w (fun k => Fg k ∨ Fx k) g (.pointer (some pa)) b (insertS b (ns.map GN.pl) made' X Y Z).1 (insertS b (ns.map GN.pl) made' X Y Z).2 rs (.returned (.bool true)) W4) := by
          refine ⟨rfl, ?_⟩
          rw [HIS.out, if_pos h24]
          have hds := HX.out.2.1
          rw [hT, if_neg (by decide)] at hds
          refine gq_close HP.out rfl HG4.out HD.out.1.pw hds (((Fr.refl w (fun k => Fg k ∨ Fx k)).below HB4.out).drew1.trans (HX.out.2.2.mono (fun k hk => Or.inr hk))) (fun k hk => Or.inl (HD.out.1.mine hk)) (fun k hk => hk.imp id (fun hk => Nat.le_trans HB4.out.size hk)) (fun k hk hx => ?_)
          rcases hx with hx | hx
          · exact HD.out.1.gx k (HD.out.1.mine hk) hx
          · have h1 := HD.out.1.here k (Or.inl (HD.out.1.mine hk))
            have h2 := HB4.out.size
            have h3 : W3.heap.size ≤ k := hx
            omega
        have d24 : decide ((24 : Int) ≤ (ns.length : Int)) = true := by simp; omega
        clear hT hans
        go_wp2
        go_ret
        exact HR.out
      · obtain ⟨rfl, rfl, rfl, hT⟩ := hans.2 h24
        have d24 : decide ((24 : Int) ≤ (ns.length : Int)) = false := by simp; omega
        have u2 := HG4.out.c2
        have u2f : W4.frozen? ⟨g, 2, none⟩ = false := frozen_of_blk HG4.out.blk
        have HTT : Hid (T' = treeS (insS (ns.map GN.pl) made n.num at' kind)) := hT
        clear hT hans
        go_upto_region 10 with fail
        have HF5 : Hid (Fr w (W4.setCell ⟨g, 2, none⟩ (.int .i64 ((made : Int) + 1))) (fun k => Fg k ∨ Fx k)) := (((Fr.refl w (fun k => Fg k ∨ Fx k)).below HB4.out).drew1.trans (HX.out.2.2.mono (fun k hk => Or.inr hk))).set (p := ⟨g, 2, none⟩) (Or.inl (Or.inl HD.out.1.inb)) _
        have HG5 : Hid (GR (W4.setCell ⟨g, 2, none⟩ (.int .i64 ((made : Int) + 1))) g (.pointer (some pa)) (.slice (some ⟨r, 0, none⟩) ns.length c) (made + 1) b ns) := HG4.out.count
        have HDS5 : Hid (DS (W4.setCell ⟨g, 2, none⟩ (.int .i64 ((made : Int) + 1))) (.pointer (some pa)) (treeS (insS (ns.map GN.pl) made n.num at' kind)) (made + 1) (mOf b (insS (ns.map GN.pl) made n.num at' kind)) rs (fun k => More Fx W3.drew k ∧ k < W4.heap.size)) := by
          have hds := HX.out.2.1
          rw [HTT.out, if_pos rfl] at hds
          have hds2 := HP.out.here (HP.out.mark hds (insS_marks HD.out.1.pw (List.mem_map.2 ⟨n, HD.out.2, rfl⟩ : n.pl ∈ ns.map GN.pl) at' kind (by rw [List.length_map]; omega)))
          refine HP.out.keep hds2 (fun k hk _ => Below.heap_setCell W4 ⟨g, 2, none⟩ _ k (fun e => ?_)) (by simp)
          replace e : k = g := e
          rw [e] at hk
          rcases hk.1 with hk | hk
          · exact HD.out.1.gx g HD.out.1.inb hk
          · have h1 := HD.out.1.gr.lt
            have h2 := HB4.out.size
            have h3 : W3.heap.size ≤ g := hk
            omega
        have hz45 : (W4.setCell ⟨g, 2, none⟩ (.int .i64 ((made : Int) + 1))).heap.size = W4.heap.size := by simp
        have HZ4 : Hid (w.heap.size ≤ W4.heap.size) := Nat.le_trans HB4.out.size HX.out.2.2.size
        clear u1 u2 u2f hgl4 HG4 HX HTT
        generalize W4.heap.size = z4 at HDS5 hz45 HZ4
        generalize W4.setCell ⟨g, 2, none⟩ (.int .i64 ((made : Int) + 1)) = W5 at HF5 HG5 HDS5 hz45 ⊢
        have HZ5 : Hid (W5.heap.size = z4) := hz45
        clear hz45
        obtain ⟨_, _, _, m8, _, hnb5⟩ := node_cells (HG5.out.nd n HD.out.2)
        have HK5 := HG5.out.kid n HD.out.2
        rw [HKS.out] at m8 HK5
        have HK5h : Hid (W5.ownsRow 0 3 1 (.slice ak n.kids.length ck) n.kids.length (ints n.kids)) := HK5
        clear HK5
        go_wp2_with fail
        refine (kput_any W5 ak ck n.kids at' made 0 HK5h.out hkl hat).mono ?_
        rintro e w6 ⟨a6, c6, rfl, hown6, hB6⟩
        have HO6 : Hid (w6.ownsRow W5.heap.size 3 1 (.slice a6 (insL n.kids at' made).length c6) (insL n.kids at' made).length (ints (insL n.kids at' made)) ∧ Below W5.heap.size W5 w6) := ⟨hown6, hB6⟩
        have hbk6 : w6.heap[n.b]? = some n.blk := (hB6.block n.b hnb5).trans (HG5.out.nd n HD.out.2)
        have v8 : w6.cell? ⟨n.b, 8, none⟩ = some (.slice ak n.kids.length ck) := by rw [← HKS.out]; exact cell_of_blk hbk6 rfl
        have v8f : w6.frozen? ⟨n.b, 8, none⟩ = false := frozen_of_blk hbk6
        have hnb6 : n.b < w6.heap.size := (Array.getElem?_eq_some_iff.1 hbk6).1
        have HBK6 : Hid (w6.heap[n.b]? = some n.blk) := hbk6
        clear hown6 hB6 hbk6 m8
        go_upto_region 11 with fail
        obtain ⟨L6, hL6⟩ : ∃ L6, insL n.kids at' made = L6 := ⟨_, rfl⟩
        rw [hL6] at HO6 ⊢
        have HL6 : Hid (insL n.kids at' made = L6) := hL6
        clear hL6
        have HBK7 : Hid ((w6.setCell ⟨n.b, 8, none⟩ (.slice a6 L6.length c6)).heap[n.b]? = some ({ n with kids := L6, ks := .slice a6 L6.length c6 } : GN).blk) := by
          have hh := HBK6.out
          unfold Hid
          unfold GN.blk at hh ⊢
          rw [heap_setCell_row hh]; rfl
        have HOT7 : Hid (∀ k, k < W5.heap.size → k ≠ n.b → (w6.setCell ⟨n.b, 8, none⟩ (.slice a6 L6.length c6)).heap[k]? = W5.heap[k]?) := fun k hk hne => (Below.heap_setCell w6 ⟨n.b, 8, none⟩ _ k hne).trans (HO6.out.2.block k hk)
        have HK7 : Hid ((w6.setCell ⟨n.b, 8, none⟩ (.slice a6 L6.length c6)).ownsRow W5.heap.size 3 1 (.slice a6 L6.length c6) L6.length (ints L6)) := ownsRow_setCell_below HO6.out.1 (by exact hnb5) _
        have HF7 : Hid (Fr w (w6.setCell ⟨n.b, 8, none⟩ (.slice a6 L6.length c6)) (fun k => Fg k ∨ Fx k)) := (HF5.out.below HO6.out.2).set (p := ⟨n.b, 8, none⟩) (Or.inl (Or.inl (HD.out.1.inn n HD.out.2))) _
        have HZ7 : Hid (W5.heap.size ≤ (w6.setCell ⟨n.b, 8, none⟩ (.slice a6 L6.length c6)).heap.size) := by have := HO6.out.2.size; unfold Hid; simpa using this
        clear v8 v8f hnb6 HBK6 HO6
        generalize w6.setCell ⟨n.b, 8, none⟩ (.slice a6 L6.length c6) = W7 at HBK7 HOT7 HK7 HF7 HZ7 ⊢
        have HG7 : Hid (GR W7 g (.pointer (some pa)) (.slice (some ⟨r, 0, none⟩) ns.length c) (made + 1) b (updG ns n.num fun x => { x with kids := insL x.kids at' made, ks := .slice a6 L6.length c6 })) := HG5.out.put HD.out.1.gt.nums HD.out.2 (f := fun x => { x with kids := insL x.kids at' made, ks := .slice a6 L6.length c6 }) (fun _ => rfl) (by rw [HL6.out]; exact HBK7.out) HOT7.out (by show W7.ownsRow 0 3 1 (.slice a6 L6.length c6) (insL n.kids at' made).length (ints (insL n.kids at' made)); rw [HL6.out]; exact own_mono HK7.out (Nat.zero_le _))
        have HRW : Hid (W7.ownsRow 0 43 1 (.slice (some ⟨r, 0, none⟩) ns.length c) ns.length (ns.map GN.ptr)) := by
          have := HG7.out.row
          rw [updG_ptr (f := fun x => { x with kids := insL x.kids at' made, ks := .slice a6 L6.length c6 }) _ (fun _ => rfl), updG_len] at this
          exact this
        have x1 := HG7.out.c1
        have hg7 := HG7.out.lt
        have x0 : W7.cell? ⟨n.b, 0, none⟩ = some (.int .i64 n.num) := cell_of_blk HBK7.out rfl
        have hnb7 : n.b < W7.heap.size := (Array.getElem?_eq_some_iff.1 HBK7.out).1
        obtain ⟨i0, hi, iz0, iz1, iz2⟩ := info_parts Tryz.info43
        have HEND : Hid (∀ (w8 : World) (v' : Value), w8.ownsRow 0 43 1 v' (ns.length + 1) (ns.map GN.ptr ++ [.pointer (some ⟨W7.heap.size, 0, none⟩)]) → (((W7.alloc (.cells #[.int .i64 made, .int .i64 n.num, .string kind, .string ⟨#[]⟩, .bool false, .bool false, .bool false, .bool false, .slice none 0 0] 42)).alloc (.cells #[.pointer (some ⟨W7.heap.size, 0, none⟩)] 43)).drew).grownBy w8 (some r) → (∀ j, v'.ownBlock = some j → some r = some j ∨ W7.heap.size ≤ j) → KStepPost DS w (fun k => Fg k ∨ Fx k) g (.pointer (some pa)) b (insertS b (ns.map GN.pl) made X Y Z).1 (insertS b (ns.map GN.pl) made X Y Z).2 rs (.returned (.bool true)) (w8.setCell ⟨g, 1, none⟩ v')) := fun w8 v' hown8 hg8 hb8 => by
          have hrF : Fg r := HD.out.1.inl r rfl
          have hrl7 : r < W7.heap.size := (HRW.out.lt r rfl).2
          have hz7 : W5.heap.size ≤ W7.heap.size := HZ7.out
          have hzz : (((W7.alloc (.cells #[.int .i64 made, .int .i64 n.num, .string kind, .string ⟨#[]⟩, .bool false, .bool false, .bool false, .bool false, .slice none 0 0] 42)).alloc (.cells #[.pointer (some ⟨W7.heap.size, 0, none⟩)] 43)).drew).heap.size = W7.heap.size + 2 := by simp [World.drew]
          have hold : ∀ k, k < W7.heap.size → (some r : Option Nat) ≠ some k → w8.heap[k]? = W7.heap[k]? := fun k hk hne =>
            (hg8.block k (by omega) (fun e => hne e.symm)).trans ((Below.heap_alloc (W7.alloc (.cells #[.int .i64 made, .int .i64 n.num, .string kind, .string ⟨#[]⟩, .bool false, .bool false, .bool false, .bool false, .slice none 0 0] 42)) _ k (by simp; omega)).trans (Below.heap_alloc W7 _ k hk))
          have hnew : w8.heap[W7.heap.size]? = some (.cells #[.int .i64 made, .int .i64 n.num, .string kind, .string ⟨#[]⟩, .bool false, .bool false, .bool false, .bool false, .slice none 0 0] 42) :=
            (hg8.block W7.heap.size (by omega) (fun e => by injection e with e; omega)).trans ((Below.heap_alloc (W7.alloc (.cells #[.int .i64 made, .int .i64 n.num, .string kind, .string ⟨#[]⟩, .bool false, .bool false, .bool false, .bool false, .slice none 0 0] 42)) _ W7.heap.size (by simp)).trans (heap_alloc_new W7 _))
          have hgr := HG7.out.more (x := ⟨W7.heap.size, made, n.num, kind, ⟨#[]⟩, false, false, false, false, [], .slice none 0 0⟩) (v' := v') (w' := w8) (Nat.le_refl _) hnew rfl rfl (by rw [updG_ptr (f := fun x => { x with kids := insL x.kids at' made, ks := .slice a6 L6.length c6 }) _ (fun _ => rfl), updG_len]; exact hown8) (fun k hk hne => hold k hk hne)
          have hnm : n.pl ∈ ns.map GN.pl := List.mem_map.2 ⟨n, HD.out.2, rfl⟩
          have hSS : insS (ns.map GN.pl) made n.num at' kind = (updG ns n.num (fun x => { x with kids := insL x.kids at' made, ks := .slice a6 L6.length c6 }) ++ [(⟨W7.heap.size, made, n.num, kind, ⟨#[]⟩, false, false, false, false, [], .slice none 0 0⟩ : GN)]).map GN.pl := by
            rw [List.map_append, updG_pl (f' := fun x => { x with kids := insL x.kids at' made }) _ (fun _ => rfl)]
            rfl
          have hh := HD.out.1.here
          have hZ5 := HZ5.out
          have hZ4 := HZ4.out
          have hfp : ∀ k, fpG g v' (updG ns n.num (fun x => { x with kids := insL x.kids at' made, ks := .slice a6 L6.length c6 }) ++ [(⟨W7.heap.size, made, n.num, kind, ⟨#[]⟩, false, false, false, false, [], .slice none 0 0⟩ : GN)]) k → Fg k ∨ W5.heap.size ≤ k := fun k hk => by
            rcases hk with rfl | ⟨y, hy, rfl⟩ | hk | ⟨y, hy, hk⟩
            · exact Or.inl HD.out.1.inb
            · rw [List.mem_append, List.mem_singleton] at hy
              rcases hy with hy | rfl
              · obtain ⟨x, hx, rfl⟩ := List.mem_map.1 hy
                left
                split
                · exact HD.out.1.inn x hx
                · exact HD.out.1.inn x hx
              · exact Or.inr hz7
            · rcases hb8 k hk with e | e
              · injection e with e
                rw [← e]
                exact Or.inl hrF
              · exact Or.inr (Nat.le_trans hz7 e)
            · rw [List.mem_append, List.mem_singleton] at hy
              rcases hy with hy | rfl
              · obtain ⟨x, hx, rfl⟩ := List.mem_map.1 hy
                by_cases he : x.num = n.num
                · rw [if_pos he] at hk
                  exact Or.inr (HK7.out.lt k hk).1
                · rw [if_neg he] at hk
                  exact Or.inl (HD.out.1.ink x hx k hk)
              · simp [Value.ownBlock] at hk
          have hsetF : ∀ k, Fg k → k < w.heap.size := fun k hk => hh k (Or.inl hk)
          have hB4z := HB4.out.size
          refine ⟨rfl, ?_⟩
          rw [HIS.out, if_neg h24]
          refine gq_close HP.out hSS hgr (HD.out.1.pw.ins hnm at' kind (by rw [List.length_map]; omega)) (Fx2 := fun k => More Fx W3.drew k ∧ k < z4) ?_ ?_ (fun k hk => (hfp k hk).imp id (fun hk => by omega)) (fun k hk => hk.1.imp id (fun hk => Nat.le_trans hB4z hk)) (fun k hk hx => ?_)
          · refine HP.out.keep HDS5.out (fun k hk hl => ?_) (by have := hg8.size; simp; omega)
            have hnF : ¬ Fg k := fun hF => by
              rcases hk.1 with h1 | h1
              · exact HD.out.1.gx k hF h1
              · have h2 : W3.heap.size ≤ k := h1
                have := hsetF k hF
                omega
            have hkg : k ≠ g := fun e => hnF (by rw [e]; exact HD.out.1.inb)
            have hkr : (some r : Option Nat) ≠ some k := fun e => hnF (by injection e with e; rw [← e]; exact hrF)
            have hkn : k ≠ n.b := fun e => hnF (by rw [e]; exact HD.out.1.inn n HD.out.2)
            exact (Below.heap_setCell w8 ⟨g, 1, none⟩ _ k hkg).trans ((hold k (by omega) hkr).trans (HOT7.out k hl hkn))
          · exact ((((HF7.out.alloc _).alloc _).drew1).gb hg8 (fun k hk => by injection hk with hk; rw [← hk]; exact Or.inl (Or.inl hrF))).set (p := ⟨g, 1, none⟩) (Or.inl (Or.inl HD.out.1.inb)) _
          · rcases hfp k hk with hF | hN
            · rcases hx.1 with h1 | h1
              · exact HD.out.1.gx k hF h1
              · have h2 : W3.heap.size ≤ k := h1
                have := hsetF k hF
                omega
            · have := hx.2
              omega
        have HGB : Hid (W7.heap[g]? = some (.cells #[.pointer (some pa), .slice (some ⟨r, 0, none⟩) ns.length c, .int .i64 ((made + 1 : Nat) : Int), .int .i64 b] 36 (0, 0))) := HG7.out.blk
        have HGR : Hid ((some r : Option Nat) ≠ some g) := own_ne_type HG7.out.row HG7.out.blk (by decide)
        clear HG7 HDS5 HF5 HF7 HZ7 HK7 HOT7 HBK7
        go_region_law (refine step_append_kept rfl (.tmp 98) (.tmp 107) 34 rfl 0 43 i0 (.pointer none) 1 8 Tryz.underlying34 hi iz0 iz1 iz2 rfl (by decide) (.slice (some ⟨r, 0, none⟩) ns.length c) ns.length (ns.map GN.ptr) (by simp [Act.eval]) (((HRW.out.alloc _).alloc _).drew) ⟨W7.heap.size + 1, 0, none⟩ 1 1 [.pointer (some ⟨W7.heap.size, 0, none⟩)] (by simp [Act.eval]) rfl (new_cells (W7.alloc _) _ (by simp) _ _ _ rfl) (one_p _) (by unfold maxLen; omega) (by omega) (Nat.zero_le _) ?_; intro v8 w8 hown8 hg8 hb8; obtain ⟨a8, c8, hv8⟩ := own_shape hown8; have HR8 := HEND.out w8 v8 hown8 hg8 (fun j hj => (hb8.out j hj).imp id (fun h => Nat.le_trans (by simp [World.drew]; omega) h)); have HG8 : Hid (w8.heap[g]? = W7.heap[g]?) := (hg8.block g (by simp [World.drew]; omega) (fun e => HGR.out e.symm)).trans ((Below.heap_alloc (W7.alloc _) _ g (by simp; omega)).trans (Below.heap_alloc W7 _ g hg7)); have y1 : w8.cell? ⟨g, 1, none⟩ = some (.slice (some ⟨r, 0, none⟩) ns.length c) := cell_of_blk (HG8.out.trans HGB.out) rfl; have y1f : w8.frozen? ⟨g, 1, none⟩ = false := frozen_of_blk (HG8.out.trans HGB.out); rw [hv8] at HR8 ⊢; clear hv8 hown8 hg8 hb8)
        all_goals
          go_wp2
          go_ret
          exact HR8
end
end Go.Proofs.YtblfffbmklkhmaaGreat
