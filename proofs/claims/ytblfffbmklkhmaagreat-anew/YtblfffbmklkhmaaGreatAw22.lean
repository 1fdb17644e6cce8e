/- Own work. -/
import Derived.Test.YtblfffbmklkhmaaGreatAw21
namespace Go.Proofs.YtblfffbmklkhmaaGreat
open Go.RowKit
theorem own_keepB {w w' : World} {base : Nat} {e : TypeId} {v : Value} {n : Nat} {xs : List Value} (h : w.ownsRow base e 1 v n xs) (hk : ∀ k, v.ownBlock = some k → k < w.heap.size → w'.heap[k]? = w.heap[k]?) : w'.ownsRow base e 1 v n xs := by
  refine ⟨h.1, ?_⟩
  rcases h.2 with hn | ⟨g, cap, cur, hv, hb, hg, rest⟩
  · exact Or.inl hn
  · exact Or.inr ⟨g, cap, cur, hv, hb, (hk g (by rw [hv]; rfl) (Array.getElem?_eq_some_iff.1 hg).1).trans hg, rest⟩
section
variable {w w' : World} {g : Nat} {px vl : Value} {made b : Nat} {ns : List GN}
/-- Another list of nodes, out of the same. -/
theorem GR.list (h : GR w g px vl made b ns) {ns2 : List GN} {v' : Value} (hs : ∀ n ∈ ns2, n ∈ ns) (hrow : w.ownsRow 0 43 1 v' ns2.length (ns2.map GN.ptr)) : GR (w.setCell ⟨g, 1, none⟩ v') g px v' made b ns2 := by
  refine ⟨by rw [heap_setCell_row h.blk]; rfl, own_keep hrow (fun k hk _ => Below.heap_setCell w ⟨g, 1, none⟩ _ k (fun e => ?_)), fun n hn => (Below.heap_setCell w ⟨g, 1, none⟩ _ n.b (fun e => h.ne_node (hs n hn) e.symm)).trans (h.nd n (hs n hn)), fun n hn => own_keep (h.kid n (hs n hn)) (fun k hk _ => Below.heap_setCell w ⟨g, 1, none⟩ _ k (fun e => ?_))⟩
  · replace e : k = g := e
    rw [e] at hk
    exact own_ne_type hrow h.blk (by decide) hk
  · replace e : k = g := e
    rw [e] at hk
    exact own_ne_type (h.kid n (hs n hn)) h.blk (by decide) hk
end
theorem rem_answer {S : List PNd} {made : Nat} (h : PW S made) {a : PNd} (ha : a ∈ S) {y : Int} {T' : Tree} (ht : TRem (treeS S) a.num y T') :
    (a.par < 0 → y = 6 ∧ T' = treeS S ∧ a.num = 0) ∧ (¬ a.par < 0 → y = 0 ∧ T' = treeS (remS S a.num) ∧ a.num ≠ 0) := by
  have hp := h.par a ha
  have hy : y = if tPar (treeS S) a.num < 0 then 6 else 0 := by
    rw [ht.1]
    unfold tRemErr
    rw [treeS_find h ha]
  have hz := h.tw.par_neg (mem_treeS ha)
  refine ⟨fun hn => ?_, fun hn => ?_⟩
  · rw [hp] at hn
    rw [if_pos hn] at hy
    rcases ht.2 with ⟨_, h2⟩ | ⟨h1, _⟩
    · exact ⟨hy, h2, hz.1 hn⟩
    · omega
  · rw [hp] at hn
    rw [if_neg hn] at hy
    rcases ht.2 with ⟨h1, _⟩ | ⟨_, k, hk, _, _, h2⟩
    · exact absurd hy h1
    · have e1 : a.num = k := by omega
      subst e1
      exact ⟨hy, by rw [h2, remS_tree], fun e => hn (hz.2 e)⟩
noncomputable def removeS (S : List PNd) (X : Int) : List PNd := if (pickS S X).par < 0 then S else remS S (pickS S X).num
noncomputable def stayG (T : Tree) (a : Nat) (ns : List GN) : List GN := ns.filter fun x => !tUnderB T a x.num
theorem stay_take {T : Tree} {a : Nat} {ns : List GN} {i : Nat} (h : i < ns.length) : stayG T a (ns.take (i + 1)) = stayG T a (ns.take i) ++ if tUnderB T a ns[i].num = true then [] else [ns[i]] := by
  unfold stayG
  rw [List.take_succ_eq_append_getElem h, List.filter_append]
  congr 1
  cases hb : tUnderB T a ns[i].num <;> simp [hb]
theorem stay_len (T : Tree) (a : Nat) (ns : List GN) : (stayG T a ns).length ≤ ns.length := List.length_filter_le _ _
section
set_option maxRecDepth 100000
set_option maxHeartbeats 1500000
variable {DS : World → Value → Tree → Nat → (Nat → Mk) → List PRu → (Nat → Prop) → Prop}
theorem kremove_any (hP : DocOK DS) (w : World) (g : Nat) (px vl : Value) (made b : Nat) (ns : List GN) (rs : List PRu) (Fg Fx : Nat → Prop) (h : GD DS w g px vl made b ns rs Fg Fx) (kd X Y Z : Int) (hX : Fit X) :
    Calls Tryz.prog 68 #[.pointer (some ⟨g, 0, none⟩), .agg #[.int .i64 kd, .int .i64 X, .int .i64 Y, .int .i64 Z]] w fun e w' => KStepPost DS w (fun k => Fg k ∨ Fx k) g px b (removeS (ns.map GN.pl) X) made rs e w' := by
  obtain ⟨pa, rfl⟩ := hP.ptr h.ds
  obtain ⟨a, c, hv⟩ := own_shape h.gr.row
  subst hv
  have HP : Hid (DocOK DS) := hP
  have hlen := h.len
  obtain ⟨h0, hl⟩ := hlen
  obtain ⟨n, hn, hpk, r, hr, hrl, hrc⟩ := pick_node h.gr h0 X
  subst hr
  have HRS : Hid (removeS (ns.map GN.pl) X = if n.par < 0 then ns.map GN.pl else remS (ns.map GN.pl) n.num) := by
    unfold Hid removeS
    rw [hpk]
    rfl
  have HD : Hid (GD DS w g (.pointer (some pa)) (.slice (some ⟨r, 0, none⟩) ns.length c) made b ns rs Fg Fx ∧ n ∈ ns) := ⟨h, hn⟩
  have HB0 : Hid (∀ k, Below w.heap.size w ((w.alloc (stepO kd X Y Z)).drewN k)) := fun k => below_draws ((Below.refl _ _).alloc (Nat.le_refl _) _) k
  have hgl := h.gr.lt
  have q1 := h.gr.c1
  have hpl : ((pickZ X ns.length : Nat) : Int) < (ns.length : Int) := by have := pickZ_lt X h0; omega
  have HPC : Hid (∀ k, Calls Tryz.prog 17 #[.int .i64 X, .int .i64 (ns.length : Int)] ((w.alloc (stepO kd X Y Z)).drewN k) fun e w' => e = .returned (.int .i64 ((pickZ X ns.length : Nat) : Int)) ∧ w' = (w.alloc (stepO kd X Y Z)).drewN k) := fun k => kpick_any _ X ns.length hX h0 (by omega)
  clear h hn hpk hP
  generalize pickZ X ns.length = xi at hrc hpl HPC
  go_enter Tryz.func68, Tryz.ntmps68
  go_upto_region 1 with fail
  go_quiet ((go_at_call 17; exact Calls.quiet_of_same (HPC.out _)))
  go_upto_region 2 with fail
  have HB4 : Hid (Below w.heap.size w ((w.alloc (stepO kd X Y Z)).drewN nq)) := HB0.out nq
  clear q1 hrc HB0 HPC
  generalize (w.alloc (stepO kd X Y Z)).drewN nq = W3 at HB4 ⊢
  have HG3 : Hid (GR W3 g (.pointer (some pa)) (.slice (some ⟨r, 0, none⟩) ns.length c) made b ns) := HD.out.1.gr.below HB4.out
  have HDS3 : Hid (DS W3.drew (.pointer (some pa)) (treeS (ns.map GN.pl)) made (mOf b (ns.map GN.pl)) rs Fx) := HP.out.keep HD.out.1.ds (fun k _ hl => HB4.out.block k hl) HB4.out.size
  have HC4 : Hid (∀ wx, Fr W3.drew wx Fx → wx.cell? ⟨g, 0, none⟩ = some (.pointer (some pa)) ∧ wx.cell? ⟨n.b, 0, none⟩ = some (.int .i64 n.num)) := fun wx hf => by
    have hnd := HG3.out.nd n HD.out.2
    have e1 : wx.heap[g]? = W3.heap[g]? := hf.block g HG3.out.lt (HD.out.1.gx g HD.out.1.inb)
    have e2 : wx.heap[n.b]? = W3.heap[n.b]? := hf.block n.b (Array.getElem?_eq_some_iff.1 hnd).1 (HD.out.1.gx n.b (HD.out.1.inn n HD.out.2))
    exact ⟨cell_of_blk (e1.trans HG3.out.blk) rfl, cell_of_blk (e2.trans hnd) rfl⟩
  have H04 : Hid (Fr W3.drew W3.drew Fx) := Fr.refl _ _
  go_cut [6] (fun yv wx => ∃ (y : Int) (T' : Tree), yv = .int .i64 y ∧ Hid (TRem (treeS (ns.map GN.pl)) n.num y T' ∧ DS wx (.pointer (some pa)) T' made (mOf b (ns.map GN.pl)) rs (More Fx W3.drew) ∧ Fr W3.drew wx Fx))
  case first =>
    go_region_held3 (fun w' => w'.cell? ⟨g, 0, none⟩ = some (.pointer (some pa)) ∧ w'.cell? ⟨n.b, 0, none⟩ = some (.int .i64 n.num)) (first | exact HC4.out _ H04.out | exact HC4.out _ HX.out.2.2)
      (first | (go_at_call 116; refine (HP.out.rem _ (.pointer (some pa)) (treeS (ns.map GN.pl)) made (mOf b (ns.map GN.pl)) rs Fx n.num HDS3.out).mono ?_; rintro e w5 ⟨y, T', rfl, hT, hds, hf5⟩; have HX : Hid (TRem (treeS (ns.map GN.pl)) n.num y T' ∧ DS w5 (.pointer (some pa)) T' made (mOf b (ns.map GN.pl)) rs (More Fx W3.drew) ∧ Fr W3.drew w5 Fx) := ⟨hT, hds, hf5⟩; clear hT hds hf5))
    all_goals
      go_wp2_with fail
      go_meet
      exact ⟨y, T', rfl, HX⟩
  case rest =>
    obtain ⟨y, T', rfl, HX⟩ := hcut
    have hnm : n.pl ∈ ns.map GN.pl := List.mem_map.2 ⟨n, HD.out.2, rfl⟩
    have hans := rem_answer HD.out.1.pw hnm HX.out.1
    obtain ⟨W4, rfl⟩ : ∃ W4, W4 = wc := ⟨_, rfl⟩
    have HG4 : Hid (GR W4 g (.pointer (some pa)) (.slice (some ⟨r, 0, none⟩) ns.length c) made b ns) := (HG3.out.below (Below.refl _ _).drew).keep (fun k hl hk => HX.out.2.2.block k hl (HD.out.1.gx k (HD.out.1.mine hk)))
    have HF4 : Hid (Fr w W4 (fun k => Fg k ∨ Fx k)) := ((Fr.refl w (fun k => Fg k ∨ Fx k)).below HB4.out).drew1.trans (HX.out.2.2.mono (fun k hk => Or.inr hk))
    have u1 := HG4.out.c1
    have hgl4 := HG4.out.lt
    obtain ⟨m0, m1, _, _, _, hnb4⟩ := node_cells (HG4.out.nd n HD.out.2)
    have HDIS : Hid (∀ k, Fg k → ¬ More Fx W3.drew k) := fun k hk hx => by
      rcases hx with hx | hx
      · exact HD.out.1.gx k hk hx
      · have h1 := HD.out.1.here k (Or.inl hk)
        have h2 := HB4.out.size
        have h3 : W3.heap.size ≤ k := hx
        omega
    clear hnm
    by_cases hpn : n.par < 0
    · obtain ⟨rfl, hT, _⟩ := hans.1 hpn
      have gp : decide (n.par < 0) = true := by simpa using hpn
      have HR : Hid (KStepPost DS w (fun k => Fg k ∨ Fx k) g (.pointer (some pa)) b (removeS (ns.map GN.pl) X) made rs (.returned (.bool true)) W4) := by
        refine ⟨rfl, ?_⟩
        rw [HRS.out, if_pos hpn]
        have hds := HX.out.2.1
        rw [hT] at hds
        exact gq_close HP.out rfl HG4.out HD.out.1.pw hds HF4.out (fun k hk => Or.inl (HD.out.1.mine hk)) (fun k hk => hk.imp id (fun hk => Nat.le_trans HB4.out.size hk)) (fun k hk => HDIS.out k (HD.out.1.mine hk))
      clear hT hans hpn
      go_wp2
      go_ret
      exact HR.out
    · obtain ⟨rfl, hT, hn0⟩ := hans.2 hpn
      have gp : decide (n.par < 0) = false := by simpa using hpn
      have HTT : Hid (T' = treeS (remS (ns.map GN.pl) n.num) ∧ n.num ≠ 0) := ⟨hT, hn0⟩
      have HNP : Hid (¬ n.par < 0) := hpn
      have HTR : Hid (GT ns (treeS (ns.map GN.pl)) made) := HD.out.1.gt
      obtain ⟨i0, hi, iz0, iz1, iz2⟩ := info_parts Tryz.info43
      clear hT hans hpn hn0
      go_wp2_with fail
      go_loopg [7, 8] ns.length (fun gk sv iv wr => ∃ i : Nat, iv = .int .i64 i ∧ i ≤ ns.length ∧ ns.length - i ≤ gk ∧ Hid (wr.ownsRow W4.heap.size 43 1 sv (stayG (treeS (ns.map GN.pl)) n.num (ns.take i)).length ((stayG (treeS (ns.map GN.pl)) n.num (ns.take i)).map GN.ptr) ∧ Below W4.heap.size W4 wr))
      case atStart => exact ⟨0, rfl, Nat.zero_le _, by omega, World.ownsRow_nil _ _ _ _, Below.refl _ _⟩
      case round =>
        obtain ⟨i, rfl, hil, hgk, HN⟩ := hrel
        obtain ⟨a2, c2, hv2⟩ := own_shape HN.out.1
        subst hv2
        have hbz := HN.out.2.size
        have HGr : Hid (GR wr g (.pointer (some pa)) (.slice (some ⟨r, 0, none⟩) ns.length c) made b ns) := HG4.out.below HN.out.2
        have z1 := HGr.out.c1
        have hglr := HGr.out.lt
        obtain ⟨k0, k1, _, _, _, hnbr⟩ := node_cells (HGr.out.nd n HD.out.2)
        have hsl : (stayG (treeS (ns.map GN.pl)) n.num (ns.take i)).length ≤ 24 := by
          have h1 := stay_len (treeS (ns.map GN.pl)) n.num (ns.take i)
          have h2 : (ns.take i).length ≤ ns.length := List.length_take_le' _ _
          omega
        clear u1 m0 m1
        by_cases hlt : i < ns.length
        · have hd : decide ((i : Int) < (ns.length : Int)) = true := by simp; omega
          have hii : (i : Int) < (ns.length : Int) := by omega
          obtain ⟨r2, hr2, hrl2, q2, _, _⟩ := HGr.out.at' hlt
          injection hr2 with hr2
          injection hr2 with hr2 _ _
          subst hr2
          have HST : Hid (stayG (treeS (ns.map GN.pl)) n.num (ns.take (i + 1)) = stayG (treeS (ns.map GN.pl)) n.num (ns.take i) ++ if tUnderB (treeS (ns.map GN.pl)) n.num ns[i].num = true then [] else [ns[i]]) := stay_take hlt
          have HMX : Hid (ns[i] ∈ ns) := List.getElem_mem hlt
          generalize ns[i] = x at q2 HST HMX
          have HUC : Hid (∀ k, Calls Tryz.prog 117 #[.pointer (some ⟨g, 0, none⟩), .int .i64 n.num, x.ptr] (wr.drewN k) fun e w' => e = .returned (.bool (tUnderB (treeS (ns.map GN.pl)) n.num x.num)) ∧ w' = wr.drewN k) := fun k => kunder_any (wr.drewN k) g (.pointer (some pa)) (.slice (some ⟨r, 0, none⟩) ns.length c) made b ns n.num x HMX.out (HGr.out.below (below_draws (Below.refl _ _) k)) HTR.out
          obtain ⟨L', hL'⟩ : ∃ L', stayG (treeS (ns.map GN.pl)) n.num (ns.take (i + 1)) = L' := ⟨_, rfl⟩
          have HL' : Hid (stayG (treeS (ns.map GN.pl)) n.num (ns.take (i + 1)) = L') := hL'
          rw [hL'] at HST
          clear hL'
          generalize stayG (treeS (ns.map GN.pl)) n.num (ns.take i) = L at HN HST hsl ⊢
          go_upto_region 9 with fail
          go_quiet ((go_at_call 117; exact Calls.quiet_of_same (HUC.out _)))
          have HO2 : Hid (∀ k, (wr.drewN k).ownsRow W4.heap.size 43 1 (.slice a2 L.length c2) L.length (L.map GN.ptr) ∧ Below W4.heap.size W4 (wr.drewN k)) := fun k => ⟨own_drewN HN.out.1 k, below_draws HN.out.2 k⟩
          cases hu : tUnderB (treeS (ns.map GN.pl)) n.num x.num with
          | true =>
            have HN2 : Hid (∀ k, (wr.drewN k).ownsRow W4.heap.size 43 1 (.slice a2 L.length c2) L'.length (L'.map GN.ptr) ∧ Below W4.heap.size W4 (wr.drewN k)) := fun k => by
              have : L' = L := by rw [HST.out, if_pos hu, List.append_nil]
              rw [this]
              exact HO2.out k
            clear hu HST
            go_wp2
            go_roundg (ns.length - (i + 1))
            case measure => omega
            case rel => exact ⟨i + 1, by go_num, by omega, Nat.le_refl _, by unfold Hid; rw [HL'.out]; exact HN2.out _⟩
          | false =>
            have HE : Hid (L' = L ++ [x]) := by unfold Hid; rw [HST.out, if_neg (by rw [hu]; simp)]
            clear hu HST
            go_wp2_with (at_builtin; refine wpList_append_own _ rfl (.tmp 65) (.tmp 73) 34 rfl W4.heap.size 43 i0 (.pointer none) 1 8 Tryz.underlying34 hi iz0 iz1 iz2 rfl (by decide) _ _ _ rfl ((HO2.out _).1.alloc _) ⟨wr.heap.size, 0, none⟩ 1 1 [x.ptr] rfl rfl ?c1 ?c2 ?c3 ?c4 ?c5 ?_)
            case c1 => exact fun j u hu => new_at (wr.drewN nq) #[x.ptr] _ (by simpa using hu)
            case c2 => rfl
            case c3 => unfold maxLen; omega
            case c4 => omega
            case c5 => omega
            intro v5 w5 own5 hg5 _
            have HN5 : Hid (w5.ownsRow W4.heap.size 43 1 v5 L'.length (L'.map GN.ptr) ∧ Below W4.heap.size W4 w5) := by
              rw [HE.out, List.length_append, List.map_append]
              exact ⟨own5, ((HO2.out nq).2.alloc hbz _).grown hg5 (by show W4.heap.size ≤ ((wr.drewN nq).alloc _).heap.size; simp; omega) (fun k hk => (HN.out.1.lt k hk).1)⟩
            clear own5 hg5 HE
            go_wp2
            go_roundg (ns.length - (i + 1))
            case measure => omega
            case rel => exact ⟨i + 1, by go_num, by omega, Nat.le_refl _, by unfold Hid; rw [HL'.out]; exact HN5.out⟩
        · have hd : decide ((i : Int) < (ns.length : Int)) = false := by simp; omega
          obtain rfl : i = ns.length := by omega
          rw [List.take_length] at HN hsl ⊢
          obtain ⟨q, hq⟩ : ∃ q, Hid (q ∈ ns ∧ (q.num : Int) = n.par ∧ (q.num : Int) = tPar (treeS (ns.map GN.pl)) n.num) := by
            have hpp := HTR.out.par n HD.out.2
            rcases tPar_cases (treeS (ns.map GN.pl)) n.num with ⟨h1, _⟩ | ⟨e, he, _, h2⟩
            · exfalso
              have h9 := HNP.out
              rw [hpp, h1] at h9
              revert h9
              decide
            · rw [HTR.out.tree] at he
              obtain ⟨q, hq, hqe⟩ := List.mem_map.1 he
              have h3 : (q.num : Int) = tPar (treeS (ns.map GN.pl)) n.num := by rw [h2, ← hqe]
              exact ⟨q, hq, h3.trans hpp.symm, h3⟩
          have HFQ : Hid ((findG ns n.par).getD ns[0] = q) := by
            unfold Hid
            rw [← hq.out.2.1, findG_mem HTR.out.nums hq.out.1]
            rfl
          go_wp2_with fail
          refine (kfind_any wr g (.pointer (some pa)) (.slice (some ⟨r, 0, none⟩) ns.length c) made b ns n.par HGr.out hl h0).mono ?_
          rw [HFQ.out]
          rintro e w6 ⟨rfl, rfl⟩
          obtain ⟨ak, ck, hks⟩ := own_shape (HGr.out.kid q hq.out.1)
          obtain ⟨_, _, _, p8, pf, hqb⟩ := node_cells (HGr.out.nd q hq.out.1)
          rw [hks] at p8
          have pf8 := pf 8
          have hkl : q.kids.length ≤ 24 := by
            have := HD.out.1.pw.tw.len (mem_treeS (List.mem_map.2 ⟨q, hq.out.1, rfl⟩ : q.pl ∈ ns.map GN.pl))
            rw [treeS_len, List.length_map] at this
            have h2 : q.kids.length < ns.length := this
            omega
          have HKQ : Hid (w6.drew.ownsRow 0 3 1 (.slice ak q.kids.length ck) q.kids.length (ints q.kids)) := by have := HGr.out.kid q hq.out.1; rw [hks] at this; exact this
          clear pf hks
          go_upto_region 13 with fail
          go_cut [7] (fun v wx => v = .slice a2 (stayG (treeS (ns.map GN.pl)) n.num ns).length c2 ∧ ∃ (a6 : Option Addr) (c6 : Nat), Hid (wx.heap[q.b]? = some ({ q with kids := noneOf n.num q.kids, ks := .slice a6 (noneOf n.num q.kids).length c6 } : GN).blk ∧ (∀ k, k < w6.heap.size → k ≠ q.b → wx.heap[k]? = w6.heap[k]?) ∧ wx.ownsRow w6.heap.size 3 1 (.slice a6 (noneOf n.num q.kids).length c6) (noneOf n.num q.kids).length (ints (noneOf n.num q.kids)) ∧ Fr w6 wx (fun k => k = q.b)))
          case first =>
            go_region_with ((go_at_call 118; refine (kwithout_any _ ak ck 0 q.kids n.num HKQ.out hkl).mono ?_; rintro e w7 ⟨a6, c6, rfl, hown7, hB7⟩; have HO7 : Hid (w7.ownsRow w6.heap.size 3 1 (.slice a6 (noneOf n.num q.kids).length c6) (noneOf n.num q.kids).length (ints (noneOf n.num q.kids)) ∧ Below w6.heap.size w6 w7) := ⟨hown7, (Below.refl _ _).drew.trans hB7⟩; have o8 : w7.cell? ⟨q.b, 8, none⟩ = some (.slice ak q.kids.length ck) := (hB7.cell (p := ⟨q.b, 8, none⟩) hqb).trans p8; have o8f : w7.frozen? ⟨q.b, 8, none⟩ = false := frozen_of_blk ((hB7.block q.b hqb).trans (HGr.out.nd q hq.out.1)); have hqb7 : q.b < w7.heap.size := Nat.lt_of_lt_of_le hqb hB7.size; clear hown7 hB7))
            all_goals
              go_wp2_with fail
              go_meet
              refine ⟨rfl, a6, c6, ?_, fun k hk hne => ?_, ?_, ?_⟩
              · have hh : w7.heap[q.b]? = some q.blk := (HO7.out.2.block q.b hqb).trans (HGr.out.nd q hq.out.1)
                unfold GN.blk at hh ⊢
                rw [heap_setCell_row hh]; rfl
              · exact (Below.heap_setCell w7 ⟨q.b, 8, none⟩ _ k hne).trans (HO7.out.2.block k hk)
              · exact ownsRow_setCell_below HO7.out.1 (by exact hqb) _
              · exact ((Fr.refl w6 (fun k => k = q.b)).below HO7.out.2).set (p := ⟨q.b, 8, none⟩) (Or.inl rfl) _
          case rest =>
            obtain ⟨rfl, a6, c6, H13⟩ := hcut
            obtain ⟨W7, rfl⟩ : ∃ W7, W7 = wc := ⟨_, rfl⟩
            obtain ⟨L, hL⟩ : ∃ L, stayG (treeS (ns.map GN.pl)) n.num ns = L := ⟨_, rfl⟩
            have HL : Hid (stayG (treeS (ns.map GN.pl)) n.num ns = L) := hL
            rw [hL] at HN hsl ⊢
            clear hL
            have HG7 : Hid (GR W7 g (.pointer (some pa)) (.slice (some ⟨r, 0, none⟩) ns.length c) made b (updG ns q.num fun x => { x with kids := noneOf n.num x.kids, ks := .slice a6 (noneOf n.num q.kids).length c6 })) := HGr.out.put HD.out.1.gt.nums hq.out.1 (f := fun x => { x with kids := noneOf n.num x.kids, ks := .slice a6 (noneOf n.num q.kids).length c6 }) (fun _ => rfl) H13.out.1 H13.out.2.1 (own_mono H13.out.2.2.1 (Nat.zero_le _))
            have HRW : Hid (W7.ownsRow W4.heap.size 43 1 (.slice a2 L.length c2) L.length (L.map GN.ptr)) := own_keepB HN.out.1 (fun k hk hl => H13.out.2.1 k hl (fun ek => by
              rw [ek] at hk
              exact own_ne_type HN.out.1 (HGr.out.nd q hq.out.1) (by decide) hk))
            have HLM : Hid (∀ x ∈ L, x ∈ ns) := fun x hx => by
              rw [← HL.out] at hx
              exact (List.mem_filter.1 hx).1
            have HGL : Hid (GR (W7.setCell ⟨g, 1, none⟩ (.slice a2 L.length c2)) g (.pointer (some pa)) (.slice a2 L.length c2) made b (updG L q.num fun x => { x with kids := noneOf n.num x.kids, ks := .slice a6 (noneOf n.num q.kids).length c6 })) := by
              refine HG7.out.list (fun x hx => ?_) ?_
              · obtain ⟨y, hy, rfl⟩ := List.mem_map.1 hx
                exact List.mem_map.2 ⟨y, HLM.out y hy, rfl⟩
              · rw [updG_ptr (f := fun x => { x with kids := noneOf n.num x.kids, ks := .slice a6 (noneOf n.num q.kids).length c6 }) _ (fun _ => rfl), updG_len]
                exact own_mono HRW.out (Nat.zero_le _)
            have HSS : Hid (remS (ns.map GN.pl) n.num = (updG L q.num fun x => { x with kids := noneOf n.num x.kids, ks := .slice a6 (noneOf n.num q.kids).length c6 }).map GN.pl) := by
              unfold Hid
              rw [updG_pl (f' := fun x => { x with kids := noneOf n.num x.kids }) _ (fun _ => rfl), ← HL.out]
              unfold remS stayG
              have e1 : (tPar (treeS (ns.map GN.pl)) n.num).toNat = q.num := by rw [← hq.out.2.2]; rfl
              rw [e1, List.filter_map]
              rfl
            have x1 := HG7.out.c1
            have x1f : W7.frozen? ⟨g, 1, none⟩ = false := frozen_of_blk HG7.out.blk
            have hg7 := HG7.out.lt
            have HR : Hid (KStepPost DS w (fun k => Fg k ∨ Fx k) g (.pointer (some pa)) b (removeS (ns.map GN.pl) X) made rs (.returned (.bool true)) (W7.setCell ⟨g, 1, none⟩ (.slice a2 L.length c2))) := by
              have hnm : n.pl ∈ ns.map GN.pl := List.mem_map.2 ⟨n, HD.out.2, rfl⟩
              have hnp : ¬ n.par < 0 := by have h9 := HNP.out; omega
              have hz4 : w.heap.size ≤ W4.heap.size := HF4.out.size
              have hz6 : W4.heap.size ≤ w6.heap.size := HN.out.2.size
              have hfp : ∀ k, fpG g (.slice a2 L.length c2) (updG L q.num fun x => { x with kids := noneOf n.num x.kids, ks := .slice a6 (noneOf n.num q.kids).length c6 }) k → Fg k ∨ W4.heap.size ≤ k := fun k hk => by
                rcases hk with rfl | ⟨y, hy, rfl⟩ | hk | ⟨y, hy, hk⟩
                · exact Or.inl HD.out.1.inb
                · obtain ⟨x, hx, rfl⟩ := List.mem_map.1 hy
                  left
                  split
                  · exact HD.out.1.inn x (HLM.out x hx)
                  · exact HD.out.1.inn x (HLM.out x hx)
                · exact Or.inr (HRW.out.lt k hk).1
                · obtain ⟨x, hx, rfl⟩ := List.mem_map.1 hy
                  by_cases he : x.num = q.num
                  · rw [if_pos he] at hk
                    exact Or.inr (Nat.le_trans hz6 (H13.out.2.2.1.lt k hk).1)
                  · rw [if_neg he] at hk
                    exact Or.inl (HD.out.1.ink x (HLM.out x hx) k hk)
              refine ⟨rfl, ?_⟩
              rw [HRS.out, if_neg hnp]
              refine gq_close HP.out HSS.out HGL.out (HD.out.1.pw.rem hnm HTT.out.2) (Fx2 := fun k => More Fx W3.drew k ∧ k < W4.heap.size) ?_ ?_ (fun k hk => (hfp k hk).imp id (fun hk => Nat.le_trans hz4 hk)) (fun k hk => hk.1.imp id (fun hk => Nat.le_trans HB4.out.size hk)) (fun k hk hx => ?_)
              · have hds := HX.out.2.1
                rw [HTT.out.1] at hds
                have hds2 := HP.out.here (HP.out.mark hds (remS_marks HD.out.1.pw hnm HTT.out.2))
                refine HP.out.keep hds2 (fun k hk hl => ?_) (by have := H13.out.2.2.2.size; simp; omega)
                have hnF : ¬ Fg k := fun hF => HDIS.out k hF hk.1
                have hkg : k ≠ g := fun e => hnF (by rw [e]; exact HD.out.1.inb)
                have hkn : k ≠ q.b := fun e => hnF (by rw [e]; exact HD.out.1.inn q hq.out.1)
                exact (Below.heap_setCell W7 ⟨g, 1, none⟩ _ k hkg).trans ((H13.out.2.1 k (by omega) hkn).trans (HN.out.2.block k hl))
              · exact ((HF4.out.below HN.out.2).trans (H13.out.2.2.2.mono (fun k hk => Or.inl (by rw [hk]; exact HD.out.1.inn q hq.out.1)))).set (p := ⟨g, 1, none⟩) (Or.inl (Or.inl HD.out.1.inb)) _
              · rcases hfp k hk with hF | hN
                · exact HDIS.out k hF hx.1
                · have := hx.2
                  omega
            clear HG7 HRW HLM HGL HSS H13 HN HL HX HF4 HG4 HTT hsl HKQ
            go_wp2
            go_ret
            exact HR.out
end
end Go.Proofs.YtblfffbmklkhmaaGreat
