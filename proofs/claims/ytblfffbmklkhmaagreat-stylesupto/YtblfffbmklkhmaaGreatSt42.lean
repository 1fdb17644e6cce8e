import Derived.Test.YtblfffbmklkhmaaGreatSt41
import Derived.Test.YtblfffbmklkhmaaGreatSt37
import Derived.Test.YtblfffbmklkhmaaGreatSt15
import Derived.BigQuiet
import Derived.Deep.RegionHeld3
import Derived.Deep.QuietTactic
import Derived.RegionTactic
import Derived.Deep.RegionLaw
namespace Go.Proofs.YtblfffbmklkhmaaGreat
open Go.RowKit
def BZ (Rr:List dx) (nm s:ByteArray):Bool:=(!(nm.toList==s.toList))&&((decide (nm.size≠0)&&er Rr (⟨#[35]⟩++nm))||(decide (s.size≠0)&&er Rr (⟨#[35]⟩++s)))
def yG (Q:ft→YS→List Nat→YS→List Nat→Prop) (X:YS) (st:List Nat) (K:fm) (n:Int) (s:ByteArray) (X':YS) (fQ:List Nat) (K':fm):Prop:=
 X'=dM X n s∧Q (.nam n s) X st X' fQ∧((bM X.T n s≠0∧K'=K)∨(bM X.T n s=0∧(s.size=0∨ax s=true)∧∃ (Rr:List dx) (nm:ByteArray),Rel2 vC Rr X.rs∧((nm.size=0∧(X.M n.toNat).nm=0)∨(ax nm=true∧(X.M n.toNat).nm=bt nm 0))∧SpoK X.T n K K' (BZ Rr nm s)))
set_option maxRecDepth 100000 in
set_option maxHeartbeats 1600000 in
theorem Ev {PS:World→Value→YS→List Nat→(Nat→Prop)→Prop} {Q:ft→YS→List Nat→YS→List Nat→Prop} (hP:bi PS Q) (w:World) (b:Nat) (X:YS) (st:List Nat) (pa:Addr) (d:Nat) (K:fm) (G Fp Fx Fy:Nat→Prop)
  (h:PJ2 PS w b X st X (.pointer (some pa)) d K Fp Fx Fy) (hG:∀ k,Fp k∨Fx k∨Fy k→G k) (By:∀ k,G k→k<w.heap.size) (mB:oe X.T K) (kd at' xx yy zz:Int) (S Tt:ByteArray) (on:Bool) :
  Calls Tryz.prog 103 #[.pointer (some ⟨b,0,none⟩),.agg #[.int .i64 kd,.int .i64 at',.int .i64 xx,.int .i64 yy,.int .i64 zz,.string S,.string Tt,.bool on]] w fun e w'=>TurnPost2 PS w G b (.pointer (some pa)) d (yG Q X st K xx Tt) e w':=by
 have HP:Hid (bi PS Q):=hP
 have HW:Hid (oe X.T K):=mB
 have HG:Hid (∀ k,G k→k<w.heap.size):=By
 have H0:Hid (PQ2 PS (w.alloc (an kd at' xx yy zz S Tt on)) G (w.alloc (an kd at' xx yy zz S Tt on)) b X st X (.pointer (some pa)) d K):=PQ2.alloc hP h hG _
 clear h hP mB hG By Fp Fx Fy
 obtain ⟨Fx,Fy,sQ,Sm,vf,rt,Cd,DI⟩:=H0.out.open HP.out
 obtain ⟨els,hp,vT,aR,vL,Rr,Gs,hX,hA,Js,L9,My⟩:=Sm
 have HX:Hid (RX (w.alloc (an kd at' xx yy zz S Tt on)) d els X.made hp vT aR vL Rr Gs X.M X.shn X.rs∧X.T=aB els):=⟨hX,hA⟩
 have HF:Hid ((∀ k,gQ d els vL k→Fy k)∧(∀ k,Gs k→Fy k)∧(aR=true→∀ k,vT.ownBlock=some k→Fy k)∧(∀ k,Fy k→¬ Fx k)∧(∀ k,Fy k→k<(w.alloc (an kd at' xx yy zz S Tt on)).heap.size)):=⟨Js,L9,My,vf,rt⟩
 have zH:Hid (∀ k,PS ((w.alloc (an kd at' xx yy zz S Tt on)).drewN k) (.pointer (some pa)) X st Fx):=fun k=>HP.out.keep sQ (fun _ _ _=>rfl) (Nat.le_refl _)
 have nn:Hid (∀ w1 X1 aP,PS w1 (.pointer (some pa)) X1 aP (bu Fx (w.alloc (an kd at' xx yy zz S Tt on)))→Fr (w.alloc (an kd at' xx yy zz S Tt on)) w1 Fx→PQ2 PS (w.alloc (an kd at' xx yy zz S Tt on)) G w1 b X1 aP X (.pointer (some pa)) d K):=Cd
 have eL:Hid (∀ w1 X1 aP w2 Y2,PS w1 (.pointer (some pa)) X1 aP (bu Fx (w.alloc (an kd at' xx yy zz S Tt on)))→Fr (w.alloc (an kd at' xx yy zz S Tt on)) w1 Fx→RY w2 d Y2 (bu Fy w1)→Fr w1 w2 Fy→PQ2 PS (w.alloc (an kd at' xx yy zz S Tt on)) G w2 b X1 aP Y2 (.pointer (some pa)) d K):=DI
 clear hX hA Js L9 My sQ vf rt Cd DI
 have HC:Hid (∀ (wx:World) X1 aP Y1,PQ2 PS (w.alloc (an kd at' xx yy zz S Tt on)) G wx b X1 aP Y1 (.pointer (some pa)) d K→wx.cell? ⟨b,0,none⟩=some (.pointer (some pa))∧wx.cell? ⟨b,1,none⟩=some (.pointer (some ⟨d,0,none⟩))∧wx.cell? ⟨w.heap.size,2,none⟩=some (.int .i64 xx)∧wx.cell? ⟨w.heap.size,6,none⟩=some (.string Tt)∧wx.cell? ⟨w.heap.size,7,none⟩=some (.bool on)):=fun wx X1 aP Y1 hq=>
  ⟨aa hq.pb.blk rfl,aa hq.pb.blk rfl,aa (hq.op HG.out) rfl,aa (hq.op HG.out) rfl,aa (hq.op HG.out) rfl⟩
 have sM:Hid (∀ k,Calls Tryz.prog 92 #[.pointer (some ⟨d,0,none⟩),.int .i64 xx] ((w.alloc (an kd at' xx yy zz S Tt on)).drewN k) fun e w'=>e=.returned (ey (aZ els xx))∧w'=(w.alloc (an kd at' xx yy zz S Tt on)).drewN k):=fun k=>eb _ d els X.made hp vT aR vL xx (HX.out.1.drewN k).rd
 have Ca:Hid (∀ wd w2 e aP,PS wd (.pointer (some pa)) (dM X xx Tt) aP (bu Fx (w.alloc (an kd at' xx yy zz S Tt on)))→Fr (w.alloc (an kd at' xx yy zz S Tt on)) wd Fx→RX wd d els X.made hp vT aR vL Rr Gs X.M X.shn X.rs→fC wd d els X.made hp vT vL Rr Gs X.M X.shn X.rs xx Tt e w2→e=.returned (.int .i64 (bM X.T xx Tt))∧PQ2 PS (w.alloc (an kd at' xx yy zz S Tt on)) G w2 b (dM X xx Tt) aP (dM X xx Tt) (.pointer (some pa)) d K):=fun wd w2 e aP hs hf hx dB=>by
  have DP:Fr wd w2 Fy∧RY w2 d (dM X xx Tt) (bu Fy wd)∧e=.returned (.int .i64 (bM X.T xx Tt)):=by
   rcases dB with ⟨he,hr,rfl⟩ | ⟨he,hr,p,o7,hl,Ce,bo⟩
   ·rw [←HX.out.2] at he hr
    refine ⟨Fr.refl _ _,?_,hr⟩
    have e1:dM X xx Tt=X:=by unfold dM;rw [if_neg he]
    rw [e1]
    show RSd w2 d X.T X.made X.M X.shn X.rs (bu Fy w2)
    rw [HX.out.2]
    exact hx.rsd (fun k hk=>Or.inl (HF.out.1 k hk)) (fun k hk=>Or.inl (HF.out.2.1 k hk)) (fun hh k hk=>Or.inl (HF.out.2.2.1 hh k hk))
   ·rw [←HX.out.2] at he
    refine ⟨bo.mono HF.out.1,?_,by rw [hr,he]⟩
    have e1:dM X xx Tt={X with M:=bQ X.M xx.toNat (fy (X.M xx.toNat) Tt)}:=by unfold dM;rw [if_pos he]
    rw [e1]
    show RSd w2 d X.T X.made (bQ X.M xx.toNat (fy (X.M xx.toNat) Tt)) X.shn X.rs (bu Fy wd)
    rw [HX.out.2,←ts (pT Tt) p.blk]
    exact Ce.rsd (fun k hk=>Or.inl (HF.out.1 k ((yb (pT _) p.blk k).1 hk))) (fun k hk=>Or.inl (HF.out.2.1 k hk)) (fun hh=>by cases hh)
  exact ⟨DP.2.2,eL.out wd _ aP w2 _ hs hf DP.2.1 DP.1⟩
 obtain ⟨d0,d1,d2,d3,d4⟩:=HC.out _ _ _ _ H0.out
 go_enter Tryz.func103,Tryz.ntmps103
 go_upto_region 2 with fail
 go_quiet ((go_at_call 92;exact Calls.quiet_of_same (sM.out _)))
 have ED:Hid (PQ2 PS (w.alloc (an kd at' xx yy zz S Tt on)) G ((w.alloc (an kd at' xx yy zz S Tt on)).drewN nq) b X st X (.pointer (some pa)) d K):=H0.out.drewN HP.out nq
 have tC:Hid (PQ2 PS (w.alloc (an kd at' xx yy zz S Tt on)) G ((w.alloc (an kd at' xx yy zz S Tt on)).drewN (nq+1)) b X st X (.pointer (some pa)) d K):=H0.out.drewN HP.out (nq+1)
 clear d0 d1 d2 d3 d4 sM H0
 cases hf:aZ els xx with
 | none=>
  have he:ey none=.pointer none:=rfl
  rw [he]
  have N8:Hid (aZ els xx=none):=hf
  clear he hf
  go_upto_region 5 with fail
  go_cut [7] (fun yv wx=>yv=.int .i64 (bM X.T xx Tt)∧Hid (∃ aP,Q (.nam xx Tt) X st (dM X xx Tt) aP∧PS wx (.pointer (some pa)) (dM X xx Tt) aP (bu Fx (w.alloc (an kd at' xx yy zz S Tt on)))∧Fr (w.alloc (an kd at' xx yy zz S Tt on)) wx Fx))
  case first=>
   go_region_held3 (fun w'=>w'.cell? ⟨b,0,none⟩=some (.pointer (some pa))∧w'.cell? ⟨b,1,none⟩=some (.pointer (some ⟨d,0,none⟩))∧w'.cell? ⟨w.heap.size,2,none⟩=some (.int .i64 xx)∧w'.cell? ⟨w.heap.size,6,none⟩=some (.string Tt)∧w'.cell? ⟨w.heap.size,7,none⟩=some (.bool on)) (first | exact HC.out _ _ _ _ tC.out | exact HC.out _ _ _ _ HT.out.2)
    (first | (go_at_call 21;refine (HP.out.nam _ (.pointer (some pa)) X st Fx xx Tt (zH.out _)).mono ?_;rintro e w1 ⟨aP,rfl,hq,dI,hH⟩;have HT:Hid ((∃ aP,Q (.nam xx Tt) X st (dM X xx Tt) aP∧PS w1 (.pointer (some pa)) (dM X xx Tt) aP (bu Fx (w.alloc (an kd at' xx yy zz S Tt on)))∧Fr (w.alloc (an kd at' xx yy zz S Tt on)) w1 Fx)∧PQ2 PS (w.alloc (an kd at' xx yy zz S Tt on)) G w1 b (dM X xx Tt) aP X (.pointer (some pa)) d K):=⟨⟨aP,hq,dI,hH.un⟩,nn.out w1 _ aP dI hH.un⟩))
   all_goals
    go_wp2_with fail
    go_meet
    exact ⟨rfl,HT.out.1⟩
  case rest=>
   obtain ⟨rfl,HT⟩:=hcut
   obtain ⟨aP,rH,dI,fq⟩:=HT.out
   have pO:Hid (Q (.nam xx Tt) X st (dM X xx Tt) aP∧PS wc (.pointer (some pa)) (dM X xx Tt) aP (bu Fx (w.alloc (an kd at' xx yy zz S Tt on)))∧Fr (w.alloc (an kd at' xx yy zz S Tt on)) wc Fx):=⟨rH,dI,fq⟩
   have mC:Hid (PQ2 PS (w.alloc (an kd at' xx yy zz S Tt on)) G wc.drew b (dM X xx Tt) aP X (.pointer (some pa)) d K):=(nn.out wc _ aP dI fq).drew HP.out
   have B8:Hid (RX wc.drew d els X.made hp vT aR vL Rr Gs X.M X.shn X.rs):=by
    refine HX.out.1.keep (fun k hk hl=>fq.block k hl ?_) fq.size
    rcases hk with hk | hk | ⟨hh,hk⟩
    ·exact HF.out.2.2.2.1 k (HF.out.1 k hk)
    ·exact HF.out.2.2.2.1 k (HF.out.2.1 k hk)
    ·exact HF.out.2.2.2.1 k (HF.out.2.2.1 hh k hk)
   clear rH dI fq HT tC
   go_upto_region 6 with fail
   go_cut [8] (fun yv wx=>yv=.int .i64 (bM X.T xx Tt)∧Hid (fC wc.drew d els X.made hp vT vL Rr Gs X.M X.shn X.rs xx Tt (.returned (.int .i64 (bM X.T xx Tt))) wx∧PQ2 PS (w.alloc (an kd at' xx yy zz S Tt on)) G wx b (dM X xx Tt) aP (dM X xx Tt) (.pointer (some pa)) d K))
   case first=>
    go_region_held3 (fun w'=>w'.cell? ⟨b,0,none⟩=some (.pointer (some pa))∧w'.cell? ⟨b,1,none⟩=some (.pointer (some ⟨d,0,none⟩))∧w'.cell? ⟨w.heap.size,2,none⟩=some (.int .i64 xx)∧w'.cell? ⟨w.heap.size,6,none⟩=some (.string Tt)∧w'.cell? ⟨w.heap.size,7,none⟩=some (.bool on)) (first | exact HC.out _ _ _ _ mC.out | exact HC.out _ _ _ _ jk.out.2)
     (first | (go_at_call 150;refine (xa _ d els X.made hp vT aR vL Rr Gs X.M X.shn X.rs xx Tt B8.out).mono ?_;intro e w2 dB;obtain ⟨rfl,Gj⟩:=Ca.out wc.drew w2 e aP (HP.out.keep pO.out.2.1 (fun _ _ _=>rfl) (Nat.le_refl _)) pO.out.2.2.dr B8.out dB;have jk:Hid (fC wc.drew d els X.made hp vT vL Rr Gs X.M X.shn X.rs xx Tt (.returned (.int .i64 (bM X.T xx Tt))) w2∧PQ2 PS (w.alloc (an kd at' xx yy zz S Tt on)) G w2 b (dM X xx Tt) aP (dM X xx Tt) (.pointer (some pa)) d K):=⟨dB,Gj⟩))
    all_goals
     go_wp2_with fail
     go_meet
     exact ⟨rfl,jk⟩
   case rest=>
    obtain ⟨rfl,jk⟩:=hcut
    have Gk:bM X.T xx Tt=5:=by
     unfold bM
     rw [HX.out.2,co N8.out]
    have HE:Hid (TurnPost2 PS w G b (.pointer (some pa)) d (yG Q X st K xx Tt) (.returned (.bool true)) wc):=⟨rfl,_,aP,K,jk.out.2.from,by have:=HW.out;unfold dM;rw [if_neg (by rw [Gk];decide)];exact this,rfl,pO.out.1,Or.inl ⟨by rw [Gk];decide,rfl⟩⟩
    rw [Gk]
    clear Gk jk
    go_wp2_with fail
    refine (bF _ 5).mono ?_
    rintro e w5 ⟨rfl,rfl⟩
    go_wp2
    go_ret
    exact HE.out
 | some p=>
  have he:ey (some p)=.pointer (some ⟨p.blk,0,none⟩):=rfl
  rw [he]
  have N8:Hid (aZ els xx=some p):=hf
  have p2:((w.alloc (an kd at' xx yy zz S Tt on)).drewN nq).cell? ⟨p.blk,3,none⟩=some (.string p.nm):=aa ((HX.out.1.drewN nq).rd.el p (cg hf).1) rfl
  clear he hf
  go_upto_region 5 with fail
  go_cut [7] (fun yv wx=>yv=.int .i64 (bM X.T xx Tt)∧Hid (∃ aP,Q (.nam xx Tt) X st (dM X xx Tt) aP∧PS wx (.pointer (some pa)) (dM X xx Tt) aP (bu Fx (w.alloc (an kd at' xx yy zz S Tt on)))∧Fr (w.alloc (an kd at' xx yy zz S Tt on)) wx Fx))
  case first=>
   go_region_held3 (fun w'=>w'.cell? ⟨b,0,none⟩=some (.pointer (some pa))∧w'.cell? ⟨b,1,none⟩=some (.pointer (some ⟨d,0,none⟩))∧w'.cell? ⟨w.heap.size,2,none⟩=some (.int .i64 xx)∧w'.cell? ⟨w.heap.size,6,none⟩=some (.string Tt)∧w'.cell? ⟨w.heap.size,7,none⟩=some (.bool on)) (first | exact HC.out _ _ _ _ tC.out | exact HC.out _ _ _ _ HT.out.2)
    (first | (go_at_call 21;refine (HP.out.nam _ (.pointer (some pa)) X st Fx xx Tt (zH.out _)).mono ?_;rintro e w1 ⟨aP,rfl,hq,dI,hH⟩;have HT:Hid ((∃ aP,Q (.nam xx Tt) X st (dM X xx Tt) aP∧PS w1 (.pointer (some pa)) (dM X xx Tt) aP (bu Fx (w.alloc (an kd at' xx yy zz S Tt on)))∧Fr (w.alloc (an kd at' xx yy zz S Tt on)) w1 Fx)∧PQ2 PS (w.alloc (an kd at' xx yy zz S Tt on)) G w1 b (dM X xx Tt) aP X (.pointer (some pa)) d K):=⟨⟨aP,hq,dI,hH.un⟩,nn.out w1 _ aP dI hH.un⟩))
   all_goals
    go_wp2_with fail
    go_meet
    exact ⟨rfl,HT.out.1⟩
  case rest=>
   obtain ⟨rfl,HT⟩:=hcut
   obtain ⟨aP,rH,dI,fq⟩:=HT.out
   have pO:Hid (Q (.nam xx Tt) X st (dM X xx Tt) aP∧PS wc (.pointer (some pa)) (dM X xx Tt) aP (bu Fx (w.alloc (an kd at' xx yy zz S Tt on)))∧Fr (w.alloc (an kd at' xx yy zz S Tt on)) wc Fx):=⟨rH,dI,fq⟩
   have mC:Hid (PQ2 PS (w.alloc (an kd at' xx yy zz S Tt on)) G wc.drew b (dM X xx Tt) aP X (.pointer (some pa)) d K):=(nn.out wc _ aP dI fq).drew HP.out
   have B8:Hid (RX wc.drew d els X.made hp vT aR vL Rr Gs X.M X.shn X.rs):=by
    refine HX.out.1.keep (fun k hk hl=>fq.block k hl ?_) fq.size
    rcases hk with hk | hk | ⟨hh,hk⟩
    ·exact HF.out.2.2.2.1 k (HF.out.1 k hk)
    ·exact HF.out.2.2.2.1 k (HF.out.2.1 k hk)
    ·exact HF.out.2.2.2.1 k (HF.out.2.2.1 hh k hk)
   clear rH dI fq HT tC
   go_upto_region 6 with fail
   go_cut [8] (fun yv wx=>yv=.int .i64 (bM X.T xx Tt)∧Hid (fC wc.drew d els X.made hp vT vL Rr Gs X.M X.shn X.rs xx Tt (.returned (.int .i64 (bM X.T xx Tt))) wx∧PQ2 PS (w.alloc (an kd at' xx yy zz S Tt on)) G wx b (dM X xx Tt) aP (dM X xx Tt) (.pointer (some pa)) d K))
   case first=>
    go_region_held3 (fun w'=>w'.cell? ⟨b,0,none⟩=some (.pointer (some pa))∧w'.cell? ⟨b,1,none⟩=some (.pointer (some ⟨d,0,none⟩))∧w'.cell? ⟨w.heap.size,2,none⟩=some (.int .i64 xx)∧w'.cell? ⟨w.heap.size,6,none⟩=some (.string Tt)∧w'.cell? ⟨w.heap.size,7,none⟩=some (.bool on)) (first | exact HC.out _ _ _ _ mC.out | exact HC.out _ _ _ _ jk.out.2)
     (first | (go_at_call 150;refine (xa _ d els X.made hp vT aR vL Rr Gs X.M X.shn X.rs xx Tt B8.out).mono ?_;intro e w2 dB;obtain ⟨rfl,Gj⟩:=Ca.out wc.drew w2 e aP (HP.out.keep pO.out.2.1 (fun _ _ _=>rfl) (Nat.le_refl _)) pO.out.2.2.dr B8.out dB;have jk:Hid (fC wc.drew d els X.made hp vT vL Rr Gs X.M X.shn X.rs xx Tt (.returned (.int .i64 (bM X.T xx Tt))) w2∧PQ2 PS (w.alloc (an kd at' xx yy zz S Tt on)) G w2 b (dM X xx Tt) aP (dM X xx Tt) (.pointer (some pa)) d K):=⟨dB,Gj⟩))
    all_goals
     go_wp2_with fail
     go_meet
     exact ⟨rfl,jk⟩
   case rest=>
    obtain ⟨rfl,jk⟩:=hcut
    have sI:Hid (oe (dM X xx Tt).T K):=by
     have:=HW.out
     unfold Hid dM
     split
     ·exact this
     ·exact this
    rcases jk.out.1 with ⟨he,-,-⟩ | ⟨he,-,p',o7,jH,NU,-⟩
    ·rw [←HX.out.2] at he
     have HE:Hid (TurnPost2 PS w G b (.pointer (some pa)) d (yG Q X st K xx Tt) (.returned (.bool true)) wc):=⟨rfl,_,aP,K,jk.out.2.from,sI.out,rfl,pO.out.1,Or.inl ⟨he,rfl⟩⟩
     have gy:(bM X.T xx Tt==0)=false:=by simp [he]
     generalize bM X.T xx Tt=ce at gy
     clear he jk
     go_wp2_with fail
     refine (bF _ ce).mono ?_
     rintro e w5 ⟨rfl,rfl⟩
     go_wp2
     go_ret
     exact HE.out
    ·rw [←HX.out.2] at he
     rw [N8.out] at o7
     injection o7 with o7
     subst o7
     have yr:Hid (RX wc d (els.map (eu p.blk (R7 Tt))) X.made hp vT false vL Rr Gs (bQ X.M xx.toNat (fy (X.M xx.toNat) Tt)) X.shn X.rs):=NU
     obtain ⟨fp,pc⟩:=cg N8.out
     have mu:Hid (PQ2 PS (w.alloc (an kd at' xx yy zz S Tt on)) G wc b (dM X xx Tt) aP (dM X xx Tt) (.pointer (some pa)) d K):=jk.out.2
     have Zt:Tt.size≤1:=by
      rcases jH with h | h
      ·omega
      ·unfold ax at h
       rw [Bool.and_eq_true,decide_eq_true_eq] at h
       omega
     have hnz:p.nm.size≤1:=by
      rcases HX.out.1.re.rm.nm p fp with h | h
      ·omega
      ·have h:=h.1
       unfold ax at h
       rw [Bool.and_eq_true,decide_eq_true_eq] at h
       omega
     have gf:Hid (∀ w5 K',PQ2 PS (w.alloc (an kd at' xx yy zz S Tt on)) G w5 b (dM X xx Tt) aP (dM X xx Tt) (.pointer (some pa)) d K'→oe (dM X xx Tt).T K'→SpoK X.T xx K K' (BZ Rr p.nm Tt)→TurnPost2 PS w G b (.pointer (some pa)) d (yG Q X st K xx Tt) (.returned (.bool true)) w5):=fun w5 K' h1 h2 h3=>⟨rfl,_,aP,K',h1.from,h2,rfl,pO.out.1,Or.inr ⟨he,jH,Rr,p.nm,HX.out.1.rel,by rw [show xx.toNat=p.num from by omega];exact HX.out.1.re.rm.nm p fp,h3⟩⟩
     have Ck:Hid ((dM X xx Tt).T=X.T):=by unfold Hid dM;rw [if_pos he]
     have IS:Hid (BZ Rr p.nm Tt=((!(p.nm.toList==Tt.toList))&&((decide (p.nm.size≠0)&&er Rr (⟨#[35]⟩++p.nm))||(decide (Tt.size≠0)&&er Rr (⟨#[35]⟩++Tt))))):=rfl
     rw [he]
     clear he NU jk jH pc fp
     have Sd:Hid (∀ k dG,Calls Tryz.prog 149 #[.pointer hp,.string dG] (wc.drewN k) fun e w'=>e=.returned (.bool (er Rr dG))∧w'=wc.drewN k):=fun k dG=>oV _ hp Rr _ ((yr.out.drewN k).sh.here) yr.out.ruok yr.out.few
     have Q0:Hid (∀ dG,Calls Tryz.prog 149 #[.pointer hp,.string dG] wc fun e w'=>e=.returned (.bool (er Rr dG))∧w'=wc):=fun dG=>oV _ hp Rr _ yr.out.sh.here yr.out.ruok yr.out.few
     have ZM:wc.cell? ⟨b,1,none⟩=some (.pointer (some ⟨d,0,none⟩)):=(HC.out _ _ _ _ mu.out).2.1
     have ZK:wc.cell? ⟨d,0,none⟩=some (.pointer hp):=aa yr.out.rd.doc rfl
     have XJ:wc.cell? ⟨w.heap.size,6,none⟩=some (.string Tt):=(HC.out _ _ _ _ mu.out).2.2.2.1
     clear pO
     cases MC:(p.nm.toList==Tt.toList) with
     | true=>
      have HE:Hid (TurnPost2 PS w G b (.pointer (some pa)) d (yG Q X st K xx Tt) (.returned (.bool true)) wc):=gf.out wc K mu.out sI.out (Or.inl ⟨by rw [IS.out,MC];rfl,rfl⟩)
      clear Sd Q0
      go_wp2_with fail
      refine (bF _ 0).mono ?_
      rintro e w5 ⟨rfl,rfl⟩
      go_wp2
      go_ret
      exact HE.out
     | false=>
      rw [MC] at IS
      have HSM:Hid ((p.nm.toList==Tt.toList)=false):=MC
      obtain ⟨o1,PP⟩:∃ o1,(decide (p.nm.size≠0)&&er Rr (⟨#[35]⟩++p.nm))=o1:=⟨_,rfl⟩
      obtain ⟨o2,v9⟩:∃ o2,(decide (Tt.size≠0)&&er Rr (⟨#[35]⟩++Tt))=o2:=⟨_,rfl⟩
      rw [PP,v9] at IS
      have TD:Hid ((decide (p.nm.size≠0)&&er Rr (⟨#[35]⟩++p.nm))=o1):=PP
      have ML:Hid ((decide (Tt.size≠0)&&er Rr (⟨#[35]⟩++Tt))=o2):=v9
      have Vc:Hid (Calls Tryz.prog 149 #[.pointer hp,.string (⟨#[35]⟩++p.nm)] wc fun e w'=>e=.returned (.bool (er Rr (⟨#[35]⟩++p.nm)))∧w'=wc):=Q0.out _
      clear PP v9 Q0
      go_upto_region 8 with fail
      go_cut [9] (fun ov wx=>ov=.bool o1∧wx=wc)
      case first=>
       by_cases hz:p.nm.size=0
       ·have PV:=dX hz
        have gz:p.nm.toList.isEmpty=true:=by rw [PV];unfold ByteArray.toList;unfold ByteArray.toList.loop;rw [if_neg (by decide)];rfl
        have Om:Hid (o1=false):=by unfold Hid;rw [←TD.out,decide_eq_false (by omega)];rfl
        clear PV
        go_wp2_with fail
        go_meet
        exact ⟨by rw [Om.out],rfl⟩
       ·have gz:=fR p.nm (by omega)
        have Om:Hid (er Rr (⟨#[35]⟩++p.nm)=o1):=by unfold Hid;rw [←TD.out,decide_eq_true hz];rfl
        go_wp2_with fail
        refine Vc.out.mono ?_
        rintro e w5 ⟨rfl,rfl⟩
        rw [Om.out]
        go_wp2_with fail
        go_meet
        exact ⟨rfl,rfl⟩
      case rest=>
       obtain ⟨rfl,rfl⟩:=hcut
       go_upto_region 9 with fail
       go_cut [10] (fun ov wx=>ov=.bool o2∧∃ m,wx=wc.drewN m)
       case first=>
        by_cases hz:Tt.size=0
        ·have PV:=dX hz
         have gz:Tt.toList.isEmpty=true:=by rw [PV];unfold ByteArray.toList;unfold ByteArray.toList.loop;rw [if_neg (by decide)];rfl
         have Om:Hid (o2=false):=by unfold Hid;rw [←ML.out,decide_eq_false (by omega)];rfl
         clear PV
         go_quiet ((go_at_call 149;exact Calls.quiet_of_same (Sd.out _ _)))
         go_wp2_with fail
         go_meet
         exact ⟨by rw [Om.out],_,rfl⟩
        ·have gz:=fR Tt (by omega)
         have Om:Hid (er Rr (⟨#[35]⟩++Tt)=o2):=by unfold Hid;rw [←ML.out,decide_eq_true hz];rfl
         go_quiet ((go_at_call 149;exact Calls.quiet_of_same (Sd.out _ _)))
         rw [Om.out]
         go_wp2_with fail
         go_meet
         exact ⟨rfl,_,rfl⟩
       case rest=>
        obtain ⟨rfl,m,rfl⟩:=hcut
        have On:Hid (PQ2 PS (w.alloc (an kd at' xx yy zz S Tt on)) G (wc.drewN m) b (dM X xx Tt) aP (dM X xx Tt) (.pointer (some pa)) d K):=mu.out.drewN HP.out m
        have Yu:(wc.drewN m).cell? ⟨w.heap.size,2,none⟩=some (.int .i64 xx):=(HC.out _ _ _ _ mu.out).2.2.1
        clear ZM ZK XJ Sd Vc mu
        generalize wc.drewN m=wq at On Yu ⊢
        cases o1 with
        | true=>
         have IS:Hid (BZ Rr p.nm Tt=true):=by unfold Hid;rw [IS.out];rfl
         go_wp2_with fail
         refine (fA HP.out On.out sI.out.2 xx).mono ?_
         rintro e W7 ⟨rfl,OT,xw⟩
         have HE:Hid (TurnPost2 PS w G b (.pointer (some pa)) d (yG Q X st K xx Tt) (.returned (.bool true)) W7):=gf.out W7 _ xw ⟨sI.out.1,sI.out.2.spoil xx⟩ (Or.inr ⟨IS.out,rfl,by rw [←Ck.out],rfl,rfl,rfl⟩)
         clear xw
         go_wp2_with fail
         refine (bF _ 0).mono ?_
         rintro e w5 ⟨rfl,rfl⟩
         go_wp2
         go_ret
         exact HE.out
        | false=>
         cases o2 with
         | true=>
          have IS:Hid (BZ Rr p.nm Tt=true):=by unfold Hid;rw [IS.out];rfl
          go_wp2_with fail
          refine (fA HP.out On.out sI.out.2 xx).mono ?_
          rintro e W7 ⟨rfl,OT,xw⟩
          have HE:Hid (TurnPost2 PS w G b (.pointer (some pa)) d (yG Q X st K xx Tt) (.returned (.bool true)) W7):=gf.out W7 _ xw ⟨sI.out.1,sI.out.2.spoil xx⟩ (Or.inr ⟨IS.out,rfl,by rw [←Ck.out],rfl,rfl,rfl⟩)
          clear xw
          go_wp2_with fail
          refine (bF _ 0).mono ?_
          rintro e w5 ⟨rfl,rfl⟩
          go_wp2
          go_ret
          exact HE.out
         | false=>
          have HE:Hid (TurnPost2 PS w G b (.pointer (some pa)) d (yG Q X st K xx Tt) (.returned (.bool true)) wq):=gf.out wq K On.out sI.out (Or.inl ⟨by rw [IS.out];rfl,rfl⟩)
          go_wp2_with fail
          refine (bF _ 0).mono ?_
          rintro e w5 ⟨rfl,rfl⟩
          go_wp2
          go_ret
          exact HE.out
end Go.Proofs.YtblfffbmklkhmaaGreat
namespace Go.Proofs.YtblfffbmklkhmaaGreat
open Go.RowKit
theorem Fr.drew1 {w w':World} {S:Nat→Prop} (h:Fr w w' S):Fr w w'.drew S:=⟨h.os,h.tape,h.output,h.size,h.block⟩
section
set_option maxRecDepth 100000
set_option maxHeartbeats 1500000
variable {DS:World→Value→aA→Nat→(Nat→Mk)→List cQ→(Nat→Prop)→Prop}
end
end Go.Proofs.YtblfffbmklkhmaaGreat
namespace Go.Proofs.YtblfffbmklkhmaaGreat
open Go.RowKit
theorem lh {P:Program} {zw:Array Oper} {o:Oper} {a:Act} {w:World} {K:Act→World→Prop} {Q:Exit→Act→World→Prop} {E:Prop}
  (hg:o.guard=none) (s x:Operand) (t:TypeId) (Zs:o.op=Op.call {callee:=Callee.builtin Builtin.append,args:=#[s,x],argTypes:=#[t,t]})
  (ae:Nat) (e:TypeId) (i:TypeInfo) (z:Value) (size bytes:Nat) (h1:P.underlying t=some (.slice e)) (h2:P.info? e=some i) (h3:i.zero=some z) (h4:i.size=size) (h5:i.bytes=bytes) (h6:z.cells.size=size) (h7:0<size)
  (v:Value) (n:Nat) (xs:List Value) (hs:a.eval s=v) (bL:w.ownsRow ae e size v n xs)
  (ad:Addr) (m c:Nat) (iZ:List Value) (hx:a.eval x=.slice (some ad) m c) (hn:iZ.length=m*size) (hc:∀ j u,iZ[j]?=some u→w.cell? (ad.add j)=some u) (YZ:∀ u∈iZ,u.oneCell'=true)
  (b1:n+m≤maxLen) (b2:(n+m)*bytes≤140737488355328) (hb:ae≤w.heap.size)
  (hK:∀ v' w',w'.ownsRow ae e size v' (n+m) (xs++iZ)→w.grownBy w' v.ownBlock→Hid (∀ j,v'.ownBlock=some j→v.ownBlock=some j∨w.heap.size≤j)→K (a.put o.dst v') w') :
  if Region.wanted o (yielded zw a.tmps)=true then Oper.wp P o a w K Q else E:=by
 have hw:Region.wanted o (yielded zw a.tmps)=true:=by simp [Region.wanted,hg]
 rw [if_pos hw]
 obtain ⟨v',w',DJ,r1,r2,r3⟩:=jp (P:=P) w ae t o.type e i z size bytes h1 h2 h3 h4 h5 h6 h7 v n xs bL ad m c iZ hn hc YZ b1 b2 hb
 unfold Oper.wp
 simp only [execOp,Zs,resolve,invoke,builtin,Sem.run_bind,Sem.run_pure,Result.andThen_ok,List.map_toArray,List.map_cons,List.map_nil,hs,hx,DJ]
 exact hK v' w' r1 r2 r3
section
variable {w w':World} {g:Nat} {px vl:Value} {made b:Nat}
end
end Go.Proofs.YtblfffbmklkhmaaGreat
namespace Go.Proofs.YtblfffbmklkhmaaGreat
open Go.RowKit
section
variable {PS:World→Value→YS→List Nat→(Nat→Prop)→Prop} {Q:ft→YS→List Nat→YS→List Nat→Prop} {w0:World} {G:Nat→Prop} {w:World} {b:Nat} {X Y:YS} {st:List Nat} {px:Value} {d:Nat} {K:fm}
theorem PQ2.apart (h:PQ2 PS w0 G w b X st Y px d K):∃ Fy,RY w d Y Fy∧¬ Fy b:=by
 obtain ⟨Fp,Fx,Fy,h1,_⟩:=h
 exact ⟨Fy,h1.rs,h1.py b h1.inb⟩
structure AI (w:World) (b:Nat) (px:Value) (d:Nat) (els:List REl) (made:Nat) (hp:Option Addr) (vT:Value) (aR:Bool) (vL:Value) (K:fm) (i:Nat) (wr:World) (v:Value):Prop where
 pb:PB wr b px d K.vm v K.cnt K.vs K.held
 own:wr.ownsRow w.heap.size 3 1 v i (aK ((els.map REl.num).take i))
 fr:Fr w wr (fun k=>k=b)
 rd:RD wr d els made hp vT aR vL
theorem AI.put {els:List REl} {made:Nat} {hp:Option Addr} {vT:Value} {aR:Bool} {vL:Value} {i:Nat} {wr:World} {v:Value} (h:AI w b px d els made hp vT aR vL K i wr v) (hi:i<els.length) (hbf:¬ gQ d els vL b) (rt:∀ k,gQ d els vL k→k<w.heap.size) {A:Obj} {w8:World} {v8:Value} (bL:w8.ownsRow w.heap.size 3 1 v8 (i+1) (aK ((els.map REl.num).take i)++[.int .i64 els[i].num])) (hg:((wr.alloc A).drew).grownBy w8 v.ownBlock) :
  AI w b px d els made hp vT aR vL K (i+1) (w8.setCell ⟨b,3,none⟩ v8) v8∧w8.cell? ⟨b,3,none⟩=some v∧w8.frozen? ⟨b,3,none⟩=false∧b<w8.heap.size:=by
 have jI:b<wr.heap.size:=(Array.getElem?_eq_some_iff.1 h.pb.blk).1
 have eV:v.ownBlock≠some b:=aj h.own h.pb.blk (by decide)
 have B9:w8.heap[b]?=_:=(hg.block b (by simp [World.drew];omega) (fun e=>eV e.symm)).trans ((Below.heap_alloc wr A b jI).trans h.pb.blk)
 have Hb:v8.ownBlock≠some b:=aj bL B9 (by decide)
 have hH:Fr w w8 (fun k=>k=b):=((h.fr.alloc A).drew1).gb hg (fun k hk=>Or.inr (h.own.lt k hk).1)
 have Yo:Fr wr w8 (fun k=>v.ownBlock=some k):=(((Fr.refl wr (fun k=>v.ownBlock=some k)).alloc A).drew1).gb hg (fun k hk=>Or.inl hk)
 refine ⟨⟨?_,?_,hH.set (p:=⟨b,3,none⟩) (Or.inl rfl) _,?_⟩,aa B9 rfl,ag B9,(Array.getElem?_eq_some_iff.1 B9).1⟩
 ·show (World.setCell _ _ _).heap[b]?=_
  rw [aq B9];rfl
 ·have e1:aK ((els.map REl.num).take (i+1))=aK ((els.map REl.num).take i)++[.int .i64 els[i].num]:=by
   rw [List.take_succ_eq_append_getElem (by simpa using hi)]
   simp [aK]
  rw [e1]
  exact aX bL Hb _
 ·refine h.rd.keep (fun k hk hl=>?_)
  have E5:k≠b:=fun e=>hbf (e▸hk)
  rw [Below.heap_setCell _ _ _ _ (by show k≠b;exact E5)]
  refine Yo.block k hl (fun e=>?_)
  have ae5:=(h.own.lt k e).1
  have PM:=rt k hk
  omega
theorem LT.all {T:aA} {made:Nat} (hw:TW T made):LT T (T.map Prod.fst):=⟨hw.nums,fun k hk=>by
 obtain ⟨x,hx,rfl⟩:=List.mem_map.1 hk
 exact ⟨x.2,hx⟩⟩
def yg (PS:World→Value→YS→List Nat→(Nat→Prop)→Prop) (w0:World) (G:Nat→Prop) (b:Nat) (X:YS) (st:List Nat) (Y:YS) (px:Value) (d:Nat) (K:fm) (e:Ending) (w':World):Prop:=
 e=.returned (.tuple #[])∧∃ Uc,PQ2 PS w0 G w' b X st Y px d {K with vy:=Uc,ly:=Y.T.map Prod.fst,cnt:=-1,held:=false}
set_option maxRecDepth 100000 in
set_option maxHeartbeats 2000000 in
theorem Lr (hP:bi PS Q) (h:PQ2 PS w0 G w b X st Y px d K) :
  Calls Tryz.prog 105 #[.pointer (some ⟨b,0,none⟩)] w fun e w'=>yg PS w0 G b X st Y px d K e w':=by
 obtain ⟨i0,hi,gx,gw,gB⟩:=info_parts Tryz.info3
 obtain ⟨Fy,⟨els,hp,vT,aR,vL,Rr,Gs,hX,hA,hF,_⟩,T0⟩:=h.apart
 obtain ⟨aL,cL,sX⟩:=hX.rd.shape
 subst sX
 have bw:=hX.rd.few
 have HQ:Hid (PQ2 PS w0 G w b X st Y px d K):=h
 have HP:Hid (bi PS Q):=hP
 have HN:Hid (¬ gQ d els (.slice aL els.length cL) b∧(∀ k,gQ d els (.slice aL els.length cL) k→k<w.heap.size)∧Y.T=aB els∧TW Y.T Y.made):=⟨fun e=>T0 (hF b e),CV hX.rd,hA,h.tw⟩
 have b3:w.cell? ⟨b,3,none⟩=some K.vy:=aa h.pb.blk rfl
 have b3f:w.frozen? ⟨b,3,none⟩=false:=ag h.pb.blk
 have jI:b<w.heap.size:=(Array.getElem?_eq_some_iff.1 h.pb.blk).1
 have H0:Hid (AI w b px d els Y.made hp vT aR (.slice aL els.length cL) K 0 (w.setCell ⟨b,3,none⟩ (.slice none 0 0)) (.slice none 0 0)):=by
  refine ⟨?_,World.ownsRow_nil _ _ _ _,(Fr.refl w (fun k=>k=b)).set (p:=⟨b,3,none⟩) (Or.inl rfl) _,hX.rd.keep (fun k hk _=>?_)⟩
  ·show (World.setCell _ _ _).heap[b]?=_
   rw [aq h.pb.blk];rfl
  ·exact Below.heap_setCell _ _ _ _ (by show k≠b;exact fun e=>HN.out.1 (e▸hk))
 have gf:Hid (∀ wr v,AI w b px d els Y.made hp vT aR (.slice aL els.length cL) K els.length wr v→yg PS w0 G b X st Y px d K (.returned (.tuple #[])) ((wr.setCell ⟨b,4,none⟩ (.int .i64 (-1))).setCell ⟨b,6,none⟩ (.bool false))):=fun wr v ha=>by
  have hq:=HQ.out
  have hH:Fr w ((wr.setCell ⟨b,4,none⟩ (.int .i64 (-1))).setCell ⟨b,6,none⟩ (.bool false)) (fun k=>k=b):=(ha.fr.set (p:=⟨b,4,none⟩) (Or.inl rfl) _).set (p:=⟨b,6,none⟩) (Or.inl rfl) _
  have IP:(wr.setCell ⟨b,4,none⟩ (.int .i64 (-1))).heap[b]?=some (.cells #[px,.pointer (some ⟨d,0,none⟩),K.vm,v,.int .i64 (-1),K.vs,.bool K.held] 124 (0,0)):=by
   rw [aq ha.pb.blk];rfl
  have keep:∀ {u:Value} {l:List Nat},w.ownsRow 0 3 1 u l.length (aK l)→((wr.setCell ⟨b,4,none⟩ (.int .i64 (-1))).setCell ⟨b,6,none⟩ (.bool false)).ownsRow 0 3 1 u l.length (aK l):=fun ho=>bZ ho (fun j hj hl=>hH.block j hl (fun e=>aj ho hq.pb.blk (by decide) (e▸hj)))
  have Ey:els.map REl.num=Y.T.map Prod.fst:=by rw [HN.out.2.2.1,kR]
  have bL:((wr.setCell ⟨b,4,none⟩ (.int .i64 (-1))).setCell ⟨b,6,none⟩ (.bool false)).ownsRow 0 3 1 v (Y.T.map Prod.fst).length (aK (Y.T.map Prod.fst)):=by
   have h1:=ha.own
   rw [List.take_of_length_le (by simp),Ey] at h1
   have hz:els.length=(Y.T.map Prod.fst).length:=by rw [←Ey,List.length_map]
   rw [hz] at h1
   have h2:=aX h1 (p:=⟨b,4,none⟩) (aj h1 ha.pb.blk (by decide)) (.int .i64 (-1))
   exact aG (aX h2 (p:=⟨b,6,none⟩) (aj h2 IP (by decide)) _) (Nat.zero_le _)
  refine ⟨rfl,v,hq.pair HP.out hH ?_ (keep hq.must) bL (keep hq.seen) (fun _ hj=>Or.inl (Or.inl hj)) (fun j hj=>Or.inr (ha.own.lt j hj).1) (fun _ hj=>Or.inl (Or.inr (Or.inr hj)))⟩
  show (World.setCell _ _ _).heap[b]?=_
  rw [aq IP];rfl
 clear h hX hA hF T0 hP HQ
 go_enter Tryz.func105,Tryz.ntmps105
 go_upto_region 1 with fail
 generalize w.setCell ⟨b,3,none⟩ (.slice none 0 0)=W1 at H0 ⊢
 clear b3 b3f
 go_wp2_with fail
 go_loopg [2] els.length (fun gk iv wr=>∃ (i:Nat) (v:Value),iv=.int .i64 i∧i≤els.length∧els.length - i≤gk∧Hid (AI w b px d els Y.made hp vT aR (.slice aL els.length cL) K i wr v))
 case atStart=>exact ⟨0,_,rfl,Nat.zero_le _,by omega,H0⟩
 case round=>
  obtain ⟨i,v,rfl,jC,fK,HS⟩:=hrel
  have bR:((els.map REl.num).take i).length=i:=by rw [List.length_take,List.length_map];omega
  have b1:wr.cell? ⟨b,1,none⟩=some (.pointer (some ⟨d,0,none⟩)):=aa HS.out.pb.blk rfl
  have d1:=HS.out.rd.c1
  by_cases aN:i<els.length
  ·have hd:decide ((i:Int)<(els.length:Int))=true:=by simp;omega
   obtain ⟨g,hg,q1⟩:=HS.out.rd.at' aN
   subst hg
   obtain ⟨q2,_⟩:=ep (HS.out.rd.el els[i] (List.getElem_mem aN))
   obtain ⟨av,cv,hv⟩:=au HS.out.own
   subst hv
   have b3:wr.cell? ⟨b,3,none⟩=some (.slice av i cv):=aa HS.out.pb.blk rfl
   have b3f:wr.frozen? ⟨b,3,none⟩=false:=ag HS.out.pb.blk
   have hwz:=HS.out.fr.size
   have QZ:Hid (∀ (A:Obj) (w8:World) (v8:Value),w8.ownsRow w.heap.size 3 1 v8 (i+1) (aK ((els.map REl.num).take i)++[.int .i64 els[i].num])→((wr.alloc A).drew).grownBy w8 (Value.slice av i cv).ownBlock→AI w b px d els Y.made hp vT aR (.slice (some ⟨g,0,none⟩) els.length cL) K (i+1) (w8.setCell ⟨b,3,none⟩ v8) v8∧w8.cell? ⟨b,3,none⟩=some (.slice av i cv)∧w8.frozen? ⟨b,3,none⟩=false∧b<w8.heap.size):=fun A w8 v8 h1 h2=>HS.out.put aN HN.out.1 HN.out.2.1 h1 h2
   have Vb:Hid (wr.ownsRow w.heap.size 3 1 (.slice av i cv) i (aK ((els.map REl.num).take i))):=HS.out.own
   clear HS
   generalize aK ((els.map REl.num).take i)=xs at QZ Vb
   generalize els[i].num=k at q2 QZ
   have QD:b<wr.heap.size:=by omega
   have b3a:(wr.alloc (.cells #[.int .i64 (k:Int)] 3)).cell? ⟨b,3,none⟩=some (.slice av i cv):=((((Below.refl wr.heap.size wr).alloc (Nat.le_refl _) _).cell (p:=⟨b,3,none⟩) QD)).trans b3
   go_upto_region 4 with fail
   go_region_law (refine lh rfl (.tmp 22) (.tmp 36) 40 rfl w.heap.size 3 i0 (.int .i64 0) 1 8 Tryz.underlying40 hi gx gw gB rfl (by decide) (.slice av i cv) i xs (by simp [Act.eval]) ((Vb.out.alloc _).drew) ⟨wr.heap.size,0,none⟩ 1 1 [.int .i64 k] (by simp [Act.eval]) rfl (aO wr _ rfl _ _ _ rfl) (by simp [Value.oneCell']) (by unfold maxLen;omega) (by omega) (by simp [World.drew];omega) ?_;intro v8 w8 tG Vn B9;obtain ⟨a8,c8,hv8⟩:=au tG;have GQ:=QZ.out _ w8 v8 tG Vn;have y1:=GQ.2.1;have y1f:=GQ.2.2.1;have y1l:=GQ.2.2.2)
   all_goals
    have HAI:Hid (AI w b px d els Y.made hp vT aR (.slice (some ⟨g,0,none⟩) els.length cL) K (i+1) (w8.setCell ⟨b,3,none⟩ (.slice a8 (i+1) c8)) (.slice a8 (i+1) c8)):=by
     have h9:=GQ.1
     rw [hv8] at h9
     exact h9
    clear GQ tG Vn B9 hv8
    go_wp2
    go_roundg (els.length - (i+1))
    case measure=>omega
    case rel=>exact ⟨i+1,_,by go_num,by omega,Nat.le_refl _,HAI⟩
  ·have hd:decide ((i:Int)<(els.length:Int))=false:=by simp;omega
   obtain rfl:i=els.length:=by omega
   have HE:Hid (yg PS w0 G b X st Y px d K (.returned (.tuple #[])) ((wr.setCell ⟨b,4,none⟩ (.int .i64 (-1))).setCell ⟨b,6,none⟩ (.bool false))):=gf.out wr v HS.out
   have b4:wr.cell? ⟨b,4,none⟩=some (.int .i64 K.cnt):=aa HS.out.pb.blk rfl
   have b6:wr.cell? ⟨b,6,none⟩=some (.bool K.held):=aa HS.out.pb.blk rfl
   have bf:∀ k,wr.frozen? ⟨b,k,none⟩=false:=fun k=>ag HS.out.pb.blk
   have QD:b<wr.heap.size:=(Array.getElem?_eq_some_iff.1 HS.out.pb.blk).1
   clear HS
   go_wp2
   go_end0
   exact HE.out
end
end Go.Proofs.YtblfffbmklkhmaaGreat
