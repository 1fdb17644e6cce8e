import Derived.Test.YtblfffbmklkhmaaGreatSt39
import Derived.Test.YtblfffbmklkhmaaGreatSt40
namespace Go.Proofs.YtblfffbmklkhmaaGreat
open Go.RowKit
section
variable {PS:World→Value→YS→List Nat→(Nat→Prop)→Prop} {Q:ft→YS→List Nat→YS→List Nat→Prop} {w0:World} {G:Nat→Prop} {w:World} {b:Nat} {X Y:YS} {st:List Nat} {px:Value} {d:Nat} {K:fm}
theorem PQ2.open (hP:bi PS Q) (h:PQ2 PS w0 G w b X st Y px d K):∃ Fx Fy,PS w px X st Fx∧RY w d Y Fy∧(∀ k,Fy k→¬ Fx k)∧(∀ k,Fy k→k<w.heap.size)∧(∀ w1 X1 aP,PS w1 px X1 aP (bu Fx w)→Fr w w1 Fx→PQ2 PS w0 G w1 b X1 aP Y px d K)∧∀ w1 X1 aP w2 Y2,PS w1 px X1 aP (bu Fx w)→Fr w w1 Fx→RY w2 d Y2 (bu Fy w1)→Fr w1 w2 Fy→PQ2 PS w0 G w2 b X1 aP Y2 px d K:=by
 obtain ⟨Fp,Fx,Fy,h1,h2,h3⟩:=h
 have ol:∀ w1 X1 aP,PS w1 px X1 aP (bu Fx w)→Fr w w1 Fx→PJ2 PS w1 b X1 aP Y px d K Fp (n6 Fx w w1) Fy∧(∀ k,Fp k∨n6 Fx w w1 k∨Fy k→G k∨w0.heap.size≤k)∧Fr w0 w1 G:=fun w1 X1 aP hs hf=>by
  refine ⟨h1.prog hP hs hf,fun k hk=>?_,h3.comp hf (fun j hj=>h2 j (Or.inr (Or.inl hj)))⟩
  rcases hk with hk | hk | hk
  ·exact h2 k (Or.inl hk)
  ·exact hk.1.elim (fun x=>h2 k (Or.inr (Or.inl x))) (fun x=>Or.inr (Nat.le_trans h3.size x))
  ·exact h2 k (Or.inr (Or.inr hk))
 refine ⟨Fx,Fy,h1.ps,h1.rs,fun k hy hx=>h1.xy k hx hy,fun k hk=>h1.here k (Or.inr (Or.inr hk)),fun w1 X1 aP hs hf=>?_,fun w1 X1 aP w2 Y2 hs hf zL bo=>?_⟩
 ·obtain ⟨k1,k2,k3⟩:=ol w1 X1 aP hs hf
  exact ⟨_,_,_,k1,k2,k3⟩
 ·obtain ⟨k1,k2,k3⟩:=ol w1 X1 aP hs hf
  refine ⟨Fp,n6 Fx w w1,n6 Fy w1 w2,k1.ref hP zL bo,fun k hk=>?_,k3.comp bo (fun j hj=>k2 j (Or.inr (Or.inr hj)))⟩
  rcases hk with hk | hk | hk
  ·exact k2 k (Or.inl hk)
  ·exact k2 k (Or.inr (Or.inl hk))
  ·exact hk.1.elim (fun x=>k2 k (Or.inr (Or.inr x))) (fun x=>Or.inr (Nat.le_trans k3.size x))
theorem Fr.un {w w1:World} {n:Nat} {S:Nat→Prop} (h:Fr (w.drewN n) w1 S):Fr w w1 S:=⟨h.os,h.tape,h.output,h.size,h.block⟩
theorem Fr.dr {w w1:World} {S:Nat→Prop} (h:Fr w w1 S):Fr w w1.drew S:=⟨h.os,h.tape,h.output,h.size,h.block⟩
theorem Fr.un1 {w w1:World} {S:Nat→Prop} (h:Fr w.drew w1 S):Fr w w1 S:=⟨h.os,h.tape,h.output,h.size,h.block⟩
theorem RX.drewN {els:List REl} {made:Nat} {hp:Option Addr} {vT:Value} {aR:Bool} {vL:Value} {Rr:List dx} {Gs:Nat→Prop} {M:Nat→Mk} {shn:Nat→Bool} {rs:List cQ} (h:RX w d els made hp vT aR vL Rr Gs M shn rs) (n:Nat):RX (w.drewN n) d els made hp vT aR vL Rr Gs M shn rs:=h.keep (fun _ _ _=>rfl) (Nat.le_refl _)
end
def SpoK (T:aA) (n:Int) (K K':fm) (sp:Bool):Prop:=(sp=false∧K'=K)∨(sp=true∧K'.lm=K.lm∧K'.ly=jP T n K.ly∧K'.ls=K.ls∧K'.cnt=-1∧K'.held=false)
def zX (Q:ft→YS→List Nat→YS→List Nat→Prop) (X:YS) (st:List Nat) (K:fm) (n:Int) (s:ByteArray) (on:Bool) (X':YS) (fQ:List Nat) (K':fm):Prop:=
 X'=dN X n s on∧Q (.cls n s on) X st X' fQ∧((bK X.T n s≠0∧K'=K)∨(bK X.T n s=0∧ax s=true∧∃ (Rr:List dx) (cl:ByteArray),Rel2 vC Rr X.rs∧ClsOK cl∧(∀ c,qy c cl=(decide (97≤c∧c≤122)&&(X.M n.toNat).cl (c - 97)))∧SpoK X.T n K K' (er Rr (⟨#[46]⟩++s)&&decide ((cl.size:Int)≠((it cl s on).size:Int)))))
set_option maxRecDepth 100000 in
set_option maxHeartbeats 8000000 in
theorem zm {PS:World→Value→YS→List Nat→(Nat→Prop)→Prop} {Q:ft→YS→List Nat→YS→List Nat→Prop} (hP:bi PS Q) (w:World) (b:Nat) (X:YS) (st:List Nat) (pa:Addr) (d:Nat) (K:fm) (G Fp Fx Fy:Nat→Prop)
  (h:PJ2 PS w b X st X (.pointer (some pa)) d K Fp Fx Fy) (hG:∀ k,Fp k∨Fx k∨Fy k→G k) (By:∀ k,G k→k<w.heap.size) (mB:oe X.T K) (kd at' xx yy zz:Int) (S Tt:ByteArray) (on:Bool) :
  Calls Tryz.prog 102 #[.pointer (some ⟨b,0,none⟩),.agg #[.int .i64 kd,.int .i64 at',.int .i64 xx,.int .i64 yy,.int .i64 zz,.string S,.string Tt,.bool on]] w fun e w'=>TurnPost2 PS w G b (.pointer (some pa)) d (zX Q X st K xx Tt on) e w':=by
 have HP:Hid (bi PS Q):=hP
 have HW:Hid (oe X.T K):=mB
 have HG:Hid (∀ k,G k→k<w.heap.size):=By
 have H0:Hid (PQ2 PS (w.alloc (an kd at' xx yy zz S Tt on)) G (w.alloc (an kd at' xx yy zz S Tt on)) b X st X (.pointer (some pa)) d K):=PQ2.alloc hP h hG _
 clear h hP mB hG By Fp Fx Fy
 obtain ⟨Fx,Fy,sQ,Sm,vf,rt,Cd,DI⟩:=H0.out.open HP.out
 obtain ⟨els,hp,vT,aR,vL,Rr,Gs,hX,hA,Js,L9,My⟩:=Sm
 have HX:Hid (RX (w.alloc (an kd at' xx yy zz S Tt on)) d els X.made hp vT aR vL Rr Gs X.M X.shn X.rs∧X.T=aB els):=⟨hX,hA⟩
 have HF:Hid ((∀ k,gQ d els vL k→Fy k)∧(∀ k,Gs k→Fy k)∧(aR=true→∀ k,vT.ownBlock=some k→Fy k)∧(∀ k,Fy k→¬ Fx k)∧(∀ k,Fy k→k<(w.alloc (an kd at' xx yy zz S Tt on)).heap.size)):=⟨Js,L9,My,vf,rt⟩
 have zH:Hid (∀ k,PS ((w.alloc (an kd at' xx yy zz S Tt on)).drewN k) (.pointer (some pa)) X st Fx):=fun k=>HP.out.keep sQ (fun _ _ _=>rfl) (Nat.le_refl _)
 have nn:Hid (∀ w1 X1 aP,PS w1 (.pointer (some pa)) X1 aP (bu Fx (w.alloc (an kd at' xx yy zz S Tt on)))→Fr (w.alloc (an kd at' xx yy zz S Tt on)) w1 Fx→PQ2 PS (w.alloc (an kd at' xx yy zz S Tt on)) G w1 b X1 aP X (.pointer (some pa)) d K):=Cd
 have eL:Hid (∀ w1 X1 aP w2 Y2,PS w1 (.pointer (some pa)) X1 aP (bu Fx (w.alloc (an kd at' xx yy zz S Tt on)))→Fr (w.alloc (an kd at' xx yy zz S Tt on)) w1 Fx→RY w2 d Y2 (bu Fy w1)→Fr w1 w2 Fy→PQ2 PS (w.alloc (an kd at' xx yy zz S Tt on)) G w2 b X1 aP Y2 (.pointer (some pa)) d K):=DI
 clear hX hA Js L9 My sQ vf rt Cd DI
 have HC:Hid (∀ (wx:World) X1 aP Y1,PQ2 PS (w.alloc (an kd at' xx yy zz S Tt on)) G wx b X1 aP Y1 (.pointer (some pa)) d K→wx.cell? ⟨b,0,none⟩=some (.pointer (some pa))∧wx.cell? ⟨b,1,none⟩=some (.pointer (some ⟨d,0,none⟩))∧wx.cell? ⟨w.heap.size,2,none⟩=some (.int .i64 xx)∧wx.cell? ⟨w.heap.size,6,none⟩=some (.string Tt)∧wx.cell? ⟨w.heap.size,7,none⟩=some (.bool on)):=fun wx X1 aP Y1 hq=>
  ⟨aa hq.pb.blk rfl,aa hq.pb.blk rfl,aa (hq.op HG.out) rfl,aa (hq.op HG.out) rfl,aa (hq.op HG.out) rfl⟩
 have sM:Hid (∀ k,Calls Tryz.prog 92 #[.pointer (some ⟨d,0,none⟩),.int .i64 xx] ((w.alloc (an kd at' xx yy zz S Tt on)).drewN k) fun e w'=>e=.returned (ey (aZ els xx))∧w'=(w.alloc (an kd at' xx yy zz S Tt on)).drewN k):=fun k=>eb _ d els X.made hp vT aR vL xx (HX.out.1.drewN k).rd
 have Ca:Hid (∀ wd w2 e aP,PS wd (.pointer (some pa)) (dN X xx Tt on) aP (bu Fx (w.alloc (an kd at' xx yy zz S Tt on)))→Fr (w.alloc (an kd at' xx yy zz S Tt on)) wd Fx→RX wd d els X.made hp vT aR vL Rr Gs X.M X.shn X.rs→fu wd d els X.made hp vT vL Rr Gs X.M X.shn X.rs xx Tt on e w2→e=.returned (.int .i64 (bK X.T xx Tt))∧PQ2 PS (w.alloc (an kd at' xx yy zz S Tt on)) G w2 b (dN X xx Tt on) aP (dN X xx Tt on) (.pointer (some pa)) d K):=fun wd w2 e aP hs hf hx dB=>by
  have DP:Fr wd w2 Fy∧RY w2 d (dN X xx Tt on) (bu Fy wd)∧e=.returned (.int .i64 (bK X.T xx Tt)):=by
   rcases dB with ⟨he,hr,rfl⟩ | ⟨he,hr,p,o7,hl,Ce,bo⟩
   ·rw [←HX.out.2] at he hr
    refine ⟨Fr.refl _ _,?_,hr⟩
    have e1:dN X xx Tt on=X:=by unfold dN;rw [if_neg he]
    rw [e1]
    show RSd w2 d X.T X.made X.M X.shn X.rs (bu Fy w2)
    rw [HX.out.2]
    exact hx.rsd (fun k hk=>Or.inl (HF.out.1 k hk)) (fun k hk=>Or.inl (HF.out.2.1 k hk)) (fun hh k hk=>Or.inl (HF.out.2.2.1 hh k hk))
   ·rw [←HX.out.2] at he
    refine ⟨bo.mono HF.out.1,?_,by rw [hr,he]⟩
    have e1:dN X xx Tt on={X with M:=bQ X.M xx.toNat (jz (X.M xx.toNat) Tt on)}:=by unfold dN;rw [if_pos he]
    rw [e1]
    show RSd w2 d X.T X.made (bQ X.M xx.toNat (jz (X.M xx.toNat) Tt on)) X.shn X.rs (bu Fy wd)
    rw [HX.out.2,←ts (lL (it p.cl Tt on)) p.blk]
    exact Ce.rsd (fun k hk=>Or.inl (HF.out.1 k ((yb (lL _) p.blk k).1 hk))) (fun k hk=>Or.inl (HF.out.2.1 k hk)) (fun hh=>by cases hh)
  exact ⟨DP.2.2,eL.out wd _ aP w2 _ hs hf DP.2.1 DP.1⟩
 obtain ⟨d0,d1,d2,d3,d4⟩:=HC.out _ _ _ _ H0.out
 go_enter Tryz.func102,Tryz.ntmps102
 go_upto_region 2 with fail
 go_quiet ((go_at_call 92;exact Calls.quiet_of_same (sM.out _)))
 have ED:Hid (PQ2 PS (w.alloc (an kd at' xx yy zz S Tt on)) G ((w.alloc (an kd at' xx yy zz S Tt on)).drewN nq) b X st X (.pointer (some pa)) d K):=H0.out.drewN HP.out nq
 have tC:Hid (PQ2 PS (w.alloc (an kd at' xx yy zz S Tt on)) G ((w.alloc (an kd at' xx yy zz S Tt on)).drewN (nq+1)) b X st X (.pointer (some pa)) d K):=H0.out.drewN HP.out (nq+1)
 clear d0 d1 d2 d3 d4 sM H0
 cases hf:aZ els xx with
 | none=>
  have he:ey none=.pointer none:=rfl
  rw [he]
  have N8:Hid (aZ els xx=none):=hf
  clear he hf
  go_upto_region 5 with fail
  go_cut [7] (fun yv wx=>yv=.int .i64 (bK X.T xx Tt)∧Hid (∃ aP,Q (.cls xx Tt on) X st (dN X xx Tt on) aP∧PS wx (.pointer (some pa)) (dN X xx Tt on) aP (bu Fx (w.alloc (an kd at' xx yy zz S Tt on)))∧Fr (w.alloc (an kd at' xx yy zz S Tt on)) wx Fx))
  case first=>
   go_region_held3 (fun w'=>w'.cell? ⟨b,0,none⟩=some (.pointer (some pa))∧w'.cell? ⟨b,1,none⟩=some (.pointer (some ⟨d,0,none⟩))∧w'.cell? ⟨w.heap.size,2,none⟩=some (.int .i64 xx)∧w'.cell? ⟨w.heap.size,6,none⟩=some (.string Tt)∧w'.cell? ⟨w.heap.size,7,none⟩=some (.bool on)) (first | exact HC.out _ _ _ _ tC.out | exact HC.out _ _ _ _ HT.out.2)
    (first | (go_at_call 46;refine (HP.out.cls _ (.pointer (some pa)) X st Fx xx Tt on (zH.out _)).mono ?_;rintro e w1 ⟨aP,rfl,hq,dI,hH⟩;have HT:Hid ((∃ aP,Q (.cls xx Tt on) X st (dN X xx Tt on) aP∧PS w1 (.pointer (some pa)) (dN X xx Tt on) aP (bu Fx (w.alloc (an kd at' xx yy zz S Tt on)))∧Fr (w.alloc (an kd at' xx yy zz S Tt on)) w1 Fx)∧PQ2 PS (w.alloc (an kd at' xx yy zz S Tt on)) G w1 b (dN X xx Tt on) aP X (.pointer (some pa)) d K):=⟨⟨aP,hq,dI,hH.un⟩,nn.out w1 _ aP dI hH.un⟩))
   all_goals
    go_wp2_with fail
    go_meet
    exact ⟨rfl,HT.out.1⟩
  case rest=>
   obtain ⟨rfl,HT⟩:=hcut
   obtain ⟨aP,rH,dI,fq⟩:=HT.out
   have pO:Hid (Q (.cls xx Tt on) X st (dN X xx Tt on) aP∧PS wc (.pointer (some pa)) (dN X xx Tt on) aP (bu Fx (w.alloc (an kd at' xx yy zz S Tt on)))∧Fr (w.alloc (an kd at' xx yy zz S Tt on)) wc Fx):=⟨rH,dI,fq⟩
   have mC:Hid (PQ2 PS (w.alloc (an kd at' xx yy zz S Tt on)) G wc.drew b (dN X xx Tt on) aP X (.pointer (some pa)) d K):=(nn.out wc _ aP dI fq).drew HP.out
   have B8:Hid (RX wc.drew d els X.made hp vT aR vL Rr Gs X.M X.shn X.rs):=by
    refine HX.out.1.keep (fun k hk hl=>fq.block k hl ?_) fq.size
    rcases hk with hk | hk | ⟨hh,hk⟩
    ·exact HF.out.2.2.2.1 k (HF.out.1 k hk)
    ·exact HF.out.2.2.2.1 k (HF.out.2.1 k hk)
    ·exact HF.out.2.2.2.1 k (HF.out.2.2.1 hh k hk)
   clear rH dI fq HT tC
   go_upto_region 6 with fail
   go_cut [8] (fun yv wx=>yv=.int .i64 (bK X.T xx Tt)∧Hid (fu wc.drew d els X.made hp vT vL Rr Gs X.M X.shn X.rs xx Tt on (.returned (.int .i64 (bK X.T xx Tt))) wx∧PQ2 PS (w.alloc (an kd at' xx yy zz S Tt on)) G wx b (dN X xx Tt on) aP (dN X xx Tt on) (.pointer (some pa)) d K))
   case first=>
    go_region_held3 (fun w'=>w'.cell? ⟨b,0,none⟩=some (.pointer (some pa))∧w'.cell? ⟨b,1,none⟩=some (.pointer (some ⟨d,0,none⟩))∧w'.cell? ⟨w.heap.size,2,none⟩=some (.int .i64 xx)∧w'.cell? ⟨w.heap.size,6,none⟩=some (.string Tt)∧w'.cell? ⟨w.heap.size,7,none⟩=some (.bool on)) (first | exact HC.out _ _ _ _ mC.out | exact HC.out _ _ _ _ jk.out.2)
     (first | (go_at_call 148;refine (ux _ d els X.made hp vT aR vL Rr Gs X.M X.shn X.rs xx Tt on B8.out).mono ?_;intro e w2 dB;obtain ⟨rfl,Gj⟩:=Ca.out wc.drew w2 e aP (HP.out.keep pO.out.2.1 (fun _ _ _=>rfl) (Nat.le_refl _)) pO.out.2.2.dr B8.out dB;have jk:Hid (fu wc.drew d els X.made hp vT vL Rr Gs X.M X.shn X.rs xx Tt on (.returned (.int .i64 (bK X.T xx Tt))) w2∧PQ2 PS (w.alloc (an kd at' xx yy zz S Tt on)) G w2 b (dN X xx Tt on) aP (dN X xx Tt on) (.pointer (some pa)) d K):=⟨dB,Gj⟩))
    all_goals
     go_wp2_with fail
     go_meet
     exact ⟨rfl,jk⟩
   case rest=>
    obtain ⟨rfl,jk⟩:=hcut
    have Gk:bK X.T xx Tt=5:=by
     unfold bK
     rw [HX.out.2,co N8.out]
    have HE:Hid (TurnPost2 PS w G b (.pointer (some pa)) d (zX Q X st K xx Tt on) (.returned (.bool true)) wc):=⟨rfl,_,aP,K,jk.out.2.from,by have:=HW.out;unfold dN;rw [if_neg (by rw [Gk];decide)];exact this,rfl,pO.out.1,Or.inl ⟨by rw [Gk];decide,rfl⟩⟩
    rw [Gk]
    clear Gk jk
    go_wp2_with fail
    refine (bF _ 5).mono ?_
    rintro e w5 ⟨rfl,rfl⟩
    go_wp2
    go_ret
    exact HE.out
 | some p=>
  have he:ey (some p)=.pointer (some ⟨p.blk,0,none⟩):=rfl
  rw [he]
  have N8:Hid (aZ els xx=some p):=hf
  have p2:((w.alloc (an kd at' xx yy zz S Tt on)).drewN nq).cell? ⟨p.blk,2,none⟩=some (.string p.cl):=aa ((HX.out.1.drewN nq).rd.el p (cg hf).1) rfl
  clear he hf
  go_upto_region 5 with fail
  go_cut [7] (fun yv wx=>yv=.int .i64 (bK X.T xx Tt)∧Hid (∃ aP,Q (.cls xx Tt on) X st (dN X xx Tt on) aP∧PS wx (.pointer (some pa)) (dN X xx Tt on) aP (bu Fx (w.alloc (an kd at' xx yy zz S Tt on)))∧Fr (w.alloc (an kd at' xx yy zz S Tt on)) wx Fx))
  case first=>
   go_region_held3 (fun w'=>w'.cell? ⟨b,0,none⟩=some (.pointer (some pa))∧w'.cell? ⟨b,1,none⟩=some (.pointer (some ⟨d,0,none⟩))∧w'.cell? ⟨w.heap.size,2,none⟩=some (.int .i64 xx)∧w'.cell? ⟨w.heap.size,6,none⟩=some (.string Tt)∧w'.cell? ⟨w.heap.size,7,none⟩=some (.bool on)) (first | exact HC.out _ _ _ _ tC.out | exact HC.out _ _ _ _ HT.out.2)
    (first | (go_at_call 46;refine (HP.out.cls _ (.pointer (some pa)) X st Fx xx Tt on (zH.out _)).mono ?_;rintro e w1 ⟨aP,rfl,hq,dI,hH⟩;have HT:Hid ((∃ aP,Q (.cls xx Tt on) X st (dN X xx Tt on) aP∧PS w1 (.pointer (some pa)) (dN X xx Tt on) aP (bu Fx (w.alloc (an kd at' xx yy zz S Tt on)))∧Fr (w.alloc (an kd at' xx yy zz S Tt on)) w1 Fx)∧PQ2 PS (w.alloc (an kd at' xx yy zz S Tt on)) G w1 b (dN X xx Tt on) aP X (.pointer (some pa)) d K):=⟨⟨aP,hq,dI,hH.un⟩,nn.out w1 _ aP dI hH.un⟩))
   all_goals
    go_wp2_with fail
    go_meet
    exact ⟨rfl,HT.out.1⟩
  case rest=>
   obtain ⟨rfl,HT⟩:=hcut
   obtain ⟨aP,rH,dI,fq⟩:=HT.out
   have pO:Hid (Q (.cls xx Tt on) X st (dN X xx Tt on) aP∧PS wc (.pointer (some pa)) (dN X xx Tt on) aP (bu Fx (w.alloc (an kd at' xx yy zz S Tt on)))∧Fr (w.alloc (an kd at' xx yy zz S Tt on)) wc Fx):=⟨rH,dI,fq⟩
   have mC:Hid (PQ2 PS (w.alloc (an kd at' xx yy zz S Tt on)) G wc.drew b (dN X xx Tt on) aP X (.pointer (some pa)) d K):=(nn.out wc _ aP dI fq).drew HP.out
   have B8:Hid (RX wc.drew d els X.made hp vT aR vL Rr Gs X.M X.shn X.rs):=by
    refine HX.out.1.keep (fun k hk hl=>fq.block k hl ?_) fq.size
    rcases hk with hk | hk | ⟨hh,hk⟩
    ·exact HF.out.2.2.2.1 k (HF.out.1 k hk)
    ·exact HF.out.2.2.2.1 k (HF.out.2.1 k hk)
    ·exact HF.out.2.2.2.1 k (HF.out.2.2.1 hh k hk)
   clear rH dI fq HT tC
   go_upto_region 6 with fail
   go_cut [8] (fun yv wx=>yv=.int .i64 (bK X.T xx Tt)∧Hid (fu wc.drew d els X.made hp vT vL Rr Gs X.M X.shn X.rs xx Tt on (.returned (.int .i64 (bK X.T xx Tt))) wx∧PQ2 PS (w.alloc (an kd at' xx yy zz S Tt on)) G wx b (dN X xx Tt on) aP (dN X xx Tt on) (.pointer (some pa)) d K))
   case first=>
    go_region_held3 (fun w'=>w'.cell? ⟨b,0,none⟩=some (.pointer (some pa))∧w'.cell? ⟨b,1,none⟩=some (.pointer (some ⟨d,0,none⟩))∧w'.cell? ⟨w.heap.size,2,none⟩=some (.int .i64 xx)∧w'.cell? ⟨w.heap.size,6,none⟩=some (.string Tt)∧w'.cell? ⟨w.heap.size,7,none⟩=some (.bool on)) (first | exact HC.out _ _ _ _ mC.out | exact HC.out _ _ _ _ jk.out.2)
     (first | (go_at_call 148;refine (ux _ d els X.made hp vT aR vL Rr Gs X.M X.shn X.rs xx Tt on B8.out).mono ?_;intro e w2 dB;obtain ⟨rfl,Gj⟩:=Ca.out wc.drew w2 e aP (HP.out.keep pO.out.2.1 (fun _ _ _=>rfl) (Nat.le_refl _)) pO.out.2.2.dr B8.out dB;have jk:Hid (fu wc.drew d els X.made hp vT vL Rr Gs X.M X.shn X.rs xx Tt on (.returned (.int .i64 (bK X.T xx Tt))) w2∧PQ2 PS (w.alloc (an kd at' xx yy zz S Tt on)) G w2 b (dN X xx Tt on) aP (dN X xx Tt on) (.pointer (some pa)) d K):=⟨dB,Gj⟩))
    all_goals
     go_wp2_with fail
     go_meet
     exact ⟨rfl,jk⟩
   case rest=>
    obtain ⟨rfl,jk⟩:=hcut
    have sI:Hid (oe (dN X xx Tt on).T K):=by
     have:=HW.out
     unfold Hid dN
     split
     ·exact this
     ·exact this
    rcases jk.out.1 with ⟨he,-,-⟩ | ⟨he,-,p',o7,jH,NU,-⟩
    ·rw [←HX.out.2] at he
     have HE:Hid (TurnPost2 PS w G b (.pointer (some pa)) d (zX Q X st K xx Tt on) (.returned (.bool true)) wc):=⟨rfl,_,aP,K,jk.out.2.from,sI.out,rfl,pO.out.1,Or.inl ⟨he,rfl⟩⟩
     have gy:(bK X.T xx Tt==0)=false:=by simp [he]
     generalize bK X.T xx Tt=ce at gy
     clear he jk
     go_wp2_with fail
     refine (bF _ ce).mono ?_
     rintro e w5 ⟨rfl,rfl⟩
     go_wp2
     go_ret
     exact HE.out
    ·rw [←HX.out.2] at he
     rw [N8.out] at o7
     injection o7 with o7
     subst o7
     have yr:Hid (RX wc d (els.map (eu p.blk (gM (it p.cl Tt on)))) X.made hp vT false vL Rr Gs (bQ X.M xx.toNat (jz (X.M xx.toNat) Tt on)) X.shn X.rs):=NU
     obtain ⟨fp,pc⟩:=cg N8.out
     have yQ:eu p.blk (gM (it p.cl Tt on)) p=gM (it p.cl Tt on) p:=if_pos rfl
     have lg:wc.heap[p.blk]?=some (.cells (gM (it p.cl Tt on) p).cells 176 (0,0)):=by
      have:=NU.rd.el _ (List.mem_map.2 ⟨p,fp,rfl⟩)
      rw [yQ] at this
      exact this
     have mu:Hid (PQ2 PS (w.alloc (an kd at' xx yy zz S Tt on)) G wc b (dN X xx Tt on) aP (dN X xx Tt on) (.pointer (some pa)) d K):=jk.out.2
     have Zt:Tt.size=1:=by
      unfold ax at jH
      rw [Bool.and_eq_true,decide_eq_true_eq] at jH
      exact jH.1
     have gf:Hid (∀ w5 K',PQ2 PS (w.alloc (an kd at' xx yy zz S Tt on)) G w5 b (dN X xx Tt on) aP (dN X xx Tt on) (.pointer (some pa)) d K'→oe (dN X xx Tt on).T K'→SpoK X.T xx K K' (er Rr (⟨#[46]⟩++Tt)&&decide ((p.cl.size:Int)≠((it p.cl Tt on).size:Int)))→TurnPost2 PS w G b (.pointer (some pa)) d (zX Q X st K xx Tt on) (.returned (.bool true)) w5):=fun w5 K' h1 h2 h3=>⟨rfl,_,aP,K',h1.from,h2,rfl,pO.out.1,Or.inr ⟨he,jH,Rr,p.cl,HX.out.1.rel,HX.out.1.re.cls p fp,by rw [show xx.toNat=p.num from by omega];exact HX.out.1.re.rm.cl p fp,h3⟩⟩
     have Ck:Hid ((dN X xx Tt on).T=X.T):=by unfold Hid dN;rw [if_pos he]
     rw [he]
     clear he NU jk jH pc yQ
     have HCQ:Hid (∀ k,(wc.drewN k).cell? ⟨b,1,none⟩=some (.pointer (some ⟨d,0,none⟩))∧(wc.drewN k).cell? ⟨d,0,none⟩=some (.pointer hp)∧(wc.drewN k).cell? ⟨w.heap.size,6,none⟩=some (.string Tt)):=fun k=>⟨(HC.out _ _ _ _ mu.out).2.1,aa yr.out.rd.doc rfl,(HC.out _ _ _ _ mu.out).2.2.2.1⟩
     have Sd:Hid (∀ k,Calls Tryz.prog 149 #[.pointer hp,.string (⟨#[46]⟩++Tt)] (wc.drewN k) fun e w'=>e=.returned (.bool (er Rr (⟨#[46]⟩++Tt)))∧w'=wc.drewN k):=fun k=>oV _ hp Rr _ ((yr.out.drewN k).sh.here) yr.out.ruok yr.out.few
     obtain ⟨c1,c2,c3⟩:=HCQ.out 0
     have ZM:wc.cell? ⟨b,1,none⟩=some (.pointer (some ⟨d,0,none⟩)):=c1
     have ZK:wc.cell? ⟨d,0,none⟩=some (.pointer hp):=c2
     have XJ:wc.cell? ⟨w.heap.size,6,none⟩=some (.string Tt):=c3
     have c4':wc.cell? ⟨p.blk,2,none⟩=some (.string (it p.cl Tt on)):=aa lg rfl
     have ZO:p.cl.size≤26:=(HX.out.1.re.cls p fp).few
     clear c1 c2 c3 lg
     go_upto_region 8 with fail
     go_quiet ((go_at_call 149;exact Calls.quiet_of_same (Sd.out _)))
     have On:Hid (PQ2 PS (w.alloc (an kd at' xx yy zz S Tt on)) G (wc.drewN nq) b (dN X xx Tt on) aP (dN X xx Tt on) (.pointer (some pa)) d K):=mu.out.drewN HP.out nq
     have c5':(wc.drewN nq).cell? ⟨p.blk,2,none⟩=some (.string (it p.cl Tt on)):=c4'
     have Yu:(wc.drewN nq).cell? ⟨w.heap.size,2,none⟩=some (.int .i64 xx):=(HC.out _ _ _ _ mu.out).2.2.1
     generalize wc.drewN nq=wq at On c5' Yu ⊢
     clear ZM ZK XJ c4' Sd HCQ mu pO
     generalize mf:(it p.cl Tt on).size=cn at gf
     cases Cb:er Rr (⟨#[46]⟩++Tt) with
     | false=>
      have HE:Hid (TurnPost2 PS w G b (.pointer (some pa)) d (zX Q X st K xx Tt on) (.returned (.bool true)) wq):=gf.out wq K On.out sI.out (Or.inl ⟨by rw [Cb];rfl,rfl⟩)
      clear Cb
      go_wp2_with fail
      refine (bF _ 0).mono ?_
      rintro e w5 ⟨rfl,rfl⟩
      go_wp2
      go_ret
      exact HE.out
     | true=>
      by_cases fT:p.cl.size=cn
      ·have HE:Hid (TurnPost2 PS w G b (.pointer (some pa)) d (zX Q X st K xx Tt on) (.returned (.bool true)) wq):=gf.out wq K On.out sI.out (Or.inl ⟨by rw [Cb,fT];simp,rfl⟩)
       have gs:((p.cl.size:Int) != ((it p.cl Tt on).size:Int))=false:=by rw [mf,fT];simp
       clear Cb
       go_wp2_with fail
       refine (bF _ 0).mono ?_
       rintro e w5 ⟨rfl,rfl⟩
       go_wp2
       go_ret
       exact HE.out
      ·have gs:((p.cl.size:Int) != ((it p.cl Tt on).size:Int))=true:=by rw [mf,bne_iff_ne];omega
       have IS:Hid ((er Rr (⟨#[46]⟩++Tt)&&decide ((p.cl.size:Int)≠(cn:Int)))=true):=by unfold Hid;rw [Cb,Bool.true_and,decide_eq_true_eq];omega
       clear Cb
       go_wp2_with fail
       refine (fA HP.out On.out sI.out.2 xx).mono ?_
       rintro e W7 ⟨rfl,OT,xw⟩
       have HE:Hid (TurnPost2 PS w G b (.pointer (some pa)) d (zX Q X st K xx Tt on) (.returned (.bool true)) W7):=gf.out W7 _ xw ⟨sI.out.1,sI.out.2.spoil xx⟩ (Or.inr ⟨IS.out,rfl,by rw [←Ck.out],rfl,rfl,rfl⟩)
       clear xw
       go_wp2_with fail
       refine (bF _ 0).mono ?_
       rintro e w5 ⟨rfl,rfl⟩
       go_wp2
       go_ret
       exact HE.out
end Go.Proofs.YtblfffbmklkhmaaGreat
