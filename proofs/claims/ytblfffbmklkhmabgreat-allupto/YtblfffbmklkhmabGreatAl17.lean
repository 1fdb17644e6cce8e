/- Own work. -/
import Derived.Test.YtblfffbmklkhmabGreatAl16
set_option maxRecDepth 100000
set_option maxHeartbeats 40000000
namespace Go.Proofs.YtblfffbmklkhmabGreat
open Go.RowKit Go.Proofs.Tryz
section
variable {S:Nat->Prop}{w w1:World}
section
variable {PS:World->Value->YS->List Nat->(Nat->Prop)->Prop}{Q:fu->YS->List Nat->YS->List Nat->Prop}{w0:World}{G:Nat->Prop}{w:World}{b:Nat}{X Y:YS}{st:List Nat}{px:Value}{d:Nat}{K:gK}
theorem PQ2.open (hP:cP PS Q)(h:PQ2 PS w0 G w b X st Y px d K):∃Fx Fy,PS w px X st Fx/\RY w d Y Fy/\(∀k,Fy k->¬Fx k)/\(∀k,Fy k->k<w.heap.size)/\(∀w1 X1 bE,PS w1 px X1 bE (cV Fx w)->Fr w w1 Fx->PQ2 PS w0 G w1 b X1 bE Y px d K)/\∀w1 X1 bE w2 Y2,PS w1 px X1 bE (cV Fx w)->Fr w w1 Fx->RY w2 d Y2 (cV Fy w1)->Fr w1 w2 Fy->PQ2 PS w0 G w2 b X1 bE Y2 px d K:=by
 obtain⟨Fp,Fx,Fy,h1,h2,h3⟩:=h
 have nY:∀w1 X1 bE,PS w1 px X1 bE (cV Fx w)->Fr w w1 Fx->PJ2 PS w1 b X1 bE Y px d K Fp (nZ Fx w w1) Fy/\(∀k,Fp k∨nZ Fx w w1 k∨Fy k->G k∨w0.heap.size<=k)/\Fr w0 w1 G:=λw1 X1 bE hs hf=>by
  refine⟨h1.prog hP hs hf,λk hk=>?_,h3.comp hf (λj hj=>h2 j (az (ax hj)))⟩;rcases hk with hk | hk | hk
  ·exact h2 k (ax hk)
  ·exact hk.1.elim (λx=>h2 k (az (ax x))) (λx=>az (Nat.le_trans h3.size x))
  ·exact h2 k (az (az hk))
 refine⟨Fx,Fy,h1.ps,h1.rs,λk hy hx=>h1.xy k hx hy,λk hk=>h1.here k (az (az hk)),λw1 X1 bE hs hf=>?_,λw1 X1 bE w2 Y2 hs hf uG bM=>?_⟩
 ·obtain⟨k1,k2,k3⟩:=nY w1 X1 bE hs hf;exact⟨_,_,_,k1,k2,k3⟩
 ·obtain⟨k1,k2,k3⟩:=nY w1 X1 bE hs hf;refine⟨Fp,nZ Fx w w1,nZ Fy w1 w2,k1.ref hP uG bM,λk hk=>?_,k3.comp bM (λj hj=>k2 j (az (az hj)))⟩;rcases hk with hk | hk | hk
  ·exact k2 k (ax hk)
  ·exact k2 k (az (ax hk))
  ·exact hk.1.elim (λx=>k2 k (az (az x))) (λx=>az (Nat.le_trans k3.size x))
theorem Fr.un {n:Nat}(h:Fr (w.drewN n) w1 S):Fr w w1 S:=⟨h.os,h.tape,h.output,h.size,h.block⟩
theorem Fr.dr (h:Fr w w1 S):Fr w w1.drew S:=⟨h.os,h.tape,h.output,h.size,h.block⟩
theorem Fr.un1 (h:Fr w.drew w1 S):Fr w w1 S:=⟨h.os,h.tape,h.output,h.size,h.block⟩
theorem RX.drewN {aa:List REl}{ae:Nat}{hp:Option Addr}{vT:Value}{br:Bool}{vL:Value}{Rr:List eI}{Gs:Nat->Prop}{M:Nat->Mk}{shn:Nat->Bool}{rs:List dx}(h:RX w d aa ae hp vT br vL Rr Gs M shn rs)(n:Nat):RX (w.drewN n) d aa ae hp vT br vL Rr Gs M shn rs:=h.keep (λ_ _ _=>rfl) aF
end
def SpoK (T:aU)(n:Int)(K K':gK)(sp:Bool):Prop:=(sp=false/\K'=K)∨(sp=true/\K'.lm=K.lm/\K'.ly=kR T n K.ly/\K'.ls=K.ls/\K'.cnt=-1/\K'.held=false)
def Dd (Q:fu->YS->List Nat->YS->List Nat->Prop)(X:YS)(st:List Nat)(K:gK)(n:Int)(s:ByteArray)(on:Bool)(X':YS)(cN:List Nat)(K':gK):Prop:=
 X'=eX X n s on/\Q (.cls n s on) X st X' cN/\((cA X.T n s≠0/\K'=K)∨(cA X.T n s=0/\aQ s=true/\∃(Rr:List eI) (cl:ByteArray),Rel2 y9 Rr X.rs/\ClsOK cl/\(∀c,ta c cl=(decide (97<=c/\c<=122)&&(X.M n.toNat).cl (c - 97)))/\SpoK X.T n K K' (fY Rr (⟨#[46]⟩++s)&&decide ((cl.size:Int)≠((je cl s on).size:Int)))))
theorem Ct {PS:World->Value->YS->List Nat->(Nat->Prop)->Prop}{Q:fu->YS->List Nat->YS->List Nat->Prop}(hP:cP PS Q)(w:World)(b:Nat)(X:YS)(st:List Nat)(pa:Addr)(d:Nat)(K:gK)(G Fp Fx Fy:Nat->Prop)
  (h:PJ2 PS w b X st X (.pointer (some pa)) d K Fp Fx Fy) (hG:∀k,Fp k∨Fx k∨Fy k->G k) (Ag:∀k,G k->k<w.heap.size) (lH:s9 X.T K) (kd af xx yy zz:Int) (S Tt:ByteArray) (on:Bool) :
  Calls prog 39 #[.pointer (some ⟨b,0,none⟩),.agg #[.int .i64 kd,.int .i64 af,.int .i64 xx,.int .i64 yy,.int .i64 zz,.string S,.string Tt,.bool on]] w λe w'=>TurnPost2 PS w G b (.pointer (some pa)) d (Dd Q X st K xx Tt on) e w':=by
 have HP:=aw hP;have HW:=aw lH;have HG:=aw Ag;have H0:Hid (PQ2 PS (w.alloc (aR kd af xx yy zz S Tt on)) G (w.alloc (aR kd af xx yy zz S Tt on)) b X st X (.pointer (some pa)) d K):=PQ2.alloc hP h hG _;clear h hP lH hG Ag Fp Fx Fy;obtain⟨Fx,Fy,qD,KZ,xu,uB,CO,Am⟩:=H0.out.open HP.out;obtain⟨aa,hp,vT,br,vL,Rr,Gs,hX,hA,hF1,hF2,hF3⟩:=KZ;have HX:=bZ hX hA;have HF:Hid ((∀k,jX d aa vL k->Fy k)/\(∀k,Gs k->Fy k)/\(br=true->∀k,vT.ownBlock=some k->Fy k)/\(∀k,Fy k->¬Fx k)/\(∀k,Fy k->k<(w.alloc (aR kd af xx yy zz S Tt on)).heap.size)):=⟨hF1,hF2,hF3,xu,uB⟩;have tm:Hid (∀k,PS ((w.alloc (aR kd af xx yy zz S Tt on)).drewN k) (.pointer (some pa)) X st Fx):=λk=>HP.out.keep qD (λ_ _ _=>rfl) aF;have kU:=aw CO;have fj:=aw Am;clear hX hA hF1 hF2 hF3 qD xu uB CO Am
 have HC:Hid (∀(wx:World) X1 bE Y1,PQ2 PS (w.alloc (aR kd af xx yy zz S Tt on)) G wx b X1 bE Y1 (.pointer (some pa)) d K->wx.cell? ⟨b,0,none⟩=some (.pointer (some pa))/\wx.cell? ⟨b,1,none⟩=some (.pointer (some ⟨d,0,none⟩))/\wx.cell? ⟨w.heap.size,2,none⟩=some (.int .i64 xx)/\wx.cell? ⟨w.heap.size,6,none⟩=some (.string Tt)/\wx.cell? ⟨w.heap.size,7,none⟩=some (.bool on)):=λwx X1 bE Y1 hq=>
  ⟨au hq.pb.blk rfl,au hq.pb.blk rfl,au (hq.op HG.out) rfl,au (hq.op HG.out) rfl,au (hq.op HG.out) rfl⟩
 have wj:Hid (∀k,Calls prog 28 #[.pointer (some ⟨d,0,none⟩),.int .i64 xx] ((w.alloc (aR kd af xx yy zz S Tt on)).drewN k) λe w'=>e=.returned (fk (bR aa xx))/\w'=(w.alloc (aR kd af xx yy zz S Tt on)).drewN k):=λk=>eJ _ d aa X.made hp vT br vL xx (HX.out.1.drewN k).rd
 have FG:Hid (∀wd w2 e bE,PS wd (.pointer (some pa)) (eX X xx Tt on) bE (cV Fx (w.alloc (aR kd af xx yy zz S Tt on)))->Fr (w.alloc (aR kd af xx yy zz S Tt on)) wd Fx->RX wd d aa X.made hp vT br vL Rr Gs X.M X.shn X.rs->jc wd d aa X.made hp vT vL Rr Gs X.M X.shn X.rs xx Tt on e w2->e=.returned (.int .i64 (cA X.T xx Tt))/\PQ2 PS (w.alloc (aR kd af xx yy zz S Tt on)) G w2 b (eX X xx Tt on) bE (eX X xx Tt on) (.pointer (some pa)) d K):=λwd w2 e bE hs hf hx dn=>by
  have GR:Fr wd w2 Fy/\RY w2 d (eX X xx Tt on) (cV Fy wd)/\e=.returned (.int .i64 (cA X.T xx Tt)):=by
   rcases dn with⟨he,hr,rfl⟩ | ⟨he,hr,p,rC,hl,Ar,bM⟩
   ·rw[<-HX.out.2] at he hr;refine⟨Fr.refl _ _,?_,hr⟩;have e1:eX X xx Tt on=X:=by unfold eX;rw[aA he]
    rw[e1];show RSd w2 d X.T X.made X.M X.shn X.rs (cV Fy w2);rw[HX.out.2];exact hx.rsd (λk hk=>ax (HF.out.1 k hk)) (λk hk=>ax (HF.out.2.1 k hk)) (λhh k hk=>ax (HF.out.2.2.1 hh k hk))
   ·rw[<-HX.out.2] at he;refine⟨bM.mono HF.out.1,?_,by rw[hr,he]⟩;have e1:eX X xx Tt on={X with M:=bU X.M xx.toNat (kA (X.M xx.toNat) Tt on)}:=by unfold eX;rw[aE he]
    rw[e1];show RSd w2 d X.T X.made (bU X.M xx.toNat (kA (X.M xx.toNat) Tt on)) X.shn X.rs (cV Fy wd);rw[HX.out.2,<-mW (oc (je p.cl Tt on)) p.blk];exact Ar.rsd (λk hk=>ax (HF.out.1 k ((rZ (oc _) p.blk k).1 hk))) (λk hk=>ax (HF.out.2.1 k hk)) (λhh=>by cases hh)
  exact⟨GR.2.2,fj.out wd _ bE w2 _ hs hf GR.2.1 GR.1⟩
 obtain⟨d0,d1,d2,d3,d4⟩:=HC.out _ _ _ _ H0.out;go_enter func39,ntmps39;go_upto_region 2 with fail;go_quiet ((go_at_call 28;exact Calls.quiet_of_same (wj.out _)));have Ip:=aw (H0.out.drewN HP.out nq);have kY:=aw (H0.out.drewN HP.out (nq+1));clear d0 d1 d2 d3 d4 wj H0;cases hf:bR aa xx with
 | none=>
  have he:fk none=.pointer none:=rfl;rw[he];have MW:=aw hf;clear he hf;go_upto_region 5 with fail
  go_cut [7] (λyv wx=>yv=.int .i64 (cA X.T xx Tt)/\Hid (∃bE,Q (.cls xx Tt on) X st (eX X xx Tt on) bE/\PS wx (.pointer (some pa)) (eX X xx Tt on) bE (cV Fx (w.alloc (aR kd af xx yy zz S Tt on)))/\Fr (w.alloc (aR kd af xx yy zz S Tt on)) wx Fx))
  case first=>
   go_region_held3 (λw'=>w'.cell? ⟨b,0,none⟩=some (.pointer (some pa))/\w'.cell? ⟨b,1,none⟩=some (.pointer (some ⟨d,0,none⟩))/\w'.cell? ⟨w.heap.size,2,none⟩=some (.int .i64 xx)/\w'.cell? ⟨w.heap.size,6,none⟩=some (.string Tt)/\w'.cell? ⟨w.heap.size,7,none⟩=some (.bool on)) (first | exact HC.out _ _ _ _ kY.out | exact HC.out _ _ _ _ HT.out.2)
    (first | (go_at_call 76;refine(HP.out.cls _ (.pointer (some pa)) X st Fx xx Tt on (tm.out _)).mono ?_;rintro e w1 ⟨bE,rfl,hq,d9,fF⟩;have HT:Hid ((∃bE,Q (.cls xx Tt on) X st (eX X xx Tt on) bE/\PS w1 (.pointer (some pa)) (eX X xx Tt on) bE (cV Fx (w.alloc (aR kd af xx yy zz S Tt on)))/\Fr (w.alloc (aR kd af xx yy zz S Tt on)) w1 Fx)/\PQ2 PS (w.alloc (aR kd af xx yy zz S Tt on)) G w1 b (eX X xx Tt on) bE X (.pointer (some pa)) d K):=⟨⟨bE,hq,d9,fF.un⟩,kU.out w1 _ bE d9 fF.un⟩))
   all_goals
    go_wp2_with fail;go_meet;exact⟨rfl,HT.out.1⟩
  case rest=>
   obtain⟨rfl,HT⟩:=hcut;obtain⟨bE,sd,d9,hfr1⟩:=HT.out;have rG:=kC sd d9 hfr1;have iL:=aw ((kU.out wc _ bE d9 hfr1).drew HP.out)
   have FN:Hid (RX wc.drew d aa X.made hp vT br vL Rr Gs X.M X.shn X.rs):=by
    refine HX.out.1.keep (λk hk hl=>hfr1.block k hl ?_) hfr1.size;rcases hk with hk | hk | ⟨hh,hk⟩
    ·exact HF.out.2.2.2.1 k (HF.out.1 k hk)
    ·exact HF.out.2.2.2.1 k (HF.out.2.1 k hk)
    ·exact HF.out.2.2.2.1 k (HF.out.2.2.1 hh k hk)
   clear sd d9 hfr1 HT kY;go_upto_region 6 with fail
   go_cut [8] (λyv wx=>yv=.int .i64 (cA X.T xx Tt)/\Hid (jc wc.drew d aa X.made hp vT vL Rr Gs X.M X.shn X.rs xx Tt on (.returned (.int .i64 (cA X.T xx Tt))) wx/\PQ2 PS (w.alloc (aR kd af xx yy zz S Tt on)) G wx b (eX X xx Tt on) bE (eX X xx Tt on) (.pointer (some pa)) d K))
   case first=>
    go_region_held3 (λw'=>w'.cell? ⟨b,0,none⟩=some (.pointer (some pa))/\w'.cell? ⟨b,1,none⟩=some (.pointer (some ⟨d,0,none⟩))/\w'.cell? ⟨w.heap.size,2,none⟩=some (.int .i64 xx)/\w'.cell? ⟨w.heap.size,6,none⟩=some (.string Tt)/\w'.cell? ⟨w.heap.size,7,none⟩=some (.bool on)) (first | exact HC.out _ _ _ _ iL.out | exact HC.out _ _ _ _ jI.out.2)
     (first | (go_at_call 77;refine(x9 _ d aa X.made hp vT br vL Rr Gs X.M X.shn X.rs xx Tt on FN.out).mono ?_;intro e w2 dn;obtain⟨rfl,KY⟩:=FG.out wc.drew w2 e bE (HP.out.keep rG.out.2.1 (λ_ _ _=>rfl) aF) rG.out.2.2.dr FN.out dn;have jI:Hid (jc wc.drew d aa X.made hp vT vL Rr Gs X.M X.shn X.rs xx Tt on (.returned (.int .i64 (cA X.T xx Tt))) w2/\PQ2 PS (w.alloc (aR kd af xx yy zz S Tt on)) G w2 b (eX X xx Tt on) bE (eX X xx Tt on) (.pointer (some pa)) d K):=⟨dn,KY⟩))
    all_goals
     go_wp2_with fail;go_meet;exact⟨rfl,jI⟩
   case rest=>
    obtain⟨rfl,jI⟩:=hcut
    have KM:cA X.T xx Tt=5:=by
     unfold cA;rw[HX.out.2,cW MW.out]
    have HE:Hid (TurnPost2 PS w G b (.pointer (some pa)) d (Dd Q X st K xx Tt on) (.returned (.bool true)) wc):=⟨rfl,_,bE,K,jI.out.2.from,by have:=HW.out;unfold eX;rw[aA (by rw[KM];decide)];exact this,rfl,rG.out.1,ax ⟨by rw[KM];decide,rfl⟩⟩;rw[KM];clear KM jI;go_wp2_with fail;refine(bQ _ 5).mono ?_;rintro e w5 ⟨rfl,rfl⟩;go_wp2;go_ret;exact HE.out
 | some p=>
  have he:fk (some p)=.pointer (some ⟨p.blk,0,none⟩):=rfl;rw[he];have MW:=aw hf;have p2:((w.alloc (aR kd af xx yy zz S Tt on)).drewN nq).cell? ⟨p.blk,2,none⟩=some (.string p.cl):=au ((HX.out.1.drewN nq).rd.el p (cY hf).1) rfl;clear he hf;go_upto_region 5 with fail
  go_cut [7] (λyv wx=>yv=.int .i64 (cA X.T xx Tt)/\Hid (∃bE,Q (.cls xx Tt on) X st (eX X xx Tt on) bE/\PS wx (.pointer (some pa)) (eX X xx Tt on) bE (cV Fx (w.alloc (aR kd af xx yy zz S Tt on)))/\Fr (w.alloc (aR kd af xx yy zz S Tt on)) wx Fx))
  case first=>
   go_region_held3 (λw'=>w'.cell? ⟨b,0,none⟩=some (.pointer (some pa))/\w'.cell? ⟨b,1,none⟩=some (.pointer (some ⟨d,0,none⟩))/\w'.cell? ⟨w.heap.size,2,none⟩=some (.int .i64 xx)/\w'.cell? ⟨w.heap.size,6,none⟩=some (.string Tt)/\w'.cell? ⟨w.heap.size,7,none⟩=some (.bool on)) (first | exact HC.out _ _ _ _ kY.out | exact HC.out _ _ _ _ HT.out.2)
    (first | (go_at_call 76;refine(HP.out.cls _ (.pointer (some pa)) X st Fx xx Tt on (tm.out _)).mono ?_;rintro e w1 ⟨bE,rfl,hq,d9,fF⟩;have HT:Hid ((∃bE,Q (.cls xx Tt on) X st (eX X xx Tt on) bE/\PS w1 (.pointer (some pa)) (eX X xx Tt on) bE (cV Fx (w.alloc (aR kd af xx yy zz S Tt on)))/\Fr (w.alloc (aR kd af xx yy zz S Tt on)) w1 Fx)/\PQ2 PS (w.alloc (aR kd af xx yy zz S Tt on)) G w1 b (eX X xx Tt on) bE X (.pointer (some pa)) d K):=⟨⟨bE,hq,d9,fF.un⟩,kU.out w1 _ bE d9 fF.un⟩))
   all_goals
    go_wp2_with fail;go_meet;exact⟨rfl,HT.out.1⟩
  case rest=>
   obtain⟨rfl,HT⟩:=hcut;obtain⟨bE,sd,d9,hfr1⟩:=HT.out;have rG:=kC sd d9 hfr1;have iL:=aw ((kU.out wc _ bE d9 hfr1).drew HP.out)
   have FN:Hid (RX wc.drew d aa X.made hp vT br vL Rr Gs X.M X.shn X.rs):=by
    refine HX.out.1.keep (λk hk hl=>hfr1.block k hl ?_) hfr1.size;rcases hk with hk | hk | ⟨hh,hk⟩
    ·exact HF.out.2.2.2.1 k (HF.out.1 k hk)
    ·exact HF.out.2.2.2.1 k (HF.out.2.1 k hk)
    ·exact HF.out.2.2.2.1 k (HF.out.2.2.1 hh k hk)
   clear sd d9 hfr1 HT kY;go_upto_region 6 with fail
   go_cut [8] (λyv wx=>yv=.int .i64 (cA X.T xx Tt)/\Hid (jc wc.drew d aa X.made hp vT vL Rr Gs X.M X.shn X.rs xx Tt on (.returned (.int .i64 (cA X.T xx Tt))) wx/\PQ2 PS (w.alloc (aR kd af xx yy zz S Tt on)) G wx b (eX X xx Tt on) bE (eX X xx Tt on) (.pointer (some pa)) d K))
   case first=>
    go_region_held3 (λw'=>w'.cell? ⟨b,0,none⟩=some (.pointer (some pa))/\w'.cell? ⟨b,1,none⟩=some (.pointer (some ⟨d,0,none⟩))/\w'.cell? ⟨w.heap.size,2,none⟩=some (.int .i64 xx)/\w'.cell? ⟨w.heap.size,6,none⟩=some (.string Tt)/\w'.cell? ⟨w.heap.size,7,none⟩=some (.bool on)) (first | exact HC.out _ _ _ _ iL.out | exact HC.out _ _ _ _ jI.out.2)
     (first | (go_at_call 77;refine(x9 _ d aa X.made hp vT br vL Rr Gs X.M X.shn X.rs xx Tt on FN.out).mono ?_;intro e w2 dn;obtain⟨rfl,KY⟩:=FG.out wc.drew w2 e bE (HP.out.keep rG.out.2.1 (λ_ _ _=>rfl) aF) rG.out.2.2.dr FN.out dn;have jI:Hid (jc wc.drew d aa X.made hp vT vL Rr Gs X.M X.shn X.rs xx Tt on (.returned (.int .i64 (cA X.T xx Tt))) w2/\PQ2 PS (w.alloc (aR kd af xx yy zz S Tt on)) G w2 b (eX X xx Tt on) bE (eX X xx Tt on) (.pointer (some pa)) d K):=⟨dn,KY⟩))
    all_goals
     go_wp2_with fail;go_meet;exact⟨rfl,jI⟩
   case rest=>
    obtain⟨rfl,jI⟩:=hcut
    have vx:Hid (s9 (eX X xx Tt on).T K):=by
     have:=HW.out;unfold Hid eX;split
     ·exact this
     ·exact this
    rcases jI.out.1 with⟨he,-,-⟩ | ⟨he,-,p',rC,lf,hX2,-⟩
    ·rw[<-HX.out.2] at he;have HE:Hid (TurnPost2 PS w G b (.pointer (some pa)) d (Dd Q X st K xx Tt on) (.returned (.bool true)) wc):=⟨rfl,_,bE,K,jI.out.2.from,vx.out,rfl,rG.out.1,ax ⟨he,rfl⟩⟩;have gy:(cA X.T xx Tt==0)=false:=by simp[he]
     generalize cA X.T xx Tt=ce at gy;clear he jI;go_wp2_with fail;refine(bQ _ ce).mono ?_;rintro e w5 ⟨rfl,rfl⟩;go_wp2;go_ret;exact HE.out
    ·rw[<-HX.out.2] at he;rw[MW.out] at rC;injection rC with rC
     subst rC;have Bw:=aw hX2;obtain⟨fJ,qW⟩:=cY MW.out;have CP:fH p.blk (jq (je p.cl Tt on)) p=jq (je p.cl Tt on) p:=aE rfl
     have nw:wc.heap[p.blk]?=some (.cells (jq (je p.cl Tt on) p).cells 93 (0,0)):=by
      have:=hX2.rd.el _ (bx.2 ⟨p,fJ,rfl⟩);rw[CP] at this;exact this
     have oV:=aw jI.out.2
     have htz:Tt.size=1:=by
      unfold aQ at lf;rw[Bool.and_eq_true,bO] at lf;exact lf.1
     have fC:Hid (∀w5 K',PQ2 PS (w.alloc (aR kd af xx yy zz S Tt on)) G w5 b (eX X xx Tt on) bE (eX X xx Tt on) (.pointer (some pa)) d K'->s9 (eX X xx Tt on).T K'->SpoK X.T xx K K' (fY Rr (⟨#[46]⟩++Tt)&&decide ((p.cl.size:Int)≠((je p.cl Tt on).size:Int)))->TurnPost2 PS w G b (.pointer (some pa)) d (Dd Q X st K xx Tt on) (.returned (.bool true)) w5):=λw5 K' h1 h2 h3=>⟨rfl,_,bE,K',h1.from,h2,rfl,rG.out.1,az ⟨he,lf,Rr,p.cl,HX.out.1.rel,HX.out.1.re.cls p fJ,by rw[show xx.toNat=p.num from by omega];exact HX.out.1.re.rm.cl p fJ,h3⟩⟩;have FL:Hid ((eX X xx Tt on).T=X.T):=by unfold Hid eX;rw[aE he]
     rw[he];clear he hX2 jI lf qW CP;have HCQ:Hid (∀k,(wc.drewN k).cell? ⟨b,1,none⟩=some (.pointer (some ⟨d,0,none⟩))/\(wc.drewN k).cell? ⟨d,0,none⟩=some (.pointer hp)/\(wc.drewN k).cell? ⟨w.heap.size,6,none⟩=some (.string Tt)):=λk=>⟨(HC.out _ _ _ _ oV.out).2.1,au Bw.out.rd.doc rfl,(HC.out _ _ _ _ oV.out).2.2.2.1⟩;have JY:Hid (∀k,Calls prog 78 #[.pointer hp,.string (⟨#[46]⟩++Tt)] (wc.drewN k) λe w'=>e=.returned (.bool (fY Rr (⟨#[46]⟩++Tt)))/\w'=wc.drewN k):=λk=>ra _ hp Rr _ ((Bw.out.drewN k).sh.here) Bw.out.ruok Bw.out.few;obtain⟨c1,c2,c3⟩:=HCQ.out 0;have c1':wc.cell? ⟨b,1,none⟩=some (.pointer (some ⟨d,0,none⟩)):=c1;have c2':wc.cell? ⟨d,0,none⟩=some (.pointer hp):=c2;have c3':wc.cell? ⟨w.heap.size,6,none⟩=some (.string Tt):=c3;have c4':wc.cell? ⟨p.blk,2,none⟩=some (.string (je p.cl Tt on)):=au nw rfl;have aes:=(HX.out.1.re.cls p fJ).few;clear c1 c2 c3 nw;go_upto_region 8 with fail;go_quiet ((go_at_call 78;exact Calls.quiet_of_same (JY.out _)));have RJ:=aw (oV.out.drewN HP.out nq);have c5':(wc.drewN nq).cell? ⟨p.blk,2,none⟩=some (.string (je p.cl Tt on)):=c4';have c6':(wc.drewN nq).cell? ⟨w.heap.size,2,none⟩=some (.int .i64 xx):=(HC.out _ _ _ _ oV.out).2.2.1;generalize wc.drewN nq=wq at RJ c5' c6' ⊢;clear c1' c2' c3' c4' JY HCQ oV rG;generalize oL:(je p.cl Tt on).size=cn at fC;cases uC:fY Rr (⟨#[46]⟩++Tt) with
     | false=>
      have HE:Hid (TurnPost2 PS w G b (.pointer (some pa)) d (Dd Q X st K xx Tt on) (.returned (.bool true)) wq):=fC.out wq K RJ.out vx.out (ax ⟨by rw[uC];rfl,rfl⟩);clear uC;go_wp2_with fail;refine(bQ _ 0).mono ?_;rintro e w5 ⟨rfl,rfl⟩;go_wp2;go_ret;exact HE.out
     | true=>
      by_cases il:p.cl.size=cn
      ·have HE:Hid (TurnPost2 PS w G b (.pointer (some pa)) d (Dd Q X st K xx Tt on) (.returned (.bool true)) wq):=fC.out wq K RJ.out vx.out (ax ⟨by rw[uC,il];simp,rfl⟩);have gs:((p.cl.size:Int) != ((je p.cl Tt on).size:Int))=false:=by rw[oL,il];simp
       clear uC;go_wp2_with fail;refine(bQ _ 0).mono ?_;rintro e w5 ⟨rfl,rfl⟩;go_wp2;go_ret;exact HE.out
      ·have gs:((p.cl.size:Int) != ((je p.cl Tt on).size:Int))=true:=by rw[oL,bne_iff_ne];omega
       have MF:Hid ((fY Rr (⟨#[46]⟩++Tt)&&decide ((p.cl.size:Int)≠(cn:Int)))=true):=by unfold Hid;rw[uC,Bool.true_and,bO];omega
       clear uC;go_wp2_with fail;refine(iF HP.out RJ.out vx.out.2 xx).mono ?_;rintro e W7 ⟨rfl,Xd,Aq⟩;have HE:Hid (TurnPost2 PS w G b (.pointer (some pa)) d (Dd Q X st K xx Tt on) (.returned (.bool true)) W7):=fC.out W7 _ Aq ⟨vx.out.1,vx.out.2.spoil xx⟩ (az ⟨MF.out,rfl,by rw[<-FL.out],rfl,rfl,rfl⟩);clear Aq;go_wp2_with fail;refine(bQ _ 0).mono ?_;rintro e w5 ⟨rfl,rfl⟩;go_wp2;go_ret;exact HE.out
end
def AJ (Rr:List eI)(nm s:ByteArray):Bool:=(!(nm.toList==s.toList))&&((decide (nm.size≠0)&&fY Rr (⟨#[35]⟩++nm))||(decide (s.size≠0)&&fY Rr (⟨#[35]⟩++s)))
def By (Q:fu->YS->List Nat->YS->List Nat->Prop)(X:YS)(st:List Nat)(K:gK)(n:Int)(s:ByteArray)(X':YS)(cN:List Nat)(K':gK):Prop:=
 X'=eY X n s/\Q (.nam n s) X st X' cN/\((cJ X.T n s≠0/\K'=K)∨(cJ X.T n s=0/\(s.size=0∨aQ s=true)/\∃(Rr:List eI) (nm:ByteArray),Rel2 y9 Rr X.rs/\((nm.size=0/\(X.M n.toNat).nm=0)∨(aQ nm=true/\(X.M n.toNat).nm=bt nm 0))/\SpoK X.T n K K' (AJ Rr nm s)))
theorem Hn {PS:World->Value->YS->List Nat->(Nat->Prop)->Prop}{Q:fu->YS->List Nat->YS->List Nat->Prop}(hP:cP PS Q)(w:World)(b:Nat)(X:YS)(st:List Nat)(pa:Addr)(d:Nat)(K:gK)(G Fp Fx Fy:Nat->Prop)
  (h:PJ2 PS w b X st X (.pointer (some pa)) d K Fp Fx Fy) (hG:∀k,Fp k∨Fx k∨Fy k->G k) (Ag:∀k,G k->k<w.heap.size) (lH:s9 X.T K) (kd af xx yy zz:Int) (S Tt:ByteArray) (on:Bool) :
  Calls prog 40 #[.pointer (some ⟨b,0,none⟩),.agg #[.int .i64 kd,.int .i64 af,.int .i64 xx,.int .i64 yy,.int .i64 zz,.string S,.string Tt,.bool on]] w λe w'=>TurnPost2 PS w G b (.pointer (some pa)) d (By Q X st K xx Tt) e w':=by
 have HP:=aw hP;have HW:=aw lH;have HG:=aw Ag;have H0:Hid (PQ2 PS (w.alloc (aR kd af xx yy zz S Tt on)) G (w.alloc (aR kd af xx yy zz S Tt on)) b X st X (.pointer (some pa)) d K):=PQ2.alloc hP h hG _;clear h hP lH hG Ag Fp Fx Fy;obtain⟨Fx,Fy,qD,KZ,xu,uB,CO,Am⟩:=H0.out.open HP.out;obtain⟨aa,hp,vT,br,vL,Rr,Gs,hX,hA,hF1,hF2,hF3⟩:=KZ;have HX:=bZ hX hA;have HF:Hid ((∀k,jX d aa vL k->Fy k)/\(∀k,Gs k->Fy k)/\(br=true->∀k,vT.ownBlock=some k->Fy k)/\(∀k,Fy k->¬Fx k)/\(∀k,Fy k->k<(w.alloc (aR kd af xx yy zz S Tt on)).heap.size)):=⟨hF1,hF2,hF3,xu,uB⟩;have tm:Hid (∀k,PS ((w.alloc (aR kd af xx yy zz S Tt on)).drewN k) (.pointer (some pa)) X st Fx):=λk=>HP.out.keep qD (λ_ _ _=>rfl) aF;have kU:=aw CO;have fj:=aw Am;clear hX hA hF1 hF2 hF3 qD xu uB CO Am
 have HC:Hid (∀(wx:World) X1 bE Y1,PQ2 PS (w.alloc (aR kd af xx yy zz S Tt on)) G wx b X1 bE Y1 (.pointer (some pa)) d K->wx.cell? ⟨b,0,none⟩=some (.pointer (some pa))/\wx.cell? ⟨b,1,none⟩=some (.pointer (some ⟨d,0,none⟩))/\wx.cell? ⟨w.heap.size,2,none⟩=some (.int .i64 xx)/\wx.cell? ⟨w.heap.size,6,none⟩=some (.string Tt)/\wx.cell? ⟨w.heap.size,7,none⟩=some (.bool on)):=λwx X1 bE Y1 hq=>
  ⟨au hq.pb.blk rfl,au hq.pb.blk rfl,au (hq.op HG.out) rfl,au (hq.op HG.out) rfl,au (hq.op HG.out) rfl⟩
 have wj:Hid (∀k,Calls prog 28 #[.pointer (some ⟨d,0,none⟩),.int .i64 xx] ((w.alloc (aR kd af xx yy zz S Tt on)).drewN k) λe w'=>e=.returned (fk (bR aa xx))/\w'=(w.alloc (aR kd af xx yy zz S Tt on)).drewN k):=λk=>eJ _ d aa X.made hp vT br vL xx (HX.out.1.drewN k).rd
 have FG:Hid (∀wd w2 e bE,PS wd (.pointer (some pa)) (eY X xx Tt) bE (cV Fx (w.alloc (aR kd af xx yy zz S Tt on)))->Fr (w.alloc (aR kd af xx yy zz S Tt on)) wd Fx->RX wd d aa X.made hp vT br vL Rr Gs X.M X.shn X.rs->jN wd d aa X.made hp vT vL Rr Gs X.M X.shn X.rs xx Tt e w2->e=.returned (.int .i64 (cJ X.T xx Tt))/\PQ2 PS (w.alloc (aR kd af xx yy zz S Tt on)) G w2 b (eY X xx Tt) bE (eY X xx Tt) (.pointer (some pa)) d K):=λwd w2 e bE hs hf hx dn=>by
  have GR:Fr wd w2 Fy/\RY w2 d (eY X xx Tt) (cV Fy wd)/\e=.returned (.int .i64 (cJ X.T xx Tt)):=by
   rcases dn with⟨he,hr,rfl⟩ | ⟨he,hr,p,rC,hl,Ar,bM⟩
   ·rw[<-HX.out.2] at he hr;refine⟨Fr.refl _ _,?_,hr⟩;have e1:eY X xx Tt=X:=by unfold eY;rw[aA he]
    rw[e1];show RSd w2 d X.T X.made X.M X.shn X.rs (cV Fy w2);rw[HX.out.2];exact hx.rsd (λk hk=>ax (HF.out.1 k hk)) (λk hk=>ax (HF.out.2.1 k hk)) (λhh k hk=>ax (HF.out.2.2.1 hh k hk))
   ·rw[<-HX.out.2] at he;refine⟨bM.mono HF.out.1,?_,by rw[hr,he]⟩;have e1:eY X xx Tt={X with M:=bU X.M xx.toNat (fW (X.M xx.toNat) Tt)}:=by unfold eY;rw[aE he]
    rw[e1];show RSd w2 d X.T X.made (bU X.M xx.toNat (fW (X.M xx.toNat) Tt)) X.shn X.rs (cV Fy wd);rw[HX.out.2,<-mW (sA Tt) p.blk];exact Ar.rsd (λk hk=>ax (HF.out.1 k ((rZ (sA _) p.blk k).1 hk))) (λk hk=>ax (HF.out.2.1 k hk)) (λhh=>by cases hh)
  exact⟨GR.2.2,fj.out wd _ bE w2 _ hs hf GR.2.1 GR.1⟩
 obtain⟨d0,d1,d2,d3,d4⟩:=HC.out _ _ _ _ H0.out;go_enter func40,ntmps40;go_upto_region 2 with fail;go_quiet ((go_at_call 28;exact Calls.quiet_of_same (wj.out _)));have Ip:=aw (H0.out.drewN HP.out nq);have kY:=aw (H0.out.drewN HP.out (nq+1));clear d0 d1 d2 d3 d4 wj H0;cases hf:bR aa xx with
 | none=>
  have he:fk none=.pointer none:=rfl;rw[he];have MW:=aw hf;clear he hf;go_upto_region 5 with fail
  go_cut [7] (λyv wx=>yv=.int .i64 (cJ X.T xx Tt)/\Hid (∃bE,Q (.nam xx Tt) X st (eY X xx Tt) bE/\PS wx (.pointer (some pa)) (eY X xx Tt) bE (cV Fx (w.alloc (aR kd af xx yy zz S Tt on)))/\Fr (w.alloc (aR kd af xx yy zz S Tt on)) wx Fx))
  case first=>
   go_region_held3 (λw'=>w'.cell? ⟨b,0,none⟩=some (.pointer (some pa))/\w'.cell? ⟨b,1,none⟩=some (.pointer (some ⟨d,0,none⟩))/\w'.cell? ⟨w.heap.size,2,none⟩=some (.int .i64 xx)/\w'.cell? ⟨w.heap.size,6,none⟩=some (.string Tt)/\w'.cell? ⟨w.heap.size,7,none⟩=some (.bool on)) (first | exact HC.out _ _ _ _ kY.out | exact HC.out _ _ _ _ HT.out.2)
    (first | (go_at_call 79;refine(HP.out.nam _ (.pointer (some pa)) X st Fx xx Tt (tm.out _)).mono ?_;rintro e w1 ⟨bE,rfl,hq,d9,fF⟩;have HT:Hid ((∃bE,Q (.nam xx Tt) X st (eY X xx Tt) bE/\PS w1 (.pointer (some pa)) (eY X xx Tt) bE (cV Fx (w.alloc (aR kd af xx yy zz S Tt on)))/\Fr (w.alloc (aR kd af xx yy zz S Tt on)) w1 Fx)/\PQ2 PS (w.alloc (aR kd af xx yy zz S Tt on)) G w1 b (eY X xx Tt) bE X (.pointer (some pa)) d K):=⟨⟨bE,hq,d9,fF.un⟩,kU.out w1 _ bE d9 fF.un⟩))
   all_goals
    go_wp2_with fail;go_meet;exact⟨rfl,HT.out.1⟩
  case rest=>
   obtain⟨rfl,HT⟩:=hcut;obtain⟨bE,sd,d9,hfr1⟩:=HT.out;have rG:=kC sd d9 hfr1;have iL:=aw ((kU.out wc _ bE d9 hfr1).drew HP.out)
   have FN:Hid (RX wc.drew d aa X.made hp vT br vL Rr Gs X.M X.shn X.rs):=by
    refine HX.out.1.keep (λk hk hl=>hfr1.block k hl ?_) hfr1.size;rcases hk with hk | hk | ⟨hh,hk⟩
    ·exact HF.out.2.2.2.1 k (HF.out.1 k hk)
    ·exact HF.out.2.2.2.1 k (HF.out.2.1 k hk)
    ·exact HF.out.2.2.2.1 k (HF.out.2.2.1 hh k hk)
   clear sd d9 hfr1 HT kY;go_upto_region 6 with fail
   go_cut [8] (λyv wx=>yv=.int .i64 (cJ X.T xx Tt)/\Hid (jN wc.drew d aa X.made hp vT vL Rr Gs X.M X.shn X.rs xx Tt (.returned (.int .i64 (cJ X.T xx Tt))) wx/\PQ2 PS (w.alloc (aR kd af xx yy zz S Tt on)) G wx b (eY X xx Tt) bE (eY X xx Tt) (.pointer (some pa)) d K))
   case first=>
    go_region_held3 (λw'=>w'.cell? ⟨b,0,none⟩=some (.pointer (some pa))/\w'.cell? ⟨b,1,none⟩=some (.pointer (some ⟨d,0,none⟩))/\w'.cell? ⟨w.heap.size,2,none⟩=some (.int .i64 xx)/\w'.cell? ⟨w.heap.size,6,none⟩=some (.string Tt)/\w'.cell? ⟨w.heap.size,7,none⟩=some (.bool on)) (first | exact HC.out _ _ _ _ iL.out | exact HC.out _ _ _ _ jI.out.2)
     (first | (go_at_call 80;refine(AW _ d aa X.made hp vT br vL Rr Gs X.M X.shn X.rs xx Tt FN.out).mono ?_;intro e w2 dn;obtain⟨rfl,KY⟩:=FG.out wc.drew w2 e bE (HP.out.keep rG.out.2.1 (λ_ _ _=>rfl) aF) rG.out.2.2.dr FN.out dn;have jI:Hid (jN wc.drew d aa X.made hp vT vL Rr Gs X.M X.shn X.rs xx Tt (.returned (.int .i64 (cJ X.T xx Tt))) w2/\PQ2 PS (w.alloc (aR kd af xx yy zz S Tt on)) G w2 b (eY X xx Tt) bE (eY X xx Tt) (.pointer (some pa)) d K):=⟨dn,KY⟩))
    all_goals
     go_wp2_with fail;go_meet;exact⟨rfl,jI⟩
   case rest=>
    obtain⟨rfl,jI⟩:=hcut
    have KM:cJ X.T xx Tt=5:=by
     unfold cJ;rw[HX.out.2,cW MW.out]
    have HE:Hid (TurnPost2 PS w G b (.pointer (some pa)) d (By Q X st K xx Tt) (.returned (.bool true)) wc):=⟨rfl,_,bE,K,jI.out.2.from,by have:=HW.out;unfold eY;rw[aA (by rw[KM];decide)];exact this,rfl,rG.out.1,ax ⟨by rw[KM];decide,rfl⟩⟩;rw[KM];clear KM jI;go_wp2_with fail;refine(bQ _ 5).mono ?_;rintro e w5 ⟨rfl,rfl⟩;go_wp2;go_ret;exact HE.out
 | some p=>
  have he:fk (some p)=.pointer (some ⟨p.blk,0,none⟩):=rfl;rw[he];have MW:=aw hf;have p2:((w.alloc (aR kd af xx yy zz S Tt on)).drewN nq).cell? ⟨p.blk,3,none⟩=some (.string p.nm):=au ((HX.out.1.drewN nq).rd.el p (cY hf).1) rfl;clear he hf;go_upto_region 5 with fail
  go_cut [7] (λyv wx=>yv=.int .i64 (cJ X.T xx Tt)/\Hid (∃bE,Q (.nam xx Tt) X st (eY X xx Tt) bE/\PS wx (.pointer (some pa)) (eY X xx Tt) bE (cV Fx (w.alloc (aR kd af xx yy zz S Tt on)))/\Fr (w.alloc (aR kd af xx yy zz S Tt on)) wx Fx))
  case first=>
   go_region_held3 (λw'=>w'.cell? ⟨b,0,none⟩=some (.pointer (some pa))/\w'.cell? ⟨b,1,none⟩=some (.pointer (some ⟨d,0,none⟩))/\w'.cell? ⟨w.heap.size,2,none⟩=some (.int .i64 xx)/\w'.cell? ⟨w.heap.size,6,none⟩=some (.string Tt)/\w'.cell? ⟨w.heap.size,7,none⟩=some (.bool on)) (first | exact HC.out _ _ _ _ kY.out | exact HC.out _ _ _ _ HT.out.2)
    (first | (go_at_call 79;refine(HP.out.nam _ (.pointer (some pa)) X st Fx xx Tt (tm.out _)).mono ?_;rintro e w1 ⟨bE,rfl,hq,d9,fF⟩;have HT:Hid ((∃bE,Q (.nam xx Tt) X st (eY X xx Tt) bE/\PS w1 (.pointer (some pa)) (eY X xx Tt) bE (cV Fx (w.alloc (aR kd af xx yy zz S Tt on)))/\Fr (w.alloc (aR kd af xx yy zz S Tt on)) w1 Fx)/\PQ2 PS (w.alloc (aR kd af xx yy zz S Tt on)) G w1 b (eY X xx Tt) bE X (.pointer (some pa)) d K):=⟨⟨bE,hq,d9,fF.un⟩,kU.out w1 _ bE d9 fF.un⟩))
   all_goals
    go_wp2_with fail;go_meet;exact⟨rfl,HT.out.1⟩
  case rest=>
   obtain⟨rfl,HT⟩:=hcut;obtain⟨bE,sd,d9,hfr1⟩:=HT.out;have rG:=kC sd d9 hfr1;have iL:=aw ((kU.out wc _ bE d9 hfr1).drew HP.out)
   have FN:Hid (RX wc.drew d aa X.made hp vT br vL Rr Gs X.M X.shn X.rs):=by
    refine HX.out.1.keep (λk hk hl=>hfr1.block k hl ?_) hfr1.size;rcases hk with hk | hk | ⟨hh,hk⟩
    ·exact HF.out.2.2.2.1 k (HF.out.1 k hk)
    ·exact HF.out.2.2.2.1 k (HF.out.2.1 k hk)
    ·exact HF.out.2.2.2.1 k (HF.out.2.2.1 hh k hk)
   clear sd d9 hfr1 HT kY;go_upto_region 6 with fail
   go_cut [8] (λyv wx=>yv=.int .i64 (cJ X.T xx Tt)/\Hid (jN wc.drew d aa X.made hp vT vL Rr Gs X.M X.shn X.rs xx Tt (.returned (.int .i64 (cJ X.T xx Tt))) wx/\PQ2 PS (w.alloc (aR kd af xx yy zz S Tt on)) G wx b (eY X xx Tt) bE (eY X xx Tt) (.pointer (some pa)) d K))
   case first=>
    go_region_held3 (λw'=>w'.cell? ⟨b,0,none⟩=some (.pointer (some pa))/\w'.cell? ⟨b,1,none⟩=some (.pointer (some ⟨d,0,none⟩))/\w'.cell? ⟨w.heap.size,2,none⟩=some (.int .i64 xx)/\w'.cell? ⟨w.heap.size,6,none⟩=some (.string Tt)/\w'.cell? ⟨w.heap.size,7,none⟩=some (.bool on)) (first | exact HC.out _ _ _ _ iL.out | exact HC.out _ _ _ _ jI.out.2)
     (first | (go_at_call 80;refine(AW _ d aa X.made hp vT br vL Rr Gs X.M X.shn X.rs xx Tt FN.out).mono ?_;intro e w2 dn;obtain⟨rfl,KY⟩:=FG.out wc.drew w2 e bE (HP.out.keep rG.out.2.1 (λ_ _ _=>rfl) aF) rG.out.2.2.dr FN.out dn;have jI:Hid (jN wc.drew d aa X.made hp vT vL Rr Gs X.M X.shn X.rs xx Tt (.returned (.int .i64 (cJ X.T xx Tt))) w2/\PQ2 PS (w.alloc (aR kd af xx yy zz S Tt on)) G w2 b (eY X xx Tt) bE (eY X xx Tt) (.pointer (some pa)) d K):=⟨dn,KY⟩))
    all_goals
     go_wp2_with fail;go_meet;exact⟨rfl,jI⟩
   case rest=>
    obtain⟨rfl,jI⟩:=hcut
    have vx:Hid (s9 (eY X xx Tt).T K):=by
     have:=HW.out;unfold Hid eY;split
     ·exact this
     ·exact this
    rcases jI.out.1 with⟨he,-,-⟩ | ⟨he,-,p',rC,lf,hX2,-⟩
    ·rw[<-HX.out.2] at he;have HE:Hid (TurnPost2 PS w G b (.pointer (some pa)) d (By Q X st K xx Tt) (.returned (.bool true)) wc):=⟨rfl,_,bE,K,jI.out.2.from,vx.out,rfl,rG.out.1,ax ⟨he,rfl⟩⟩;have gy:(cJ X.T xx Tt==0)=false:=by simp[he]
     generalize cJ X.T xx Tt=ce at gy;clear he jI;go_wp2_with fail;refine(bQ _ ce).mono ?_;rintro e w5 ⟨rfl,rfl⟩;go_wp2;go_ret;exact HE.out
    ·rw[<-HX.out.2] at he;rw[MW.out] at rC;injection rC with rC
     subst rC;have Bw:=aw hX2;obtain⟨fJ,qW⟩:=cY MW.out;have oV:=aw jI.out.2
     have htz:Tt.size<=1:=by
      rcases lf with h | h
      ·omega
      ·unfold aQ at h;rw[Bool.and_eq_true,bO] at h;omega
     have hnz:p.nm.size<=1:=by
      rcases HX.out.1.re.rm.nm p fJ with h | h
      ·omega
      ·have h:=h.1;unfold aQ at h;rw[Bool.and_eq_true,bO] at h;omega
     have fC:Hid (∀w5 K',PQ2 PS (w.alloc (aR kd af xx yy zz S Tt on)) G w5 b (eY X xx Tt) bE (eY X xx Tt) (.pointer (some pa)) d K'->s9 (eY X xx Tt).T K'->SpoK X.T xx K K' (AJ Rr p.nm Tt)->TurnPost2 PS w G b (.pointer (some pa)) d (By Q X st K xx Tt) (.returned (.bool true)) w5):=λw5 K' h1 h2 h3=>⟨rfl,_,bE,K',h1.from,h2,rfl,rG.out.1,az ⟨he,lf,Rr,p.nm,HX.out.1.rel,by rw[show xx.toNat=p.num from by omega];exact HX.out.1.re.rm.nm p fJ,h3⟩⟩;have FL:Hid ((eY X xx Tt).T=X.T):=by unfold Hid eY;rw[aE he]
     have MF:Hid (AJ Rr p.nm Tt=((!(p.nm.toList==Tt.toList))&&((decide (p.nm.size≠0)&&fY Rr (⟨#[35]⟩++p.nm))||(decide (Tt.size≠0)&&fY Rr (⟨#[35]⟩++Tt))))):=rfl;rw[he];clear he hX2 jI lf qW fJ;have JY:Hid (∀k eP,Calls prog 78 #[.pointer hp,.string eP] (wc.drewN k) λe w'=>e=.returned (.bool (fY Rr eP))/\w'=wc.drewN k):=λk eP=>ra _ hp Rr _ ((Bw.out.drewN k).sh.here) Bw.out.ruok Bw.out.few;have VB:Hid (∀eP,Calls prog 78 #[.pointer hp,.string eP] wc λe w'=>e=.returned (.bool (fY Rr eP))/\w'=wc):=λeP=>ra _ hp Rr _ Bw.out.sh.here Bw.out.ruok Bw.out.few;have c1':wc.cell? ⟨b,1,none⟩=some (.pointer (some ⟨d,0,none⟩)):=(HC.out _ _ _ _ oV.out).2.1;have c2':wc.cell? ⟨d,0,none⟩=some (.pointer hp):=au Bw.out.rd.doc rfl;have c3':wc.cell? ⟨w.heap.size,6,none⟩=some (.string Tt):=(HC.out _ _ _ _ oV.out).2.2.2.1;clear rG;cases FX:(p.nm.toList==Tt.toList) with
     | true=>
      have HE:Hid (TurnPost2 PS w G b (.pointer (some pa)) d (By Q X st K xx Tt) (.returned (.bool true)) wc):=fC.out wc K oV.out vx.out (ax ⟨by rw[MF.out,FX];rfl,rfl⟩);clear JY VB;go_wp2_with fail;refine(bQ _ 0).mono ?_;rintro e w5 ⟨rfl,rfl⟩;go_wp2;go_ret;exact HE.out
     | false=>
      rw[FX] at MF;have HSM:=aw FX;obtain⟨o1,UP⟩:∃o1,(decide (p.nm.size≠0)&&fY Rr (⟨#[35]⟩++p.nm))=o1:=⟨_,rfl⟩;obtain⟨o2,zh⟩:∃o2,(decide (Tt.size≠0)&&fY Rr (⟨#[35]⟩++Tt))=o2:=⟨_,rfl⟩;rw[UP,zh] at MF;have Xo:=aw UP;have Rc:=aw zh;have Ye:Hid (Calls prog 78 #[.pointer hp,.string (⟨#[35]⟩++p.nm)] wc λe w'=>e=.returned (.bool (fY Rr (⟨#[35]⟩++p.nm)))/\w'=wc):=VB.out _;clear UP zh VB;go_upto_region 8 with fail
      go_cut [9] (λov wx=>ov=.bool o1/\wx=wc)
      case first=>
       by_cases hz:p.nm.size=0
       ·have US:=eS hz;have gz:p.nm.toList.isEmpty=true:=by rw[US];unfold ByteArray.toList;unfold ByteArray.toList.loop;rw[aA (by decide)];rfl
        have RF:Hid (o1=false):=by unfold Hid;rw[<-Xo.out,decide_eq_false (by omega)];rfl
        clear US;go_wp2_with fail;go_meet;exact⟨by rw[RF.out],rfl⟩
       ·have gz:=hE p.nm (by omega);have RF:Hid (fY Rr (⟨#[35]⟩++p.nm)=o1):=by unfold Hid;rw[<-Xo.out,decide_eq_true hz];rfl
        go_wp2_with fail;refine Ye.out.mono ?_;rintro e w5 ⟨rfl,rfl⟩;rw[RF.out];go_wp2_with fail;go_meet;exact⟨rfl,rfl⟩
      case rest=>
       obtain⟨rfl,rfl⟩:=hcut;go_upto_region 9 with fail
       go_cut [10] (λov wx=>ov=.bool o2/\∃m,wx=wc.drewN m)
       case first=>
        by_cases hz:Tt.size=0
        ·have US:=eS hz;have gz:Tt.toList.isEmpty=true:=by rw[US];unfold ByteArray.toList;unfold ByteArray.toList.loop;rw[aA (by decide)];rfl
         have RF:Hid (o2=false):=by unfold Hid;rw[<-Rc.out,decide_eq_false (by omega)];rfl
         clear US;go_quiet ((go_at_call 78;exact Calls.quiet_of_same (JY.out _ _)));go_wp2_with fail;go_meet;exact⟨by rw[RF.out],_,rfl⟩
        ·have gz:=hE Tt (by omega);have RF:Hid (fY Rr (⟨#[35]⟩++Tt)=o2):=by unfold Hid;rw[<-Rc.out,decide_eq_true hz];rfl
         go_quiet ((go_at_call 78;exact Calls.quiet_of_same (JY.out _ _)));rw[RF.out];go_wp2_with fail;go_meet;exact⟨rfl,_,rfl⟩
       case rest=>
        obtain⟨rfl,m,rfl⟩:=hcut;have RJ:=aw (oV.out.drewN HP.out m);have c6':(wc.drewN m).cell? ⟨w.heap.size,2,none⟩=some (.int .i64 xx):=(HC.out _ _ _ _ oV.out).2.2.1;clear c1' c2' c3' JY Ye oV;generalize wc.drewN m=wq at RJ c6' ⊢;cases o1 with
        | true=>
         have MF:Hid (AJ Rr p.nm Tt=true):=by unfold Hid;rw[MF.out];rfl
         go_wp2_with fail;refine(iF HP.out RJ.out vx.out.2 xx).mono ?_;rintro e W7 ⟨rfl,Xd,Aq⟩;have HE:Hid (TurnPost2 PS w G b (.pointer (some pa)) d (By Q X st K xx Tt) (.returned (.bool true)) W7):=fC.out W7 _ Aq ⟨vx.out.1,vx.out.2.spoil xx⟩ (az ⟨MF.out,rfl,by rw[<-FL.out],rfl,rfl,rfl⟩);clear Aq;go_wp2_with fail;refine(bQ _ 0).mono ?_;rintro e w5 ⟨rfl,rfl⟩;go_wp2;go_ret;exact HE.out
        | false=>
         cases o2 with
         | true=>
          have MF:Hid (AJ Rr p.nm Tt=true):=by unfold Hid;rw[MF.out];rfl
          go_wp2_with fail;refine(iF HP.out RJ.out vx.out.2 xx).mono ?_;rintro e W7 ⟨rfl,Xd,Aq⟩;have HE:Hid (TurnPost2 PS w G b (.pointer (some pa)) d (By Q X st K xx Tt) (.returned (.bool true)) W7):=fC.out W7 _ Aq ⟨vx.out.1,vx.out.2.spoil xx⟩ (az ⟨MF.out,rfl,by rw[<-FL.out],rfl,rfl,rfl⟩);clear Aq;go_wp2_with fail;refine(bQ _ 0).mono ?_;rintro e w5 ⟨rfl,rfl⟩;go_wp2;go_ret;exact HE.out
         | false=>
          have HE:Hid (TurnPost2 PS w G b (.pointer (some pa)) d (By Q X st K xx Tt) (.returned (.bool true)) wq):=fC.out wq K RJ.out vx.out (ax ⟨by rw[MF.out];rfl,rfl⟩);go_wp2_with fail;refine(bQ _ 0).mono ?_;rintro e w5 ⟨rfl,rfl⟩;go_wp2;go_ret;exact HE.out
theorem Fr.drew1 {w w':World}{S:Nat->Prop}(h:Fr w w' S):Fr w w'.drew S:=⟨h.os,h.tape,h.output,h.size,h.block⟩
section
variable {DS:World->Value->aU->Nat->(Nat->Mk)->List dx->(Nat->Prop)->Prop}
end
theorem nQ {P:Program}{Cj:Array Oper}{o:Oper}{a:Act}{w:World}{K:Act->World->Prop}{Q:Exit->Act->World->Prop}{E:Prop}
  (hg:o.guard=none) (s x:Operand) (t:TypeId) (hop:o.op=Op.call {callee:=Callee.builtin Builtin.append,args:=#[s,x],argTypes:=#[t,t]})
  (aB:Nat) (e:TypeId) (i:TypeInfo) (z:Value) (size bytes:Nat) (h1:P.underlying t=some (.slice e)) (h2:P.info? e=some i) (h3:i.zero=some z) (h4:i.size=size) (h5:i.bytes=bytes) (h6:z.cells.size=size) (h7:0<size)
  (v:Value) (n:Nat) (xs:List Value) (hs:a.eval s=v) (bS:w.ownsRow aB e size v n xs)
  (ad:Addr) (m c:Nat) (kb:List Value) (hx:a.eval x=.slice (some ad) m c) (hn:kb.length=m*size) (hc:∀j u,kb[j]?=some u->w.cell? (ad.add j)=some u) (h1c:∀u∈kb,u.oneCell'=true)
  (b1:n+m<=maxLen) (b2:(n+m)*bytes<=140737488355328) (hb:aB<=w.heap.size)
  (hK:∀v' w',w'.ownsRow aB e size v' (n+m) (xs++kb)->w.grownBy w' v.ownBlock->Hid (∀j,v'.ownBlock=some j->v.ownBlock=some j∨w.heap.size<=j)->K (a.put o.dst v') w') :
  if Region.wanted o (yielded Cj a.tmps)=true then Oper.wp P o a w K Q else E:=by
 have hw:Region.wanted o (yielded Cj a.tmps)=true:=by simp[Region.wanted,hg]
 rw[aE hw];obtain⟨v',w',G1,r1,r2,r3⟩:=kP (P:=P) w aB t o.type e i z size bytes h1 h2 h3 h4 h5 h6 h7 v n xs bS ad m c kb hn hc h1c b1 b2 hb;unfold Oper.wp;simp only[execOp,hop,resolve,invoke,builtin,Sem.run_bind,Sem.run_pure,Result.andThen_ok,List.map_toArray,List.map_cons,List.map_nil,hs,hx,G1];exact hK v' w' r1 r2 r3
section
variable {w w':World}{g:Nat}{px vl:Value}{ae b:Nat}
end
section
variable {ae:Nat}
section
variable {PS:World->Value->YS->List Nat->(Nat->Prop)->Prop}{Q:fu->YS->List Nat->YS->List Nat->Prop}{w0:World}{G:Nat->Prop}{w:World}{b:Nat}{X Y:YS}{st:List Nat}{px:Value}{d:Nat}{K:gK}
theorem PQ2.apart (h:PQ2 PS w0 G w b X st Y px d K):∃Fy,RY w d Y Fy/\¬Fy b:=by
 obtain⟨Fp,Fx,Fy,h1,_⟩:=h;exact⟨Fy,h1.rs,h1.py b h1.inb⟩
structure AI (w:World)(b:Nat)(px:Value)(d:Nat)(els:List REl)(made:Nat)(hp:Option Addr)(vT:Value)(br:Bool)(vL:Value)(K:gK)(i:Nat)(wr:World)(v:Value):Prop where
 pb:PB wr b px d K.vm v K.cnt K.vs K.held
 own:wr.ownsRow w.heap.size 3 1 v i (bq ((els.map REl.num).take i))
 fr:Fr w wr (λk=>k=b)
 rd:RD wr d els made hp vT br vL
theorem AI.put {aa:List REl}{hp:Option Addr}{vT:Value}{br:Bool}{vL:Value}{i:Nat}{wr:World}{v:Value}(h:AI w b px d aa ae hp vT br vL K i wr v)(hi:i<aa.length)(hbf:¬jX d aa vL b)(uB:∀k,jX d aa vL k->k<w.heap.size){A:Obj}{w8:World}{v8:Value}(bS:w8.ownsRow w.heap.size 3 1 v8 (i+1) (bq ((aa.map REl.num).take i)++[.int .i64 aa[i].num]))(hg:((wr.alloc A).drew).grownBy w8 v.ownBlock):
  AI w b px d aa ae hp vT br vL K (i+1) (w8.setCell ⟨b,3,none⟩ v8) v8/\w8.cell? ⟨b,3,none⟩=some v/\w8.frozen? ⟨b,3,none⟩=false/\b<w8.heap.size:=by
 have jM:=(bG.1 h.pb.blk).1;have fG:v.ownBlock≠some b:=aN h.own h.pb.blk (by decide);have FO:w8.heap[b]?=_:=(hg.block b (by simp[World.drew];omega) (λe=>fG e.symm)).trans ((Below.heap_alloc wr A b jM).trans h.pb.blk);have KT:v8.ownBlock≠some b:=aN bS FO (by decide);have fF:Fr w w8 (λk=>k=b):=((h.fr.alloc A).drew1).gb hg (λk hk=>az (h.own.lt k hk).1);have tN:Fr wr w8 (λk=>v.ownBlock=some k):=(((Fr.refl wr (λk=>v.ownBlock=some k)).alloc A).drew1).gb hg (λk hk=>ax hk);refine⟨⟨?_,?_,fF.set (p:=⟨b,3,none⟩) (ax rfl) _,?_⟩,au FO rfl,aH FO,(bG.1 FO).1⟩
 ·show(World.setCell _ _ _).heap[b]?=_;rw[aP FO];rfl
 ·have e1:bq ((aa.map REl.num).take (i+1))=bq ((aa.map REl.num).take i)++[.int .i64 aa[i].num]:=by
   rw[gj (by simpa using hi)];simp[bq]
  rw[e1];exact bw bS KT _
 ·refine h.rd.keep (λk hk hl=>?_);have IU:k≠b:=λe=>hbf (e▸hk);rw[Below.heap_setCell _ _ _ _ (by show k≠b;exact IU)];refine tN.block k hl (λe=>?_);have ajd:=(h.own.lt k e).1;have UU:=uB k hk;omega
theorem LT.all {T:aU}(hw:TW T ae):LT T (T.map Prod.fst):=⟨hw.nums,λk hk=>by
 obtain⟨x,hx,rfl⟩:=bx.1 hk;exact⟨x.2,hx⟩⟩
def Ik (PS:World->Value->YS->List Nat->(Nat->Prop)->Prop)(w0:World)(G:Nat->Prop)(b:Nat)(X:YS)(st:List Nat)(Y:YS)(px:Value)(d:Nat)(K:gK)(e:Ending)(w':World):Prop:=
 e=.returned (.tuple #[])/\∃vy',PQ2 PS w0 G w' b X st Y px d {K with vy:=vy',ly:=Y.T.map Prod.fst,cnt:=-1,held:=false}
theorem Qv (hP:cP PS Q)(h:PQ2 PS w0 G w b X st Y px d K):
  Calls prog 43 #[.pointer (some ⟨b,0,none⟩)] w λe w'=>Ik PS w0 G b X st Y px d K e w':=by
 obtain⟨i0,hi,gP,gQ,gR⟩:=info_parts Tryz.info3;obtain⟨Fy,⟨aa,hp,vT,br,vL,Rr,Gs,hX,hA,hF,_⟩,WA⟩:=h.apart;obtain⟨aL,cL,vq⟩:=hX.rd.shape;subst vq;have bJ:=hX.rd.few;have HQ:=aw h;have HP:=aw hP;have HN:Hid (¬jX d aa (.slice aL aa.length cL) b/\(∀k,jX d aa (.slice aL aa.length cL) k->k<w.heap.size)/\Y.T=aW aa/\TW Y.T Y.made):=⟨λe=>WA (hF b e),GC hX.rd,hA,h.tw⟩;have b3:w.cell? ⟨b,3,none⟩=some K.vy:=au h.pb.blk rfl;have b3f:w.frozen? ⟨b,3,none⟩=false:=aH h.pb.blk;have jM:=(bG.1 h.pb.blk).1
 have H0:Hid (AI w b px d aa Y.made hp vT br (.slice aL aa.length cL) K 0 (w.setCell ⟨b,3,none⟩ (.slice none 0 0)) (.slice none 0 0)):=by
  refine⟨?_,eB,(Fr.refl w (λk=>k=b)).set (p:=⟨b,3,none⟩) (ax rfl) _,hX.rd.keep (λk hk _=>?_)⟩
  ·show(World.setCell _ _ _).heap[b]?=_;rw[aP h.pb.blk];rfl
  ·exact Below.heap_setCell _ _ _ _ (by show k≠b;exact λe=>HN.out.1 (e▸hk))
 have fC:Hid (∀wr v,AI w b px d aa Y.made hp vT br (.slice aL aa.length cL) K aa.length wr v->Ik PS w0 G b X st Y px d K (.returned (.tuple #[])) ((wr.setCell ⟨b,4,none⟩ (.int .i64 (-1))).setCell ⟨b,6,none⟩ (.bool false))):=λwr v ha=>by
  have hq:=HQ.out;have fF:Fr w ((wr.setCell ⟨b,4,none⟩ (.int .i64 (-1))).setCell ⟨b,6,none⟩ (.bool false)) (λk=>k=b):=(ha.fr.set (p:=⟨b,4,none⟩) (ax rfl) _).set (p:=⟨b,6,none⟩) (ax rfl) _
  have MI:(wr.setCell ⟨b,4,none⟩ (.int .i64 (-1))).heap[b]?=some (.cells #[px,.pointer (some ⟨d,0,none⟩),K.vm,v,.int .i64 (-1),K.vs,.bool K.held] 56 (0,0)):=by
   rw[aP ha.pb.blk];rfl
  have keep:∀{u:Value} {l:List Nat},w.ownsRow 0 3 1 u l.length (bq l)->((wr.setCell ⟨b,4,none⟩ (.int .i64 (-1))).setCell ⟨b,6,none⟩ (.bool false)).ownsRow 0 3 1 u l.length (bq l):=λho=>cZ ho (λj hj hl=>fF.block j hl (λe=>aN ho hq.pb.blk (by decide) (e▸hj)));have G0:aa.map REl.num=Y.T.map Prod.fst:=by rw[HN.out.2.2.1,mU]
  have bS:((wr.setCell ⟨b,4,none⟩ (.int .i64 (-1))).setCell ⟨b,6,none⟩ (.bool false)).ownsRow 0 3 1 v (Y.T.map Prod.fst).length (bq (Y.T.map Prod.fst)):=by
   have h1:=ha.own;rw[List.take_of_length_le (by simp),G0] at h1;have hz:aa.length=(Y.T.map Prod.fst).length:=by rw[<-G0,List.length_map]
   rw[hz] at h1;have h2:=bw h1 (p:=⟨b,4,none⟩) (aN h1 ha.pb.blk (by decide)) (.int .i64 (-1));exact ba (bw h2 (p:=⟨b,6,none⟩) (aN h2 MI (by decide)) _) bm
  refine⟨rfl,v,hq.pair HP.out fF ?_ (keep hq.must) bS (keep hq.seen) (λ_ hj=>ax (ax hj)) (λj hj=>az (ha.own.lt j hj).1) (λ_ hj=>ax (az (az hj)))⟩;show(World.setCell _ _ _).heap[b]?=_;rw[aP MI];rfl
 clear h hX hA hF WA hP HQ;go_enter func43,ntmps43;go_upto_region 1 with fail;generalize w.setCell ⟨b,3,none⟩ (.slice none 0 0)=W1 at H0 ⊢;clear b3 b3f;go_wp2_with fail
 go_loopg [2] aa.length (λgk iv wr=>∃(i:Nat) (v:Value),iv=.int .i64 i/\i<=aa.length/\aa.length - i<=gk/\Hid (AI w b px d aa Y.made hp vT br (.slice aL aa.length cL) K i wr v))
 case atStart=>exact⟨0,_,rfl,bm,by omega,H0⟩
 case round=>
  obtain⟨i,v,rfl,jQ,fT,HS⟩:=hrel;have bT:((aa.map REl.num).take i).length=i:=by rw[List.length_take,List.length_map];omega
  have b1:wr.cell? ⟨b,1,none⟩=some (.pointer (some ⟨d,0,none⟩)):=au HS.out.pb.blk rfl;have d1:=HS.out.rd.c1
  by_cases bc:i<aa.length
  ·have hd:decide ((i:Int)<(aa.length:Int))=true:=by simp;omega
   obtain⟨g,hg,q1⟩:=HS.out.rd.at' bc;subst hg;obtain⟨q2,_⟩:=eZ (HS.out.rd.el aa[i] (bN bc));obtain⟨av,cv,hv⟩:=aK HS.out.own;subst hv;have b3:wr.cell? ⟨b,3,none⟩=some (.slice av i cv):=au HS.out.pb.blk rfl;have b3f:wr.frozen? ⟨b,3,none⟩=false:=aH HS.out.pb.blk;have hwz:=HS.out.fr.size;have VH:Hid (∀(A:Obj) (w8:World) (v8:Value),w8.ownsRow w.heap.size 3 1 v8 (i+1) (bq ((aa.map REl.num).take i)++[.int .i64 aa[i].num])->((wr.alloc A).drew).grownBy w8 (Value.slice av i cv).ownBlock->AI w b px d aa Y.made hp vT br (.slice (some ⟨g,0,none⟩) aa.length cL) K (i+1) (w8.setCell ⟨b,3,none⟩ v8) v8/\w8.cell? ⟨b,3,none⟩=some (.slice av i cv)/\w8.frozen? ⟨b,3,none⟩=false/\b<w8.heap.size):=λA w8 v8 h1 h2=>HS.out.put bc HN.out.1 HN.out.2.1 h1 h2;have Yi:=aw HS.out.own;clear HS;generalize bq ((aa.map REl.num).take i)=xs at VH Yi;generalize aa[i].num=k at q2 VH;have Wo:b<wr.heap.size:=by omega
   have b3a:(wr.alloc (.cells #[.int .i64 (k:Int)] 3)).cell? ⟨b,3,none⟩=some (.slice av i cv):=((((Below.refl wr.heap.size wr).alloc aF _).cell (p:=⟨b,3,none⟩) Wo)).trans b3;go_upto_region 4 with fail
   go_region_law (refine nQ rfl (.tmp 22) (.tmp 36) 28 rfl w.heap.size 3 i0 (.int .i64 0) 1 8 underlying28 hi gP gQ gR rfl (by decide) (.slice av i cv) i xs (by simp[Act.eval]) ((Yi.out.alloc _).drew) ⟨wr.heap.size,0,none⟩ 1 1 [.int .i64 k] (by simp[Act.eval]) rfl (bg wr _ rfl _ _ _ rfl) (by simp[Value.oneCell']) (by unfold maxLen;omega) (by omega) (by simp[World.drew];omega) ?_;intro v8 w8 xA hg8 FO;obtain⟨a8,c8,hv8⟩:=aK xA;have JZ:=VH.out _ w8 v8 xA hg8;have y1:=JZ.2.1;have y1f:=JZ.2.2.1;have y1l:=JZ.2.2.2)
   all_goals
    have HAI:Hid (AI w b px d aa Y.made hp vT br (.slice (some ⟨g,0,none⟩) aa.length cL) K (i+1) (w8.setCell ⟨b,3,none⟩ (.slice a8 (i+1) c8)) (.slice a8 (i+1) c8)):=by
     have h9:=JZ.1;rw[hv8] at h9;exact h9
    clear JZ xA hg8 FO hv8;go_wp2;go_roundg (aa.length - (i+1))
    case measure=>omega
    case rel=>exact⟨i+1,_,by go_num,by omega,aF,HAI⟩
  ·have hd:decide ((i:Int)<(aa.length:Int))=false:=by simp;omega
   obtain rfl:i=aa.length:=by omega
   have HE:=aw (fC.out wr v HS.out);have b4:wr.cell? ⟨b,4,none⟩=some (.int .i64 K.cnt):=au HS.out.pb.blk rfl;have b6:wr.cell? ⟨b,6,none⟩=some (.bool K.held):=au HS.out.pb.blk rfl;have bf:∀k,wr.frozen? ⟨b,k,none⟩=false:=λk=>aH HS.out.pb.blk;have Wo:=(bG.1 HS.out.pb.blk).1;clear HS;go_wp2;go_end0;exact HE.out
end
end
section
variable {G:Nat->Prop}{I:YS->List Nat->gK->Prop}{PS:World->Value->YS->List Nat->(Nat->Prop)->Prop}{Q:fu->YS->List Nat->YS->List Nat->Prop}{b d ae:Nat}{pa:Addr}{w w':World}
def Sb (Q:fu->YS->List Nat->YS->List Nat->Prop)(X:YS)(st:List Nat)(K:gK)(s:ByteArray)(X':YS)(cN:List Nat)(K':gK):Prop:=
 X'=ik X s/\Q (.sht s) X st X' cN/\(((eH s).1≠0/\K'=K)∨((eH s).1=0/\K'.lm=K.lm/\K'.ly=X.T.map Prod.fst/\K'.ls=K.ls/\K'.cnt=-1/\K'.held=false))
def mY (so su:Bool)(c:Int):Int:=if(su&&decide (0<(if(so&&!su)=true then(-1:Int) else c)))=true then(if(so&&!su)=true then(-1:Int) else c) - 1 else if(so&&!su)=true then -1 else c
def ua (T:aU)(e:Int)(s:List Nat × List Nat × Int):Nat->List Nat × List Nat × Int
 | 0=>s
 | j+1=>(aG (io T j e) (ua T e s j).1,aG (io T j e) (ua T e s j).2.1,mY (fQ (ua T e s j).2.1 (io T j e)) (fQ (ua T e s j).1 (io T j e)) (ua T e s j).2.2)
def R9 (Q:fu->YS->List Nat->YS->List Nat->Prop)(X:YS)(st:List Nat)(K:gK)(n:Int)(s:ByteArray)(X':YS)(cN:List Nat)(K':gK):Prop:=
 X'=X/\Q (.qry n s) X st X' cN/\((bD X.T n s≠0/\K'=K)∨(bD X.T n s=0/\K'.ls=K.ls/\K'.held=false/\∃j,io X.T j n<0/\(∀i,i<j->0<=io X.T i n)/\(K'.lm,K'.ly,K'.cnt)=ua X.T n (K.lm,K.ly,K.cnt) j))
structure oH (Q:fu->YS->List Nat->YS->List Nat->Prop)(I:YS->List Nat->gK->Prop):Prop where
 ins:∀{X st K par at' kind X' cN K'},I X st K->s9 X.T K->R7 Q X st K par at' kind X' cN K'->I X' cN K'
 rem:∀{X st K n X' cN K'},I X st K->s9 X.T K->Sa Q X st K n X' cN K'->I X' cN K'
 mov:∀{X st K n m at' X' cN K'},I X st K->s9 X.T K->R8 Q X st K n m at' X' cN K'->I X' cN K'
 cls:∀{X st K n s on X' cN K'},I X st K->s9 X.T K->Dd Q X st K n s on X' cN K'->I X' cN K'
 nam:∀{X st K n s X' cN K'},I X st K->s9 X.T K->By Q X st K n s X' cN K'->I X' cN K'
 sht:∀{X st K s X' cN K'},I X st K->s9 X.T K->Sb Q X st K s X' cN K'->I X' cN K'
 qry:∀{X st K n s X' cN K'},I X st K->s9 X.T K->R9 Q X st K n s X' cN K'->I X' cN K'
 cnt:∀{X st K},I X st K->-1<=K.cnt/\K.cnt<=24
def PD2 (PS:World->Value->YS->List Nat->(Nat->Prop)->Prop)(I:YS->List Nat->gK->Prop)(w:World)(b ae:Nat)(G:Nat->Prop):Prop:=
 ∃X st pa d K Fp Fx Fy,PJ2 PS w b X st X (.pointer (some pa)) d K Fp Fx Fy/\(∀k,Fp k∨Fx k∨Fy k->G k)/\(∀k,G k->k<w.heap.size)/\X.made=ae/\s9 X.T K/\I X st K
section
variable {PS:World->Value->YS->List Nat->(Nat->Prop)->Prop}{Q:fu->YS->List Nat->YS->List Nat->Prop}{I:YS->List Nat->gK->Prop}{w:World}{b ae:Nat}{G:Nat->Prop}
theorem PD2.keep (hP:cP PS Q)(h:PD2 PS I w b ae G){w1:World}(il:w.heap.size<=w1.heap.size)(hk:∀k,G k->w1.heap[k]?=w.heap[k]?):PD2 PS I w1 b ae G:=by
 obtain⟨X,st,pa,d,K,Fp,Fx,Fy,h1,h2,h3,h4⟩:=h;exact⟨X,st,pa,d,K,Fp,Fx,Fy,h1.keep hP il (λk hx=>hk k (h2 k hx)),h2,λk hx=>Nat.lt_of_lt_of_le (h3 k hx) il,h4⟩
theorem PD2.lt (h:PD2 PS I w b ae G):∀k,G k->k<w.heap.size:=by
 obtain⟨X,st,pa,d,K,Fp,Fx,Fy,h1,h2,h3,h4⟩:=h;exact h3
end
def ir (PS:World->Value->YS->List Nat->(Nat->Prop)->Prop)(I:YS->List Nat->gK->Prop)(w:World)(b ae:Nat)(G:Nat->Prop)(e:Ending)(w':World):Prop:=
 e=.returned (.bool true)/\∃made',made'<=ae+1/\PD2 PS I w' b made' (nZ G w w')/\Fr w w' G
theorem PQ2.doc {X:YS}{st:List Nat}{K:gK}(hq:PQ2 PS w G w' b X st X (.pointer (some pa)) d K)(hm:X.made<=ae+1)(hl:s9 X.T K)(hi:I X st K):ir PS I w b ae G (.returned (.bool true)) w':=by
 obtain⟨Fp,Fx,Fy,hj,hg,hf⟩:=hq;exact⟨rfl,X.made,hm,⟨X,st,pa,d,K,Fp,Fx,Fy,hj,λk hk=>⟨hg k hk,hj.here k hk⟩,λk hk=>hk.2,rfl,hl,hi⟩,hf⟩
theorem TurnPost2.doc {o:Obj}{R:YS->List Nat->gK->Prop}{e:Ending}(h:TurnPost2 PS (w.alloc o) G b (.pointer (some pa)) d R e w')(hr:∀X st K,R X st K->X.made<=ae+1/\I X st K):ir PS I w b ae G e w':=by
 obtain⟨rfl,X',cN,K',hq,hl,hR⟩:=h;obtain⟨h1,h2⟩:=hr _ _ _ hR;exact hq.from.doc h1 hl h2
theorem Ms (X:YS)(n:Int)(s:ByteArray)(on:Bool):(eX X n s on).made=X.made:=by unfold eX;split<;>rfl
theorem Mt (X:YS)(n:Int)(s:ByteArray):(eY X n s).made=X.made:=by unfold eY;split<;>rfl
theorem ul (X:YS)(s:ByteArray):(ik X s).made=X.made/\(ik X s).T=X.T:=by unfold ik;split<;>exact⟨rfl,rfl⟩
theorem Cv (hP:cP PS Q)(w:World)(b:Nat)(X:YS)(st:List Nat)(pa:Addr)(d:Nat)(K:gK)(G Fp Fx Fy:Nat->Prop)
  (h:PJ2 PS w b X st X (.pointer (some pa)) d K Fp Fx Fy) (hG:∀k,Fp k∨Fx k∨Fy k->G k) (Ag:∀k,G k->k<w.heap.size) (lH:s9 X.T K) (af xx yy zz:Int) (S Tt:ByteArray) (on:Bool) (hS:S.size<=maxLen) :
  Calls prog 17 #[.pointer (some ⟨b,0,none⟩),.agg #[.int .i64 10,.int .i64 af,.int .i64 xx,.int .i64 yy,.int .i64 zz,.string S,.string Tt,.bool on]] w λe w'=>TurnPost2 PS w G b (.pointer (some pa)) d (Sb Q X st K S) e w':=by
 have HP:=aw hP;have HW:=aw lH;have HG:=aw Ag;have H0:Hid (PQ2 PS (w.alloc (aR 10 af xx yy zz S Tt on)) G (w.alloc (aR 10 af xx yy zz S Tt on)) b X st X (.pointer (some pa)) d K):=PQ2.alloc hP h hG _;clear h hP lH hG Ag Fp Fx Fy;obtain⟨Fx,Fy,qD,KZ,xu,uB,CO,Am⟩:=H0.out.open HP.out;obtain⟨aa,hp,vT,br,vL,Rr,Gs,hX,hA,hF1,hF2,hF3⟩:=KZ;have HX:=bZ hX hA;have HF:Hid ((∀k,jX d aa vL k->Fy k)/\(∀k,Gs k->Fy k)/\(br=true->∀k,vT.ownBlock=some k->Fy k)/\(∀k,Fy k->¬Fx k)/\(∀k,Fy k->k<(w.alloc (aR 10 af xx yy zz S Tt on)).heap.size)):=⟨hF1,hF2,hF3,xu,uB⟩;have tm:Hid (PS (w.alloc (aR 10 af xx yy zz S Tt on)).drew (.pointer (some pa)) X st Fx):=HP.out.keep qD (λ_ _ _=>rfl) aF;have kU:=aw CO;have fj:=aw Am;clear hX hA hF1 hF2 hF3 qD xu uB CO Am
 have HC:Hid (∀(wx:World) X1 bE Y1,PQ2 PS (w.alloc (aR 10 af xx yy zz S Tt on)) G wx b X1 bE Y1 (.pointer (some pa)) d K->wx.cell? ⟨b,0,none⟩=some (.pointer (some pa))/\wx.cell? ⟨b,1,none⟩=some (.pointer (some ⟨d,0,none⟩))/\wx.cell? ⟨w.heap.size,5,none⟩=some (.string S)):=λwx X1 bE Y1 hq=>
  ⟨au hq.pb.blk rfl,au hq.pb.blk rfl,au (hq.op HG.out) rfl⟩
 have FG:Hid (∀wd w2 e bE,PS wd (.pointer (some pa)) (ik X S) bE (cV Fx (w.alloc (aR 10 af xx yy zz S Tt on)))->Fr (w.alloc (aR 10 af xx yy zz S Tt on)) wd Fx->RX wd d aa X.made hp vT br vL Rr Gs X.M X.shn X.rs->rJ wd d aa X.made vT vL X.M X.shn S e w2->e=.returned (.int .i64 (eH S).1)/\PQ2 PS (w.alloc (aR 10 af xx yy zz S Tt on)) G w2 b (ik X S) bE (ik X S) (.pointer (some pa)) d K):=λwd w2 e bE hs hf hx dn=>by
  have GR:Fr wd w2 Fy/\RY w2 d (ik X S) (cV Fy wd):=by
   rcases dn.2 with⟨he,hB⟩ | ⟨he,p2,Rr2,Ar,bM⟩
   ·refine⟨(Fr.refl _ _).below hB,?_⟩;have e1:ik X S=X:=by unfold ik;rw[aA he]
    rw[e1];show RSd w2 d X.T X.made X.M X.shn X.rs (cV Fy wd);rw[HX.out.2];have hx3:=hx.keep (w':=w2) (λk _ hl=>hB.block k hl) hB.size;exact hx3.rsd (λk hk=>ax (HF.out.1 k hk)) (λk hk=>ax (HF.out.2.1 k hk)) (λhh k hk=>ax (HF.out.2.2.1 hh k hk))
   ·refine⟨bM.mono HF.out.1,?_⟩;have e1:ik X S={X with rs:=eQ S}:=by unfold ik;rw[aE he]
    rw[e1];show RSd w2 d X.T X.made X.M X.shn (eQ S) (cV Fy wd);rw[HX.out.2];exact Ar.rsd (λk hk=>ax (HF.out.1 k hk)) (λk hk=>az hk.1) (λhh=>by cases hh)
  exact⟨dn.1,fj.out wd _ bE w2 _ hs hf GR.2 GR.1⟩
 have vx:Hid (s9 (ik X S).T K):=by unfold Hid;rw[(ul X S).2];exact HW.out
 have k0:(w.alloc (aR 10 af xx yy zz S Tt on)).cell? ⟨w.heap.size,0,none⟩=some (.int .i64 10):=au (H0.out.op HG.out) rfl;have kY:=aw (H0.out.drew HP.out);clear H0;go_enter func17,ntmps17;go_upto_region 11 with fail;clear k0
 go_cut [5] (λyv wx=>yv=.int .i64 (eH S).1/\Hid (∃bE,Q (.sht S) X st (ik X S) bE/\PS wx (.pointer (some pa)) (ik X S) bE (cV Fx (w.alloc (aR 10 af xx yy zz S Tt on)))/\Fr (w.alloc (aR 10 af xx yy zz S Tt on)) wx Fx))
 case first=>
  go_region_held3 (λw'=>w'.cell? ⟨b,0,none⟩=some (.pointer (some pa))/\w'.cell? ⟨b,1,none⟩=some (.pointer (some ⟨d,0,none⟩))/\w'.cell? ⟨w.heap.size,5,none⟩=some (.string S)) (first | exact HC.out _ _ _ _ kY.out | exact HC.out _ _ _ _ HT.out.2)
   (first | (go_at_call 41;refine(HP.out.sht _ (.pointer (some pa)) X st Fx S hS tm.out).mono ?_;rintro e w1 ⟨bE,rfl,hq,d9,fF⟩;have HT:Hid ((∃bE,Q (.sht S) X st (ik X S) bE/\PS w1 (.pointer (some pa)) (ik X S) bE (cV Fx (w.alloc (aR 10 af xx yy zz S Tt on)))/\Fr (w.alloc (aR 10 af xx yy zz S Tt on)) w1 Fx)/\PQ2 PS (w.alloc (aR 10 af xx yy zz S Tt on)) G w1 b (ik X S) bE X (.pointer (some pa)) d K):=⟨⟨bE,hq,d9,fF.un1⟩,kU.out w1 _ bE d9 fF.un1⟩))
  all_goals
   go_wp2_with fail;go_meet;exact⟨rfl,HT.out.1⟩
 case rest=>
  obtain⟨rfl,HT⟩:=hcut;obtain⟨bE,sd,d9,hfr1⟩:=HT.out;have rG:=kC sd d9 hfr1;have iL:=aw ((kU.out wc _ bE d9 hfr1).drew HP.out)
  have FN:Hid (RX wc.drew d aa X.made hp vT br vL Rr Gs X.M X.shn X.rs):=by
   refine HX.out.1.keep (λk hk hl=>hfr1.block k hl ?_) hfr1.size;rcases hk with hk | hk | ⟨hh,hk⟩
   ·exact HF.out.2.2.2.1 k (HF.out.1 k hk)
   ·exact HF.out.2.2.2.1 k (HF.out.2.1 k hk)
   ·exact HF.out.2.2.2.1 k (HF.out.2.2.1 hh k hk)
  clear sd d9 hfr1 HT kY;go_upto_region 12 with fail
  go_cut [6] (λyv wx=>yv=.int .i64 (eH S).1/\Hid (PQ2 PS (w.alloc (aR 10 af xx yy zz S Tt on)) G wx b (ik X S) bE (ik X S) (.pointer (some pa)) d K))
  case first=>
   go_region_held3 (λw'=>w'.cell? ⟨b,0,none⟩=some (.pointer (some pa))/\w'.cell? ⟨b,1,none⟩=some (.pointer (some ⟨d,0,none⟩))/\w'.cell? ⟨w.heap.size,5,none⟩=some (.string S)) (first | exact HC.out _ _ _ _ iL.out | exact HC.out _ _ _ _ jI.out)
    (first | (go_at_call 42;refine(Hp _ d aa X.made hp vT br vL Rr Gs X.M X.shn X.rs S hS FN.out).mono ?_;intro e w2 dn;obtain⟨rfl,KY⟩:=FG.out wc.drew w2 e bE (HP.out.keep rG.out.2.1 (λ_ _ _=>rfl) aF) rG.out.2.2.dr FN.out dn;clear dn;have jI:Hid (PQ2 PS (w.alloc (aR 10 af xx yy zz S Tt on)) G w2 b (ik X S) bE (ik X S) (.pointer (some pa)) d K):=KY))
   all_goals
    go_wp2_with fail;go_meet;exact⟨rfl,jI⟩
  case rest=>
   obtain⟨rfl,jI⟩:=hcut
   by_cases hc:(eH S).1=0
   ·have fC:Hid (∀w5 vy',PQ2 PS (w.alloc (aR 10 af xx yy zz S Tt on)) G w5 b (ik X S) bE (ik X S) (.pointer (some pa)) d {K with vy:=vy',ly:=(ik X S).T.map Prod.fst,cnt:=-1,held:=false}->TurnPost2 PS w G b (.pointer (some pa)) d (Sb Q X st K S) (.returned (.bool true)) w5):=λw5 vy' h1=>⟨rfl,_,bE,_,h1.from,⟨vx.out.1,LT.all h1.tw⟩,rfl,rG.out.1,az ⟨hc,rfl,by show(ik X S).T.map Prod.fst=_;rw[(ul X S).2],rfl,rfl,rfl⟩⟩;rw[hc];clear hc;go_wp2_with fail;refine(Qv HP.out jI.out).mono ?_;rintro e W7 ⟨rfl,Xd,Aq⟩;have HE:=fC.out W7 Xd Aq;have X0:=aw HE;clear HE Aq fC;go_wp2_with fail;refine(bQ _ 0).mono ?_;rintro e w5 ⟨rfl,rfl⟩;go_wp2;go_ret;exact X0.out
   ·have HE:Hid (TurnPost2 PS w G b (.pointer (some pa)) d (Sb Q X st K S) (.returned (.bool true)) wc):=⟨rfl,_,bE,K,jI.out.from,vx.out,rfl,rG.out.1,ax ⟨hc,rfl⟩⟩;have gy:((eH S).1==0)=false:=by simp[hc]
    generalize (eH S).1=ce at gy;clear hc;go_wp2_with fail;refine(bQ _ ce).mono ?_;rintro e w5 ⟨rfl,rfl⟩;go_wp2;go_ret;exact HE.out
theorem EN (hP:cP PS Q)(hI:oH Q I)(w:World)(b ae:Nat)(G:Nat->Prop)(h:PD2 PS I w b ae G)(nA:ae<=1099511627776)(kd af X Y Z:Int)(S Tt:ByteArray)(on:Bool)(hS:S.size<=maxLen)(hk:kd=4∨kd=5∨kd=6∨kd=8∨kd=9∨kd=10):
  Calls prog 17 #[.pointer (some ⟨b,0,none⟩),.agg #[.int .i64 kd,.int .i64 af,.int .i64 X,.int .i64 Y,.int .i64 Z,.string S,.string Tt,.bool on]] w λe w'=>ir PS I w b ae G e w':=by
 obtain⟨U,st,pa,d,K,Fp,Fx,Fy,h1,h2,h3,h4,h5,h6⟩:=h;subst h4;have HJ:Hid (PJ2 PS (w.alloc (aR kd af X Y Z S Tt on)) b U st U (.pointer (some pa)) d K Fp Fx Fy/\(∀k,G k->k<(w.alloc (aR kd af X Y Z S Tt on)).heap.size)):=⟨h1.keep hP (by simp) (λk hk=>Below.heap_alloc w _ k (h1.here k hk)),λk hk=>by have:=h3 k hk;simp;omega⟩;have HA:Hid ((∀k,Fp k∨Fx k∨Fy k->G k)/\s9 U.T K/\I U st K):=⟨h2,h5,h6⟩;have HP:=aw hP;have HI:=aw hI
 have FJ:Hid (kd=10->Calls prog 17 #[.pointer (some ⟨b,0,none⟩),.agg #[.int .i64 10,.int .i64 af,.int .i64 X,.int .i64 Y,.int .i64 Z,.string S,.string Tt,.bool on]] w λe w'=>ir PS I w b U.made G e w'):=λ_=>(Cv hP w b U st pa d K G Fp Fx Fy h1 h2 h3 h5 af X Y Z S Tt on hS).mono λe w' hp=>by
  obtain⟨rfl,X',cN,K',hq,hl,hR⟩:=hp;exact hq.doc (by rw[hR.1,(ul U S).1];exact Nat.le_succ _) hl (hI.sht h6 h5 hR)
 clear h1 h2 h3 h5 h6 hP hI;rcases hk with rfl | rfl | rfl | rfl | rfl | rfl
 ·go_enter func17,ntmps17;go_wp2_with fail;refine(zA HP.out _ b U st pa d K G Fp Fx Fy HJ.out.1 HA.out.1 HJ.out.2 HA.out.2.1 nA 4 af X Y Z S Tt on).mono ?_;intro e w1 hp;have HD:Hid (ir PS I w b U.made G e w1):=TurnPost2.doc hp (λX' cN K' hR=>⟨by obtain⟨y,n,h1,_⟩:=hR;exact(h1.1.tw HJ.out.1.rs.tw).2,HI.out.ins HA.out.2.2 HA.out.2.1 hR⟩);obtain⟨rfl,_⟩:=hp;go_wp2;go_ret;exact HD.out
 ·go_enter func17,ntmps17;go_wp2_with fail;refine(Cu HP.out _ b U st pa d K G Fp Fx Fy HJ.out.1 HA.out.1 HJ.out.2 HA.out.2.1 af X Y Z S Tt on).mono ?_;intro e w1 hp;have HD:Hid (ir PS I w b U.made G e w1):=TurnPost2.doc hp (λX' cN K' hR=>⟨by obtain⟨y,h1,_⟩:=hR;rw[h1.2.1];exact Nat.le_succ _,HI.out.rem HA.out.2.2 HA.out.2.1 hR⟩);obtain⟨rfl,_⟩:=hp;go_wp2;go_ret;exact HD.out
 ·go_enter func17,ntmps17;go_wp2_with fail;refine(Hm HP.out _ b U st pa d K G Fp Fx Fy HJ.out.1 HA.out.1 HJ.out.2 HA.out.2.1 af X Y Z S Tt on).mono ?_;intro e w1 hp;have HD:Hid (ir PS I w b U.made G e w1):=TurnPost2.doc hp (λX' cN K' hR=>⟨by obtain⟨y,h1,_⟩:=hR;rw[h1.2.1];exact Nat.le_succ _,HI.out.mov HA.out.2.2 HA.out.2.1 hR⟩);obtain⟨rfl,_⟩:=hp;go_wp2;go_ret;exact HD.out
 ·go_enter func17,ntmps17;go_wp2_with fail;refine(Ct HP.out _ b U st pa d K G Fp Fx Fy HJ.out.1 HA.out.1 HJ.out.2 HA.out.2.1 8 af X Y Z S Tt on).mono ?_;intro e w1 hp;have HD:Hid (ir PS I w b U.made G e w1):=TurnPost2.doc hp (λX' cN K' hR=>⟨by rw[hR.1,Ms];exact Nat.le_succ _,HI.out.cls HA.out.2.2 HA.out.2.1 hR⟩);obtain⟨rfl,_⟩:=hp;go_wp2;go_ret;exact HD.out
 ·go_enter func17,ntmps17;go_wp2_with fail;refine(Hn HP.out _ b U st pa d K G Fp Fx Fy HJ.out.1 HA.out.1 HJ.out.2 HA.out.2.1 9 af X Y Z S Tt on).mono ?_;intro e w1 hp;have HD:Hid (ir PS I w b U.made G e w1):=TurnPost2.doc hp (λX' cN K' hR=>⟨by rw[hR.1,Mt];exact Nat.le_succ _,HI.out.nam HA.out.2.2 HA.out.2.1 hR⟩);obtain⟨rfl,_⟩:=hp;go_wp2;go_ret;exact HD.out
 ·exact FJ.out rfl
end
end Go.Proofs.YtblfffbmklkhmabGreat
