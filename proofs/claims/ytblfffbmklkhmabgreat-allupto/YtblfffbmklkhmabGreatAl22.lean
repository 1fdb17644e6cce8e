/- Own work. -/
import Derived.Test.YtblfffbmklkhmabGreatAl21
set_option maxRecDepth 100000
set_option maxHeartbeats 40000000
namespace Go.Proofs.YtblfffbmklkhmabGreat
open Go.RowKit Go.Proofs.Tryz
theorem Qw {PS:World->Value->YS->List Nat->(Nat->Prop)->Prop}{Q:fu->YS->List Nat->YS->List Nat->Prop}{I:YS->List Nat->gK->Prop}(hP:cP PS Q)(hI:oH Q I)(w:World)(b ae:Nat)(G:Nat->Prop)(h:PD2 PS I w b ae G)(n:Int)(s:ByteArray):
  Calls prog 16 #[.pointer (some ⟨b,0,none⟩),.int .i64 n,.string s] w λe w'=>ir PS I w b ae G e w':=by
 obtain⟨U,st,pa,d,K,Fp,Fx,Fy,h1,h2,h3,h4,h5,h6⟩:=h;subst h4;refine(sO hP w b U st pa d K G Fp Fx Fy h1 h2 h5 (hI.cnt h6) n s).mono λe w' hp=>?_;obtain⟨rfl,X',cN,K',hq,hl,hR⟩:=hp;exact hq.doc (by rw[hR.1];exact Nat.le_succ _) hl (hI.qry h6 h5 hR)
def qL (PS:World->Value->YS->List Nat->(Nat->Prop)->Prop)(I:YS->List Nat->gK->Prop)(aB:Nat)(w:World)(B nx np M:Nat)(e:Ending)(w':World):Prop:=
 e=.returned (.bool true)/\Below aB w w'/\∃yW sW sX FZ tf qt,GW2 PS I aB w' B yW sW sX FZ tf qt/\FZ<=nx+1/\tf.length<=np+1/\∀p∈tf,p.made<=M+1
section
variable {PS:World->Value->YS->List Nat->(Nat->Prop)->Prop}{Q:fu->YS->List Nat->YS->List Nat->Prop}{I:YS->List Nat->gK->Prop}
theorem GH (hP:cP PS Q)(hI0:∀X v1 v2 v3,X.T=[(0,[])]->I X [0] ⟨v1,v2,v3,1,false,[0],[0],[]⟩)(aB:Nat)(w:World)(B:Nat)(vD vI vM:Value)(nx:Nat)(ps:List j4)(es:List tg)(h:GW2 PS I aB w B vD vI vM nx ps es)(M:Nat)(hM:∀p∈ps,p.made<=M)(qD:ps.length<=1099511627776)(af X Y Z:Int)(S Tt:ByteArray)(on:Bool)(hS:S.size<=maxLen):
  Calls prog 5 #[.pointer (some ⟨B,0,none⟩),.agg #[.int .i64 3,.int .i64 af,.int .i64 X,.int .i64 Y,.int .i64 Z,.string S,.string Tt,.bool on]] w λe w'=>qL PS I aB w B nx ps.length M e w':=by
 have lz:Hid (GW2 PS I aB (w.alloc (aR 3 af X Y Z S Tt on)) B vD vI vM nx ps es):=h.keep hP (bo.alloc aF _);have HB:Hid (Below aB w (w.alloc (aR 3 af X Y Z S Tt on))):=bo.alloc h.baseW _;have HP:=aw hP;have HM:=aw hM;clear h hP hM;go_enter func5,ntmps5;go_wp2_with fail;refine(GE HP.out hI0 aB _ B vD vI vM nx ps es lz.out qD 3 af X Y Z S Tt on hS).mono ?_;rintro e w1 ⟨rfl,hb,yW,tf,hg,hO⟩
 have HE:Hid (qL PS I aB w B nx ps.length M (.returned (.bool true)) w1):=by
  refine⟨rfl,HB.out.trans hb,yW,vI,vM,nx,tf,es,hg,Nat.le_succ _,?_,?_⟩
  ·rcases hO with rfl | ⟨b,G,rfl⟩
   ·exact Nat.le_succ _
   ·simp
  ·rcases hO with rfl | ⟨b,G,rfl⟩
   ·exact λp hp=>Nat.le_succ_of_le (HM.out p hp)
   ·intro p hp;rcases List.mem_append.1 hp with hp | hp
    ·exact Nat.le_succ_of_le (HM.out p hp)
    ·rw[ft] at hp;rw[hp];exact Nat.le_add_left 1 M
 clear hb hg hO;go_wp2;go_ret;exact HE.out
theorem GG (hP:cP PS Q)(hI:oH Q I)(aB:Nat)(w:World)(B:Nat)(vD vI vM:Value)(nx:Nat)(ps:List j4)(es:List tg)(h:GW2 PS I aB w B vD vI vM nx ps es)(M:Nat)(hM:∀p∈ps,p.made<=M)(hM2:M<=1099511627776)(qD:ps.length<=1099511627776)(qb:nx<=274877906944)(kd af X Y Z:Int)(S Tt:ByteArray)(on:Bool)(hS:S.size<=maxLen)(hk:4<=kd/\kd<=15)(hpc:11<kd->∀(wq:World) (j:Nat) (hj:j<ps.length),GW2 PS I aB wq B vD vI vM nx ps es->Calls prog 18 #[.pointer (some ⟨B,0,none⟩),.pointer (some ⟨ps[j].b,0,none⟩),.agg #[.int .i64 kd,.int .i64 af,.int .i64 X,.int .i64 Y,.int .i64 Z,.string S,.string Tt,.bool on]] wq λe w'=>KidPost2 PS I aB wq B vD nx ps j ps[j] e w'):
  Calls prog 5 #[.pointer (some ⟨B,0,none⟩),.agg #[.int .i64 kd,.int .i64 af,.int .i64 X,.int .i64 Y,.int .i64 Z,.string S,.string Tt,.bool on]] w λe w'=>qL PS I aB w B nx ps.length M e w':=by
 have lz:Hid (GW2 PS I aB (w.alloc (aR kd af X Y Z S Tt on)) B vD vI vM nx ps es):=h.keep hP (bo.alloc aF _);have HB:Hid (Below aB w (w.alloc (aR kd af X Y Z S Tt on))):=bo.alloc h.baseW _;have HP:=aw hP;have HM:=aw hM;have HK:=aw hk;have HPC:=aw hpc;have HI:=aw hI;have d0:(w.alloc (aR kd af X Y Z S Tt on)).cell? ⟨w.heap.size,0,none⟩=some (.int .i64 kd):=au (heap_alloc_new w _) rfl;have d1:(w.alloc (aR kd af X Y Z S Tt on)).cell? ⟨w.heap.size,1,none⟩=some (.int .i64 af):=au (heap_alloc_new w _) rfl;have k1:(kd==1)=false:=by rw[fq];omega
 have k2:(kd==2)=false:=by rw[fq];omega
 have k3:(kd==3)=false:=by rw[fq];omega
 have kl:decide (kd<1)=false:=by rw[ii];omega
 have kg:decide (kd>15)=false:=by rw[ii];omega
 have kg':decide (15<kd)=false:=by rw[ii];omega
 clear h hP hM hk hI hpc;obtain⟨aD,cD,hvD⟩:=aK lz.out.rowD;subst hvD;have c0:(w.alloc (aR kd af X Y Z S Tt on)).cell? ⟨B,0,none⟩=some (.slice aD ps.length cD):=au lz.out.wb.blk rfl
 by_cases h0:ps.length=0
 ·have g0:((ps.length:Int)==0)=true:=by simp[h0]
  have HE:Hid (qL PS I aB w B nx ps.length M (.returned (.bool true)) (w.alloc (aR kd af X Y Z S Tt on))):=⟨rfl,HB.out,_,_,_,_,_,_,lz.out,Nat.le_succ _,Nat.le_succ _,λp hp=>Nat.le_succ_of_le (HM.out p hp)⟩;clear h0;go_enter func5,ntmps5;go_wp2;go_ret;exact HE.out
 ·have g0:((ps.length:Int)==0)=false:=by rw[fq];omega
  have HJ:Hid (oP af ps.length<ps.length):=Qd (by omega);have Rf:Hid (∀k,Calls prog 14 #[.int .i64 af,.int .i64 (ps.length:Int)] ((w.alloc (aR kd af X Y Z S Tt on)).drewN k) λe w'=>e=.returned (.int .i64 (oP af ps.length:Nat))/\w'=(w.alloc (aR kd af X Y Z S Tt on)).drewN k):=λk=>Qe _ _ _;obtain⟨gD,hgD,di,hcD⟩:=aX lz.out.rowD (by omega);subst hgD;clear h0;obtain⟨j,hj⟩:∃j,oP af ps.length=j:=⟨_,rfl⟩;rw[hj] at HJ Rf;clear hj;have q:=hcD j (.pointer (some ⟨(ps[j]'HJ.out).b,0,none⟩)) (by rw[List.getElem?_map,bW HJ.out];rfl);have FR:(j:Int)<(ps.length:Int):=by have:=HJ.out;omega
  clear hcD;go_enter func5,ntmps5;go_upto_region 14 with fail;go_quiet ((go_at_call 14;exact Calls.quiet_of_same (Rf.out _)));have hbd:Below (w.alloc (aR kd af X Y Z S Tt on)).heap.size (w.alloc (aR kd af X Y Z S Tt on)) ((w.alloc (aR kd af X Y Z S Tt on)).drewN nq):=dF _ _;have Ub:=aw (lz.out.keep HP.out hbd);have HBQ:=aw (HB.out.trans (hbd.mono lz.out.baseW));have RH:Hid (((w.alloc (aR kd af X Y Z S Tt on)).drewN nq).heap[w.heap.size]?=some (aR kd af X Y Z S Tt on)):=(hbd.block w.heap.size (by simp)).trans (heap_alloc_new w _);generalize (w.alloc (aR kd af X Y Z S Tt on)).drewN nq=wq at Ub HBQ RH ⊢;clear hbd Rf lz HB d0 d1 c0 q;have d0:wq.cell? ⟨w.heap.size,0,none⟩=some (.int .i64 kd):=au RH.out rfl;have d1:wq.cell? ⟨w.heap.size,1,none⟩=some (.int .i64 af):=au RH.out rfl;have d2:wq.cell? ⟨w.heap.size,2,none⟩=some (.int .i64 X):=au RH.out rfl;have d3:wq.cell? ⟨w.heap.size,3,none⟩=some (.int .i64 Y):=au RH.out rfl;have d4:wq.cell? ⟨w.heap.size,4,none⟩=some (.int .i64 Z):=au RH.out rfl;have d5:wq.cell? ⟨w.heap.size,5,none⟩=some (.string S):=au RH.out rfl;have d6:wq.cell? ⟨w.heap.size,6,none⟩=some (.string Tt):=au RH.out rfl;have d7:wq.cell? ⟨w.heap.size,7,none⟩=some (.bool on):=au RH.out rfl
  have HKD:Hid (∀e w1,KidPost2 PS I aB wq B (.slice (some ⟨gD,0,none⟩) ps.length cD) nx ps j (ps[j]'HJ.out) e w1->qL PS I aB w B nx ps.length M e w1):=λe w1 ⟨he,hb,sW,sX,FZ,G',qt,hn',hg⟩=>by
   refine⟨he,HBQ.out.trans hb,_,_,_,_,_,_,hg,hn',?_,?_⟩
   ·rw[List.length_set];exact Nat.le_succ _
   ·refine Fd HM.out ?_;show(ps[j]'HJ.out).made<=M+1;exact Nat.le_succ_of_le (HM.out _ (bN HJ.out))
  by_cases h7:kd=7
  ·have k7:(kd==7)=true:=by simp[h7]
   clear h7;go_wp2_with fail;refine(pj HP.out aB wq B _ vI vM nx ps es Ub.out j HJ.out qb X).mono ?_;intro e w1 hp;have HE:=aw (HKD.out e w1 hp);obtain⟨rfl,_⟩:=hp;go_wp2;go_ret;exact HE.out
  ·have k7:(kd==7)=false:=by simp[h7]
   have hmd:(ps[j]'HJ.out).made<=1099511627776:=Nat.le_trans (HM.out _ (bN HJ.out)) hM2
   have HE:Hid (∀w1,ir PS I wq (ps[j]'HJ.out).b (ps[j]'HJ.out).made (ps[j]'HJ.out).G (.returned (.bool true)) w1->qL PS I aB w B nx ps.length M (.returned (.bool true)) w1):=λw1 hp=>by
    obtain⟨_,made',qv,tO,fF⟩:=hp;refine⟨rfl,HBQ.out.trans (fF.toBelow Ub.out.baseW (Ub.out.baseG j HJ.out)),_,_,_,_,_,_,Ub.out.turn HP.out HJ.out fF.size (λk hk hn=>fF.block k hk hn) tO (λk hk=>hk.1),Nat.le_succ _,?_,?_⟩
    ·rw[List.length_set];exact Nat.le_succ _
    ·exact Fd HM.out (by have:=HM.out _ (bN HJ.out);show made'<=M+1;omega)
   by_cases h11:kd=11
   ·have kq:(kd==11)=true:=by simp[h11]
    clear h7 h11;go_wp2_with fail;refine(Qw HP.out HI.out wq _ _ _ (Ub.out.pd j HJ.out) X Tt).mono ?_;intro e w1 hp;obtain rfl:=hp.1;have JU:=aw (HE.out w1 hp);clear hp;go_wp2;go_ret;exact JU.out
   ·have kq:(kd==11)=false:=by simp[h11]
    by_cases h12:11<kd
    ·have ku:decide (kd<12)=false:=by rw[ii];omega
     have HPW:=HPC.out h12 wq j HJ.out Ub.out;clear h7 h11 h12;go_wp2_with fail;refine HPW.mono ?_;intro e w1 hp;have JU:=aw (HKD.out e w1 hp);obtain⟨rfl,_⟩:=hp;go_wp2;go_ret;exact JU.out
    have ku:decide (kd<12)=true:=by rw[bO];omega
    have Ud:Hid (kd=4∨kd=5∨kd=6∨kd=8∨kd=9∨kd=10):=by have:=HK.out;unfold Hid;omega
    clear h7 h11 h12;go_wp2_with fail;refine(EN HP.out HI.out wq _ _ _ (Ub.out.pd j HJ.out) hmd kd af X Y Z S Tt on hS Ud.out).mono ?_;intro e w1 hp;obtain rfl:=hp.1;have JU:=aw (HE.out w1 hp);clear hp;go_wp2;go_ret;exact JU.out
end
section
variable {I:YS->List Nat->gK->Prop}{PS:World->Value->YS->List Nat->(Nat->Prop)->Prop}{Q:fu->YS->List Nat->YS->List Nat->Prop}{w:World}
theorem PD2.told {b ae:Nat}{G:Nat->Prop}(h:PD2 PS I w b ae G):∃d:Nat,w.cell? ⟨b,1,none⟩=some (.pointer (some ⟨d,0,none⟩))/\w.cell? ⟨d,2,none⟩=some (.int .i64 ae):=by
 obtain⟨X,st,pa,d,K,Fp,Fx,Fy,h1,_,_,h4,_⟩:=h;subst h4;obtain⟨aa,hp,vT,br,vL,Rr,Gs,hX,_⟩:=h1.rs;exact⟨d,au h1.pb.blk rfl,au hX.rd.doc rfl⟩
def Df (PS:World->Value->YS->List Nat->(Nat->Prop)->Prop)(I:YS->List Nat->gK->Prop)(w:World)(b ae:Nat)(G:Nat->Prop)(e:Ending)(w':World):Prop:=
 e=.returned (.bool true)/\PD2 PS I w' b ae (nZ G w w')/\Fr w w' G
theorem LF (hP:cP PS Q)(hI:oH Q I)(w:World)(b ae:Nat)(G:Nat->Prop)(h:PD2 PS I w b ae G)(n:Int)(s:ByteArray):
  Calls prog 16 #[.pointer (some ⟨b,0,none⟩),.int .i64 n,.string s] w λe w'=>Df PS I w b ae G e w':=by
 obtain⟨U,st,pa,d,K,Fp,Fx,Fy,h1,h2,h3,h4,h5,h6⟩:=h;subst h4;refine(sO hP w b U st pa d K G Fp Fx Fy h1 h2 h5 (hI.cnt h6) n s).mono λe w' hp=>?_;obtain⟨rfl,X',cN,K',hq,hl,hR⟩:=hp;have hi:=hI.qry h6 h5 hR;obtain⟨hX,_⟩:=hR;subst hX;obtain⟨Fp',Fx',Fy',hj,hg,hf⟩:=hq;exact⟨rfl,⟨X',cN,pa,d,K',Fp',Fx',Fy',hj,λk hk=>⟨hg k hk,hj.here k hk⟩,λk hk=>hk.2,rfl,hl,hi⟩,hf⟩
theorem KidPost2.more (hP:cP PS Q){aB:Nat}{B:Nat}{vD:Value}{nx:Nat}{ps:List j4}{i:Nat}{p:j4}(hi:i<ps.length){e0:Ending}{wr:World}(h:KidPost2 PS I aB w B vD nx ps i p e0 wr):
  ∃G',PD2 PS I wr p.b p.made G'/\∀w2,PD2 PS I w2 p.b p.made (nZ G' wr w2)->Fr wr w2 G'->KidPost2 PS I aB w B vD nx ps i p (.returned (.bool true)) w2:=by
 obtain⟨_,hB,sW,sX,FZ,G',qt,hn,hg⟩:=h;have hl:i<(ps.set i ⟨p.b,p.made,G'⟩).length:=by rw[List.length_set];exact hi
 have he:(ps.set i ⟨p.b,p.made,G'⟩)[i]=⟨p.b,p.made,G'⟩:=by simp
 have tO:=hg.pd i hl;rw[he] at tO;refine⟨G',tO,λw2 h2 hf=>?_⟩;have hb:=hg.baseG i hl;rw[he] at hb;have ht:=hg.turn hP hl (w':=w2) hf.size (by rw[he];exact λk hk hn=>hf.block k hk hn) (made':=p.made) (G':=nZ G' wr w2) (by rw[he];exact h2) (by rw[he];exact λk hk=>hk.1);rw[he,List.set_set] at ht;exact⟨rfl,hB.trans (hf.toBelow hg.baseW hb),sW,sX,FZ,_,qt,hn,ht⟩
section
variable {PS:World->Value->YS->List Nat->(Nat->Prop)->Prop}{Q:fu->YS->List Nat->YS->List Nat->Prop}{I:YS->List Nat->gK->Prop}
def EI2 (PS:World->Value->YS->List Nat->(Nat->Prop)->Prop)(I:YS->List Nat->gK->Prop)(aB:Nat)(w:World)(B:Nat)(vD:Value)(np M:Nat)(bs:List (Nat × Nat))(wr:World)(c:Nat):Prop:=
 Below aB w wr/\∃vI vM nx ps es,GW2 PS I aB wr B vD vI vM nx ps es/\ps.length=np/\(∀p∈ps,p.made<=M)/\nx<=c/\ps.map (λp=>(p.b,p.made))=bs
end
end
section
variable {I:YS->List Nat->gK->Prop}{PS:World->Value->YS->List Nat->(Nat->Prop)->Prop}{i:Nat}{w wr:World}
theorem KE (w:World):GW2 PS I w.heap.size (w.alloc (.cells #[.slice none 0 0,.slice none 0 0,.slice none 0 0,.int .i64 0] 30)) w.heap.size (.slice none 0 0) (.slice none 0 0) (.slice none 0 0) 0 [] []:=by
 refine⟨heap_alloc_new w _,eB,eB,eB,λe he=>(by cases he),λe he=>(by cases he),λi hi=>absurd hi (Nat.not_lt_zero i),λi j hi=>absurd hi (Nat.not_lt_zero i),λi hi=>absurd hi (Nat.not_lt_zero i),rfl,?_,λi hi=>absurd hi (Nat.not_lt_zero i),by simp⟩;rintro k (rfl | hk | hk | hk | ⟨e,he,_⟩)
 ·exact aF
 ·simp[Value.ownBlock] at hk
 ·simp[Value.ownBlock] at hk
 ·simp[Value.ownBlock] at hk
 ·cases he
def PI2 (PS:World->Value->YS->List Nat->(Nat->Prop)->Prop)(I:YS->List Nat->gK->Prop)(w wr:World)(i:Nat):Prop:=
 Below w.heap.size w wr/\∃vD vI vM nx ps es,GW2 PS I w.heap.size wr w.heap.size vD vI vM nx ps es/\nx<=i/\ps.length<=i/\∀p∈ps,p.made<=i+1
theorem PI2.step {nx np:Nat}{e:Ending}{w':World}(hb:Below w.heap.size w wr)(hn:nx<=i)(hp:np<=i)(h:qL PS I w.heap.size wr w.heap.size nx np (i+1) e w'):PI2 PS I w w' (i+1):=by
 obtain⟨_,oW,yW,sW,sX,FZ,tf,qt,hg,h1,h2,h3⟩:=h;exact⟨hb.trans oW,yW,sW,sX,FZ,tf,qt,hg,by omega,by omega,h3⟩
theorem PI2.skip (h:PI2 PS I w wr i):PI2 PS I w wr (i+1):=by
 obtain⟨hb,vD,vI,vM,nx,ps,es,hg,h1,h2,h3⟩:=h;exact⟨hb,vD,vI,vM,nx,ps,es,hg,by omega,by omega,λp hp=>Nat.le_succ_of_le (h3 p hp)⟩
section
variable {PS:World->Value->YS->List Nat->(Nat->Prop)->Prop}{Q:fu->YS->List Nat->YS->List Nat->Prop}{I:YS->List Nat->gK->Prop}
end
end
section
theorem Ko (w:World)(px:Value)(T:aU)(ae:Nat)(M:Nat->Mk)(rs:List dx)(F:Nat->Prop)(n:Int)(h:DSd w px T ae M rs F):Calls prog 27 #[px,.int .i64 n] w λe w'=>Dc w T n e w':=by
 obtain⟨kl,b,vS,v,aa,G,rfl,h2,h3,h4⟩:=h;have HB:=bZ h2.pb h2.tw;clear h2 h3 h4;go_enter func27,ntmps27;go_wp2_with fail;refine(Lv w b v aa n HB.out.1.c1 HB.out.1.pl HB.out.1.few).mono ?_;rintro e w1 ⟨hB,hO⟩;have Mw:=aw hB;rcases hO with⟨hf,rfl⟩ | ⟨⟨x,hx⟩,a,c,rfl,bS⟩
 ·have HN:=aw (HB.out.1.pt.find_none hf);clear hf hB;go_wp2;go_ret2;exact⟨Mw.out,ax ⟨HN.out,rfl⟩⟩
 ·have HN:=aw ((HB.out.1.pt.find_some HB.out.2 hx).1);have HO:=aw bS;clear hx hB bS;go_wp2;go_ret2;exact⟨Mw.out,az ⟨aZ aa n,a,c,HN.out,rfl,HO.out⟩⟩
end
section
variable {H:Int->Prop}{T:aU}{X:YS}{k ae:Nat}{kl dw:List (Int × List Int)}{n:Int}{s:ByteArray}
def oD (X:YS)(n:Int)(on:Bool):YS:=if(bF X.T n).isSome=true then{X with shn:=mQ X.shn n.toNat on} else X
def Rk (X:YS)(st:List Nat)(n:Int)(s:ByteArray):Bool:=decide (bD X.T n s=0)&&!fQ st n
def VR (X:YS)(st cN:List Nat)(dC:Int)(n:Nat):Prop:=n=min dC.toNat st.length/\cN.length+n=st.length/\LT X.T cN/\(∀k∈cN,k∈st)/\((∃k∈cN,fm X.T X.shn k=true)->∀k∈st,k ∉ cN->fm X.T X.shn k=true)
structure kV (PS:World->Value->YS->List Nat->(Nat->Prop)->Prop)(Q:fu->YS->List Nat->YS->List Nat->Prop):Prop extends cP PS Q where
 shw:∀(w:World) (px:Value) (X:YS) (st:List Nat) (F:Nat->Prop) (n:Int) (on:Bool),PS w px X st F->Calls prog 44 #[px,.int .i64 n,.bool on] w λe w'=>
  e=.returned (.int .i64 (if(bF X.T n).isSome then 0 else 5))/\PS w' px (oD X n on) st (cV F w)/\Fr w w' F
 stl:∀(w:World) (px:Value) (X:YS) (st:List Nat) (F:Nat->Prop),PS w px X st F->Calls prog 48 #[px] w λe w'=>
  ∃(L:List Nat) (a:Option Addr) (c:Nat),e=.returned (.slice a L.length c)/\w'.ownsRow w.heap.size 3 1 (.slice a L.length c) L.length (bq L)/\Below w.heap.size w w'/\L.Pairwise (·<·)/\∀k,k∈L↔k∈st
 sto:∀(w:World) (px:Value) (X:YS) (st:List Nat) (F:Nat->Prop) (n:Int) (s:ByteArray),PS w px X st F->Calls prog 82 #[px,.int .i64 n,.string s] w λe w'=>
  e=.returned (.tuple #[.int .i64 (if Rk X st n s=true then eD X.T X.M X.rs n s else 0),.bool (Rk X st n s),.int .i64 (bD X.T n s)])/\Below w.heap.size w w'
 sli:∀(w:World) (px:Value) (X:YS) (st:List Nat) (F:Nat->Prop) (dC:Int),PS w px X st F->Calls prog 83 #[px,.int .i64 dC] w λe w'=>
  ∃(n:Nat) (cN:List Nat),e=.returned (.int .i64 n)/\VR X st cN dC n/\PS w' px X cN (cV F w)/\Fr w w' F
def uW (T:aU)(kl:List (Int × List Int)):List Nat:=(T.map Prod.fst).filter λk:Nat=>(bA kl k).isNone
theorem ey:k∈uW T kl↔(∃l,(k,l)∈T)/\(bA kl k).isNone=true:=by
 unfold uW;rw[dJ,bx];exact⟨λ⟨⟨x,h1,h2⟩,h3⟩=>⟨⟨x.2,by rw[<-h2];exact h1⟩,h3⟩,λ⟨⟨l,h1⟩,h3⟩=>⟨⟨_,h1,rfl⟩,h3⟩⟩
theorem ox (hw:TW T ae)(kl:List (Int × List Int)):LT T (uW T kl):=⟨hw.nums.filter _,λ_ hk=>(ey.1 hk).1⟩
theorem CG (T:aU)(kl:List (Int × List Int)):(uW T kl).length=Jw T kl:=by
 unfold uW Jw;rw[List.filter_map,List.length_map];rfl
theorem nD:(bA kl n).isSome=true↔∃x∈kl,x.1=n:=by
 constructor
 ·intro h;cases hf:bA kl n with
  | none=>rw[hf] at h;cases h
  | some s=>exact⟨_,oh hf,rfl⟩
 ·rintro⟨x,hx,he⟩;cases hf:bA kl n with
  | none=>exact absurd he (xf hf x hx)
  | some s=>rfl
theorem ke {o:Option (List Int)}:o.isNone=true↔¬o.isSome=true:=by cases o<;>simp
theorem m9 (h:DropT H kl dw)(k:Int):((bA kl k).isNone=true->(bA dw k).isNone=true)/\((bA dw k).isNone=true->(bA kl k).isNone=true∨H k):=by
 rw[ke,ke];refine⟨λh1 h2=>h1 ?_,λh1=>?_⟩
 ·obtain⟨x,hx,he⟩:=nD.1 h2;exact nD.2 ⟨x,h.1.subset hx,he⟩
 ·by_cases hH:H k
  ·exact az hH
  ·refine ax λh2=>h1 ?_;obtain⟨x,hx,he⟩:=nD.1 h2;exact nD.2 ⟨x,h.2 x hx (by rw[he];exact hH),he⟩
theorem yx {T':aU}{N:Nat->Prop}(hd:DropT H kl dw)(jZ:∀k l,(k,l)∈T->∃l',(k,l')∈T')(D7:∀k l,(k,l)∈T'->(∃l',(k,l')∈T)∨N k):Spo (uW T kl) (uW T' dw) (λk=>N k∨H k):=by
 refine⟨λk hk=>?_,λk hk=>?_⟩
 ·obtain⟨⟨l,h1⟩,h2⟩:=ey.1 hk;exact ey.2 ⟨jZ k l h1,(m9 hd k).1 h2⟩
 ·obtain⟨⟨l,h1⟩,h2⟩:=ey.1 hk;rcases D7 k l h1 with h3 | h3
  ·rcases(m9 hd k).2 h2 with h4 | h4
   ·exact ax (ey.2 ⟨h3,h4⟩)
   ·exact az (az h4)
  ·exact az (ax h3)
theorem Spo.mono {st cN:List Nat}{H H':Nat->Prop}(h:Spo st cN H)(hm:∀k,H k->H' k):Spo st cN H':=⟨h.1,λk hk=>(h.2 k hk).imp id (hm k)⟩
def iN (X:YS):Nat->Mk:=λk=>iG (X.M k) (X.shn k)
theorem Fh (m:Mk)(on:Bool):Rw m (iG m on):=⟨rfl,λi hi=>by show _=if i=26 then on else _;rw[aA (by omega)],rfl⟩
theorem PD (X:YS)(T:aU):bp T (iN X)=bp T X.M:=(JG λk=>Fh (X.M k) (X.shn k)).symm
theorem Jb (X:YS)(T:aU)(n:Int)(s:ByteArray):eD T (iN X) X.rs n s=eD T X.M X.rs n s:=by
 unfold eD;rw[PD]
theorem JB (aj:ByteArray):iG (eh aj) false=eh aj:=by
 unfold iG eh
 congr 1
 funext i;split<;>rfl
theorem TV (h:aQ s=true)(m:Mk)(sh on:Bool):iG (kA m s on) sh=kA (iG m sh) s on:=by
 obtain⟨k,hk,hb⟩:=tT h;unfold iG kA
 congr 1
 funext i;show(if i=26 then sh else(if i+97=bt s 0 then on else m.cl i))=(if i+97=bt s 0 then on else(if i=26 then sh else m.cl i))
 by_cases e:i=26
 ·subst e;rw[aE rfl,aA (by omega),aE rfl]
 ·rw[aA e,aA e]
theorem TX (m:Mk)(a b:Bool):iG (iG m a) b=iG m b:=by
 unfold iG
 congr 1
 funext i;show(if i=26 then b else(if i=26 then a else m.cl i))=if i=26 then b else m.cl i
 by_cases e:i=26
 ·rw[aE e,aE e]
 ·rw[aA e,aA e,aA e]
theorem sx {X':YS}{n:Nat}{m:Mk}(h:∀k,k≠n->X'.M k=X.M k/\X'.shn k=X.shn k)(hn:iG (X'.M n) (X'.shn n)=m):bU (iN X) n m=iN X':=by
 funext k;unfold bU iN
 by_cases e:k=n
 ·rw[aE e,e,hn]
 ·rw[aA e,(h k e).1,(h k e).2]
def PSs (w:World)(px:Value)(X:YS)(st:List Nat)(F:Nat->Prop):Prop:=∃kl,DSk w px X.T X.made (iN X) X.rs kl F/\st=uW X.T kl
theorem Tm {a:Nat}{la:List Nat}(hw:TW T ae)(ha:(a,la)∈T)(h0:a≠0){l:List Nat}(hk:(k,l)∈kj T a):∃l',(k,l')∈T:=by
 obtain⟨q,hq,S6,kK⟩:=hw.up ha h0;obtain⟨x,hx,_,h1,_⟩:=(er kK).1 hk;exact⟨x.2,by rw[show k=x.1 from h1];exact hx⟩
theorem WV (hw:TW T ae){M:Nat->Mk}{rs:List dx}(k:Nat):k∈uW T (if bD T n s=0 then mR T M rs kl n else kl)↔k∈uW T kl/\¬(bD T n s=0/\dM T k n):=by
 by_cases hq:bD T n s=0
 ·rw[aE hq,ey,ey,ke,ke,yC];obtain⟨l,p,ht,_⟩:=nL hq;obtain⟨hm,hn⟩:=nh ht
  have hu:((k:Int)∈bh T T.length n∨(k:Int)=n)↔dM T k n:=by
   rw[hn,mG hw k hm];constructor
   ·rintro(⟨h1,h2,j,hj⟩ | h1)
    ·exact⟨h2,j+1,hj⟩
    ·exact⟨by omega,0,h1.symm⟩
   ·rintro⟨h1,j,hj⟩;cases j with
    | zero=>exact az hj.symm
    | succ j=>
     refine ax ⟨?_,h1,j,hj⟩;replace hj:io T j (bi T ((n.toNat:Nat):Int))=(k:Int):=hj
     by_cases h0:0<=bi T ((n.toNat:Nat):Int)
     ·exact h0
     ·have:=mB T (Int.not_le.1 h0) j;omega
  rw[hu];constructor
  ·rintro⟨h1,h2⟩;exact⟨⟨h1,λh=>h2 (ax h)⟩,λh=>h2 (az h.2)⟩
  ·rintro⟨⟨h1,h2⟩,h3⟩;exact⟨h1,λh=>h.elim h2 λh=>h3 ⟨hq,h⟩⟩
 ·rw[aA hq];exact⟨λh=>⟨h,λh2=>hq h2.1⟩,λh=>h.1⟩
theorem W9 (hw:TW X.T ae){n:Nat}{dC:Int}(h1:n=min dC.toNat (Jw X.T kl))(h2:Jw X.T dw+n<=Jw X.T kl)(h3:YJ X.T (iN X) kl dw n):VR X (uW X.T kl) (uW X.T dw) dC n:=by
 obtain⟨l,g1,g2,g3,g4,g5⟩:=h3
 have hs:∀k,k∈uW X.T dw↔k∈uW X.T kl/\(k:Int) ∉ l.take n:=λk=>by
  rw[ey,ey,ke,ke,g4];exact⟨λ⟨a,b⟩=>⟨⟨a,λh=>b (ax h)⟩,λh=>b (az h)⟩,λ⟨⟨a,b⟩,c⟩=>⟨a,λh=>h.elim b c⟩⟩
 have hl:∀k:Nat,(k:Int)∈l↔k∈uW X.T kl:=λk=>by
  rw[g2,ey];constructor
  ·rintro⟨a,j,lj,e,hj⟩;have:k=j:=by omega
   exact⟨⟨lj,by rw[this];exact hj⟩,a⟩
  ·rintro⟨⟨lk,a⟩,b⟩;exact⟨b,k,lk,rfl,a⟩
 refine⟨by rw[CG];exact h1,?_,ox hw _,λk hk=>((hs k).1 hk).1,?_⟩
 ·have h5:(uW X.T kl).length<=(uW X.T dw++(l.take n).map Int.toNat).length:=dG (ox hw kl).1 λk hk=>by
   rw[List.mem_append]
   by_cases hx:(k:Int)∈l.take n
   ·exact az (bx.2 ⟨_,hx,by simp⟩)
   ·exact ax ((hs k).2 ⟨hk,hx⟩)
  rw[List.length_append,List.length_map,List.length_take] at h5;rw[CG] at h5 ⊢;rw[CG] at h5 ⊢;omega
 ·rintro⟨y,hy,hw2⟩ x hx qb;have XN:(x:Int)∈l.take n:=Classical.byContradiction λh=>qb ((hs x).2 ⟨hx,h⟩);obtain⟨I2,I3⟩:=(hs y).1 hy
  have hy3:(y:Int)∈l.drop n:=by
   have:=(hl y).2 I2;rw[<-List.take_append_drop n l,List.mem_append] at this;exact this.resolve_left I3
  exact g5 x XN y hy3 hw2
theorem PG {l:List Int}(h:∀x∈l,∃k:Nat,x=(k:Int)):∃L:List Nat,l=L.map λ(k:Nat)=>(k:Int):=by
 induction l with
 | nil=>exact⟨[],rfl⟩
 | cons x l ih=>
  obtain⟨L,hL⟩:=ih λy hy=>h y (List.mem_cons_of_mem _ hy);obtain⟨k,rfl⟩:=h x List.mem_cons_self;exact⟨k :: L,by rw[hL];rfl⟩
theorem Qo:kV PSs QSt where
 ptr:=λ⟨_,h,_⟩=>V2.ptr ⟨_,h⟩
 keep:=λ⟨kl,h,e⟩ hk hz=>⟨kl,h.keep hk hz,e⟩
 here:=λ⟨kl,h,e⟩=>⟨kl,h.here,e⟩
 new:=λw s aq hs=>(DD w s aq hs).mono λe w' h=>⟨h.1,h.2.imp id (λ⟨h1,px,h2,h3⟩=>⟨h1,px,h2,[],by
  refine h3.mark λk l _=>?_;exact(JB aq).symm,rfl⟩)⟩
 ins:=λw px X st F an af aj ⟨kl,h,e⟩ hm=>(DA w px X.T X.made (iN X) X.rs kl F an af aj h (by omega)).mono λe2 w' ⟨y,T',made',n,dw,h1,h2,h3,h4,h5⟩=>by
  subst e;refine⟨y,⟨T',made',if y=0 then bU X.M X.made (eh aj) else X.M,if y=0 then mQ X.shn X.made false else X.shn,X.rs⟩,uW T' dw,n,h1,⟨h2,rfl,rfl,rfl⟩,⟨ox h3.tw dw,?_⟩,⟨dw,?_,rfl⟩,h4⟩
  ·rcases h2.2 with⟨hy,_,hT,_⟩ | ⟨hy,_,_,p,j,hp,_,_,hT⟩
   ·rw[hT] at h5 ⊢;exact⟨(yx (N:=λ_=>False) h5 (λk l hk=>⟨l,hk⟩) (λk l hk=>ax ⟨l,hk⟩)).mono λk hk=>hk.elim False.elim λh=>absurd h.1 hy,λh=>absurd h hy⟩
   ·have hx:Spo (uW X.T kl) (uW T' dw) (λk=>k=X.made∨(y=0/\dR T' an k=true)):=yx h5 (λk l hk=>by rw[hT];exact⟨if k=p then dp l j X.made else l,cQ.2 (ax ⟨(k,l),hk,rfl,rfl⟩)⟩) (λk l hk=>by
     rw[hT] at hk;rcases cQ.1 hk with⟨x,hx,h6,_⟩ | h6
     ·exact ax ⟨x.2,by rw[show k=x.1 from h6];exact hx⟩
     ·injection h6 with h6 _
      exact az h6)
    refine⟨hx.mono λk hk=>⟨hy,hk.imp id And.right⟩,λ_=>ey.2 ⟨⟨[],by rw[hT];exact cQ.2 (az rfl)⟩,?_⟩⟩;rw[ke];intro h6;obtain⟨x,hx,he⟩:=nD.1 h6;obtain⟨j,lj,hj,FQ⟩:=h.kok.els x (h5.1.subset hx);have:=h.tw.lt _ FQ;replace this:j<X.made:=this;omega
  ·by_cases hy:y=0
   ·rw[aE hy] at h3;rw[sx (X:=X) (X':=⟨T',made',if y=0 then bU X.M X.made (eh aj) else X.M,if y=0 then mQ X.shn X.made false else X.shn,X.rs⟩)] at h3
    ·exact h3
    ·intro k hk;simp only[aE hy];unfold bU mQ;rw[aA hk,aA hk];exact⟨rfl,rfl⟩
    ·simp only[aE hy];unfold bU mQ;rw[aE rfl,aE rfl];exact JB aj
   ·rw[aA hy] at h3
    have:iN ⟨T',made',if y=0 then bU X.M X.made (eh aj) else X.M,if y=0 then mQ X.shn X.made false else X.shn,X.rs⟩=iN X:=by
     unfold iN;simp only[aA hy]
    rw[this];exact h3
 rem:=λw px X st F n ⟨kl,h,e⟩=>(DF w px X.T X.made (iN X) X.rs kl F n h).mono λe2 w' ⟨y,T',dw,h1,h2,h3,h4,h5⟩=>by
  subst e;refine⟨y,⟨T',X.made,X.M,X.shn,X.rs⟩,uW T' dw,h1,⟨h2,rfl,rfl,rfl,rfl⟩,⟨ox h3.tw dw,λk hk hf=>?_,λk hk=>?_⟩,⟨dw,h3,rfl⟩,h4⟩
  ·obtain⟨l,hl⟩:=Option.isSome_iff_exists.1 hf;obtain⟨a,ha,hm⟩:=gJ hl;exact ey.2 ⟨⟨l,by rw[show k=a from by omega];exact hm⟩,(m9 h5 k).1 (ey.1 hk).2⟩
  ·obtain⟨⟨l,qa⟩,gg⟩:=ey.1 hk;rcases h2.2 with⟨hy,hT⟩ | ⟨hy,a,ha,h0,⟨la,UJ⟩,hT⟩
   ·rw[hT] at qa;rcases(m9 h5 k).2 gg with h6 | h6
    ·exact ax (ey.2 ⟨⟨l,qa⟩,h6⟩)
    ·exact absurd h6.1 hy
   ·rw[hT] at qa;obtain⟨l',Wz⟩:=Tm h.tw UJ h0 qa;rcases(m9 h5 k).2 gg with h6 | h6
    ·exact ax (ey.2 ⟨⟨l',Wz⟩,h6⟩)
    ·refine az ⟨hy,?_⟩;have h7:=h6.2;rw[ha] at h7 ⊢;show dR T' _ _=true;rw[hT];exact LP h.tw UJ h0 qa h7
 mov:=λw px X st F n m af ⟨kl,h,e⟩=>(DB w px X.T X.made (iN X) X.rs kl F n m af h).mono λe2 w' ⟨y,T',dw,h1,h2,h3,h4,h5⟩=>by
  subst e;refine⟨y,⟨T',X.made,X.M,X.shn,X.rs⟩,uW T' dw,h1,⟨h2,rfl,rfl,rfl,rfl⟩,⟨ox h3.tw dw,?_⟩,⟨dw,h3,rfl⟩,h4⟩;refine(yx (N:=λ_=>False) h5 (λk l hk=>?_) (λk l hk=>ax ?_)).mono λk hk=>hk.elim False.elim id
  ·rcases h2.2 with⟨hy,hT⟩ | ⟨hy,a,p,j,ha,_,_,h0,⟨la,UJ⟩,_,_,hT⟩
   ·exact⟨l,by rw[hT];exact hk⟩
   ·obtain⟨q,hq,S6,kK⟩:=h.tw.up UJ h0;rw[hT];exact⟨if k=p then dp (aG a (if k=q.1 then aG a l else l)) j a else if k=q.1 then aG a l else l,(ed kK).2 ⟨(k,l),hk,rfl,rfl⟩⟩
  ·rcases h2.2 with⟨hy,hT⟩ | ⟨hy,a,p,j,ha,_,_,h0,⟨la,UJ⟩,_,_,hT⟩
   ·exact⟨l,by rw[<-hT];exact hk⟩
   ·obtain⟨q,hq,S6,kK⟩:=h.tw.up UJ h0;rw[hT] at hk;obtain⟨x,hx,h6,_⟩:=(ed kK).1 hk;exact⟨x.2,by rw[show k=x.1 from h6];exact hx⟩
 chi:=λw px X _ F n ⟨kl,h,_⟩=>Ko w px X.T X.made (iN X) X.rs F n ⟨kl,h⟩
 cls:=λw px X st F n s on ⟨kl,h,e⟩=>(Dw w px X.T X.made (iN X) X.rs kl F n s on h).mono λe2 w' ⟨y,dw,h1,h2,h3,h4,h5⟩=>by
  subst e;have hT:(eX X n s on).T=X.T/\(eX X n s on).made=X.made/\(eX X n s on).rs=X.rs:=by unfold eX;split<;>exact⟨rfl,rfl,rfl⟩
  have hM:(if y=0 then bU (iN X) n.toNat (kA (iN X n.toNat) s on) else iN X)=iN (eX X n s on):=by
   unfold eX;rw[<-h2]
   by_cases hy:y=0
   ·rw[aE hy,aE hy]
    have hl:aQ s=true:=by
     rw[hy] at h2;unfold cA at h2;split at h2
     ·cases h2
     ·split at h2
      ·cases h2
      ·rename_i h7;cases hb:aQ s with
       | true=>rfl
       | false=>exact absurd hb h7
    refine sx (λk hk=>⟨by show bU X.M _ _ k=_;unfold bU;rw[aA hk],rfl⟩) ?_;show iG (bU X.M n.toNat _ n.toNat) _=_;unfold bU;rw[aE rfl];exact TV hl _ _ _
   ·rw[aA hy,aA hy]
  rw[hM] at h3;refine⟨uW X.T dw,by rw[h1,h2],⟨by rw[hT.1];exact ox h3.tw dw,?_⟩,⟨dw,by rw[hT.1,hT.2.1,hT.2.2];exact h3,by rw[hT.1]⟩,h4⟩;refine(yx (N:=λ_=>False) h5 (λk l hk=>⟨l,hk⟩) (λk l hk=>ax ⟨l,hk⟩)).mono λk hk=>hk.elim False.elim λ⟨g1,g2,g3,g4⟩=>⟨by rw[<-h2];exact g2,g1,g3,λg5=>g4 ?_⟩;show(iG (X.M n.toNat) (X.shn n.toNat)).cl _=on
  obtain⟨k,hk,hb⟩:∃k,k<26/\bt s 0=97+k:=by
   rw[g2] at h2;unfold cA at h2;split at h2
   ·cases h2
   ·split at h2
    ·cases h2
    ·rename_i h7;refine tT ?_;cases hb:aQ s with
     | true=>rfl
     | false=>exact absurd hb h7
  rw[<-g5,(Fh (X.M n.toNat) (X.shn n.toNat)).2.1 _ (by omega)]
 nam:=λw px X st F n s ⟨kl,h,e⟩=>(DC w px X.T X.made (iN X) X.rs kl F n s h).mono λe2 w' ⟨y,dw,h1,h2,h3,h4,h5⟩=>by
  subst e;have hT:(eY X n s).T=X.T/\(eY X n s).made=X.made/\(eY X n s).rs=X.rs:=by unfold eY;split<;>exact⟨rfl,rfl,rfl⟩
  have hM:(if y=0 then bU (iN X) n.toNat (fW (iN X n.toNat) s) else iN X)=iN (eY X n s):=by
   unfold eY;rw[<-h2]
   by_cases hy:y=0
   ·rw[aE hy,aE hy];refine sx (λk hk=>⟨by show bU X.M _ _ k=_;unfold bU;rw[aA hk],rfl⟩) ?_;show iG (bU X.M n.toNat _ n.toNat) _=_;unfold bU;rw[aE rfl];rfl
   ·rw[aA hy,aA hy]
  rw[hM] at h3;refine⟨uW X.T dw,by rw[h1,h2],⟨by rw[hT.1];exact ox h3.tw dw,?_⟩,⟨dw,by rw[hT.1,hT.2.1,hT.2.2];exact h3,by rw[hT.1]⟩,h4⟩;exact(yx (N:=λ_=>False) h5 (λk l hk=>⟨l,hk⟩) (λk l hk=>ax ⟨l,hk⟩)).mono λk hk=>hk.elim False.elim λ⟨g1,g2,g3,g4⟩=>⟨by rw[<-h2];exact g2,g1,g3,g4⟩
 sht:=λw px X st F s hs ⟨kl,h,e⟩=>(DG w px X.T X.made (iN X) X.rs kl F s hs h).mono λe2 w' ⟨y,dw,h1,h2,h3,h4,h5⟩=>by
  subst e
  have hT:(ik X s).T=X.T/\(ik X s).made=X.made/\iN (ik X s)=iN X/\(ik X s).rs=if y=0 then eQ s else X.rs:=by
   unfold ik;rw[h2];split
   ·exact⟨rfl,rfl,rfl,rfl⟩
   ·exact⟨rfl,rfl,rfl,rfl⟩
  refine⟨uW X.T dw,by rw[h1,h2],⟨by rw[hT.1];exact ox h3.tw dw,λk hk=>?_,λhy k hk=>?_⟩,⟨dw,by rw[hT.1,hT.2.1,hT.2.2.1,hT.2.2.2];exact h3,by rw[hT.1]⟩,h4⟩
  ·obtain⟨g1,g2⟩:=ey.1 hk;refine ey.2 ⟨g1,?_⟩;rw[h5];split
   ·rfl
   ·exact g2
  ·rw[h5,aA (by rw[h2];exact hy)] at hk;exact hk
 qry:=λw px X st F n s ⟨kl,h,e⟩=>(DE w px X.T X.made (iN X) X.rs kl F n s h).mono λe2 w' ⟨h1,h2,h3⟩=>by
  subst e;exact⟨_,by rw[h1,Jb],⟨ox h.tw _,WV h.tw⟩,⟨_,h2,rfl⟩,h3⟩
 shw:=λw px X st F n on ⟨kl,h,e⟩=>(Ox w px X.T X.made (iN X) X.rs kl F n on h).mono λe2 w' ⟨h1,h2,h3⟩=>by
  refine⟨h1,⟨kl,?_,?_⟩,h3⟩
  ·unfold oD;cases hf:(bF X.T n).isSome with
   | false=>
    rw[hf] at h2;exact h2
   | true=>
    rw[hf] at h2;rw[aE rfl];replace h2:DSk w' px X.T X.made (bU (iN X) n.toNat (iG (iN X n.toNat) on)) X.rs kl (cV F w):=h2;rw[sx (X:=X) (X':={X with shn:=mQ X.shn n.toNat on})] at h2
    ·exact h2
    ·intro k hk;exact⟨rfl,by show mQ X.shn _ on k=_;unfold mQ;rw[aA hk]⟩
    ·show iG (X.M n.toNat) (mQ X.shn _ on _)=iG (iG _ _) on;unfold mQ;rw[aE rfl,TX]
  ·rw[e];unfold oD;split<;>rfl
 stl:=λw px X st F ⟨kl,h,e⟩=>(Oz w px X.T X.made (iN X) X.rs kl F h).mono λe2 w' ⟨l,a,c,h1,_,⟨h2,h3⟩,_,h4,h5⟩=>by
  obtain⟨L,rfl⟩:=PG λx hx=>by
   obtain⟨_,k,_,e,_⟩:=(h2 x).1 hx;exact⟨k,e⟩
  refine⟨L,a,c,by rw[h1,List.length_map],?_,h4,?_,λk=>?_⟩
  ·rw[List.length_map] at h5;rw[show bq L=aJ (L.map λ(k:Nat)=>(k:Int)) from by unfold bq aJ;rw[List.map_map];rfl];exact h5
  ·rw[List.pairwise_map] at h3;exact h3.imp λh=>by omega
  ·rw[e,ey];constructor
   ·intro hk;obtain⟨g1,j,lj,e2,hj⟩:=(h2 (k:Int)).1 (bx.2 ⟨k,hk,rfl⟩);have:k=j:=by omega
    exact⟨⟨lj,by rw[this];exact hj⟩,g1⟩
   ·rintro⟨⟨lk,g1⟩,g2⟩;obtain⟨j,hj,e2⟩:=bx.1 ((h2 (k:Int)).2 ⟨g2,k,lk,rfl,g1⟩);have:k=j:=by omega
    rw[this];exact hj
 sto:=λw px X st F n s ⟨kl,h,e⟩=>(OA w px X.T X.made (iN X) X.rs kl F n s h).mono λe2 w' ⟨h1,_,h3⟩=>by
  refine⟨?_,h3⟩
  have fF:(decide (bD X.T n s=0)&&(bA kl n).isSome)=Rk X st n s:=by
   unfold Rk
   by_cases hq:bD X.T n s=0
   ·obtain⟨l,p,ht,_⟩:=nL hq;obtain⟨hm,hn⟩:=nh ht;rw[decide_eq_true hq,Bool.true_and,Bool.true_and]
    have hh:fQ st n=(bA kl n).isNone:=by
     rw[Bool.eq_iff_iff,hn,iB,e,ey];exact⟨λh=>h.2,λh=>⟨⟨l,hm⟩,h⟩⟩
    rw[hh];cases bA kl n<;>rfl
   ·rw[decide_eq_false hq];rfl
  have hv:oz X.T kl n s=if Rk X st n s=true then eD X.T X.M X.rs n s else 0:=by
   rw[<-fF]
   by_cases hq:bD X.T n s=0
   ·rw[decide_eq_true hq,Bool.true_and];cases hf:(bA kl n).isSome with
    | true=>
     rw[aE rfl,<-Jb];exact Mc h.kok hf
    | false=>
     rw[aA (by decide)];unfold oz;rw[aE hq];cases hk:bA kl n with
     | some s=>rw[hk] at hf;cases hf
     | none=>
      obtain⟨l,p,_,hp⟩:=nL hq;have:=xZ hp;rw[hp];show j3.getD p 0=0;unfold j3
      match p,this with
      | 0,_=>rfl
      | 1,_=>rfl
      | 2,_=>rfl
      | 3,_=>rfl
      | 4,_=>rfl
      | 5,_=>rfl
      | 6,_=>rfl
      | 7,_=>rfl
      | 8,_=>rfl
   ·rw[decide_eq_false hq,Bool.false_and,aA (by decide)];unfold oz;rw[aA hq]
  rw[h1,fF,hv]
 sli:=λw px X st F dC ⟨kl,h,e⟩=>(Oy w px X.T X.made (iN X) X.rs kl F dC h).mono λe2 w' ⟨n,dw,h1,h2,h3,h4,h5,h6⟩=>by
  subst e;exact⟨n,uW X.T dw,h1,W9 h.tw h2 h3 h4,⟨dw,h5,rfl⟩,h6⟩
end
section
variable {aa:List REl}
noncomputable def nU (aa l:List REl)(n:Int):Bool:=l.any λe=>e.sh&&fb aa n e.num
theorem Ic {l:List REl}{i:Nat}(h:i<l.length)(n:Int):nU aa (l.take (i+1)) n=(nU aa (l.take i) n||(l[i].sh&&fb aa n l[i].num)):=by
 unfold nU;rw[gj h,List.any_append];simp
theorem Q0 {M:Nat->Mk}{shn:Nat->Bool}(h:RE aa M shn)(n:Int):nU aa aa n=fm (aW aa) shn n:=by
 rw[Bool.eq_iff_iff];unfold nU fm aW;rw[List.any_map,List.any_eq_true,List.any_eq_true];constructor
 ·rintro⟨e,he,h1⟩;refine⟨e,he,?_⟩;show(shn e.num&&cu (aW aa) n e.num)=true;rw[lD,<-h.shw e he];exact h1
 ·rintro⟨e,he,h1⟩;refine⟨e,he,?_⟩;replace h1:(shn e.num&&cu (aW aa) n e.num)=true:=h1;rw[lD,<-h.shw e he] at h1;exact h1
section
theorem Id (w:World)(d:Nat)(aa:List REl)(ae:Nat)(hp:Option Addr)(vT:Value)(br:Bool)(vL:Value)(n:Int)(h:RD w d aa ae hp vT br vL)(rk:Nat->Nat)(hr:rN aa rk):
  Calls prog 87 #[.pointer (some ⟨d,0,none⟩),.int .i64 n] w λe w'=>e=.returned (.bool (nU aa aa n))/\w'=w:=by
 obtain⟨aL,cL,vq⟩:=h.shape;subst vq;have bJ:=h.few;have HR:=aw h;have HK:=aw hr;have d1:=h.c1;have RS:Hid (∀i (hi:i<aa.length),aa[i].sh=true->fb aa n aa[i].num=true->nU aa aa n=true):=λi hi h1 h2=>List.any_eq_true.2 ⟨_,bN hi,by rw[h1,h2];rfl⟩;clear h hr;go_enter func87,ntmps87;go_wp2_with fail
 go_loopg [5] aa.length (λgk iv wr=>∃i:Nat,iv=.int .i64 i/\i<=aa.length/\aa.length - i<=gk/\wr=w/\Hid (nU aa (aa.take i) n=false))
 case atStart=>exact⟨0,rfl,bm,by omega,rfl,rfl⟩
 case round=>
  obtain⟨i,rfl,jQ,fT,hwr,HN⟩:=hrel;obtain⟨w,rfl⟩:∃w2,w2=w:=⟨_,rfl⟩;subst hwr
  by_cases bc:i<aa.length
  ·have hd:decide ((i:Int)<(aa.length:Int))=true:=by simp;omega
   obtain⟨g,hg,q1⟩:=HR.out.at' bc;subst hg;have OZ:=HR.out.el aa[i] (bN bc);obtain⟨q2,_⟩:=eZ OZ;have q3:wr.cell? ⟨aa[i].blk,5,none⟩=some (.bool aa[i].sh):=au OZ rfl;have HT:Hid (nU aa (aa.take (i+1)) n=(nU aa (aa.take i) n||(aa[i].sh&&fb aa n aa[i].num))):=Ic bc n;have HY:=RS.out i bc;clear OZ;generalize aa[i]=x at q1 q2 q3 HT HY;obtain⟨xb,xn,xk,xd,xc,xm,xs,xh⟩:=x;cases xh with
   | false=>
    have oR:Hid (nU aa (aa.take (i+1)) n=false):=by unfold Hid;rw[HT.out,HN.out];rfl
    clear HT HY;go_wp2_with fail;go_roundg (aa.length - (i+1))
    case measure=>omega
    case rel=>exact⟨i+1,by go_num,by omega,aF,rfl,oR⟩
   | true=>
    go_wp2_with fail;refine(nR _ d aa ae hp vT br _ n xn HR.out rk HK.out).mono ?_;rintro e w2 ⟨r,rfl,rfl,HU⟩;obtain⟨wr,rfl⟩:∃wr,wr=w2:=⟨_,rfl⟩
    have Xu:Hid (fb aa n xn=r):=by
     unfold Hid;rw[Bool.eq_iff_iff,ko,HU.out]
    clear HU;cases r with
    | false=>
     have oR:Hid (nU aa (aa.take (i+1)) n=false):=by
      unfold Hid;rw[HT.out,HN.out];show(false||(true&&fb aa n xn))=false;rw[Xu.out];rfl
     clear HT HY Xu;go_wp2;go_roundg (aa.length - (i+1))
     case measure=>omega
     case rel=>exact⟨i+1,by go_num,by omega,aF,rfl,oR⟩
    | true=>
     have HE:Hid (nU aa aa n=true):=HY (by trivial) Xu.out;clear HT HY Xu;go_wp2;go_ret;rw[HE.out];exact⟨rfl,rfl⟩
  ·have hd:decide ((i:Int)<(aa.length:Int))=false:=by simp;omega
   obtain rfl:i=aa.length:=by omega
   rw[List.take_length] at HN;go_wp2;go_ret;rw[HN.out];exact⟨rfl,rfl⟩
end
section
variable {w:World}{d:Nat}{Y:YS}{F:Nat->Prop}
theorem Mv (h:RY w d Y F)(n:Int):Calls prog 87 #[.pointer (some ⟨d,0,none⟩),.int .i64 n] w λe w'=>e=.returned (.bool (fm Y.T Y.shn n))/\w'=w:=by
 obtain⟨aa,hp,vT,br,vL,Rr,Gs,hX,hA,_⟩:=h;obtain⟨rk,Td⟩:=pN hX.tw;rw[hA,<-Q0 hX.re];exact Id w d aa Y.made hp vT br vL n hX.rd rk Td
theorem Mu (h:RY w d Y F)(n:Int)(on:Bool):Calls prog 45 #[.pointer (some ⟨d,0,none⟩),.int .i64 n,.bool on] w λe w'=>e=.returned (.int .i64 (if(bF Y.T n).isSome then 0 else 5))/\RY w' d (oD Y n on) (cV F w)/\Fr w w' F:=by
 obtain⟨aa,hp,vT,br,vL,Rr,Gs,hX,hA,h1,h2,h3⟩:=h;refine(LJ w d aa Y.made hp vT br vL Rr Gs Y.M Y.shn Y.rs n on hX).mono ?_;rintro e w' (⟨hf,rfl,rfl⟩ | ⟨rfl,p,hf,Wl,fF⟩)
 ·have hT:bF Y.T n=none:=by rw[hA];exact cW hf
  have hy:oD Y n on=Y:=by unfold oD;rw[hT];rfl
  rw[hT,hy];exact⟨rfl,⟨aa,hp,vT,br,vL,Rr,Gs,hX,hA,λk hk=>ax (h1 k hk),λk hk=>ax (h2 k hk),λhh k hk=>ax (h3 hh k hk)⟩,Fr.refl _ _⟩
 ·have hT:bF Y.T n=some p.kids:=by rw[hA];exact cU hf
  have hy:oD Y n on={Y with shn:=mQ Y.shn n.toNat on}:=by unfold oD;rw[hT];rfl
  rw[hT,hy];refine⟨rfl,⟨_,hp,vT,br,vL,Rr,Gs,Wl,?_,λk hk=>ax (h1 k ((rZ (mA on) _ k).1 hk)),λk hk=>ax (h2 k hk),λhh k hk=>ax (h3 hh k hk)⟩,fF.mono h1⟩;show Y.T=_;rw[mW (mA on)];exact hA
theorem yP (h:RY w d Y F)(n:Int)(s:ByteArray):Calls prog 33 #[.pointer (some ⟨d,0,none⟩),.int .i64 n,.string s] w λe w'=>e=.returned (.tuple #[.int .i64 (eD Y.T Y.M Y.rs n s),.int .i64 (bD Y.T n s)])/\RY w' d Y (cV F w)/\Fr w w' F:=by
 obtain⟨aa,hp,vT,br,vL,Rr,Gs,hX,hA,h1,h2,h3⟩:=h;refine(ya w d aa Y.made hp vT br vL Rr Gs Y.M Y.shn Y.rs n s hX).mono ?_;intro e w' dn;unfold mT at dn;rw[<-hA] at dn;rcases dn with⟨he,rfl,rfl⟩ | ⟨he,rfl,vT2,hX2,jJ,bM⟩
 ·have WJ:eD Y.T Y.M Y.rs n s=0:=by unfold eD;rw[aA he]
  rw[WJ];exact⟨rfl,⟨aa,hp,vT,br,vL,Rr,Gs,hX,hA,λk hk=>ax (h1 k hk),λk hk=>ax (h2 k hk),λhh k hk=>ax (h3 hh k hk)⟩,Fr.refl _ _⟩
 ·rw[he];refine⟨rfl,⟨aa,hp,vT2,true,vL,Rr,Gs,hX2,hA,λk hk=>ax (h1 k hk),λk hk=>ax (h2 k hk),λ_ k hk=>?_⟩,bM.mono h1⟩;rcases jJ with⟨e1,e2⟩ | jJ
  ·rw[e1] at hk;exact ax (h3 e2 k hk)
  ·exact az (jJ k hk)
end
end
section
variable {kd:Int}{s:ByteArray}
theorem AO:∀{ks:List PPt} {i j:Nat},PartsAt s i j ks->i<=j
 | [],_,_,h=>by simp only[PartsAt] at h;omega
 | _ :: _,_,_,⟨_,_,h2,h3⟩=>by have:=AO h3;have:=lb h2;omega
theorem oq:∀{ks:List PPt} {i j:Nat},PartsAt s i j ks->∀p∈ks,(p.kd=2∨p.kd=3)->∃n,i<=n/\n+2<=j/\bt s n=uU p.kd/\p.lt=(bt s (n+1):Int)/\gN (bt s (n+1))=true
 | [],_,_,_=>λp hp=>by cases hp
 | _ :: _,_,_,⟨_,_,h2,h3⟩=>λp hp hk=>by
  have h4:=AO h3;have h5:=lb h2;rcases List.mem_cons.1 hp with rfl | hp
  ·obtain⟨n,e1,e2,e3⟩:=AN h2 hk;exact⟨n,e1,by omega,e3⟩
  ·obtain⟨n,e1,e2,e3⟩:=oq h3 p hp hk;exact⟨n,by omega,e2,e3⟩
theorem Km {i j ty:Nat}{ks:List PPt}(h:fp s i j ty ks){p:PPt}(hp:p∈ks)(hk:p.kd=2∨p.kd=3):∃n,i<=n/\n+2<=j/\bt s n=uU p.kd/\p.lt=(bt s (n+1):Int)/\gN (bt s (n+1))=true:=by
 rcases h with⟨_,_,h⟩ | ⟨_,_,_,h⟩ | ⟨_,_,_,h,_⟩
 ·obtain⟨n,e1,e2⟩:=oq h p hp hk;exact⟨n,by omega,e2⟩
 ·obtain⟨n,e1,e2⟩:=oq h p hp hk;exact⟨n,by omega,e2⟩
 ·exact oq h p hp hk
theorem VZ {t:ByteArray}(h1:s.size=t.size)(h2:∀i,i<s.size->bt s i=bt t i):s=t:=by
 apply ByteArray.ext;apply Array.ext
 ·exact h1
 ·intro i XI Wt;have h:=h2 i XI;rw[bV s i XI,bV t i Wt] at h;exact UInt8.toNat_inj.1 h
theorem Rel2.bwd {α β:Type}{R:α->β->Prop}{l:List α}{m:List β}(h:Rel2 R l m){y:β}(hy:y∈m):∃x∈l,R x y:=by
 obtain⟨i,hi,rfl⟩:=List.getElem_of_mem hy;have hl:i<l.length:=by rw[h.1];exact hi
 exact⟨l[i],bN hl,h.2 i _ _ (bW hl) (bW hi)⟩
theorem B9 {Rr:List eI}{rs:List dx}(h:Rel2 y9 Rr rs){lt:Int}(hk:kd=2∨kd=3)(hn:dD rs kd lt=true):∃c:Nat,lt=(c:Int)/\gN c=true/\∀t u:ByteArray,u.size=1->bt u 0=uU kd->t.size=1->bt t 0=c->fY Rr (u++t)=true:=by
 unfold dD at hn;obtain⟨r,hr,hn⟩:=List.any_eq_true.1 hn;obtain⟨cs,kr,hn⟩:=List.any_eq_true.1 hn;obtain⟨x,hx,hn⟩:=List.any_eq_true.1 hn;obtain⟨p,hp,hn⟩:=List.any_eq_true.1 hn;rw[Bool.and_eq_true,bO,bO] at hn;obtain⟨h1,rfl⟩:=hn;obtain⟨rr,hrr,hR⟩:=h.bwd hr;obtain⟨uO,hrcs,hS⟩:=hR.sels.bwd kr;obtain⟨rc,hrc,_,s,a,b,h4,KH,hb,Pp,hC⟩:=hS.rel.bwd hx;obtain⟨n,e1,e2,e3,e4,e5⟩:=Km hC hp (by rw[h1];exact hk);refine⟨bt s (n+1),e4,e5,λt u hu hu0 ht ht0=>List.any_eq_true.2 ⟨rr,hrr,List.any_eq_true.2 ⟨uO,hrcs,List.any_eq_true.2 ⟨rc,hrc,?_⟩⟩⟩⟩;have il:rc.tx.size=b - a:=by rw[Pp,ByteArray.size_extract];omega
 refine QV (n:=n - a) (by omega) (rS.2 (VZ ?_ λi hi=>?_))
 ·rw[ByteArray.size_extract,ByteArray.size_append,hu,ht];omega
 ·have Wt:i<2:=by
   rw[ByteArray.size_extract] at hi;omega
  rw[bj (by omega) (by omega),Pp,bj hb (by omega),NA i (by omega),hu]
  by_cases e:i=0
  ·subst e;rw[aE (by omega),hu0,<-h1,<-e3]
   congr 1
   omega
  ·obtain rfl:i=1:=by omega
   rw[aA (by omega),ht0]
   congr 1
   omega
theorem Jj (c:UInt8)(h:c.toNat=uU kd):(⟨#[c]⟩:ByteArray).size=1/\bt ⟨#[c]⟩ 0=uU kd:=⟨rfl,h⟩
theorem Oj {cl:ByteArray}{on:Bool}(hs:aQ s=true)(h:ta (bt s 0) cl≠on):(cl.size:Int)≠((je cl s on).size:Int):=by
 have Pi:s.size=1:=by
  unfold aQ at hs;rw[Bool.and_eq_true,bO] at hs;exact hs.1
 have e1:(i5 cl (bt s 0) cl.size).size=((rA cl).filter λx=>decide (x≠bt s 0)).length:=by
  rw[<-jl,BF cl.size aF,<-jl cl,List.take_length]
 unfold je;cases on with
 | true=>
  have hn:bt s 0 ∉ rA cl:=λhm=>h (vB.2 hm)
  have e2:((rA cl).filter λx=>decide (x≠bt s 0))=rA cl:=List.filter_eq_self.2 λx hx=>by
   rw[bO];exact λe=>hn (e▸hx)
  rw[aE rfl,ByteArray.size_append,e1,e2,jl];omega
 | false=>
  have hm:bt s 0∈rA cl:=by
   cases ha:ta (bt s 0) cl with
   | true=>exact vB.1 ha
   | false=>exact absurd ha h
  rw[aA (by decide),e1]
  have h3:((rA cl).filter λx=>decide (x≠bt s 0)).length<(rA cl).length:=by
   rw[List.length_filter_lt_length_iff_exists];exact⟨_,hm,by simp⟩
  rw[jl] at h3;omega
theorem WO:oH QSt ISt where
 ins:=λ{X st K an af aj X' cN K'} hi hl hr=>by
  obtain⟨y,n,hy,⟨h1,h2,h3⟩,⟨h4,rfl⟩ | ⟨h4,e1,e2,e3,e4,e5⟩⟩:=hr
  ·have hX:X'.T=X.T/\X'.shn=X.shn:=by
    refine⟨?_,by rw[hy.2.2.1,aA h4]⟩;rcases hy.1.2 with⟨_,_,h,_⟩ | ⟨h,_⟩
    ·exact h
    ·exact absurd h h4
   exact(hi.other hX.1 hX.2).same h1 (h2.none λk hk=>h4 hk.1)
  ·refine ISt.spoilt h1 (λk hk=>?_) (λk hk=>?_) e4 e5 (by rw[e3];exact hi.seen)
   ·rw[e1] at hk;rcases j9.1 hk with hk | rfl
    ·exact h2.1 k (hi.must k hk)
    ·exact h3 h4
   ·rw[e2,lK];rcases h2.2 k hk with gg | ⟨_,gg | gg⟩
    ·exact ax (j9.2 (ax (hi.may k gg)))
    ·exact ax (j9.2 (az gg))
    ·exact az ⟨h1.2 k hk,gg⟩
 rem:=λ{X st K n X' cN K'} hi hl hr=>by
  obtain⟨y,hy,⟨h1,h2,h3⟩,⟨h4,rfl⟩ | ⟨h4,e1,e2,e3,e4,e5⟩⟩:=hr
  ·have hX:X'.T=X.T:=by
    rcases hy.1.2 with⟨_,h⟩ | ⟨h,_⟩
    ·exact h
    ·exact absurd h h4
   refine(hi.other hX hy.2.2.2.1).same h1 (λk=>⟨λhk=>(h3 k hk).resolve_right λh=>h4 h.1,λhk=>h2 k hk ?_⟩);obtain⟨c,hc⟩:=hi.lt.2 k hk;rw[hX];exact Is hc
  ·refine ISt.spoilt h1 (λk hk=>?_) (λk hk=>?_) e4 e5 (by rw[e3];exact hi.seen)
   ·rw[e1] at hk;obtain⟨qa,gg⟩:=AH.1 hk;exact h2 k (hi.must k qa) gg
   ·rw[e2,lK];obtain⟨c,hc⟩:=h1.2 k hk;rcases h3 k hk with gg | gg
    ·exact ax (AH.2 ⟨hi.may k gg,Is hc⟩)
    ·exact az ⟨⟨c,hc⟩,gg.2⟩
 mov:=λ{X st K n m af X' cN K'} hi hl hr=>by
  obtain⟨y,hy,⟨h1,h2⟩,⟨h4,rfl⟩ | ⟨h4,e1,e2,e3,e4,e5⟩⟩:=hr
  ·have hX:X'.T=X.T:=by
    rcases hy.1.2 with⟨_,h⟩ | ⟨h,_⟩
    ·exact h
    ·exact absurd h h4
   exact(hi.other hX hy.2.2.2.1).same h1 (h2.none λk hk=>h4 hk.1)
  ·refine ISt.spoilt h1 (λk hk=>h2.1 k (hi.must k (by rw[<-e1];exact hk))) (λk hk=>?_) e4 e5 (by rw[e3];exact hi.seen);rw[e2,lK,lK];rcases h2.2 k hk with gg | ⟨_,gg | gg⟩
   ·exact ax (ax (hi.may k gg))
   ·exact ax (az ⟨h1.2 k hk,gg⟩)
   ·exact az ⟨h1.2 k hk,gg⟩
 cls:=λ{X st K n s on X' cN K'} hi hl hr=>by
  obtain⟨rfl,⟨h1,h2⟩,hK⟩:=hr;have hX:(eX X n s on).T=X.T/\(eX X n s on).shn=X.shn:=by unfold eX;split<;>exact⟨rfl,rfl⟩
  rcases hK with⟨h4,rfl⟩ | ⟨h4,hs,Rr,cl,hR,_,ha,hK⟩
  ·exact(hi.other hX.1 hX.2).same h1 (h2.none λk hk=>h4 hk.1)
  ·refine hK.inv hi hX.1 hX.2 h1 h2 (λk ⟨_,qa,gg,pp⟩=>⟨?_,qa⟩);obtain⟨c,e1,e2,e3⟩:=B9 hR (ax rfl) gg;have hb:bt s 0=c:=by omega
   have Pi:s.size=1:=by
    unfold aQ at hs;rw[Bool.and_eq_true,bO] at hs;exact hs.1
   have ho:=Jj (kd:=2) 46 rfl;rw[Bool.and_eq_true,bO];refine⟨e3 s _ ho.1 ho.2 Pi hb,Oj hs ?_⟩;rw[ha];unfold gN at e2;rw[<-hb] at e2;rw[e2,Bool.true_and];exact pp
 nam:=λ{X st K n s X' cN K'} hi hl hr=>by
  obtain⟨rfl,⟨h1,h2⟩,hK⟩:=hr;have hX:(eY X n s).T=X.T/\(eY X n s).shn=X.shn:=by unfold eY;split<;>exact⟨rfl,rfl⟩
  rcases hK with⟨h4,rfl⟩ | ⟨h4,hs,Rr,nm,hR,uC,hK⟩
  ·exact(hi.other hX.1 hX.2).same h1 (h2.none λk hk=>h4 hk.1)
  ·refine hK.inv hi hX.1 hX.2 h1 h2 (λk ⟨_,qa,gg,pp⟩=>⟨?_,qa⟩)
   have one:∀t:ByteArray,aQ t=true->t.size=1:=λt h=>by
    unfold aQ at h;rw[Bool.and_eq_true,bO] at h;exact h.1
   have ho:=Jj (kd:=3) 35 rfl;have aaZ:(fW (X.M n.toNat) s).nm=if s.size=0 then 0 else(bt s 0:Int):=by unfold fW;split<;>rfl
   unfold AJ;rw[Bool.and_eq_true,Bool.not_eq_true',Bool.or_eq_true,Bool.and_eq_true,Bool.and_eq_true,bO,bO];refine⟨?_,?_⟩
   ·cases hb:(nm.toList==s.toList) with
    | false=>rfl
    | true=>
     have:=rS.1 hb;subst this;exfalso;apply gg;rw[aaZ];rcases uC with⟨h5,h6⟩ | ⟨h5,h6⟩
     ·rw[h6,aE h5]
     ·rw[h6,aA (by rw[one nm h5];decide)]
   ·rcases pp with pp | pp
    ·obtain⟨c,e1,e2,e3⟩:=B9 hR (az rfl) pp;refine ax ?_;unfold gN at e2;rw[bO] at e2;rcases uC with⟨h5,h6⟩ | ⟨h5,h6⟩
     ·omega
     ·have h7:=one nm h5;exact⟨by omega,e3 nm _ ho.1 ho.2 h7 (by omega)⟩
    ·obtain⟨c,e1,e2,e3⟩:=B9 hR (az rfl) pp;refine az ?_;unfold gN at e2;rw[bO] at e2;rw[aaZ] at e1
     by_cases h0:s.size=0
     ·rw[aE h0] at e1;omega
     ·rw[aA h0] at e1;have h7:=one s (hs.resolve_left h0);exact⟨h0,e3 s _ ho.1 ho.2 h7 (by omega)⟩
 sht:=λ{X st K s X' cN K'} hi hl hr=>by
  obtain⟨rfl,⟨h1,h2,h3⟩,hK⟩:=hr;have hX:(ik X s).T=X.T/\(ik X s).shn=X.shn:=by unfold ik;split<;>exact⟨rfl,rfl⟩
  rcases hK with⟨h4,rfl⟩ | ⟨h4,e1,e2,e3,e4,e5⟩
  ·exact(hi.other hX.1 hX.2).same h1 (λk=>⟨h3 h4 k,h2 k⟩)
  ·refine ISt.spoilt h1 (λk hk=>h2 k (hi.must k (by rw[<-e1];exact hk))) (λk hk=>?_) e4 e5 (by rw[e3];exact hi.seen);obtain⟨c,hc⟩:=h1.2 k hk;rw[hX.1] at hc;rw[e2];exact bx.2 ⟨_,hc,rfl⟩
 qry:=λ{X st K n s X' cN K'} hi hl hr=>by
  obtain⟨rfl,⟨h1,h2⟩,hK⟩:=hr;rcases hK with⟨h4,rfl⟩ | ⟨h4,e1,e2,j,hj,_,he⟩
  ·exact hi.same h1 (λk=>(h2 k).trans ⟨λh=>h.1,λh=>⟨h,λh5=>h4 h5.1⟩⟩)
  ·obtain⟨g0,g1,g2,g3⟩:=Jn X'.T n hi.lt.1 hi.must hi.may hi.cnt j;have hb:=Qu X'.T n (K.lm,K.ly,K.cnt) ⟨hi.lo,hi.hi⟩ j;rw[<-he] at g1 g2 g3 hb
   have hs:∀k,k∈cN↔k∈ug X'.T n st j:=λk=>by
    rw[h2 k,Fl];constructor
    ·rintro⟨h5,h6⟩;exact⟨h5,λi Wu e=>h6 ⟨h4,(uX hj).2 ⟨i,Wu,e⟩⟩⟩
    ·rintro⟨h5,h6⟩;refine⟨h5,λh7=>?_⟩;obtain⟨i,Wu,e⟩:=(uX hj).1 h7.2;exact h6 i Wu e
   exact⟨h1,λk hk=>(hs k).2 (g1 k hk),λk hk=>g2 k ((hs k).1 hk),λh=>by rw[yk h1.1 g0 hs];exact g3 h,hb.1,hb.2,by rw[e1];exact hi.seen,λh=>by rw[e2] at h;cases h⟩
 cnt:=λh=>⟨h.lo,h.hi⟩
end
def zq (a b:Int):Int:=if a<b then a else b
theorem AB (w:World)(a b:Int):Calls prog 84 #[.int .i64 a,.int .i64 b] w λe w'=>e=.returned (.int .i64 (zq a b))/\w'=w:=by
 unfold zq
 by_cases h:a<b
 ·have hd:decide (a<b)=true:=by simpa using h
  rw[aE h];clear h;go_enter func84,ntmps84;go_wp2;go_ret;exact⟨rfl,rfl⟩
 ·have hd:decide (a<b)=false:=by simpa using h
  rw[aA h];clear h;go_enter func84,ntmps84;go_wp2;go_ret;exact⟨rfl,rfl⟩
section
variable {PS:World->Value->YS->List Nat->(Nat->Prop)->Prop}{Q:fu->YS->List Nat->YS->List Nat->Prop}{w0:World}{G:Nat->Prop}{w:World}{b:Nat}{X Y:YS}{st:List Nat}{px:Value}{d:Nat}{K:gK}
theorem PQ2.noMust (hP:cP PS Q)(h:PQ2 PS w0 G w b X st Y px d K):PQ2 PS w0 G (w.setCell ⟨b,2,none⟩ (.slice none 0 0)) b X st Y px d {K with vm:=.slice none 0 0,lm:=[]}:=
 h.setMust hP (Below.refl _ w) (l':=[]) eB (λj hj=>by simp[Value.ownBlock] at hj)
theorem PQ2.noMay (hP:cP PS Q)(h:PQ2 PS w0 G w b X st Y px d K):PQ2 PS w0 G (w.setCell ⟨b,3,none⟩ (.slice none 0 0)) b X st Y px d {K with vy:=.slice none 0 0,ly:=[]}:=
 h.setMay hP (Below.refl _ w) (l':=[]) eB (λj hj=>by simp[Value.ownBlock] at hj)
end
theorem ISt.slice {X:YS}{st cN:List Nat}{K K':gK}{dC:Int}{n:Nat}(h:ISt X st K)(hs:VR X st cN dC n)(h1:∀k∈K'.lm,k∈cN)(h2:∀k∈cN,k∈K'.ly)(h3:0<=K'.cnt->K'.cnt=cN.length)(h4:-1<=K'.cnt)(h5:K'.cnt<=24)(h6:K'.ls=K.ls)(h7:K'.held=K.held):ISt X cN K':=by
 obtain⟨_,_,g3,g4,g5⟩:=hs;refine⟨g3,h1,h2,h3,h4,h5,by rw[h6];exact h.seen,λhh=>?_⟩;rw[h7] at hh;obtain⟨e1,e2⟩:=h.held hh;rw[h6];refine⟨λk hk=>e1 k (g4 k hk),λ⟨k,hk,hw⟩ j hj hn=>?_⟩
 by_cases MJ:j∈st
 ·exact g5 ⟨k,hk,hw⟩ j MJ hn
 ·exact e2 ⟨k,g4 k hk,hw⟩ j hj MJ
def Bz (X:YS)(X':YS)(cN:List Nat)(K':gK):Prop:=X'=X/\ISt X cN K'
theorem EM {PS:World->Value->YS->List Nat->(Nat->Prop)->Prop}{Q:fu->YS->List Nat->YS->List Nat->Prop}(hP:kV PS Q)(w:World)(b:Nat)(X:YS)(st:List Nat)(pa:Addr)(d:Nat)(K:gK)(G Fp Fx Fy:Nat->Prop)
  (h:PJ2 PS w b X st X (.pointer (some pa)) d K Fp Fx Fy) (hG:∀k,Fp k∨Fx k∨Fy k->G k) (lH:s9 X.T K) (hi:ISt X st K) (dC:Int) :
  Calls prog 47 #[.pointer (some ⟨b,0,none⟩),.int .i64 dC] w λe w'=>TurnPost2 PS w G b (.pointer (some pa)) d (Bz X) e w':=by
 have HP:=aw hP;have HW:=bZ lH hi;have H0:=aw (PQ2.start h hG);clear h hP lH hG hi Fp Fx Fy;obtain⟨Fx,qD,qb⟩:=H0.out.prog HP.out.tocP;have tm:Hid (PS w (.pointer (some pa)) X st Fx/\∀w1 X1 bE,PS w1 (.pointer (some pa)) X1 bE (cV Fx w)->Fr w w1 Fx->PQ2 PS w G w1 b X1 bE X (.pointer (some pa)) d K):=⟨qD,qb⟩;clear qD qb;have HB:Hid (∀{wx:World} {X1 bE Y1 K1},PQ2 PS w G wx b X1 bE Y1 (.pointer (some pa)) d K1->wx.heap[b]?=some (.cells #[.pointer (some pa),.pointer (some ⟨d,0,none⟩),K1.vm,K1.vy,.int .i64 K1.cnt,K1.vs,.bool K1.held] 56 (0,0))):=λhq=>hq.pb.blk;have b0:w.cell? ⟨b,0,none⟩=some (.pointer (some pa)):=au (HB.out H0.out) rfl;have bJ:=H0.out.few;have Pa:K.lm.length<=24:=by have:=HW.out.1.1.len;omega
 have tQ:K.ly.length<=24:=by have:=HW.out.1.2.len;omega
 have aen:st.length<=24:=by have:=HW.out.2.lt.len;omega
 have ad9:=B8 HW.out.1.1.1 HW.out.2.must;have aea:=B8 HW.out.2.lt.1 HW.out.2.may;obtain⟨am,cm,yV⟩:=aK H0.out.must;obtain⟨ay,cy,hvy⟩:=aK H0.out.may;have yR:=bZ yV hvy;clear yV hvy;go_enter func47,ntmps47;go_wp2_with fail;refine(HP.out.sli w (.pointer (some pa)) X st Fx dC tm.out.1).mono ?_;rintro e w1 ⟨n,cN,rfl,CT,d9,hfr1⟩;have kY:=aw (tm.out.2 w1 X cN d9 hfr1);have rz:=aw CT;have kU:=bZ CT.1 CT.2.1;have b2:w1.cell? ⟨b,2,none⟩=some (.slice am K.lm.length cm):=by rw[<-yR.out.1];exact au (HB.out kY.out) rfl
 have b3:w1.cell? ⟨b,3,none⟩=some (.slice ay K.ly.length cy):=by rw[<-yR.out.2];exact au (HB.out kY.out) rfl
 have b4:w1.cell? ⟨b,4,none⟩=some (.int .i64 K.cnt):=au (HB.out kY.out) rfl;have ez:∀k,w1.frozen? ⟨b,k,none⟩=false:=λ_=>aH (HB.out kY.out);have jM:=(bG.1 (HB.out kY.out)).1;have lX:=HW.out.2.lo;have hch:=HW.out.2.hi;have HC:=aw HW.out.2.cnt;clear CT d9 hfr1 b0 tm;obtain⟨bu,SR⟩:∃bu:Nat,bu=dC.toNat:=⟨_,rfl⟩;have HBU:=aw SR;clear SR;go_upto_if 15 with fail
 go_cut [1] (λbv wx=>bv=.int .i64 bu/\wx=w1)
 case first=>
  by_cases hneg:dC<0
  ·have gn:decide (dC<0)=true:=by simpa using hneg
   have oE:Hid ((0:Int)=bu):=by have:=HBU.out;unfold Hid;omega
   rw[gn];clear hneg gn;go_wp2_with fail;go_meet;exact⟨by rw[<-oE.out],rfl⟩
  ·have gn:decide (dC<0)=false:=by simpa using hneg
   have oE:Hid (dC=bu):=by have:=HBU.out;unfold Hid;omega
   rw[gn];clear hneg gn;go_wp2_with fail;go_meet;exact⟨by rw[<-oE.out],rfl⟩
 case rest=>
  obtain⟨rfl,rfl⟩:=hcut;obtain⟨w1,rfl⟩:∃w1,w1=wc:=⟨_,rfl⟩;obtain⟨fe,D1⟩:∃fe:Nat,fe=if 0<=K.cnt then st.length else K.lm.length:=⟨_,rfl⟩
  obtain⟨ma,KS⟩:∃ma:Nat,ma=if 0<=K.cnt then st.length else K.ly.length:=⟨_,rfl⟩
  have Q9:=aw D1;have Vz:=aw KS;clear D1 KS;go_upto_if 30 with fail
  go_cut [6,7] (λfv mv wx=>fv=.int .i64 fe/\mv=.int .i64 ma/\wx=w1)
  case first=>
   by_cases hc:0<=K.cnt
   ·have gc:decide (0<=K.cnt)=true:=by simpa using hc
    have JU:Hid (K.cnt=(fe:Int)/\K.cnt=(ma:Int)):=by
     rw[Q9.out,Vz.out,aE hc,aE hc];exact⟨HC.out hc,HC.out hc⟩
    rw[gc];clear hc gc;go_wp2_with fail;go_meet;exact⟨by rw[<-JU.out.1],by rw[<-JU.out.2],rfl⟩
   ·have gc:decide (0<=K.cnt)=false:=by simpa using hc
    have JU:Hid (K.lm.length=fe/\K.ly.length=ma):=by
     rw[Q9.out,Vz.out,aA hc,aA hc];exact⟨rfl,rfl⟩
    rw[gc];clear hc gc;go_wp2_with fail;go_meet;exact⟨by rw[<-JU.out.1],by rw[<-JU.out.2],rfl⟩
  case rest=>
   obtain⟨rfl,rfl,rfl⟩:=hcut;obtain⟨w1,rfl⟩:∃w1,w1=wc:=⟨_,rfl⟩;obtain⟨CO,Am⟩:=kU.out;have SR:=HBU.out
   have g1:decide ((n:Int)<zq bu fe)=false:=by
    have:fe<=st.length:=by rw[Q9.out];split<;>omega
    unfold zq;simp;split<;>omega
   have g2:decide (zq bu ma<(n:Int))=false:=by
    have:st.length<=ma:=by rw[Vz.out];split<;>omega
    unfold zq;simp;split<;>omega
   have Ul:Hid (n=0->ISt X cN K):=λh0=>by
    refine HW.out.2.same rz.out.2.2.1 λk=>⟨rz.out.2.2.2.1 k,λhk=>?_⟩;refine Classical.byContradiction λhx=>?_
    have:=dG (l:=k :: cN) (m:=st) (List.nodup_cons.2 ⟨hx,rz.out.2.2.1.1⟩) (λj hj=>by
     rcases List.mem_cons.1 hj with rfl | hj
     ·exact hk
     ·exact rz.out.2.2.2.1 j hj)
    rw[List.length_cons] at this;omega
   have fC:Hid (∀W K1,PQ2 PS w G W b X cN X (.pointer (some pa)) d K1->K1.ls=K.ls->K1.held=K.held->(0<=K1.cnt->K1.cnt=cN.length)->-1<=K1.cnt->K1.cnt<=24->(K1.ly=K.ly∨(K1.ly=[]/\cN=[]))->TurnPost2 PS w G b (.pointer (some pa)) d (Bz X) (.returned (.bool true)) (W.setCell ⟨b,2,none⟩ (.slice none 0 0))):=λW K1 hq e1 e2 e3 e4 e5 e6=>by
    refine⟨rfl,X,cN,_,hq.noMust HP.out.tocP,⟨⟨List.nodup_nil,λk hk=>by cases hk⟩,?_⟩,rfl,HW.out.2.slice rz.out (λk hk=>by cases hk) (λk hk=>?_) e3 e4 e5 e1 e2⟩
    ·show LT X.T K1.ly;rcases e6 with e6 | ⟨e6,_⟩
     ·rw[e6];exact HW.out.1.2
     ·rw[e6];exact⟨List.nodup_nil,λk hk=>by cases hk⟩
    ·show k∈K1.ly;rcases e6 with e6 | ⟨_,e6⟩
     ·rw[e6];exact HW.out.2.may k (rz.out.2.2.2.1 k hk)
     ·rw[e6] at hk;cases hk
   have HEM:Hid (n=st.length->cN=[]):=λh=>List.eq_nil_of_length_eq_zero (by omega);have WA:n<=bu:=by omega
   have aji:n<=24:=by omega
   have FH:Hid (n<bu->n=st.length):=λh=>by omega
   clear Q9 Vz Pa tQ ad9 aea CO Am SR kU;have HLA:Hid (∀W,Calls prog 84 #[.int .i64 bu,.int .i64 fe] W λe w'=>e=.returned (.int .i64 (zq bu fe))/\w'=W):=λW=>AB W bu fe;have HLB:Hid (∀W,Calls prog 84 #[.int .i64 bu,.int .i64 ma] W λe w'=>e=.returned (.int .i64 (zq bu ma))/\w'=W):=λW=>AB W bu ma;generalize zq bu fe=L1 at g1 HLA;generalize zq bu ma=L2 at g2 HLB;go_wp2_with fail;refine(HLA.out _).mono ?_;rintro e w2 ⟨rfl,rfl⟩;obtain⟨w1,rfl⟩:∃w1,w1=w2:=⟨_,rfl⟩;go_wp2_with fail;refine(HLB.out _).mono ?_;rintro e w2 ⟨rfl,rfl⟩;obtain⟨w1,rfl⟩:∃w1,w1=w2:=⟨_,rfl⟩;clear HLA HLB;obtain⟨z0,UY⟩:∃z0:Bool,z0=decide (n=0/\bu=0):=⟨_,rfl⟩;have YA:=aw UY;clear UY;go_upto_region 11 with fail
   go_cut [56] (λpv wx=>pv=.bool z0/\wx=w1)
   case first=>
    by_cases UM:n=0
    ·have gn:((n:Int)==0)=true:=by simp[UM]
     by_cases lW:bu=0
     ·have gb:((bu:Int)==0)=true:=by simp[lW]
      have HZ:Hid (true=z0):=by unfold Hid;rw[YA.out,decide_eq_true ⟨UM,lW⟩]
      clear UM lW;go_wp2_with fail;go_meet;exact⟨by rw[HZ.out],rfl⟩
     ·have gb:((bu:Int)==0)=false:=by simp[lW]
      have HZ:Hid (false=z0):=by unfold Hid;rw[YA.out,decide_eq_false (λh=>lW h.2)]
      clear UM lW;go_wp2_with fail;go_meet;exact⟨by rw[HZ.out],rfl⟩
    ·have gn:((n:Int)==0)=false:=by simp[UM]
     have HZ:Hid (false=z0):=by unfold Hid;rw[YA.out,decide_eq_false (λh=>UM h.1)]
     clear UM;go_wp2_with fail;go_meet;exact⟨by rw[HZ.out],rfl⟩
   case rest=>
    obtain⟨rfl,rfl⟩:=hcut;obtain⟨w1,rfl⟩:∃w1,w1=wc:=⟨_,rfl⟩;cases z0 with
    | true=>
     have HE:Hid (TurnPost2 PS w G b (.pointer (some pa)) d (Bz X) (.returned (.bool true)) w1):=by
      have h0:=of_decide_eq_true YA.out.symm;exact⟨rfl,X,cN,K,kY.out,HW.out.1,rfl,Ul.out h0.1⟩
     go_wp2;go_ret;exact HE.out
    | false=>
     clear YA Ul;go_upto_if 61 with fail
     go_cut [] (λwx=>Hid (∃c1,PQ2 PS w G wx b X cN X (.pointer (some pa)) d {K with cnt:=c1}/\(0<=c1->c1=cN.length)/\-1<=c1/\c1<=24))
     case first=>
      by_cases hc:0<=K.cnt
      ·have gc:decide (0<=K.cnt)=true:=by simpa using hc
       have JU:Hid (PQ2 PS w G (w1.setCell ⟨b,4,none⟩ (.int .i64 (K.cnt - n))) b X cN X (.pointer (some pa)) d {K with cnt:=K.cnt - n}):=kY.out.setCnt HP.out.tocP _
       have C2:Hid ((0<=K.cnt - n->K.cnt - n=cN.length)/\-1<=K.cnt - n/\K.cnt - n<=24):=by
        have h1:=HC.out hc;have h2:=rz.out.2.1;exact⟨λ_=>by omega,by omega,by omega⟩
       rw[gc];clear gc;go_wp2_with fail;go_meet;exact⟨_,JU.out,C2.out⟩
      ·have gc:decide (0<=K.cnt)=false:=by simpa using hc
       have C2:Hid (0<=K.cnt->K.cnt=cN.length):=λh=>absurd h hc;rw[gc];clear gc hc;go_wp2_with fail;go_meet;exact⟨K.cnt,kY.out,C2.out,lX,hch⟩
     case rest=>
      obtain⟨c1,sd,lZ,zf,Wr⟩:=hcut.out;have iL:=aw sd;have Ry:=aw lZ;clear hcut b2 b3 b4 ez jM kY sd lZ g1 g2;have b3:wc.cell? ⟨b,3,none⟩=some (.slice ay K.ly.length cy):=by rw[<-yR.out.2];exact au (HB.out iL.out) rfl
      have b4:wc.cell? ⟨b,4,none⟩=some (.int .i64 c1):=au (HB.out iL.out) rfl;have ez:∀k,wc.frozen? ⟨b,k,none⟩=false:=λ_=>aH (HB.out iL.out);have jM:=(bG.1 (HB.out iL.out)).1;obtain⟨w1,rfl⟩:∃w1,w1=wc:=⟨_,rfl⟩;obtain⟨z1,gA⟩:∃z1:Bool,z1=decide (n<bu∨c1=0):=⟨_,rfl⟩;have Xz:=aw gA;clear gA;go_upto_region 15 with fail
      go_cut [80] (λpv wx=>pv=.bool z1/\wx=w1)
      case first=>
       by_cases bc:n<bu
       ·have gl:decide ((n:Int)<(bu:Int))=true:=by simp;omega
        have HZ:Hid (true=z1):=by unfold Hid;rw[Xz.out,decide_eq_true (ax bc)]
        go_wp2_with fail;go_meet;exact⟨by rw[HZ.out],rfl⟩
       ·have gl:decide ((n:Int)<(bu:Int))=false:=by simp;omega
        by_cases h0:c1=0
        ·have gc:(c1==0)=true:=by simp[h0]
         have HZ:Hid (true=z1):=by unfold Hid;rw[Xz.out,decide_eq_true (az h0)]
         clear h0;go_wp2_with fail;go_meet;exact⟨by rw[HZ.out],rfl⟩
        ·have gc:(c1==0)=false:=by simp[h0]
         have HZ:Hid (false=z1):=by unfold Hid;rw[Xz.out,decide_eq_false (λh=>h.elim bc h0)]
         clear h0;go_wp2_with fail;go_meet;exact⟨by rw[HZ.out],rfl⟩
      case rest=>
       obtain⟨rfl,rfl⟩:=hcut;obtain⟨w1,rfl⟩:∃w1,w1=wc:=⟨_,rfl⟩;have b2:w1.cell? ⟨b,2,none⟩=some (.slice am K.lm.length cm):=by rw[<-yR.out.1];exact au (HB.out iL.out) rfl
       cases z1 with
       | true=>
        have HE:Hid (TurnPost2 PS w G b (.pointer (some pa)) d (Bz X) (.returned (.bool true)) (((w1.setCell ⟨b,3,none⟩ (.slice none 0 0)).setCell ⟨b,4,none⟩ (.int .i64 0)).setCell ⟨b,2,none⟩ (.slice none 0 0))):=by
         have hs:cN=[]:=by
          rcases of_decide_eq_true Xz.out.symm with h1 | h1
          ·exact HEM.out (FH.out h1)
          ·have:=Ry.out (by omega);exact List.eq_nil_of_length_eq_zero (by omega)
         refine fC.out _ _ ((iL.out.noMay HP.out.tocP).setCnt HP.out.tocP 0) rfl rfl (λ_=>?_) (by show(-1:Int)<=0;omega) (by show(0:Int)<=24;omega) (az ⟨rfl,hs⟩);show(0:Int)=(cN.length:Int);rw[hs];rfl
        clear fC Xz FH HEM;go_wp2;go_ret;exact HE.out
       | false=>
        have HE:Hid (TurnPost2 PS w G b (.pointer (some pa)) d (Bz X) (.returned (.bool true)) (w1.setCell ⟨b,2,none⟩ (.slice none 0 0))):=fC.out _ _ iL.out rfl rfl Ry.out zf Wr (ax rfl);clear fC Xz FH HEM;go_wp2;go_ret;exact HE.out
theorem uN {PS:World->Value->YS->List Nat->(Nat->Prop)->Prop}{Q:fu->YS->List Nat->YS->List Nat->Prop}(hP:kV PS Q)(w:World)(b:Nat)(X:YS)(st:List Nat)(pa:Addr)(d:Nat)(K:gK)(G Fp Fx Fy:Nat->Prop)
  (h:PJ2 PS w b X st X (.pointer (some pa)) d K Fp Fx Fy) (hG:∀k,Fp k∨Fx k∨Fy k->G k) (lH:s9 X.T K) (hi:ISt X st K) (n:Int) (s:ByteArray) :
  Calls prog 46 #[.pointer (some ⟨b,0,none⟩),.int .i64 n,.string s] w λe w'=>TurnPost2 PS w G b (.pointer (some pa)) d (Bz X) e w':=by
 have HP:=aw hP;have HW:=bZ lH hi;have H0:=aw (PQ2.start h hG);clear h hP lH hG hi Fp Fx Fy;obtain⟨Fx,qD,_⟩:=H0.out.prog HP.out.tocP;have tm:=aw qD;clear qD;have HB:Hid (∀{wx:World} {X1 bE Y1 K1},PQ2 PS w G wx b X1 bE Y1 (.pointer (some pa)) d K1->wx.heap[b]?=some (.cells #[.pointer (some pa),.pointer (some ⟨d,0,none⟩),K1.vm,K1.vy,.int .i64 K1.cnt,K1.vs,.bool K1.held] 56 (0,0))):=λhq=>hq.pb.blk;have b0:w.cell? ⟨b,0,none⟩=some (.pointer (some pa)):=au (HB.out H0.out) rfl;have bJ:=H0.out.few;have Pa:K.lm.length<=24:=by have:=HW.out.1.1.len;omega
 have tQ:K.ly.length<=24:=by have:=HW.out.1.2.len;omega
 obtain⟨am,cm,yV⟩:=aK H0.out.must;obtain⟨ay,cy,hvy⟩:=aK H0.out.may;have yR:=bZ yV hvy;clear yV hvy;go_enter func46,ntmps46;go_wp2_with fail;refine(HP.out.sto w (.pointer (some pa)) X st Fx n s tm.out).mono ?_;rintro e w1 ⟨rfl,cH⟩;have kY:=aw (H0.out.below HP.out.tocP cH);have b1:w1.cell? ⟨b,1,none⟩=some (.pointer (some ⟨d,0,none⟩)):=au (HB.out kY.out) rfl;obtain⟨Fy,KZ,UO⟩:=kY.out.ref HP.out.tocP;have Gc:Hid (RY w1 d X Fy/\∀w2 Y1,RY w2 d Y1 (cV Fy w1)->Fr w1 w2 Fy->PQ2 PS w G w2 b X st Y1 (.pointer (some pa)) d K):=⟨KZ,UO⟩;clear cH KZ UO b0 tm
 by_cases hq:bD X.T n s=0
 ·obtain⟨l,p,ht,_⟩:=nL hq;obtain⟨pu,hn⟩:=nh ht;obtain⟨k,hk⟩:∃k:Nat,n.toNat=k:=⟨_,rfl⟩;rw[hk] at pu hn;subst hn;have HM:=aw pu;have HF:Hid (Rk X st k s=!fQ st k):=by unfold Hid Rk;rw[decide_eq_true hq,Bool.true_and]
  rw[hq];have HQE:=aw hq;clear ht hk pu hq;have M6:=aw (yP Gc.out.1 k s);rw[HQE.out] at M6;generalize eD X.T X.M X.rs k s=vv at M6 ⊢;cases fF:Rk X st k s with
  | true=>
   have WC:k ∉ st:=λhk=>by
    rw[HF.out,iB.2 hk] at fF;cases fF
   have JY:Hid (fQ K.lm k=false):=by
    cases hh:fQ K.lm k with
    | false=>rfl
    | true=>exact absurd (HW.out.2.must k (iB.1 hh)) WC
   have HNS:=aw WC;clear WC fF HF;rw[aE rfl];go_wp2_with fail;refine M6.out.mono ?_;rintro e w2 ⟨rfl,xB,tN⟩;have iL:=aw (Gc.out.2 w2 X xB tN);clear xB tN b1 Gc M6;go_wp2_with fail;refine(bQ _ 0).mono ?_;rintro e w5 ⟨rfl,rfl⟩;obtain⟨w2,rfl⟩:∃w2,w2=w5:=⟨_,rfl⟩;have b2:w2.cell? ⟨b,2,none⟩=some (.slice am K.lm.length cm):=by rw[<-yR.out.1];exact au (HB.out iL.out) rfl
   have b3:w2.cell? ⟨b,3,none⟩=some (.slice ay K.ly.length cy):=by rw[<-yR.out.2];exact au (HB.out iL.out) rfl
   have Uh:Hid (w2.ownsRow 0 3 1 (.slice am K.lm.length cm) K.lm.length (bq K.lm)):=by unfold Hid;rw[<-yR.out.1];exact iL.out.must
   have Yn:Hid (w2.ownsRow 0 3 1 (.slice ay K.ly.length cy) K.ly.length (bq K.ly)):=by unfold Hid;rw[<-yR.out.2];exact iL.out.may
   go_wp2_with fail;refine(mj w2 am cm K.lm k 0 Uh.out Pa).mono ?_;rw[JY.out];rintro e w5 ⟨rfl,rfl⟩;obtain⟨w2,rfl⟩:∃w2,w2=w5:=⟨_,rfl⟩;go_wp2_with fail;refine(tS w2 ay cy K.ly k 0 Yn.out tQ).mono ?_;rintro e W3 ⟨a3,c3,rfl,bH,lu⟩;have sH:=(lu.block b (bG.1 (HB.out iL.out)).1).trans (HB.out iL.out);have e3:W3.cell? ⟨b,3,none⟩=some K.vy:=au sH rfl;have ez:∀k,W3.frozen? ⟨b,k,none⟩=false:=λ_=>aH sH;have jM:=(bG.1 sH).1
   have HE:Hid (TurnPost2 PS w G b (.pointer (some pa)) d (Bz X) (.returned (.bool true)) (W3.setCell ⟨b,3,none⟩ (.slice a3 (aG k K.ly).length c3))):=by
    refine⟨rfl,X,st,_,iL.out.setMay HP.out.tocP lu (ba bH bm) (λj hj=>az (bH.lt j hj).1),⟨HW.out.1.1,tV HW.out.1.2 _⟩,rfl,?_⟩;have hi:=HW.out.2;exact⟨hi.lt,hi.must,λj hj=>lJ.2 ⟨hi.may j hj,λe=>HNS.out (e▸hj)⟩,hi.cnt,hi.lo,hi.hi,hi.seen,hi.held⟩
   have gv:(vv==vv)=true:=by simp
   clear bH lu sH b2 b3 iL Uh Yn;go_wp2;go_ret;exact HE.out
  | false=>
   have WC:k∈st:=by
    cases hh:fQ st k with
    | true=>exact iB.1 hh
    | false=>rw[HF.out,hh] at fF;cases fF
   have JY:=aw (iB.2 (HW.out.2.may k WC));have HNS:=aw WC;clear WC fF HF;rw[aA (by decide)];go_wp2_with fail;refine M6.out.mono ?_;rintro e w2 ⟨rfl,xB,tN⟩;have iL:=aw (Gc.out.2 w2 X xB tN);clear xB tN b1 Gc M6;go_wp2_with fail;refine(bQ _ 0).mono ?_;rintro e w5 ⟨rfl,rfl⟩;obtain⟨w2,rfl⟩:∃w2,w2=w5:=⟨_,rfl⟩;have b2:w2.cell? ⟨b,2,none⟩=some (.slice am K.lm.length cm):=by rw[<-yR.out.1];exact au (HB.out iL.out) rfl
   have b3:w2.cell? ⟨b,3,none⟩=some (.slice ay K.ly.length cy):=by rw[<-yR.out.2];exact au (HB.out iL.out) rfl
   have Uh:Hid (w2.ownsRow 0 3 1 (.slice am K.lm.length cm) K.lm.length (bq K.lm)):=by unfold Hid;rw[<-yR.out.1];exact iL.out.must
   have Yn:Hid (w2.ownsRow 0 3 1 (.slice ay K.ly.length cy) K.ly.length (bq K.ly)):=by unfold Hid;rw[<-yR.out.2];exact iL.out.may
   go_wp2_with fail;refine(mj w2 ay cy K.ly k 0 Yn.out tQ).mono ?_;rw[JY.out];rintro e w5 ⟨rfl,rfl⟩;obtain⟨w2,rfl⟩:∃w2,w2=w5:=⟨_,rfl⟩;go_wp2_with fail;refine(sZ w2 am cm K.lm k Uh.out Pa).mono ?_;rintro e W3 ⟨a3,c3,rfl,bH,lu,iP⟩;have sH:=(lu.block b (bG.1 (HB.out iL.out)).1).trans (HB.out iL.out);have e3:W3.cell? ⟨b,2,none⟩=some K.vm:=au sH rfl;have ez:∀k,W3.frozen? ⟨b,k,none⟩=false:=λ_=>aH sH;have jM:=(bG.1 sH).1
   have HE:Hid (TurnPost2 PS w G b (.pointer (some pa)) d (Bz X) (.returned (.bool true)) (W3.setCell ⟨b,2,none⟩ (.slice a3 (dN K.lm k).length c3))):=by
    refine⟨rfl,X,st,_,iL.out.setMust HP.out.tocP lu bH (λj hj=>by rw[yR.out.1];exact iP.out j hj),⟨HW.out.1.1.with HM.out,HW.out.1.2⟩,rfl,?_⟩;have hi:=HW.out.2;refine⟨hi.lt,λj hj=>?_,hi.may,hi.cnt,hi.lo,hi.hi,hi.seen,hi.held⟩;rcases j9.1 hj with hj | hj
    ·exact hi.must j hj
    ·rw[hj];exact HNS.out
   clear bH lu sH b2 b3 iL Uh Yn iP;go_wp2;go_ret;exact HE.out
 ·have fF:Rk X st n s=false:=by unfold Rk;rw[decide_eq_false hq];rfl
  rw[fF,aA (by decide)];have WJ:eD X.T X.M X.rs n s=0:=by unfold eD;rw[aA hq]
  have M6:=aw (yP Gc.out.1 n s);have gy:(bD X.T n s != 0)=true:=by simp[hq]
  rw[WJ] at M6;clear WJ fF hq;generalize bD X.T n s=ce at M6 gy ⊢;go_wp2_with fail;refine M6.out.mono ?_;rintro e w2 ⟨rfl,xB,tN⟩;have HE:Hid (TurnPost2 PS w G b (.pointer (some pa)) d (Bz X) (.returned (.bool true)) w2):=⟨rfl,X,st,K,Gc.out.2 w2 X xB tN,HW.out.1,rfl,HW.out.2⟩;clear xB tN b1 Gc M6;go_wp2_with fail;refine(bQ _ ce).mono ?_;rintro e w5 ⟨rfl,rfl⟩;go_wp2;go_ret;exact HE.out
end Go.Proofs.YtblfffbmklkhmabGreat
