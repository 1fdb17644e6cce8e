/- Own work. -/
import Derived.Test.YtblfffbmklkhmabGreatAl15
import Derived.RangeFuncCalls
set_option maxRecDepth 100000
set_option maxHeartbeats 40000000
namespace Go.Proofs.YtblfffbmklkhmabGreat
open Go.RowKit Go.Proofs.Tryz
section
variable {PS:World->Value->YS->List Nat->(Nat->Prop)->Prop}{Q:fu->YS->List Nat->YS->List Nat->Prop}
def Sa (Q:fu->YS->List Nat->YS->List Nat->Prop)(X:YS)(st:List Nat)(K:gK)(n:Int)(X':YS)(cN:List Nat)(K':gK):Prop:=
 ∃y,YRem X n y X'/\Q (.rem n y) X st X' cN/\((y≠0/\K'=K)∨(y=0/\K'.lm=jS X'.T K.lm/\K'.ly=kR X'.T (bi X.T n) (jS X'.T K.ly)/\K'.ls=K.ls/\K'.cnt=-1/\K'.held=false))
def R8 (Q:fu->YS->List Nat->YS->List Nat->Prop)(X:YS)(st:List Nat)(K:gK)(n m af:Int)(X':YS)(cN:List Nat)(K':gK):Prop:=
 ∃y,YMov X n m af y X'/\Q (.mov n m y) X st X' cN/\((y≠0/\K'=K)∨(y=0/\K'.lm=K.lm/\K'.ly=kR X'.T m (kR X'.T (bi X.T n) K.ly)/\K'.ls=K.ls/\K'.cnt=-1/\K'.held=false))
theorem Cu (hP:cP PS Q)(w:World)(b:Nat)(X:YS)(st:List Nat)(pa:Addr)(d:Nat)(K:gK)(G Fp Fx Fy:Nat->Prop)
  (h:PJ2 PS w b X st X (.pointer (some pa)) d K Fp Fx Fy) (hG:∀k,Fp k∨Fx k∨Fy k->G k) (Ag:∀k,G k->k<w.heap.size) (lH:s9 X.T K) (af xx yy zz:Int) (S Tt:ByteArray) (on:Bool) :
  Calls prog 38 #[.pointer (some ⟨b,0,none⟩),.agg #[.int .i64 5,.int .i64 af,.int .i64 xx,.int .i64 yy,.int .i64 zz,.string S,.string Tt,.bool on]] w λe w'=>TurnPost2 PS w G b (.pointer (some pa)) d (Sa Q X st K xx) e w':=by
 have HP:=aw hP;have HW:=bZ h.rs.tw lH;have X2:=aw h.rs.few;have HG:=aw Ag;have H0:Hid (PQ2 PS (w.alloc (aR 5 af xx yy zz S Tt on)) G (w.alloc (aR 5 af xx yy zz S Tt on)) b X st X (.pointer (some pa)) d K):=PQ2.alloc hP h hG _;clear h hP lH hG Ag
 have HC:Hid (∀(wx:World) X1 bE Y1,PQ2 PS (w.alloc (aR 5 af xx yy zz S Tt on)) G wx b X1 bE Y1 (.pointer (some pa)) d K->wx.cell? ⟨b,0,none⟩=some (.pointer (some pa))/\wx.cell? ⟨b,1,none⟩=some (.pointer (some ⟨d,0,none⟩))/\wx.cell? ⟨w.heap.size,2,none⟩=some (.int .i64 xx)):=λwx X1 bE Y1 hq=>
  ⟨au hq.pb.blk rfl,au hq.pb.blk rfl,au (hq.op HG.out) rfl⟩
 have wj:Hid (∀k,Calls prog 34 #[.pointer (some ⟨d,0,none⟩),.int .i64 xx] ((w.alloc (aR 5 af xx yy zz S Tt on)).drewN k) λe w'=>e=.returned (.int .i64 (bi X.T xx))/\w'=(w.alloc (aR 5 af xx yy zz S Tt on)).drewN k):=λk=>pM (H0.out.drewN HP.out k) xx;obtain⟨d0,d1,d2⟩:=HC.out _ _ _ _ H0.out;go_enter func38,ntmps38;go_upto_region 1 with fail;go_quiet ((go_at_call 34;exact Calls.quiet_of_same (wj.out _)));have Ip:=aw (H0.out.drewN HP.out nq);generalize (w.alloc (aR 5 af xx yy zz S Tt on)).drewN nq=wq at Ip ⊢;clear d0 d1 d2 wj H0;obtain⟨up,UU⟩:∃up,bi X.T xx=up:=⟨_,rfl⟩;rw[UU];have Bv:=aw UU;clear UU;have k0:wq.cell? ⟨w.heap.size,0,none⟩=some (.int .i64 5):=au (Ip.out.op HG.out) rfl;have kY:=aw (Ip.out.drew HP.out);obtain⟨XU,d9,D6⟩:=kY.out.prog HP.out;have C6:=aw d9;have C4:=aw D6;clear d9 D6 Ip;go_upto_region 3 with fail;clear k0
 go_cut [6] (λyv wx=>∃(y:Int) (X1:YS) (bE:List Nat),yv=.int .i64 y/\Hid (YRem X xx y X1/\Q (.rem xx y) X st X1 bE/\PQ2 PS (w.alloc (aR 5 af xx yy zz S Tt on)) G wx b X1 bE X (.pointer (some pa)) d K))
 case first=>
  go_region_held3 (λw'=>w'.cell? ⟨b,0,none⟩=some (.pointer (some pa))/\w'.cell? ⟨b,1,none⟩=some (.pointer (some ⟨d,0,none⟩))/\w'.cell? ⟨w.heap.size,2,none⟩=some (.int .i64 xx)) (first | exact HC.out _ _ _ _ kY.out | exact HC.out _ _ _ _ HT.out.2.2)
   (first | (go_at_call 71;refine(HP.out.rem _ (.pointer (some pa)) X st XU xx C6.out).mono ?_;rintro e w1 ⟨y,X1,bE,rfl,hT,hq,qD,fF⟩;have HT:Hid (YRem X xx y X1/\Q (.rem xx y) X st X1 bE/\PQ2 PS (w.alloc (aR 5 af xx yy zz S Tt on)) G w1 b X1 bE X (.pointer (some pa)) d K):=⟨hT,hq,C4.out w1 X1 bE qD fF⟩))
  all_goals
   go_wp2_with fail;go_meet;exact⟨y,X1,bE,rfl,HT⟩
 case rest=>
  obtain⟨y,X1,bE,rfl,HT⟩:=hcut;have iL:=aw (HT.out.2.2.drew HP.out);obtain⟨Fy2,hrs2,hny2⟩:=iL.out.ref HP.out;have C7:=aw hrs2;have C5:=aw hny2;clear hrs2 hny2 kY C6 C4;go_upto_region 4 with fail
  go_cut [7] (λyv wx=>yv=.int .i64 y/\Hid (PQ2 PS (w.alloc (aR 5 af xx yy zz S Tt on)) G wx b X1 bE X1 (.pointer (some pa)) d K))
  case first=>
   go_region_held3 (λw'=>w'.cell? ⟨b,0,none⟩=some (.pointer (some pa))/\w'.cell? ⟨b,1,none⟩=some (.pointer (some ⟨d,0,none⟩))/\w'.cell? ⟨w.heap.size,2,none⟩=some (.int .i64 xx)) (first | exact HC.out _ _ _ _ iL.out | exact HC.out _ _ _ _ jI.out)
    (first | (go_at_call 72;refine(LI C7.out xx).mono ?_;rintro e w1 ⟨y',Y1,rfl,OR,CR,fF⟩;obtain⟨rfl,rfl⟩:=HT.out.1.one OR;have jI:Hid (PQ2 PS (w.alloc (aR 5 af xx yy zz S Tt on)) G w1 b X1 bE X1 (.pointer (some pa)) d K):=C5.out w1 X1 CR fF))
   all_goals
    go_wp2_with fail;go_meet;exact⟨rfl,jI⟩
  case rest=>
   obtain⟨rfl,HQ⟩:=hcut;clear iL C7 C5
   by_cases hy:y=0
   ·subst hy;have HI:=bZ HT.out.1 HT.out.2.1;have KQ:K.lm.length<=24:=by have:=HW.out.2.1.len;have:=X2.out;omega
    have tQ:K.ly.length<=24:=by have:=HW.out.2.2.len;have:=X2.out;omega
    clear HT;obtain⟨am,cm,yV⟩:=aK HQ.out.must;obtain⟨ay,cy,hvy⟩:=aK HQ.out.may;have dy:=HQ.out.must;rw[yV] at dy;have b2:wc.cell? ⟨b,2,none⟩=some (.slice am K.lm.length cm):=by rw[<-yV];exact au HQ.out.pb.blk rfl
    go_wp2_with fail;refine(AX HQ.out am cm K.lm dy KQ).mono ?_;rintro e W3 ⟨a3,c3,rfl,bH,lu,iP⟩;have sH:=(lu.block b (bG.1 HQ.out.pb.blk).1).trans HQ.out.pb.blk;have e2:W3.cell? ⟨b,2,none⟩=some (.slice am K.lm.length cm):=by rw[<-yV];exact au sH rfl
    have ez:∀k,W3.frozen? ⟨b,k,none⟩=false:=λ_=>aH sH;have oV:Hid (PQ2 PS (w.alloc (aR 5 af xx yy zz S Tt on)) G (W3.setCell ⟨b,2,none⟩ (.slice a3 (jS X1.T K.lm).length c3)) b X1 bE X1 (.pointer (some pa)) d {K with vm:=.slice a3 (jS X1.T K.lm).length c3,lm:=jS X1.T K.lm}):=HQ.out.setMust HP.out lu bH (λj hj=>az (iP.out j hj));clear bH lu iP sH b2 HQ dy yV;go_upto_region 7 with fail;obtain⟨W4,DU⟩:∃W4,W4=W3.setCell ⟨b,2,none⟩ (.slice a3 (jS X1.T K.lm).length c3):=⟨_,rfl⟩;rw[<-DU] at oV ⊢;clear DU e2 ez;have Ew:=oV.out.may;have zn:K.vy=.slice ay K.ly.length cy:=hvy;have Ex:W4.ownsRow 0 3 1 (.slice ay K.ly.length cy) K.ly.length (bq K.ly):=by rw[<-zn];exact Ew
    have b3:W4.cell? ⟨b,3,none⟩=some (.slice ay K.ly.length cy):=by rw[<-zn];exact au oV.out.pb.blk rfl
    go_wp2_with fail;refine(AX oV.out ay cy K.ly Ex tQ).mono ?_;rintro e W5 ⟨a5,c5,rfl,cf,zd,qJ⟩;have MQ:=(zd.block b (bG.1 oV.out.pb.blk).1).trans oV.out.pb.blk;have e3:W5.cell? ⟨b,3,none⟩=some (.slice ay K.ly.length cy):=by rw[<-zn];exact au MQ rfl
    have ez:∀k,W5.frozen? ⟨b,k,none⟩=false:=λ_=>aH MQ;have Iq:Hid (PQ2 PS (w.alloc (aR 5 af xx yy zz S Tt on)) G (W5.setCell ⟨b,3,none⟩ (.slice a5 (jS X1.T K.ly).length c5)) b X1 bE X1 (.pointer (some pa)) d {K with vm:=.slice a3 (jS X1.T K.lm).length c3,lm:=jS X1.T K.lm,vy:=.slice a5 (jS X1.T K.ly).length c5,ly:=jS X1.T K.ly}):=oV.out.setMay HP.out zd cf (λj hj=>az (qJ.out j hj));clear cf zd qJ MQ b3 oV Ew Ex hvy zn;go_upto_region 8 with fail;obtain⟨W6,DV⟩:∃W6,W6=W5.setCell ⟨b,3,none⟩ (.slice a5 (jS X1.T K.ly).length c5):=⟨_,rfl⟩;rw[<-DV] at Iq ⊢;clear DV e3 ez;have HL:Hid (LT X1.T (jS X1.T K.lm)/\LT X1.T (jS X1.T K.ly)):=⟨LT.only HW.out.2.1.1,LT.only HW.out.2.2.1⟩;go_wp2_with fail;refine(iF HP.out Iq.out HL.out.2 up).mono ?_;rintro e W7 ⟨rfl,Xd,Aq⟩;have HE:Hid (TurnPost2 PS w G b (.pointer (some pa)) d (Sa Q X st K xx) (.returned (.bool true)) W7):=⟨rfl,X1,bE,_,Aq.from,⟨HL.out.1,HL.out.2.spoil up⟩,0,HI.out.1,HI.out.2,az ⟨rfl,rfl,by rw[Bv.out],rfl,rfl,rfl⟩⟩;clear Aq Iq;go_wp2_with fail;refine(bQ _ 0).mono ?_;rintro e w5 ⟨rfl,rfl⟩;go_wp2;go_ret;exact HE.out
   ·have gy:(y==0)=false:=by simp[hy]
    have HE:Hid (TurnPost2 PS w G b (.pointer (some pa)) d (Sa Q X st K xx) (.returned (.bool true)) wc):=by
     obtain⟨_,UC⟩:=HT.out.1.1.2.resolve_right (λx=>hy x.1);exact⟨rfl,X1,bE,K,HQ.out.from,by rw[UC];exact HW.out.2,y,HT.out.1,HT.out.2.1,ax ⟨hy,rfl⟩⟩
    clear hy;go_wp2_with fail;refine(bQ _ y).mono ?_;rintro e w5 ⟨rfl,rfl⟩;go_wp2;go_ret;exact HE.out
theorem Hm (hP:cP PS Q)(w:World)(b:Nat)(X:YS)(st:List Nat)(pa:Addr)(d:Nat)(K:gK)(G Fp Fx Fy:Nat->Prop)
  (h:PJ2 PS w b X st X (.pointer (some pa)) d K Fp Fx Fy) (hG:∀k,Fp k∨Fx k∨Fy k->G k) (Ag:∀k,G k->k<w.heap.size) (lH:s9 X.T K) (af xx yy zz:Int) (S Tt:ByteArray) (on:Bool) :
  Calls prog 38 #[.pointer (some ⟨b,0,none⟩),.agg #[.int .i64 6,.int .i64 af,.int .i64 xx,.int .i64 yy,.int .i64 zz,.string S,.string Tt,.bool on]] w λe w'=>TurnPost2 PS w G b (.pointer (some pa)) d (R8 Q X st K xx yy zz) e w':=by
 have HP:=aw hP;have HW:=bZ h.rs.tw lH;have HG:=aw Ag;have H0:Hid (PQ2 PS (w.alloc (aR 6 af xx yy zz S Tt on)) G (w.alloc (aR 6 af xx yy zz S Tt on)) b X st X (.pointer (some pa)) d K):=PQ2.alloc hP h hG _;clear h hP lH hG Ag
 have HC:Hid (∀(wx:World) X1 bE Y1,PQ2 PS (w.alloc (aR 6 af xx yy zz S Tt on)) G wx b X1 bE Y1 (.pointer (some pa)) d K->wx.cell? ⟨b,0,none⟩=some (.pointer (some pa))/\wx.cell? ⟨b,1,none⟩=some (.pointer (some ⟨d,0,none⟩))/\wx.cell? ⟨w.heap.size,2,none⟩=some (.int .i64 xx)/\wx.cell? ⟨w.heap.size,3,none⟩=some (.int .i64 yy)/\wx.cell? ⟨w.heap.size,4,none⟩=some (.int .i64 zz)):=λwx X1 bE Y1 hq=>
  ⟨au hq.pb.blk rfl,au hq.pb.blk rfl,au (hq.op HG.out) rfl,au (hq.op HG.out) rfl,au (hq.op HG.out) rfl⟩
 have wj:Hid (∀k,Calls prog 34 #[.pointer (some ⟨d,0,none⟩),.int .i64 xx] ((w.alloc (aR 6 af xx yy zz S Tt on)).drewN k) λe w'=>e=.returned (.int .i64 (bi X.T xx))/\w'=(w.alloc (aR 6 af xx yy zz S Tt on)).drewN k):=λk=>pM (H0.out.drewN HP.out k) xx;obtain⟨d0,d1,d2,d3,d4⟩:=HC.out _ _ _ _ H0.out;go_enter func38,ntmps38;go_upto_region 1 with fail;go_quiet ((go_at_call 34;exact Calls.quiet_of_same (wj.out _)));have Ip:=aw (H0.out.drewN HP.out nq);generalize (w.alloc (aR 6 af xx yy zz S Tt on)).drewN nq=wq at Ip ⊢;clear d0 d1 d2 d3 d4 wj H0;obtain⟨up,UU⟩:∃up,bi X.T xx=up:=⟨_,rfl⟩;rw[UU];have Bv:=aw UU;clear UU;have k0:wq.cell? ⟨w.heap.size,0,none⟩=some (.int .i64 6):=au (Ip.out.op HG.out) rfl;have kY:=aw (Ip.out.drew HP.out);obtain⟨XU,d9,D6⟩:=kY.out.prog HP.out;have C6:=aw d9;have C4:=aw D6;clear d9 D6 Ip;go_upto_region 10 with fail;clear k0
 go_cut [8] (λyv wx=>∃(y:Int) (X1:YS) (bE:List Nat),yv=.int .i64 y/\Hid (YMov X xx yy zz y X1/\Q (.mov xx yy y) X st X1 bE/\PQ2 PS (w.alloc (aR 6 af xx yy zz S Tt on)) G wx b X1 bE X (.pointer (some pa)) d K))
 case first=>
  go_region_held3 (λw'=>w'.cell? ⟨b,0,none⟩=some (.pointer (some pa))/\w'.cell? ⟨b,1,none⟩=some (.pointer (some ⟨d,0,none⟩))/\w'.cell? ⟨w.heap.size,2,none⟩=some (.int .i64 xx)/\w'.cell? ⟨w.heap.size,3,none⟩=some (.int .i64 yy)/\w'.cell? ⟨w.heap.size,4,none⟩=some (.int .i64 zz)) (first | exact HC.out _ _ _ _ kY.out | exact HC.out _ _ _ _ HT.out.2.2)
   (first | (go_at_call 74;refine(HP.out.mov _ (.pointer (some pa)) X st XU xx yy zz C6.out).mono ?_;rintro e w1 ⟨y,X1,bE,rfl,hT,hq,qD,fF⟩;have HT:Hid (YMov X xx yy zz y X1/\Q (.mov xx yy y) X st X1 bE/\PQ2 PS (w.alloc (aR 6 af xx yy zz S Tt on)) G w1 b X1 bE X (.pointer (some pa)) d K):=⟨hT,hq,C4.out w1 X1 bE qD fF⟩))
  all_goals
   go_wp2_with fail;go_meet;exact⟨y,X1,bE,rfl,HT⟩
 case rest=>
  obtain⟨y,X1,bE,rfl,HT⟩:=hcut;have iL:=aw (HT.out.2.2.drew HP.out);obtain⟨Fy2,hrs2,hny2⟩:=iL.out.ref HP.out;have C7:=aw hrs2;have C5:=aw hny2;clear hrs2 hny2 kY C6 C4;go_upto_region 11 with fail
  go_cut [9] (λyv wx=>yv=.int .i64 y/\Hid (PQ2 PS (w.alloc (aR 6 af xx yy zz S Tt on)) G wx b X1 bE X1 (.pointer (some pa)) d K))
  case first=>
   go_region_held3 (λw'=>w'.cell? ⟨b,0,none⟩=some (.pointer (some pa))/\w'.cell? ⟨b,1,none⟩=some (.pointer (some ⟨d,0,none⟩))/\w'.cell? ⟨w.heap.size,2,none⟩=some (.int .i64 xx)/\w'.cell? ⟨w.heap.size,3,none⟩=some (.int .i64 yy)/\w'.cell? ⟨w.heap.size,4,none⟩=some (.int .i64 zz)) (first | exact HC.out _ _ _ _ iL.out | exact HC.out _ _ _ _ jI.out)
    (first | (go_at_call 75;refine(LH C7.out xx yy zz).mono ?_;rintro e w1 ⟨y',Y1,rfl,OR,CR,fF⟩;obtain⟨rfl,rfl⟩:=HT.out.1.one OR;have jI:Hid (PQ2 PS (w.alloc (aR 6 af xx yy zz S Tt on)) G w1 b X1 bE X1 (.pointer (some pa)) d K):=C5.out w1 X1 CR fF))
   all_goals
    go_wp2_with fail;go_meet;exact⟨rfl,jI⟩
  case rest=>
   obtain⟨rfl,HQ⟩:=hcut;clear iL C7 C5;have Yx:Hid (s9 X1.T K):=⟨HW.out.2.1.of_nums HT.out.1.1.nums,HW.out.2.2.of_nums HT.out.1.1.nums⟩
   by_cases hy:y=0
   ·subst hy;have HI:=bZ HT.out.1 HT.out.2.1;clear HT;go_wp2_with fail;refine(iF HP.out HQ.out Yx.out.2 up).mono ?_;rintro e W7 ⟨rfl,Xd,Aq⟩;have HQ7:=aw Aq;clear Aq HQ;have o3:W7.cell? ⟨w.heap.size,3,none⟩=some (.int .i64 yy):=au (HQ7.out.op HG.out) rfl;go_wp2_with fail;refine(iF HP.out HQ7.out (Yx.out.2.spoil up) yy).mono ?_;rintro e W8 ⟨rfl,vy8,hq8⟩;have HE:Hid (TurnPost2 PS w G b (.pointer (some pa)) d (R8 Q X st K xx yy zz) (.returned (.bool true)) W8):=⟨rfl,X1,bE,_,hq8.from,⟨Yx.out.1,(Yx.out.2.spoil up).spoil yy⟩,0,HI.out.1,HI.out.2,az ⟨rfl,rfl,by rw[Bv.out],rfl,rfl,rfl⟩⟩;clear hq8 HQ7 o3;go_wp2_with fail;refine(bQ _ 0).mono ?_;rintro e w5 ⟨rfl,rfl⟩;go_wp2;go_ret;exact HE.out
   ·have gy:(y==0)=false:=by simp[hy]
    have HE:Hid (TurnPost2 PS w G b (.pointer (some pa)) d (R8 Q X st K xx yy zz) (.returned (.bool true)) wc):=⟨rfl,X1,bE,K,HQ.out.from,Yx.out,y,HT.out.1,HT.out.2.1,ax ⟨hy,rfl⟩⟩;clear hy;go_wp2_with fail;refine(bQ _ y).mono ?_;rintro e w5 ⟨rfl,rfl⟩;go_wp2;go_ret;exact HE.out
end
section
variable {eP s:ByteArray}
def TZ (s eP:ByteArray):Bool:=(List.range (s.size - 1)).any λn=>(s.extract n (n+2)).toList==eP.toList
def Ht (cs:List RComp)(eP:ByteArray):Bool:=cs.any λc=>TZ c.tx eP
def WY (x:eI)(eP:ByteArray):Bool:=x.sels.any λcs=>Ht cs eP
def fY (Rr:List eI)(eP:ByteArray):Bool:=Rr.any λx=>WY x eP
theorem Gm {α:Type}{l:List α}{f:α->Bool}(h:∀j (hj:j<l.length),f l[j]=false):l.any f=false:=by
 rw[List.any_eq_false];intro x hx;obtain⟨j,hj,rfl⟩:=List.getElem_of_mem hx;rw[h j hj];decide
theorem BE {α:Type}{l:List α}{f:α->Bool}{j:Nat}(hj:j<l.length)(h:f l[j]=true):l.any f=true:=List.any_eq_true.2 ⟨_,bN hj,h⟩
theorem abn (h:∀n,n+1<s.size->((s.extract n (n+2)).toList==eP.toList)=false):TZ s eP=false:=by
 unfold TZ;rw[List.any_eq_false];intro n hn;rw[h n (by have:=List.mem_range.1 hn;omega)];decide
theorem QV {n:Nat}(hn:n+1<s.size)(h:((s.extract n (n+2)).toList==eP.toList)=true):TZ s eP=true:=List.any_eq_true.2 ⟨n,List.mem_range.2 (by omega),h⟩
def Ge (w:World)(Rr:List eI)(eP:ByteArray)(e:Ending)(w':World):Prop:=e=.returned (.bool (fY Rr eP))/\w'=w
theorem ra (w:World)(hp:Option Addr)(Rr:List eI)(eP:ByteArray)(hs:ShM w hp Rr)(qV:∀x∈Rr,J9 x)(MM:Rr.length<=400):
  Calls prog 78 #[.pointer hp,.string eP] w λe w'=>Ge w Rr eP e w':=by
 obtain⟨b,a,c,xs,mn,rfl,oS,WG,UR⟩:=hs;have HS:Hid (Sh w b (.slice a Rr.length c) mn/\w.ownsRow 0 79 3 (.slice a Rr.length c) Rr.length xs/\(∀r (h:r<Rr.length),RuM w xs r Rr[r])/\∀x∈Rr,J9 x):=⟨oS,WG,UR,qV⟩;have s0:w.cell? ⟨b,0,none⟩=some (.slice a Rr.length c):=oS.c0;clear oS WG UR qV;go_enter func78,ntmps78;go_wp2_with fail
 go_loopg [5] Rr.length (λgk rv wr=>∃r:Nat,rv=.int .i64 r/\r<=Rr.length/\Rr.length - r<=gk/\wr=w/\Hid (∀j (hj:j<Rr.length),j<r->WY Rr[j] eP=false))
 case atStart=>exact⟨0,rfl,bm,by omega,rfl,λ_ _ h=>absurd h (Nat.not_lt_zero _)⟩
 case round=>
  obtain⟨r,rfl,jQ,fT,rfl,HN⟩:=hrel
  by_cases bc:r<Rr.length
  ·have hd:decide ((r:Int)<(Rr.length:Int))=true:=by simp;omega
   have aa2:(r:Int)<(Rr.length:Int):=by omega
   obtain⟨g,hg,di,gM⟩:=aX HS.out.2.1 (by omega);subst hg;obtain⟨aS,cS,aD,cD,ys,x1,x2,x3,x4,x5,x6⟩:=HS.out.2.2.1 r bc;have Ee:=HS.out.2.2.2 _ (bN bc)
   have RS:Hid (WY Rr[r] eP=true->Ge wr Rr eP (.returned (.bool true)) wr):=λh=>by
    refine⟨?_,rfl⟩;have:fY Rr eP=true:=BE bc h;rw[this]
   have Bo:Hid (WY Rr[r] eP=false->∀j (hj:j<Rr.length),j<r+1->WY Rr[j] eP=false):=λh j hj hl=>by
    rcases Nat.lt_or_ge j r with h1 | h1
    ·exact HN.out j hj h1
    ·obtain rfl:j=r:=by omega
     exact h
   have q1:=gM _ _ x2;generalize Rr[r]=x at x1 x2 x3 x4 x5 x6 Ee RS Bo q1;have HX:=kC Ee x4 x5;have hsf:=Ee.sels;have X4:=bZ fT bc;clear x1 x2 x3 x4 x5 x6 Ee gM HN fT bc jQ hd;go_wp2_with fail
   go_loopg [6] x.sels.length (λKC jv wq=>∃j:Nat,jv=.int .i64 j/\j<=x.sels.length/\x.sels.length - j<=KC/\wq=wr/\Hid (∀i (hi:i<x.sels.length),i<j->Ht x.sels[i] eP=false))
   case atStart=>exact⟨0,rfl,bm,by omega,rfl,λ_ _ h=>absurd h (Nat.not_lt_zero _)⟩
   case round=>
    obtain⟨j,rfl,FR,r9,rfl,fj⟩:=hrel
    by_cases hjt:j<x.sels.length
    ·have iC:decide ((j:Int)<(x.sels.length:Int))=true:=by simp;omega
     have ai4:(j:Int)<(x.sels.length:Int):=by omega
     obtain⟨gS,hgS,aiM,aaJ⟩:=aX HX.out.2.1 (by omega);subst hgS;obtain⟨aC,cC,y1,y2⟩:=HX.out.2.2 j hjt;have Ro:=HX.out.1.sok _ (bN hjt);have Uo:Hid (Ht x.sels[j] eP=true->WY x eP=true):=λh=>BE hjt h
     have Yf:Hid (Ht x.sels[j] eP=false->∀i (hi:i<x.sels.length),i<j+1->Ht x.sels[i] eP=false):=λh i hi hl=>by
      rcases Nat.lt_or_ge i j with h1 | h1
      ·exact fj.out i hi h1
      ·obtain rfl:i=j:=by omega
       exact h
     have q2:=aaJ _ _ y1;generalize x.sels[j]=cs at y1 y2 Ro Uo Yf q2;have HC:=bZ Ro y2;have hcf:=Ro.few;have C3:=bZ r9 hjt;clear y1 y2 Ro aaJ fj r9 hjt FR iC;go_wp2_with fail
     go_loopg [7] cs.length (λgk3 kv wq=>∃k:Nat,kv=.int .i64 k/\k<=cs.length/\cs.length - k<=gk3/\wq=wr/\Hid (∀i (hi:i<cs.length),i<k->TZ cs[i].tx eP=false))
     case atStart=>exact⟨0,rfl,bm,by omega,rfl,λ_ _ h=>absurd h (Nat.not_lt_zero _)⟩
     case round=>
      obtain⟨k,rfl,qu,O6,rfl,oF⟩:=hrel
      by_cases hkt:k<cs.length
      ·have uA:decide ((k:Int)<(cs.length:Int))=true:=by simp;omega
       have aaT:(k:Int)<(cs.length:Int):=by omega
       obtain⟨gC,hgC,aiK,aaG⟩:=aX HC.out.2 (by omega);subst hgC;have htk:=(HC.out.1.ok _ (bN hkt));have q3:=aaG _ _ (rX hkt).2;have Up:Hid (TZ cs[k].tx eP=true->Ht cs eP=true):=λh=>BE hkt h
       have Yg:Hid (TZ cs[k].tx eP=false->∀i (hi:i<cs.length),i<k+1->TZ cs[i].tx eP=false):=λh i hi hl=>by
        rcases Nat.lt_or_ge i k with h1 | h1
        ·exact oF.out i hi h1
        ·obtain rfl:i=k:=by omega
         exact h
       generalize cs[k].tx=s at htk q3 Up Yg
       have il:s.size<=400:=by
        rcases htk with h | h
        ·omega
        ·exact h.2.1
       have HG3:=bZ O6 hkt;clear htk aaG oF O6 hkt qu uA;go_wp2_with fail
       go_loopg [9] s.size (λgk4 nv wq=>∃n:Nat,nv=.int .i64 n/\n<=s.size/\s.size - n<=gk4/\wq=wr/\Hid (∀i,i<n->i+1<s.size->((s.extract i (i+2)).toList==eP.toList)=false))
       case atStart=>exact⟨0,rfl,bm,by omega,rfl,λ_ h=>absurd h (Nat.not_lt_zero _)⟩
       case round=>
        obtain⟨n,rfl,S8,aiR,rfl,HN4⟩:=hrel
        by_cases S9:n+1<s.size
        ·have SU:decide ((n:Int)+1<(s.size:Int))=true:=by simp;omega
         have h1:(0:Int)<=(n:Int):=by omega
         have h2:(n:Int)+2<=(s.size:Int):=by omega
         have h3:(n:Int)<=(n:Int)+2:=by omega
         cases he:((s.extract n (n+2)).toList==eP.toList) with
         | true=>
          have HE:=aw (RS.out (Uo.out (Up.out (QV S9 he))));go_wp2;go_ret;exact HE.out
         | false=>
          have uo:Hid (∀i,i<n+1->i+1<s.size->((s.extract i (i+2)).toList==eP.toList)=false):=λi hi Wt=>by
           rcases Nat.lt_or_ge i n with h1 | h1
           ·exact HN4.out i h1 Wt
           ·obtain rfl:i=n:=by omega
            exact he
          go_wp2;go_roundg (s.size - (n+1))
          case measure=>omega
          case rel=>exact⟨n+1,by go_num,by omega,aF,rfl,uo⟩
        ·have SU:decide ((n:Int)+1<(s.size:Int))=false:=by simp;omega
         have HF:Hid (∀i (hi:i<cs.length),i<k+1->TZ cs[i].tx eP=false):=Yg.out (abn (λi hi=>HN4.out i (by omega) hi));go_wp2;go_roundg (cs.length - (k+1))
         case measure=>have:=HG3.out;omega
         case rel=>exact⟨k+1,by go_num,HG3.out.2,aF,rfl,HF⟩
      ·have uA:decide ((k:Int)<(cs.length:Int))=false:=by simp;omega
       obtain rfl:k=cs.length:=by omega
       have HF:Hid (∀i (hi:i<x.sels.length),i<j+1->Ht x.sels[i] eP=false):=Yf.out (Gm (λi hi=>oF.out i hi hi));go_wp2;go_roundg (x.sels.length - (j+1))
       case measure=>have:=C3.out;omega
       case rel=>exact⟨j+1,by go_num,C3.out.2,aF,rfl,HF⟩
    ·have iC:decide ((j:Int)<(x.sels.length:Int))=false:=by simp;omega
     obtain rfl:j=x.sels.length:=by omega
     have HF:Hid (∀i (hi:i<Rr.length),i<r+1->WY Rr[i] eP=false):=Bo.out (Gm (λi hi=>fj.out i hi hi));go_wp2;go_roundg (Rr.length - (r+1))
     case measure=>have:=X4.out;omega
     case rel=>exact⟨r+1,by go_num,X4.out.2,aF,rfl,HF⟩
  ·have hd:decide ((r:Int)<(Rr.length:Int))=false:=by simp;omega
   obtain rfl:r=Rr.length:=by omega
   have HE:Hid (Ge wr Rr eP (.returned (.bool false)) wr):=⟨by rw[show fY Rr eP=false from Gm (λi hi=>HN.out i hi hi)],rfl⟩;go_wp2;go_ret;exact HE.out
end
def reg? (n:Nat):Code->Option Code
 | .region m o d=>if m=n then some (.region m o d) else none
 | .loop c=>reg? n c
 | .seq a b=>match reg? n a with
  | some c=>some c
  | none=>reg? n b
 | .block _ c=>reg? n c
 | .scope c=>reg? n c
 | .cond _ a b=>match reg? n a with
  | some c=>some c
  | none=>reg? n b
 | _=>none
noncomputable def r22:Code:=((Tryz.f65.body.bind (reg? 22)).getD .skip)
noncomputable def r23:Code:=((Tryz.f65.body.bind (reg? 23)).getD .skip)
theorem Jo (W:World)(g g3 b9 n i q:Nat)(hi:i<n)(hq:q<9)(p0 p3 p4 p5:Int)(p1:ByteArray)(p2:Bool)(o0 o1 o2 o3 o4 o5:Value)
  (k0:W.cell? ⟨b9,0,none⟩=some (.int .u8 p0)) (k1:W.cell? ⟨b9,1,none⟩=some (.string p1)) (k2:W.cell? ⟨b9,2,none⟩=some (.bool p2)) (k3:W.cell? ⟨b9,3,none⟩=some (.int .i64 p3)) (k4:W.cell? ⟨b9,4,none⟩=some (.int .i64 p4)) (k5:W.cell? ⟨b9,5,none⟩=some (.int .i64 p5))
  (m0:W.cell? ⟨g,i*54+q*6,none⟩=some o0) (m1:W.cell? ⟨g,i*54+q*6+1,none⟩=some o1) (m2:W.cell? ⟨g,i*54+q*6+2,none⟩=some o2) (m3:W.cell? ⟨g,i*54+q*6+3,none⟩=some o3) (m4:W.cell? ⟨g,i*54+q*6+4,none⟩=some o4) (m5:W.cell? ⟨g,i*54+q*6+5,none⟩=some o5)
  (fz:∀j,W.frozen? ⟨g,j,none⟩=false) (fG:¬b9=g) (c0 c1 c2 c5 c6 c7 c8 YN YO YP YQ YR YT YU YV YW YX YY YZ Y0 Y3 Y4 Y5 Y6 Y7 Y8 Y9 Za Zb Zc Zd Ze Zf Zg Zh Zi Zj Zk Zl Zm Zn Zo Zp Zq Zr Zs Zt Zu Zv Zw Zx Zy Zz ZA ZB ZC ZD ZE ZF ZG ZH ZI ZJ ZK ZL ZM ZN ZO ZP ZQ ZR ZS ZT ZU ZV ZW ZX ZY ZZ Z0 Z1 Z2 Z3 Z4 Z5 Z6 Z7 Z8 Z9 c94 c95 c96 c97 c98 c99 NC ND NE NF NG NH NJ NK NL NM NN NO NP NQ NR NS NT NU NV NW NX NY NZ N0 N1 N2 N3 N4 N5 N6 N7 N8 N9 Oa Ob Oc Od Ss St Su Sv Sw Sx Sy Sz SA SC SD SE SF SG Oe:Value)
  (Q:Exit->Act->World->Prop)
  (hQ:∀(aeV aeW aeX aeY aeZ ae0:Value) ,Q .normal ⟨#[c0,c1,c2,.slice (some ⟨g3,0,none⟩) n n,.slice (some ⟨g,0,none⟩) n n,c5,c6,c7,c8,.pointer (some ⟨b9,0,none⟩),.int .i64 (q:Int),.int .i64 (i:Int),YN,YO,YP,YQ,YR,YT,YU,YV,YW,YX,YY,YZ,Y0,Y3,Y4,Y5,Y6,Y7,Y8,Y9,Za,Zb,Zc,Zd,Ze,Zf,Zg,Zh,Zi,Zj,Zk,Zl,Zm,Zn,Zo,Zp,Zq,Zr,Zs,Zt,Zu,Zv,Zw,Zx,Zy,Zz,ZA,ZB,ZC,ZD,ZE,ZF,ZG,ZH,ZI,ZJ,ZK,ZL,ZM,ZN,ZO,ZP,ZQ,ZR,ZS,ZT,ZU,ZV,ZW,ZX,ZY,ZZ,Z0,Z1,Z2,Z3,Z4,Z5,Z6,Z7,Z8,Z9,c94,c95,c96,c97,c98,c99,NC,ND,NE,NF,NG,NH,NJ,NK,NL,NM,NN,NO,NP,NQ,NR,NS,NT,NU,NV,NW,NX,NY,NZ,N0,N1,N2,N3,N4,N5,N6,N7,N8,N9,Oa,Ob,Oc,Od,aeV,aeW,aeX,aeY,aeZ,ae0,Sy,Sz,SA,SC,SD,SE,SF,SG,Oe],[]⟩ ((W.setCells g (i*54+q*6) [.int .u8 p0,.string p1,.bool p2,.int .i64 p3,.int .i64 p4,.int .i64 p5]).drew)) :
  Code.wp prog r22 Q ⟨#[c0,c1,c2,.slice (some ⟨g3,0,none⟩) n n,.slice (some ⟨g,0,none⟩) n n,c5,c6,c7,c8,.pointer (some ⟨b9,0,none⟩),.int .i64 (q:Int),.int .i64 (i:Int),YN,YO,YP,YQ,YR,YT,YU,YV,YW,YX,YY,YZ,Y0,Y3,Y4,Y5,Y6,Y7,Y8,Y9,Za,Zb,Zc,Zd,Ze,Zf,Zg,Zh,Zi,Zj,Zk,Zl,Zm,Zn,Zo,Zp,Zq,Zr,Zs,Zt,Zu,Zv,Zw,Zx,Zy,Zz,ZA,ZB,ZC,ZD,ZE,ZF,ZG,ZH,ZI,ZJ,ZK,ZL,ZM,ZN,ZO,ZP,ZQ,ZR,ZS,ZT,ZU,ZV,ZW,ZX,ZY,ZZ,Z0,Z1,Z2,Z3,Z4,Z5,Z6,Z7,Z8,Z9,c94,c95,c96,c97,c98,c99,NC,ND,NE,NF,NG,NH,NJ,NK,NL,NM,NN,NO,NP,NQ,NR,NS,NT,NU,NV,NW,NX,NY,NZ,N0,N1,N2,N3,N4,N5,N6,N7,N8,N9,Oa,Ob,Oc,Od,Ss,St,Su,Sv,Sw,Sx,Sy,Sz,SA,SC,SD,SE,SF,SG,Oe],[]⟩ W:=by
 conv=>arg 2;whnf
 have h1:(0:Int)<=(i:Int):=by omega
 have h2:(i:Int)<(n:Int):=by omega
 have h3:(0:Int)<=(q:Int):=by omega
 have h4:(q:Int)<9:=by omega
 have HQ:=aw hQ;clear hQ;have aee:¬g=b9:=λe=>fG e.symm
 go_region_held3 (λw'=>w'.cell? ⟨b9,0,none⟩=some (.int .u8 p0)/\w'.cell? ⟨b9,1,none⟩=some (.string p1)/\w'.cell? ⟨b9,2,none⟩=some (.bool p2)/\w'.cell? ⟨b9,3,none⟩=some (.int .i64 p3)/\w'.cell? ⟨b9,4,none⟩=some (.int .i64 p4)/\w'.cell? ⟨b9,5,none⟩=some (.int .i64 p5)) (go_keep) (fail)
 all_goals exact HQ.out _ _ _ _ _ _
theorem Jp (W:World)(g g3 b9 n i q:Nat)(hi:i<n)(hq:q<9)(p1:ByteArray)(o:Value)
  (k1:W.cell? ⟨b9,1,none⟩=some (.string p1))
  (m0:W.cell? ⟨g3,i*9+q,none⟩=some o)
  (fz:W.frozen? ⟨g3,i*9+q,none⟩=false) (fG:¬b9=g3) (c0 c1 c2 c5 c6 c7 c8 YN YO YP YQ YR YT YU YV YW YX YY YZ Y0 Y3 Y4 Y5 Y6 Y7 Y8 Y9 Za Zb Zc Zd Ze Zf Zg Zh Zi Zj Zk Zl Zm Zn Zo Zp Zq Zr Zs Zt Zu Zv Zw Zx Zy Zz ZA ZB ZC ZD ZE ZF ZG ZH ZI ZJ ZK ZL ZM ZN ZO ZP ZQ ZR ZS ZT ZU ZV ZW ZX ZY ZZ Z0 Z1 Z2 Z3 Z4 Z5 Z6 Z7 Z8 Z9 c94 c95 c96 c97 c98 c99 NC ND NE NF NG NH NJ NK NL NM NN NO NP NQ NR NS NT NU NV NW NX NY NZ N0 N1 N2 N3 N4 N5 N6 N7 N8 N9 Oa Ob Oc Od Ss St Su Sv Sw Sx Sy Sz SA SC SD SE SF SG Oe:Value)
  (Q:Exit->Act->World->Prop)
  (hQ:∀(ae1 ae2 ae3 ae4 ae5 ae6 ae7 ae8:Value),Q .normal ⟨#[c0,c1,c2,.slice (some ⟨g3,0,none⟩) n n,.slice (some ⟨g,0,none⟩) n n,c5,c6,c7,c8,.pointer (some ⟨b9,0,none⟩),.int .i64 (q:Int),.int .i64 (i:Int),YN,YO,YP,YQ,YR,YT,YU,YV,YW,YX,YY,YZ,Y0,Y3,Y4,Y5,Y6,Y7,Y8,Y9,Za,Zb,Zc,Zd,Ze,Zf,Zg,Zh,Zi,Zj,Zk,Zl,Zm,Zn,Zo,Zp,Zq,Zr,Zs,Zt,Zu,Zv,Zw,Zx,Zy,Zz,ZA,ZB,ZC,ZD,ZE,ZF,ZG,ZH,ZI,ZJ,ZK,ZL,ZM,ZN,ZO,ZP,ZQ,ZR,ZS,ZT,ZU,ZV,ZW,ZX,ZY,ZZ,Z0,Z1,Z2,Z3,Z4,Z5,Z6,Z7,Z8,Z9,c94,c95,c96,c97,c98,c99,NC,ND,NE,NF,NG,NH,NJ,NK,NL,NM,NN,NO,NP,NQ,NR,NS,NT,NU,NV,NW,NX,NY,NZ,N0,N1,N2,N3,N4,N5,N6,N7,N8,N9,Oa,Ob,Oc,Od,Ss,St,Su,Sv,Sw,Sx,ae1,ae2,ae3,ae4,ae5,ae6,ae7,ae8,Oe],[]⟩ ((W.setCell ⟨g3,i*9+q,none⟩ (.string p1)).drew)) :
  Code.wp prog r23 Q ⟨#[c0,c1,c2,.slice (some ⟨g3,0,none⟩) n n,.slice (some ⟨g,0,none⟩) n n,c5,c6,c7,c8,.pointer (some ⟨b9,0,none⟩),.int .i64 (q:Int),.int .i64 (i:Int),YN,YO,YP,YQ,YR,YT,YU,YV,YW,YX,YY,YZ,Y0,Y3,Y4,Y5,Y6,Y7,Y8,Y9,Za,Zb,Zc,Zd,Ze,Zf,Zg,Zh,Zi,Zj,Zk,Zl,Zm,Zn,Zo,Zp,Zq,Zr,Zs,Zt,Zu,Zv,Zw,Zx,Zy,Zz,ZA,ZB,ZC,ZD,ZE,ZF,ZG,ZH,ZI,ZJ,ZK,ZL,ZM,ZN,ZO,ZP,ZQ,ZR,ZS,ZT,ZU,ZV,ZW,ZX,ZY,ZZ,Z0,Z1,Z2,Z3,Z4,Z5,Z6,Z7,Z8,Z9,c94,c95,c96,c97,c98,c99,NC,ND,NE,NF,NG,NH,NJ,NK,NL,NM,NN,NO,NP,NQ,NR,NS,NT,NU,NV,NW,NX,NY,NZ,N0,N1,N2,N3,N4,N5,N6,N7,N8,N9,Oa,Ob,Oc,Od,Ss,St,Su,Sv,Sw,Sx,Sy,Sz,SA,SC,SD,SE,SF,SG,Oe],[]⟩ W:=by
 conv=>arg 2;whnf
 have h1:(0:Int)<=(i:Int):=by omega
 have h2:(i:Int)<(n:Int):=by omega
 have h3:(0:Int)<=(q:Int):=by omega
 have h4:(q:Int)<9:=by omega
 have aee:¬g3=b9:=λe=>fG e.symm;have HQ:=aw hQ;clear hQ
 go_region_held3 (λw'=>w'.cell? ⟨b9,1,none⟩=some (.string p1)) (go_keep) (fail)
 all_goals exact HQ.out _ _ _ _ _ _ _ _
theorem Ov (w:World)(a:Addr)(u:Value):w.drew.setCell a u=(w.setCell a u).drew:=by
 unfold World.setCell World.drew;split<;>rfl
theorem TI.end1 {w:World}{n:Nat}{W:World}{S:qr}{ah:Option Addr}{ch:Nat}{l:List Int}{b9:Nat}{c:Cl}(h:TI w n W S ah ch l b9 c){v:Int}(hb:W.heap[b9]?=some (.cells #[.int .u8 c.d.pr,.string c.d.val,.bool c.d.must,.int .i64 c.ly,.int .i64 v,.int .i64 c.no] 167 (0,0))){i p:Nat}(hi:i<n)(hp:p<9):
  (W.setCells (w.heap.size+1) (i*54+p*6) [.int .u8 c.d.pr,.string c.d.val,.bool c.d.must,.int .i64 c.ly,.int .i64 v,.int .i64 c.no]).drew.cell? ⟨b9,1,none⟩=some (.string c.d.val)/\
  (W.setCells (w.heap.size+1) (i*54+p*6) [.int .u8 c.d.pr,.string c.d.val,.bool c.d.must,.int .i64 c.ly,.int .i64 v,.int .i64 c.no]).drew.cell? ⟨w.heap.size,i*9+p,none⟩=some (.string (S i p).1)/\
  (W.setCells (w.heap.size+1) (i*54+p*6) [.int .u8 c.d.pr,.string c.d.val,.bool c.d.must,.int .i64 c.ly,.int .i64 v,.int .i64 c.no]).drew.frozen? ⟨w.heap.size,i*9+p,none⟩=false/\
  TI w n (((W.setCells (w.heap.size+1) (i*54+p*6) [.int .u8 c.d.pr,.string c.d.val,.bool c.d.must,.int .i64 c.ly,.int .i64 v,.int .i64 c.no]).drew.setCell ⟨w.heap.size,i*9+p,none⟩ (.string c.d.val)).drew) (gH S i p (c.d.val,{c with hv:=v})) ah ch l b9 c:=by
 have e:clL {c with hv:=v}=[.int .u8 c.d.pr,.string c.d.val,.bool c.d.must,.int .i64 c.ly,.int .i64 v,.int .i64 c.no]:=rfl;obtain⟨_,_,h3,h4⟩:=h.th.tb.setBest hi hp c.d.val {c with hv:=v};have hw:=h.win hi hp c.d.val {c with hv:=v};rw[e] at h3 h4 hw;have hf:=h.far;have h2:∀{wx:World} {cs:Array Value},wx.heap[b9]?=some (.cells cs 167 (0,0))->∀k u,(wx.setCell ⟨w.heap.size+1,k,none⟩ u).heap[b9]?=some (.cells cs 167 (0,0)):=λhx k u=>(Below.heap_setCell _ _ _ _ (by show b9≠w.heap.size+1;omega)).trans hx;have hb6:=h2 (h2 (h2 (h2 (h2 (h2 hb (i*54+p*6) (.int .u8 c.d.pr)) (i*54+p*6+1) (.string c.d.val)) (i*54+p*6+2) (.bool c.d.must)) (i*54+p*6+3) (.int .i64 c.ly)) (i*54+p*6+4) (.int .i64 v)) (i*54+p*6+5) (.int .i64 c.no);refine⟨?_,?_,?_,?_⟩
 ·rw[cell_drew_own];exact au hb6 rfl
 ·rw[cell_drew_own];exact h3
 ·rw[frozen_drew_own];exact h4
 ·rw[Ov];exact(hw.go bo.drew).go bo.drew
theorem Kr (s:ByteArray):s.toList.isEmpty=true↔s.size=0:=by
 constructor
 ·intro h;rcases Nat.eq_zero_or_pos s.size with h1 | h1
  ·exact h1
  ·rw[hE s h1] at h;cases h
 ·intro h;rw[eS h];unfold ByteArray.toList;unfold ByteArray.toList.loop;rw[aA (by decide)];rfl
theorem Mf (w:World)(d:Nat)(aa:List REl)(ae:Nat)(hp:Option Addr)(vT:Value)(br:Bool)(vL:Value)(h:RD w d aa ae hp vT br vL)(rk:Nat->Nat)(hr:rN aa rk)(lX:∀y∈aa,y.cl.size<=maxLen)
  (rs:List eI) (hs:ShM w hp rs) (qV:∀x∈rs,J9 x) (MM:rs.length<=400) (oL:∀r,lY rs r<=1000000) :
  Calls prog 65 #[.pointer (some ⟨d,0,none⟩)] w λe w'=>Us w aa rs e w':=by
 have bJ:=h.few;obtain⟨i0,hi,gP,gQ,gR⟩:=info_parts Tryz.infoq168;obtain⟨j0,hj,jz0,jz1,jz2⟩:=info_parts Tryz.info170
 have FU:∀u:World,(Instr.makeSlice 50 (.int .i64 (aa.length:Int)) (.int .i64 (aa.length:Int))).run prog u=.ok (.slice (some ⟨u.heap.size,0,none⟩) aa.length aa.length) (u.alloc (.cells (madeCells zT (aa.length*9)) 168)):=λu=>by
  have h:=run_make (P:=prog) u 50 168 i0 (.agg zT) underlying50 hi gP .i64 .i64 (aa.length:Int) (aa.length:Int) (by omega) (Int.le_refl _) (by rw[gR];omega) (by omega);simpa[gQ,Value.cells] using h
 have aed:∀u:World,(Instr.makeSlice 164 (.int .i64 (aa.length:Int)) (.int .i64 (aa.length:Int))).run prog u=.ok (.slice (some ⟨u.heap.size,0,none⟩) aa.length aa.length) (u.alloc (.cells (madeCells zB (aa.length*54)) 170)):=λu=>by
  have h:=run_make (P:=prog) u 164 170 j0 (.agg zB) underlying164 hj jz0 .i64 .i64 (aa.length:Int) (aa.length:Int) (by omega) (Int.le_refl _) (by rw[jz2];omega) (by omega);simpa[jz1,Value.cells] using h
 obtain⟨aL,cL,vq⟩:=h.shape;subst vq;obtain⟨b,a,c,xs,mn,rfl,oS,WG,UR⟩:=hs;have HR:Hid (RD w d aa ae (some ⟨b,0,none⟩) vT br (.slice aL aa.length cL)/\rN aa rk/\∀y∈aa,y.cl.size<=maxLen):=⟨h,hr,lX⟩;have HS:Hid (Sh w b (.slice a rs.length c) mn/\w.ownsRow 0 79 3 (.slice a rs.length c) rs.length xs/\(∀r (h:r<rs.length),RuM w xs r rs[r])/\(∀x∈rs,J9 x)/\∀r,lY rs r<=1000000):=⟨oS,WG,UR,qV,oL⟩;have HB:Hid (w.heap[d]?=some (.cells #[.pointer (some ⟨b,0,none⟩),.slice aL aa.length cL,.int .i64 ae,vT,.bool br] 52 (0,0))):=h.doc;have d1:=h.c1;have d1b:=(h.below (bo.alloc aF (.cells (madeCells zT (aa.length*9)) 168))).c1;clear h hr lX oS WG UR qV oL
 have HT0:Hid (TB w aa.length ((w.alloc (.cells (madeCells zT (aa.length*9)) 168)).alloc (.cells (madeCells zB (aa.length*54)) 170)) (sV aa rs 0)):=by
  refine⟨(Le w w.heap.size aa.length aF bJ).alloc _,?_,(bo.alloc aF _).alloc (by simp) _⟩;have:=Lc (w.alloc (.cells (madeCells zT (aa.length*9)) 168)) w.heap.size aa.length (by simp) bJ;simpa[sV] using this
 go_enter func65,ntmps65;go_upto_region 3 with fail;generalize (w.alloc (.cells (madeCells zT (aa.length*9)) 168)).alloc (.cells (madeCells zB (aa.length*54)) 170)=W1 at HT0 ⊢;clear d1 d1b FU aed hi hj gP gQ gR jz0 jz1 jz2;go_wp2_with fail
 go_loopg [5,6] rs.length (λgk nv rv wr=>∃r:Nat,nv=.int .i64 (lY rs r:Nat)/\rv=.int .i64 r/\r<=rs.length/\rs.length - r<=gk/\Hid (TB w aa.length wr (sV aa rs r)))
 case atStart=>exact⟨0,rfl,rfl,bm,by omega,HT0⟩
 case round=>
  obtain⟨r,rfl,rfl,jQ,fT,HT⟩:=hrel;have d0:wr.cell? ⟨d,0,none⟩=some (.pointer (some ⟨b,0,none⟩)):=au (HR.out.1.below HT.out.below).doc rfl;have s0:wr.cell? ⟨b,0,none⟩=some (.slice a rs.length c):=(HT.out.below.cell (p:=⟨b,0,none⟩) HS.out.1.lt).trans HS.out.1.c0
  by_cases bc:r<rs.length
  ·have hd:decide ((r:Int)<(rs.length:Int))=true:=by simp;omega
   have aa2:(r:Int)<(rs.length:Int):=by omega
   obtain⟨g,hg,di,gM⟩:=aX HS.out.2.1 (by omega);subst hg;obtain⟨aS,cS,aD,cD,ys,x1,x2,x3,x4,x5,x6⟩:=HS.out.2.2.1 r bc;have Ee:=HS.out.2.2.2.1 _ (bN bc)
   have Xt:Hid (sV aa rs (r+1)=pY aa.length (λi=>(cq aa rs[r].sels rs[r].sels.length)[i]?.getD 0) rs[r].ly rs[r].dl (lY rs r) (sV aa rs r) rs[r].dl.length/\lY rs (r+1)=lY rs r+rs[r].dl.length):=by
    refine⟨?_,?_⟩
    ·show(match rs[r]? with | none=>_ | some x=>_)=_;rw[bW bc]
    ·show lY rs r+(rs[r]?.map λx=>x.dl.length).getD 0=_;rw[bW bc];rfl
   have oL:=HS.out.2.2.2.2 r;generalize lY rs r=n0 at Xt oL ⊢;generalize sV aa rs r=S0 at HT Xt;generalize rs[r]=x at x1 x2 x3 x4 x5 x6 Ee Xt;have HX:Hid (J9 x/\w.ownsRow 0 81 1 (.slice aS x.sels.length cS) x.sels.length ys/\SelsM w 0 ys x.sels/\w.ownsRow 0 149 3 (.slice aD x.dl.length cD) x.dl.length (kW x.dl)):=⟨Ee,x4,x5,x6⟩;have hdf:=Ee.few
   have X5:Hid (∀wq,Below w.heap.size w wq->wq.cell? ⟨d,0,none⟩=some (.pointer (some ⟨b,0,none⟩))/\wq.cell? ⟨b,0,none⟩=some (.slice (some ⟨g,0,none⟩) rs.length c)/\wq.cell? ⟨g,r*3,none⟩=some (.int .i64 x.ly)/\wq.cell? ⟨g,r*3+1,none⟩=some (.slice aS x.sels.length cS)/\wq.cell? ⟨g,r*3+2,none⟩=some (.slice aD x.dl.length cD)):=λwq hB=>
    ⟨au (HR.out.1.below hB).doc rfl,(hB.cell (p:=⟨b,0,none⟩) HS.out.1.lt).trans HS.out.1.c0,(hB.cell (p:=⟨g,r*3,none⟩) di).trans (gM _ _ x1),(hB.cell (p:=⟨g,r*3+1,none⟩) di).trans (gM _ _ x2),(hB.cell (p:=⟨g,r*3+2,none⟩) di).trans (gM _ _ x3)⟩
   clear x1 x2 x3 x4 x5 x6 Ee gM d0 s0;obtain⟨d0,s0,q0,q1,q2⟩:=X5.out wr HT.out.below;go_wp2_with fail;refine(KO wr d aa ae _ vT br _ (HR.out.1.below HT.out.below) rk HR.out.2.1 HR.out.2.2 0 x.ly aS cS _ x.sels ys (aY HX.out.2.1 HT.out.below) (HX.out.2.2.1.below HT.out.below) HX.out.1.sok HX.out.1.sels).mono ?_;rintro e w2 ⟨ah,ch,rfl,XH,dk⟩;have hl:=gx aa x.sels x.sels.length;generalize cq aa x.sels x.sels.length=l at Xt XH hl ⊢;have HH0:Hid (TH w aa.length w2 (pY aa.length (λi=>l[i]?.getD 0) x.ly x.dl n0 S0 0) ah ch l):=⟨HT.out.go dk,ba XH HT.out.far⟩;have X4:Hid (_/\_):=⟨fT,bc⟩;clear XH dk HT d0 s0 q0 q1 q2 fT bc jQ hd;go_wp2_with fail
   go_loopg [5,8] x.dl.length (λKC nv dv wq=>∃dd:Nat,nv=.int .i64 (n0+dd:Nat)/\dv=.int .i64 dd/\dd<=x.dl.length/\x.dl.length - dd<=KC/\Hid (TH w aa.length wq (pY aa.length (λi=>l[i]?.getD 0) x.ly x.dl n0 S0 dd) ah ch l))
   case atStart=>exact⟨0,rfl,rfl,bm,by omega,HH0⟩
   case round=>
    obtain⟨dd,rfl,rfl,Rp,r9,HH⟩:=hrel;obtain⟨d0,s0,q0,q1,q2⟩:=X5.out wr HH.out.tb.below
    by_cases hdt:dd<x.dl.length
    ·have iC:decide ((dd:Int)<(x.dl.length:Int))=true:=by simp;omega
     have aiC:(dd:Int)<(x.dl.length:Int):=by omega
     obtain⟨gD,hgD,GU,GT⟩:=aX HX.out.2.2.2 (by omega);subst hgD;obtain⟨f0,f1,f2⟩:=OK hdt;have e0:=(HH.out.tb.below.cell (p:=⟨gD,dd*3,none⟩) GU).trans (GT _ _ f0);have e1:=(HH.out.tb.below.cell (p:=⟨gD,dd*3+1,none⟩) GU).trans (GT _ _ f1);have e2:=(HH.out.tb.below.cell (p:=⟨gD,dd*3+2,none⟩) GU).trans (GT _ _ f2);obtain⟨q,hq,KX⟩:=HX.out.1.dok _ (bN hdt)
     have vz:Hid (pY aa.length (λi=>l[i]?.getD 0) x.ly x.dl n0 S0 (dd+1)=ic (pY aa.length (λi=>l[i]?.getD 0) x.ly x.dl n0 S0 dd) ⟨x.dl[dd],x.ly,0,(n0:Int)+dd+1⟩ (λi=>l[i]?.getD 0) q aa.length):=by
      show(match x.dl[dd]? with | none=>_ | some x=>_)=_;rw[bW hdt];show ic _ _ _ (Lz _) _=_;unfold Lz;rw[hq,show((n0+dd+1:Nat):Int)=(n0:Int)+dd+1 from by omega];rfl
     have HQ:Hid (fw x.dl[dd].pr=some q):=hq;clear hq;have XW:Hid (Below w.heap.size w (wr.alloc (.cells #[.int .u8 0,.string ⟨#[]⟩,.bool false,.int .i64 0,.int .i64 0,.int .i64 0] 167))):=HH.out.tb.below.alloc HH.out.tb.below.size _;obtain⟨d0a,s0a,q0a,q1a,q2a⟩:=X5.out _ XW.out;have e0a:=(XW.out.cell (p:=⟨gD,dd*3,none⟩) GU).trans (GT _ _ f0);have e1a:=(XW.out.cell (p:=⟨gD,dd*3+1,none⟩) GU).trans (GT _ _ f1);have e2a:=(XW.out.cell (p:=⟨gD,dd*3+2,none⟩) GU).trans (GT _ _ f2);clear f0 f1 f2 GT GU q1 q1a;generalize x.dl[dd]=y at e0 e1 e2 e0a e1a e2a vz HQ;generalize pY aa.length (λi=>l[i]?.getD 0) x.ly x.dl n0 S0 dd=S1 at HH vz;go_upto_region 12 with fail
     go_region
     have Yv:Hid (TI w aa.length ((wr.alloc (.cells #[.int .u8 y.pr,.string y.val,.bool y.must,.int .i64 x.ly,.int .i64 0,.int .i64 ((n0:Int)+dd+1)] 167)).drew) S1 ah ch l wr.heap.size ⟨y,x.ly,0,(n0:Int)+dd+1⟩):=by
      have hB:Below wr.heap.size wr ((wr.alloc (.cells #[.int .u8 y.pr,.string y.val,.bool y.must,.int .i64 x.ly,.int .i64 0,.int .i64 ((n0:Int)+dd+1)] 167)).drew):=(bo.alloc aF _).drew;exact⟨HH.out.go hB,⟨0,heap_alloc_new wr _⟩,HH.out.tb.far,λe=>by have:=(HH.out.hv.lt _ e).2;omega⟩
     clear HH XW d0 s0 q0 q2 d0a s0a q0a q2a e0 e1 e2 e0a e1a e2a;generalize (wr.alloc (.cells #[.int .u8 y.pr,.string y.val,.bool y.must,.int .i64 x.ly,.int .i64 0,.int .i64 ((n0:Int)+dd+1)] 167)).drew=W3 at Yv ⊢;generalize wr.heap.size=b9 at Yv ⊢
     have IY:W3.cell? ⟨b9,0,none⟩=some (.int .u8 y.pr):=by
      obtain⟨h4,hb⟩:=Yv.out.blk;exact au hb rfl
     go_wp2_with fail;refine(qn W3 y.pr).mono ?_;rintro e w4 ⟨p,rfl,rfl,HP⟩;obtain⟨W3,rfl⟩:∃W3,W3=w4:=⟨_,rfl⟩
     have kK:q=p:=by
      have h1:=HQ.out;rcases HP.out with⟨_,h2⟩ | ⟨_,h2⟩
      ·rw[h1] at h2;injection h2
      ·rw[h1] at h2;cases h2
     subst kK;clear HP HQ IY;generalize hCe:(⟨y,x.ly,0,(n0:Int)+dd+1⟩:Cl)=C at Yv vz;have XY:Hid (C.d=y/\C.ly=x.ly/\C.no=(n0:Int)+dd+1):=by rw[<-hCe];exact⟨rfl,rfl,rfl⟩
     have C3:Hid (_/\_):=⟨r9,hdt⟩;clear hCe r9 hdt Rp iC aa2 oL;go_wp2_with fail
     go_loopg [11] aa.length (λgk3 iv wq=>∃i:Nat,iv=.int .i64 i/\i<=aa.length/\aa.length - i<=gk3/\Hid (TI w aa.length wq (ic S1 C (λi=>l[i]?.getD 0) q i) ah ch l b9 C))
     case atStart=>exact⟨0,rfl,bm,by omega,Yv.out.tab (H6 _ _ _ _).symm⟩
     case round=>as_aux_lemma=>
      obtain⟨i,rfl,aiY,O6,HI⟩:=hrel;have d1:=(HR.out.1.below HI.out.th.tb.below).c1
      by_cases hit:i<aa.length
      ·have uA:decide ((i:Int)<(aa.length:Int))=true:=by simp;omega
       have aiZ:(i:Int)<(aa.length:Int):=by omega
       have ajm:(q:Int)<9:=by omega
       obtain⟨gh,hgh,aiQ,aaM⟩:=aX HI.out.th.hv (by omega);subst hgh;obtain⟨v,hv⟩:∃v,l[i]?=some v:=⟨_,bW (by omega)⟩;have k0:=aaM i (.int .i64 v) (by rw[List.getElem?_map,hv];rfl);obtain⟨h4,MI⟩:=HI.out.blk;have c4:wr.cell? ⟨b9,4,none⟩=some (.int .i64 h4):=au MI rfl;have cz:∀k,wr.frozen? ⟨b9,k,none⟩=false:=λk=>aH MI;have FM:Hid (TI w aa.length (wr.setCell ⟨b9,4,none⟩ (.int .i64 v)) (ic S1 C (λi=>l[i]?.getD 0) q i) (some ⟨gh,0,none⟩) ch l b9 C/\(wr.setCell ⟨b9,4,none⟩ (.int .i64 v)).heap[b9]?=some (.cells #[.int .u8 C.d.pr,.string C.d.val,.bool C.d.must,.int .i64 C.ly,.int .i64 v,.int .i64 C.no] 167 (0,0))):=HI.out.setH v
       have k1:(wr.setCell ⟨b9,4,none⟩ (.int .i64 v)).cell? ⟨gh,i,none⟩=some (.int .i64 v):=by
        obtain⟨g2,iD,_,zf⟩:=aX FM.out.1.th.hv (by omega);injection iD with iD
        injection iD with iD
        rw[iD];exact zf i (.int .i64 v) (by rw[List.getElem?_map,hv];rfl)
       have fI:Hid (ic S1 C (λi=>l[i]?.getD 0) q (i+1)=gH (ic S1 C (λi=>l[i]?.getD 0) q i) i q (uj v C (ic S1 C (λi=>l[i]?.getD 0) q i i q))):=by
        unfold Hid;rw[H5,QO];show gH _ _ _ (uj (l[i]?.getD 0) _ _)=_;rw[hv];rfl
       clear aaM MI hv HI;generalize ic S1 C (λi=>l[i]?.getD 0) q i=S2 at FM fI
       by_cases hneg:v<0
       ·have gn:decide (v<0)=true:=by simpa using hneg
        have qp:Hid (TI w aa.length (wr.setCell ⟨b9,4,none⟩ (.int .i64 v)) (ic S1 C (λi=>l[i]?.getD 0) q (i+1)) (some ⟨gh,0,none⟩) ch l b9 C):=by
         refine FM.out.1.tab ?_;rw[fI.out];unfold uj;rw[aE hneg,uT]
        clear FM fI hneg;go_wp2;go_roundg (aa.length - (i+1))
        case measure=>omega
        case rel=>exact⟨i+1,by go_num,by omega,aF,qp⟩
       ·have gn:decide (v<0)=false:=by simpa using hneg
        have HNG:Hid (¬v<0):=hneg;clear hneg;go_upto_region 19 with fail;generalize wr.setCell ⟨b9,4,none⟩ (.int .i64 v)=W4 at FM ⊢;clear k0 k1 c4 cz d1 gn h4;have o0:W4.cell? ⟨w.heap.size,i*9+q,none⟩=some (.string (S2 i q).1):=(FM.out.1.th.tb.out.cellAt _ (by omega)).trans (DJ hit KX);have Xr:Hid (((S2 i q).1.toList.isEmpty=true↔(S2 i q).1.size=0)):=Kr _
        have Bv:Hid (∀bb:Bool,(uj v C (S2 i q)=(if((S2 i q).1.toList.isEmpty||bb)=true then(C.d.val,{C with hv:=v}) else S2 i q))∨bb≠yN {C with hv:=v} (S2 i q).2):=λbb=>by
         by_cases hb:bb=yN {C with hv:=v} (S2 i q).2
         ·left;unfold uj;rw[aA HNG.out,hb]
          by_cases he:(S2 i q).1.toList.isEmpty=true
          ·rw[aE (ax (Xr.out.1 he)),he,Bool.true_or,aE rfl]
          ·have GP:(S2 i q).1.toList.isEmpty=false:=by simpa using he
           rw[GP,Bool.false_or]
           by_cases hw:yN {C with hv:=v} (S2 i q).2=true
           ·rw[aE (az hw),aE hw]
           ·rw[aA (λh=>h.elim (λh=>he (Xr.out.2 h)) hw),aA hw]
         ·exact az hb
        clear HNG Xr;obtain⟨gB,xz⟩:∃gB,S2 i q=gB:=⟨_,rfl⟩;have Bq:Hid (S2 i q=gB):=xz;rw[xz] at Bv fI o0;clear xz;obtain⟨fe,D1⟩:∃fe,gB.1.toList.isEmpty=fe:=⟨_,rfl⟩;rw[D1] at Bv;have Q9:Hid (gB.1.toList.isEmpty=fe):=D1;have m0:W4.cell? ⟨b9,0,none⟩=some (.int .u8 C.d.pr):=au FM.out.2 rfl
        have HK4:Hid (∀wx,Below W4.heap.size W4 wx->(wx.cell? ⟨b9,0,none⟩=some (.int .u8 C.d.pr)/\wx.cell? ⟨b9,1,none⟩=some (.string C.d.val)/\wx.cell? ⟨b9,2,none⟩=some (.bool C.d.must)/\wx.cell? ⟨b9,3,none⟩=some (.int .i64 C.ly)/\wx.cell? ⟨b9,4,none⟩=some (.int .i64 v)/\wx.cell? ⟨b9,5,none⟩=some (.int .i64 C.no))/\(wx.cell? ⟨w.heap.size+1,i*54+q*6,none⟩=some (.int .u8 gB.2.d.pr)/\wx.cell? ⟨w.heap.size+1,i*54+q*6+1,none⟩=some (.string gB.2.d.val)/\wx.cell? ⟨w.heap.size+1,i*54+q*6+2,none⟩=some (.bool gB.2.d.must)/\wx.cell? ⟨w.heap.size+1,i*54+q*6+3,none⟩=some (.int .i64 gB.2.ly)/\wx.cell? ⟨w.heap.size+1,i*54+q*6+4,none⟩=some (.int .i64 gB.2.hv)/\wx.cell? ⟨w.heap.size+1,i*54+q*6+5,none⟩=some (.int .i64 gB.2.no))):=λwx hB=>by
         have hb:=(hB.block b9 (bG.1 FM.out.2).1).trans FM.out.2;have CL:=aY FM.out.1.th.tb.best hB
         have e:∀r,r<6->wx.cell? ⟨w.heap.size+1,i*54+q*6+r,none⟩=some (tF gB.2 r):=λr hr=>by
          rw[<-Bq.out];exact(CL.cellAt _ (by omega)).trans (DI hit KX hr)
         exact⟨⟨au hb rfl,au hb rfl,au hb rfl,au hb rfl,au hb rfl,au hb rfl⟩,e 0 (by omega),e 1 (by omega),e 2 (by omega),e 3 (by omega),e 4 (by omega),e 5 (by omega)⟩
        have H0:Hid (Below W4.heap.size W4 W4.drew):=(Below.refl _ W4).drew;have adP:b9<W4.heap.size:=(bG.1 FM.out.2).1;have adQ:w.heap.size+1<W4.heap.size:=by have:=FM.out.1.th.tb.far;omega
        clear m0;go_wp2_with fail;clear D1 o0
        go_cut [13] from 99 to 150 (λbv wx=>∃bb:Bool,bv=.bool bb/\Hid (bb=yN {C with hv:=v} gB.2/\Below W4.heap.size W4 wx))
        case first=>
         go_region_held3 (λw'=>(w'.cell? ⟨b9,0,none⟩=some (.int .u8 C.d.pr)/\w'.cell? ⟨b9,1,none⟩=some (.string C.d.val)/\w'.cell? ⟨b9,2,none⟩=some (.bool C.d.must)/\w'.cell? ⟨b9,3,none⟩=some (.int .i64 C.ly)/\w'.cell? ⟨b9,4,none⟩=some (.int .i64 v)/\w'.cell? ⟨b9,5,none⟩=some (.int .i64 C.no))/\(w'.cell? ⟨w.heap.size+1,i*54+q*6,none⟩=some (.int .u8 gB.2.d.pr)/\w'.cell? ⟨w.heap.size+1,i*54+q*6+1,none⟩=some (.string gB.2.d.val)/\w'.cell? ⟨w.heap.size+1,i*54+q*6+2,none⟩=some (.bool gB.2.d.must)/\w'.cell? ⟨w.heap.size+1,i*54+q*6+3,none⟩=some (.int .i64 gB.2.ly)/\w'.cell? ⟨w.heap.size+1,i*54+q*6+4,none⟩=some (.int .i64 gB.2.hv)/\w'.cell? ⟨w.heap.size+1,i*54+q*6+5,none⟩=some (.int .i64 gB.2.no))) (first | exact HK4.out _ HX.out | exact HK4.out _ H0.out)
          (first | (go_at_call 102;refine(Q3 _ C.d.pr C.d.val C.d.must C.ly v C.no gB.2.d.pr gB.2.d.val gB.2.d.must gB.2.ly gB.2.hv gB.2.no).mono ?_;rintro e w5 ⟨rfl,xr⟩;have HX:Hid (Below W4.heap.size W4 w5):=H0.out.trans xr;clear xr))
         all_goals
          go_wp2_with fail;go_meet;exact⟨_,rfl,rfl,HX.out⟩
        case rest=>
         obtain⟨bb,rfl,qJ⟩:=hcut;obtain⟨W5,rfl⟩:∃W5,W5=wc:=⟨_,rfl⟩;have HUB:Hid (uj v C gB=if(fe||bb)=true then(C.d.val,{C with hv:=v}) else gB):=(Bv.out bb).resolve_right (λh=>h qJ.out.1);have FL:Hid (TI w aa.length W5 S2 (some ⟨gh,0,none⟩) ch l b9 C):=FM.out.1.go qJ.out.2;obtain⟨⟨c0,c1,c2,c3,c4,c5⟩,k0,k1,k2,k3,k4,k5⟩:=HK4.out _ qJ.out.2;have Mw:Hid (W5.heap[b9]?=some (.cells #[.int .u8 C.d.pr,.string C.d.val,.bool C.d.must,.int .i64 C.ly,.int .i64 v,.int .i64 C.no] 167 (0,0))):=(qJ.out.2.block b9 (bG.1 FM.out.2).1).trans FM.out.2;have bz:∀j,W5.frozen? ⟨w.heap.size+1,j,none⟩=false:=λj=>FL.out.th.tb.best.frozenAt j;have adP:b9<W5.heap.size:=(bG.1 Mw.out).1;have adQ:w.heap.size+1<W5.heap.size:=by have:=FL.out.th.tb.far;omega
         have gE:Hid (ic S1 C (λi=>l[i]?.getD 0) q (i+1)=gH S2 i q (if(fe||bb)=true then(C.d.val,{C with hv:=v}) else gB)):=by unfold Hid;rw[fI.out,HUB.out]
         clear qJ Bv HK4 H0 FM HUB fI
         by_cases hfb:(fe||bb)=true
         ·have FH:Hid (w.heap.size+2<=b9):=FL.out.far;have aaY:¬b9=w.heap.size+1:=by have:=FH.out;omega
          have KT:¬b9=w.heap.size:=by have:=FH.out;omega
          obtain⟨lZ,zf,Wr,hti⟩:=FL.out.end1 Mw.out hit KX;have Ry:Hid ((W5.setCells (w.heap.size+1) (i*54+q*6) [.int .u8 C.d.pr,.string C.d.val,.bool C.d.must,.int .i64 C.ly,.int .i64 v,.int .i64 C.no]).drew.cell? ⟨b9,1,none⟩=some (.string C.d.val)):=lZ;have CK:Hid ((W5.setCells (w.heap.size+1) (i*54+q*6) [.int .u8 C.d.pr,.string C.d.val,.bool C.d.must,.int .i64 C.ly,.int .i64 v,.int .i64 C.no]).drew.cell? ⟨w.heap.size,i*9+q,none⟩=some (.string (S2 i q).1)):=zf;have HC3:Hid ((W5.setCells (w.heap.size+1) (i*54+q*6) [.int .u8 C.d.pr,.string C.d.val,.bool C.d.must,.int .i64 C.ly,.int .i64 v,.int .i64 C.no]).drew.frozen? ⟨w.heap.size,i*9+q,none⟩=false):=Wr
          have Ys:Hid (ic S1 C (λi=>l[i]?.getD 0) q (i+1)=gH S2 i q (C.d.val,{C with hv:=v})):=by
           unfold Hid;rw[gE.out,aE hfb]
          have qp:Hid (TI w aa.length (((W5.setCells (w.heap.size+1) (i*54+q*6) [.int .u8 C.d.pr,.string C.d.val,.bool C.d.must,.int .i64 C.ly,.int .i64 v,.int .i64 C.no]).drew.setCell ⟨w.heap.size,i*9+q,none⟩ (.string C.d.val)).drew) (ic S1 C (λi=>l[i]?.getD 0) q (i+1)) (some ⟨gh,0,none⟩) ch l b9 C):=hti.tab Ys.out.symm;clear lZ zf Wr hti Ys;clear gE Q9 Bq FH Mw FL;cases fe with
          | true=>
           clear hfb;go_upto_region 22 with fail;refine Jo W5 (w.heap.size+1) w.heap.size b9 aa.length i q hit KX C.d.pr C.ly v C.no C.d.val C.d.must _ _ _ _ _ _ c0 c1 c2 c3 c4 c5 k0 k1 k2 k3 k4 k5 bz aaY _ _ _ _ _ _ _ _ _ _ _ _ _ _ _ _ _ _ _ _ _ _ _ _ _ _ _ _ _ _ _ _ _ _ _ _ _ _ _ _ _ _ _ _ _ _ _ _ _ _ _ _ _ _ _ _ _ _ _ _ _ _ _ _ _ _ _ _ _ _ _ _ _ _ _ _ _ _ _ _ _ _ _ _ _ _ _ _ _ _ _ _ _ _ _ _ _ _ _ _ _ _ _ _ _ _ _ _ _ _ _ _ _ _ _ _ _ _ _ _ _ _ _ _ _ _ _ _ _ _ _ _ _ _ _ _ _ _ _ _ _ _ _ _ _ _ _ _ ?_;clear c0 c1 c2 c3 c4 c5 k0 k1 k2 k3 k4 k5 bz;intro a1 a2 a3 a4 a5 a6;go_upto_region 23 with fail;refine Jp _ (w.heap.size+1) w.heap.size b9 aa.length i q hit KX C.d.val _ Ry.out CK.out HC3.out KT _ _ _ _ _ _ _ _ _ _ _ _ _ _ _ _ _ _ _ _ _ _ _ _ _ _ _ _ _ _ _ _ _ _ _ _ _ _ _ _ _ _ _ _ _ _ _ _ _ _ _ _ _ _ _ _ _ _ _ _ _ _ _ _ _ _ _ _ _ _ _ _ _ _ _ _ _ _ _ _ _ _ _ _ _ _ _ _ _ _ _ _ _ _ _ _ _ _ _ _ _ _ _ _ _ _ _ _ _ _ _ _ _ _ _ _ _ _ _ _ _ _ _ _ _ _ _ _ _ _ _ _ _ _ _ _ _ _ _ _ _ _ _ _ _ _ _ _ ?_;intro e1 e2 e3 e4 e5 e6 e7 e8;clear Ry CK HC3;generalize ((W5.setCells (w.heap.size+1) (i*54+q*6) [.int .u8 C.d.pr,.string C.d.val,.bool C.d.must,.int .i64 C.ly,.int .i64 v,.int .i64 C.no]).drew.setCell ⟨w.heap.size,i*9+q,none⟩ (.string C.d.val)).drew=W7 at qp ⊢;go_wp2;go_roundg (aa.length - (i+1))
           case measure=>omega
           case rel=>exact⟨i+1,by go_num,by omega,aF,qp⟩
          | false=>
           obtain rfl:bb=true:=by simpa using hfb
           clear hfb;go_upto_region 22 with fail;refine Jo W5 (w.heap.size+1) w.heap.size b9 aa.length i q hit KX C.d.pr C.ly v C.no C.d.val C.d.must _ _ _ _ _ _ c0 c1 c2 c3 c4 c5 k0 k1 k2 k3 k4 k5 bz aaY _ _ _ _ _ _ _ _ _ _ _ _ _ _ _ _ _ _ _ _ _ _ _ _ _ _ _ _ _ _ _ _ _ _ _ _ _ _ _ _ _ _ _ _ _ _ _ _ _ _ _ _ _ _ _ _ _ _ _ _ _ _ _ _ _ _ _ _ _ _ _ _ _ _ _ _ _ _ _ _ _ _ _ _ _ _ _ _ _ _ _ _ _ _ _ _ _ _ _ _ _ _ _ _ _ _ _ _ _ _ _ _ _ _ _ _ _ _ _ _ _ _ _ _ _ _ _ _ _ _ _ _ _ _ _ _ _ _ _ _ _ _ _ _ _ _ _ _ ?_;clear c0 c1 c2 c3 c4 c5 k0 k1 k2 k3 k4 k5 bz;intro a1 a2 a3 a4 a5 a6;go_upto_region 23 with fail;refine Jp _ (w.heap.size+1) w.heap.size b9 aa.length i q hit KX C.d.val _ Ry.out CK.out HC3.out KT _ _ _ _ _ _ _ _ _ _ _ _ _ _ _ _ _ _ _ _ _ _ _ _ _ _ _ _ _ _ _ _ _ _ _ _ _ _ _ _ _ _ _ _ _ _ _ _ _ _ _ _ _ _ _ _ _ _ _ _ _ _ _ _ _ _ _ _ _ _ _ _ _ _ _ _ _ _ _ _ _ _ _ _ _ _ _ _ _ _ _ _ _ _ _ _ _ _ _ _ _ _ _ _ _ _ _ _ _ _ _ _ _ _ _ _ _ _ _ _ _ _ _ _ _ _ _ _ _ _ _ _ _ _ _ _ _ _ _ _ _ _ _ _ _ _ _ _ ?_;intro e1 e2 e3 e4 e5 e6 e7 e8;clear Ry CK HC3;generalize ((W5.setCells (w.heap.size+1) (i*54+q*6) [.int .u8 C.d.pr,.string C.d.val,.bool C.d.must,.int .i64 C.ly,.int .i64 v,.int .i64 C.no]).drew.setCell ⟨w.heap.size,i*9+q,none⟩ (.string C.d.val)).drew=W7 at qp ⊢;go_wp2;go_roundg (aa.length - (i+1))
           case measure=>omega
           case rel=>exact⟨i+1,by go_num,by omega,aF,qp⟩
         ·have r8:fe=false:=by simp at hfb;exact hfb.1
          have bM:bb=false:=by simp at hfb;exact hfb.2
          have qp:Hid (TI w aa.length W5 (ic S1 C (λi=>l[i]?.getD 0) q (i+1)) (some ⟨gh,0,none⟩) ch l b9 C):=by
           refine FL.out.tab ?_;rw[gE.out,aA hfb,<-Bq.out,uT]
          subst r8 bM;clear gE hfb Q9 Bq FL c0 c1 c2 c3 c4 c5 k0 k1 k2 k3 k4 k5 bz Mw;go_wp2;go_roundg (aa.length - (i+1))
          case measure=>omega
          case rel=>exact⟨i+1,by go_num,by omega,aF,qp⟩
      ·have uA:decide ((i:Int)<(aa.length:Int))=false:=by simp;omega
       obtain rfl:i=aa.length:=by omega
       have HF:Hid (TH w aa.length wr (pY aa.length (λi=>l[i]?.getD 0) x.ly x.dl n0 S0 (dd+1)) ah ch l):=by
        unfold Hid;rw[vz.out];exact HI.out.th
       clear HI;go_wp2;go_roundg (x.dl.length - (dd+1))
       case measure=>
        have hm:=C3.out;omega
       case rel=>exact⟨dd+1,by go_num,by go_num,C3.out.2,aF,HF⟩
    ·have iC:decide ((dd:Int)<(x.dl.length:Int))=false:=by simp;omega
     obtain rfl:dd=x.dl.length:=by omega
     have HF:Hid (TB w aa.length wr (sV aa rs (r+1))/\(n0+x.dl.length:Nat)=lY rs (r+1)):=⟨by rw[Xt.out.1];exact HH.out.tb,Xt.out.2.symm⟩;clear HH;go_wp2;go_roundg (rs.length - (r+1))
     case measure=>
      have hm:=X4.out;omega
     case rel=>exact⟨r+1,by rw[HF.out.2],by go_num,X4.out.2,aF,HF.out.1⟩
  ·have hd:decide ((r:Int)<(rs.length:Int))=false:=by simp;omega
   obtain rfl:r=rs.length:=by omega
   have HF:Hid (Us w aa rs (.returned (.slice (some ⟨w.heap.size,0,none⟩) aa.length aa.length)) wr):=⟨rfl,by have:=HT.out.out;rw[DK] at this;exact this,HT.out.below⟩;clear HT;go_wp2;go_ret;exact HF.out
section
variable {Rr:List eI}
theorem Rel2.mem {α β:Type}{R:α->β->Prop}{l:List α}{m:List β}(h:Rel2 R l m){x:α}(hx:x∈l):∃y∈m,R x y:=by
 obtain⟨i,hi,rfl⟩:=List.getElem_of_mem hx;exact⟨_,bN (by rw[<-h.1];exact hi),h.at' hi⟩
section
variable {w w':World}{d:Nat}{aa:List REl}{ae:Nat}{hp:Option Addr}{vT:Value}{br:Bool}{vL:Value}{Rr:List eI}{Gs:Nat->Prop}{M:Nat->Mk}{shn:Nat->Bool}{rs:List dx}
theorem IC (h:∀x∈Rr,x.dl.length<=400):∀r,r<=Rr.length->lY Rr r<=r*400
 | 0,_=>aF
 | r+1,hr=>by
  have ih:=IC h r (by omega);show lY Rr r+(Rr[r]?.map λx=>x.dl.length).getD 0<=(r+1)*400;rw[bW (by omega)];have:=h _ (bN (show r<Rr.length by omega));show lY Rr r+Rr[r].dl.length<=_;omega
theorem Do (h:∀x∈Rr,x.dl.length<=400)(hl:Rr.length<=400):∀r,lY Rr r<=1000000
 | 0=>bm
 | r+1=>by
  by_cases hr:r+1<=Rr.length
  ·have:=IC h (r+1) hr;omega
  ·have ih:=Do h hl r;show lY Rr r+(Rr[r]?.map λx=>x.dl.length).getD 0<=_;rw[List.getElem?_eq_none (by omega)];exact ih
theorem RX.ruok (h:RX w d aa ae hp vT br vL Rr Gs M shn rs):∀x∈Rr,J9 x:=λx hx=>by
 obtain⟨y,_,hr⟩:=h.rel.mem hx;refine⟨hr.fs,λcs kr=>?_,hr.fd,λdc hdc=>?_⟩
 ·obtain⟨z,_,hz⟩:=hr.sels.mem kr;exact WX h.tw h.re.rm hz
 ·obtain⟨z,_,hz⟩:=hr.dl.mem hdc;exact AU hz.isp
theorem Qp {c q:Nat}(h:fw c=some q):q<9:=by
 unfold fw at h;split at h
 ·injection h with h;omega
 ·split at h
  ·injection h with h;omega
  ·cases h
theorem t9 (s:ByteArray):lP s=ji s:=by
 unfold lP ji;split
 ·exact ri _
 ·rfl
theorem RX.depth (h:RX w d aa ae hp vT br vL Rr Gs M shn rs){y:REl}(hy:y∈aa):wi aa aa.length y.num:=by
 refine Aa _ _ (h.tw.up_end (jR hy) ?_);rw[rQ];exact Nat.le_succ _
theorem RX.mem (h:RX w d aa ae hp vT br vL Rr Gs M shn rs):∀y∈aa,y.cl.size<=maxLen:=λy hy=>by
 have:=(h.re.cls y hy).few;unfold maxLen;omega
theorem RX.table (h:RX w d aa ae hp vT br vL Rr Gs M shn rs){w1:World}{v:Value}(hB:Below w.heap.size w w1)(ho:w1.ownsRow w.heap.size 168 9 v aa.length (mi (Me aa Rr) aa.length)):
  RX ((w1.setCell ⟨d,3,none⟩ v).setCell ⟨d,4,none⟩ (.bool true)) d aa ae hp v true vL Rr Gs M shn rs/\Fr w ((w1.setCell ⟨d,3,none⟩ v).setCell ⟨d,4,none⟩ (.bool true)) (jX d aa vL):=by
 have hR1:RD w1 d aa ae hp vT br vL:=h.rd.keep (λk _ hl=>hB.block k hl);have hR2:RD (w1.setCell ⟨d,3,none⟩ v) d aa ae hp v br vL:=hR1.setDoc' rfl;have fF:Fr w ((w1.setCell ⟨d,3,none⟩ v).setCell ⟨d,4,none⟩ (.bool true)) (jX d aa vL):=(((Fr.refl w _).below hB).set (p:=⟨d,3,none⟩) (ax (ax rfl)) _).set (p:=⟨d,4,none⟩) (ax (ax rfl)) _;have ho0:=ba ho bm;refine⟨⟨hR2.setDoc' rfl,h.tw,h.re,h.sh.keep (λk hg hl=>fF.block k hl (h.ga k hg)) fF.size,h.rel,h.few,λ_=>⟨Me aa Rr,?_,Mg h.tw h.re.rm h.rel⟩,λk hg=>Nat.lt_of_lt_of_le (h.gl k hg) fF.size,h.ga⟩,fF⟩;have h2:=bw ho0 (p:=⟨d,3,none⟩) (aN ho0 hR1.doc (by decide)) v;exact bw h2 (p:=⟨d,4,none⟩) (aN h2 hR2.doc (by decide)) _
end
section
variable (w:World)(d:Nat)(aa:List REl)(ae:Nat)(hp:Option Addr)(vT:Value)(br:Bool)(vL:Value)(Rr:List eI)(Gs:Nat->Prop)(M:Nat->Mk)(shn:Nat->Bool)(rs:List dx)
def mT (n:Int)(s:ByteArray)(e:Ending)(w':World):Prop:=
 (bD (aW aa) n s≠0/\e=.returned (.tuple #[.int .i64 0,.int .i64 (bD (aW aa) n s)])/\w'=w)∨
 (bD (aW aa) n s=0/\e=.returned (.tuple #[.int .i64 (eD (aW aa) M rs n s),.int .i64 0])/\∃rD,RX w' d aa ae hp rD true vL Rr Gs M shn rs/\((rD=vT/\br=true)∨∀j,rD.ownBlock=some j->w.heap.size<=j)/\Fr w w' (jX d aa vL))
theorem ya (n:Int)(s:ByteArray)(h:RX w d aa ae hp vT br vL Rr Gs M shn rs):
  Calls prog 33 #[.pointer (some ⟨d,0,none⟩),.int .i64 n,.string s] w λe w'=>mT w d aa ae hp vT br vL Rr Gs M shn rs n s e w':=by
 have HX:=aw h;clear h;go_enter func33,ntmps33;go_wp2_with fail;refine(eJ w d aa ae hp vT br vL n HX.out.rd).mono ?_;rintro e w1 ⟨rfl,rfl⟩;obtain⟨w,rfl⟩:∃w,w=w1:=⟨_,rfl⟩;cases hf:bR aa n with
 | none=>
  have he:fk none=.pointer none:=rfl;rw[he]
  have HE:Hid (mT w d aa ae hp vT br vL Rr Gs M shn rs n s (.returned (.tuple #[.int .i64 0,.int .i64 5])) w):=by
   have hc:bD (aW aa) n s=5:=by unfold bD;rw[cW hf]
   exact ax ⟨by rw[hc];decide,by rw[hc],rfl⟩
  clear he hf;go_wp2;go_ret2;exact HE.out
 | some y=>
  have he:fk (some y)=.pointer (some ⟨y.blk,0,none⟩):=rfl;rw[he];obtain⟨Pq,As⟩:=cY hf;have HF:=kC hf Pq As;clear he hf Pq As;go_wp2_with fail;refine(zx w s).mono ?_;rintro e w1 ⟨rfl,rfl⟩;obtain⟨w,rfl⟩:∃w,w=w1:=⟨_,rfl⟩;cases zi:lP s with
  | none=>
   have HE:Hid (mT w d aa ae hp vT br vL Rr Gs M shn rs n s (.returned (.tuple #[.int .i64 0,.int .i64 4])) w):=by
    have hc:bD (aW aa) n s=4:=by unfold bD;rw[cU HF.out.1];show(match ji s with | none=>(4:Int) | some _=>0)=4;rw[<-t9,zi]
    exact ax ⟨by rw[hc];decide,by rw[hc],rfl⟩
   have hi:AT none=-1:=rfl;rw[hi];clear hi zi;go_wp2;go_ret2;exact HE.out
  | some p=>
   have hi:AT (some p)=(p:Int):=rfl;rw[hi]
   have Pe:p<9:=by
    unfold lP at zi;split at zi
    ·exact Qp zi
    ·cases zi
   have HE:Hid (∀w' rD Tb,RX w' d aa ae hp rD true vL Rr Gs M shn rs->((rD=vT/\br=true)∨∀j,rD.ownBlock=some j->w.heap.size<=j)->Fr w w' (jX d aa vL)->TabR aa M rs Tb->mT w d aa ae hp vT br vL Rr Gs M shn rs n s (.returned (.tuple #[.int .i64 (kS aa Tb aa.length n p),.int .i64 0])) w'):=λw' rD Tb h1 h2 h3 h4=>by
    have hc:bD (aW aa) n s=0:=by unfold bD;rw[cU HF.out.1];show(match ji s with | none=>(4:Int) | some _=>0)=0;rw[<-t9,zi]
    refine az ⟨hc,?_,rD,h1,h2,h3⟩
    have hv:eD (aW aa) M rs n s=kS aa Tb aa.length n p:=by
     unfold eD;rw[aE hc,<-HF.out.2.2,yA HX.out.tw h4 aa.length HF.out.2.1 (HX.out.depth HF.out.2.1) p Pe,<-t9,zi];rfl
    rw[hv]
   have HD:Hid (wi aa aa.length n):=by unfold Hid;rw[<-HF.out.2.2];exact HX.out.depth HF.out.2.1
   have gp:decide ((p:Int)<0)=false:=by simp
   have ml:(p:Int)<9:=by omega
   have IY:(0:Int)<=(p:Int):=by omega
   have d4:w.cell? ⟨d,4,none⟩=some (.bool br):=au HX.out.rd.doc rfl;clear hi zi;obtain⟨rk,Td⟩:=pN HX.out.tw;go_upto_if 24 with fail
   go_cut [9] from 20 to 42 (λpv wx=>pv=.int .i64 p/\Hid (∃rD Tb,RX wx d aa ae hp rD true vL Rr Gs M shn rs/\((rD=vT/\br=true)∨∀j,rD.ownBlock=some j->w.heap.size<=j)/\Fr w wx (jX d aa vL)/\wx.ownsRow 0 168 9 rD aa.length (mi Tb aa.length)/\TabR aa M rs Tb))
   case first=>
    cases br with
    | true=>
     have HG:Hid (∃rD Tb,RX w d aa ae hp rD true vL Rr Gs M shn rs/\((rD=vT/\true=true)∨∀j,rD.ownBlock=some j->w.heap.size<=j)/\Fr w w (jX d aa vL)/\w.ownsRow 0 168 9 rD aa.length (mi Tb aa.length)/\TabR aa M rs Tb):=by
      obtain⟨Tb,h1,h2⟩:=HX.out.tb rfl;exact⟨vT,Tb,HX.out,ax ⟨rfl,rfl⟩,Fr.refl _ _,h1,h2⟩
     go_wp2_with fail;go_meet;exact⟨rfl,HG⟩
    | false=>
     go_wp2_with fail;refine(Mf w d aa ae hp vT false vL HX.out.rd rk Td HX.out.mem Rr HX.out.sh.here HX.out.ruok HX.out.few (Do (λx hx=>(HX.out.ruok x hx).few) HX.out.few)).mono ?_;rintro e w1 ⟨rfl,ho,hB⟩
     have HG:Hid (∃rD Tb,RX ((w1.setCell ⟨d,3,none⟩ (.slice (some ⟨w.heap.size,0,none⟩) aa.length aa.length)).setCell ⟨d,4,none⟩ (.bool true)) d aa ae hp rD true vL Rr Gs M shn rs/\((rD=vT/\false=true)∨∀j,rD.ownBlock=some j->w.heap.size<=j)/\Fr w ((w1.setCell ⟨d,3,none⟩ (.slice (some ⟨w.heap.size,0,none⟩) aa.length aa.length)).setCell ⟨d,4,none⟩ (.bool true)) (jX d aa vL)/\((w1.setCell ⟨d,3,none⟩ (.slice (some ⟨w.heap.size,0,none⟩) aa.length aa.length)).setCell ⟨d,4,none⟩ (.bool true)).ownsRow 0 168 9 rD aa.length (mi Tb aa.length)/\TabR aa M rs Tb):=by
      obtain⟨h1,h2⟩:=HX.out.table hB ho;obtain⟨Tb,h3,h4⟩:=h1.tb rfl;exact⟨_,Tb,h1,az (λj hj=>by simp[Value.ownBlock] at hj;omega),h2,h3,h4⟩
     have kJ:Hid (RD w1 d aa ae hp vT false vL):=HX.out.rd.keep (λk _ hl=>hB.block k hl);have e3:w1.cell? ⟨d,3,none⟩=some vT:=au kJ.out.doc rfl;have e4:w1.cell? ⟨d,4,none⟩=some (.bool false):=au kJ.out.doc rfl;have ef:∀k,w1.frozen? ⟨d,k,none⟩=false:=λk=>aH kJ.out.doc;have Rp:=(bG.1 kJ.out.doc).1;clear ho hB;go_wp2_with fail;go_meet;exact⟨rfl,HG⟩
   case rest=>
    obtain⟨rfl,HG⟩:=hcut;obtain⟨rD,Tb,h1,h2,h3,h4,h5⟩:=HG.out;obtain⟨aT,cT,hvT⟩:=aK h4;subst hvT;have HW:Hid (RX wc d aa ae hp (.slice aT aa.length cT) true vL Rr Gs M shn rs/\TM wc (.slice aT aa.length cT) aa.length Tb/\TabR aa M rs Tb):=⟨h1,⟨h4,h5.ok⟩,h5⟩;have HV:Hid ((((Value.slice aT aa.length cT)=vT/\br=true)∨∀j,(Value.slice aT aa.length cT).ownBlock=some j->w.heap.size<=j)/\Fr w wc (jX d aa vL)):=⟨h2,h3⟩;clear h1 h2 h3 h4 h5 HG d4;have d3:wc.cell? ⟨d,3,none⟩=some (.slice aT aa.length cT):=au HW.out.1.rd.doc rfl;go_wp2_with fail;refine(Bd aa Tb d ae hp _ true vL _ aa.length wc n HW.out.1.rd HW.out.2.1 HD.out).mono ?_;rintro e w2 ⟨ci,rfl,IR,dk⟩;have Gd:Hid ((prog.info? 131).map (·.size)=some ci.toArray.size/\(9:Nat)=ci.toArray.size/\ci.toArray.all (·.oneCell')=true/\(w2.alloc (.cells fg 131)).heap[w2.heap.size]?=some (.cells fg 131 (0,0))):=⟨by simp only[List.size_toArray,IR.len];exact Tryz.sz131,by simp[IR.len],all_oneCell_toArray IR.one,heap_alloc_new w2 _⟩
    have fC:Hid ((((w2.alloc (.cells fg 131)).setRow w2.heap.size ci.toArray).cell? ⟨w2.heap.size,p,none⟩=some (.int .i64 (kS aa Tb aa.length n p)))/\mT w d aa ae hp vT br vL Rr Gs M shn rs n s (.returned (.tuple #[.int .i64 (kS aa Tb aa.length n p),.int .i64 0])) ((w2.alloc (.cells fg 131)).setRow w2.heap.size ci.toArray)):=by
     have fA:Below wc.heap.size wc ((w2.alloc (.cells fg 131)).setRow w2.heap.size ci.toArray):=(dk.alloc dk.size _).trans ⟨rfl,rfl,rfl,by simp,λk hk=>setRow_other _ _ _ _ (by have:=dk.size;omega)⟩;refine⟨au (setRow_heap _ _ _ _ _ _ Gd.out.2.2.2) (by simpa using IR.at' p Pe),?_⟩;exact HE.out _ _ Tb (HW.out.1.keep (λk _ hl=>fA.block k hl) fA.size) HV.out.1 (HV.out.2.below fA) HW.out.2.2
    clear IR dk d3 HE HW HV HD;generalize kS aa Tb aa.length n p=vv at fC;have c5:=fC.out.1;unfold fg at c5;go_wp2_with (refine wpList_store_row rfl 131 _ _ rfl w2.heap.size ci.toArray rfl rfl 131 fg Gd.out.2.2.2 Gd.out.1 Gd.out.2.1 Gd.out.2.2.1 ?_);go_ret2;exact fC.out.2
end
end
end Go.Proofs.YtblfffbmklkhmabGreat
