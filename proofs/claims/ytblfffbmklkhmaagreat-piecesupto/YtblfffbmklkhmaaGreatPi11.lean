/- Own work. -/
import Derived.Test.YtblfffbmklkhmaaGreatPi1
import Derived.Test.YtblfffbmklkhmaaGreatPi10
import Derived.Test.YtblfffbmklkhmaaGreatPi8
import Derived.BigRegion
import Derived.Deep.RegionHeld3
import Derived.RangeFuncCalls
import Derived.Test.YtblfffbmklkhmaaGreatPi4
import Derived.BigQuiet
import Derived.Deep.QuietTactic
import Derived.RegionTactic
import Derived.Deep.RegionLaw
set_option maxRecDepth 100000
set_option maxHeartbeats 40000000
namespace Go.Proofs.YtblfffbmklkhmaaGreat
open Go.RowKit Go.Proofs.Tryz
section
variable {PS:World->Value->YS->List Nat->(Nat->Prop)->Prop}{Q:fw->YS->List Nat->YS->List Nat->Prop}
def Rb (Q:fw->YS->List Nat->YS->List Nat->Prop)(X:YS)(st:List Nat)(K:gu)(n:Int)(X':YS)(cA:List Nat)(K':gu):Prop:=
 ∃y,YRem X n y X'/\Q (.rem n y) X st X' cA/\((y≠0/\K'=K)∨(y=0/\K'.lm=jL X'.T K.lm/\K'.ly=kG X'.T (aY X.T n) (jL X'.T K.ly)/\K'.ls=K.ls/\K'.cnt=-1/\K'.held=false))
def Q9 (Q:fw->YS->List Nat->YS->List Nat->Prop)(X:YS)(st:List Nat)(K:gu)(n m at':Int)(X':YS)(cA:List Nat)(K':gu):Prop:=
 ∃y,YMov X n m at' y X'/\Q (.mov n m y) X st X' cA/\((y≠0/\K'=K)∨(y=0/\K'.lm=K.lm/\K'.ly=kG X'.T m (kG X'.T (aY X.T n) K.ly)/\K'.ls=K.ls/\K'.cnt=-1/\K'.held=false))
theorem B1 (hP:cG PS Q)(w:World)(b:Nat)(X:YS)(st:List Nat)(pa:Addr)(d:Nat)(K:gu)(G Fp Fx Fy:Nat->Prop)
  (h:PJ2 PS w b X st X (.pointer (some pa)) d K Fp Fx Fy) (hG:∀k,Fp k∨Fx k∨Fy k->G k) (zL:∀k,G k->k<w.heap.size) (ln:sH X.T K) (at' xx yy zz:Int) (S Tt:ByteArray) (on:Bool) :
  Calls prog 101 #[.pointer (some ⟨b,0,none⟩),.agg #[.int .i64 5,.int .i64 at',.int .i64 xx,.int .i64 yy,.int .i64 zz,.string S,.string Tt,.bool on]] w λe w'=>TurnPost2 PS w G b (.pointer (some pa)) d (Rb Q X st K xx) e w':=by
 have HP:=ae hP;have HW:=bT h.rs.tw ln;have Xe:=ae h.rs.few;have HG:=ae zL;have H0:Hid (PQ2 PS (w.alloc (aH 5 at' xx yy zz S Tt on)) G (w.alloc (aH 5 at' xx yy zz S Tt on)) b X st X (.pointer (some pa)) d K):=PQ2.alloc hP h hG _;clear h hP ln hG zL
 have HC:Hid (∀(wx:World) X1 br Y1,PQ2 PS (w.alloc (aH 5 at' xx yy zz S Tt on)) G wx b X1 br Y1 (.pointer (some pa)) d K->wx.cell? ⟨b,0,none⟩=some (.pointer (some pa))/\wx.cell? ⟨b,1,none⟩=some (.pointer (some ⟨d,0,none⟩))/\wx.cell? ⟨w.heap.size,2,none⟩=some (.int .i64 xx)):=λwx X1 br Y1 hq=>
  ⟨aa hq.pb.blk rfl,aa hq.pb.blk rfl,aa (hq.op HG.out) rfl⟩
 have vB:Hid (∀k,Calls prog 97 #[.pointer (some ⟨d,0,none⟩),.int .i64 xx] ((w.alloc (aH 5 at' xx yy zz S Tt on)).drewN k) λe w'=>e=.returned (.int .i64 (aY X.T xx))/\w'=(w.alloc (aH 5 at' xx yy zz S Tt on)).drewN k):=λk=>ph (H0.out.drewN HP.out k) xx;obtain⟨d0,d1,d2⟩:=HC.out _ _ _ _ H0.out;go_enter func101,ntmps101;go_upto_region 1 with fail;go_quiet ((go_at_call 97;exact Calls.quiet_of_same (vB.out _)));have Hn:=ae (H0.out.drewN HP.out nq);generalize (w.alloc (aH 5 at' xx yy zz S Tt on)).drewN nq=wq at Hn ⊢;clear d0 d1 d2 vB H0;obtain⟨up,Ua⟩:∃up,aY X.T xx=up:=⟨_,rfl⟩;rw[Ua];have A9:=ae Ua;clear Ua;have k0:wq.cell? ⟨w.heap.size,0,none⟩=some (.int .i64 5):=aa (Hn.out.op HG.out) rfl;have kM:=ae (Hn.out.drew HP.out);obtain⟨WY,dU,DD⟩:=kM.out.prog HP.out;have CG:=ae dU;have CE:=ae DD;clear dU DD Hn;go_upto_region 3 with fail;clear k0
 go_cut [6] (λyv wx=>∃(y:Int) (X1:YS) (br:List Nat),yv=.int .i64 y/\Hid (YRem X xx y X1/\Q (.rem xx y) X st X1 br/\PQ2 PS (w.alloc (aH 5 at' xx yy zz S Tt on)) G wx b X1 br X (.pointer (some pa)) d K))
 case first=>
  go_region_held3 (λw'=>w'.cell? ⟨b,0,none⟩=some (.pointer (some pa))/\w'.cell? ⟨b,1,none⟩=some (.pointer (some ⟨d,0,none⟩))/\w'.cell? ⟨w.heap.size,2,none⟩=some (.int .i64 xx)) (first | exact HC.out _ _ _ _ kM.out | exact HC.out _ _ _ _ HT.out.2.2)
   (first | (go_at_call 116;refine(HP.out.rem _ (.pointer (some pa)) X st WY xx CG.out).mono ?_;rintro e w1 ⟨y,X1,br,rfl,hT,hq,qd,ft⟩;have HT:Hid (YRem X xx y X1/\Q (.rem xx y) X st X1 br/\PQ2 PS (w.alloc (aH 5 at' xx yy zz S Tt on)) G w1 b X1 br X (.pointer (some pa)) d K):=⟨hT,hq,CE.out w1 X1 br qd ft⟩))
  all_goals
   go_wp2_with fail;go_meet;exact⟨y,X1,br,rfl,HT⟩
 case rest=>
  obtain⟨y,X1,br,rfl,HT⟩:=hcut;have ix:=ae (HT.out.2.2.drew HP.out);obtain⟨Fy2,hrs2,hny2⟩:=ix.out.ref HP.out;have CH:=ae hrs2;have CF:=ae hny2;clear hrs2 hny2 kM CG CE;go_upto_region 4 with fail
  go_cut [7] (λyv wx=>yv=.int .i64 y/\Hid (PQ2 PS (w.alloc (aH 5 at' xx yy zz S Tt on)) G wx b X1 br X1 (.pointer (some pa)) d K))
  case first=>
   go_region_held3 (λw'=>w'.cell? ⟨b,0,none⟩=some (.pointer (some pa))/\w'.cell? ⟨b,1,none⟩=some (.pointer (some ⟨d,0,none⟩))/\w'.cell? ⟨w.heap.size,2,none⟩=some (.int .i64 xx)) (first | exact HC.out _ _ _ _ ix.out | exact HC.out _ _ _ _ jB.out)
    (first | (go_at_call 145;refine(K4 CH.out xx).mono ?_;rintro e w1 ⟨y',Y1,rfl,Ob,Gq,ft⟩;obtain⟨rfl,rfl⟩:=HT.out.1.one Ob;have jB:Hid (PQ2 PS (w.alloc (aH 5 at' xx yy zz S Tt on)) G w1 b X1 br X1 (.pointer (some pa)) d K):=CF.out w1 X1 Gq ft))
   all_goals
    go_wp2_with fail;go_meet;exact⟨rfl,jB⟩
  case rest=>
   obtain⟨rfl,HQ⟩:=hcut;clear ix CH CF
   by_cases hy:y=0
   ·subst hy;have HI:=bT HT.out.1 HT.out.2.1;have J9:K.lm.length<=24:=by have:=HW.out.2.1.len;have:=Xe.out;omega
    have tr:K.ly.length<=24:=by have:=HW.out.2.2.len;have:=Xe.out;omega
    clear HT;obtain⟨am,cm,yA⟩:=aA HQ.out.must;obtain⟨ay,cy,hvy⟩:=aA HQ.out.may;have di:=HQ.out.must;rw[yA] at di;have b2:wc.cell? ⟨b,2,none⟩=some (.slice am K.lm.length cm):=by rw[<-yA];exact aa HQ.out.pb.blk rfl
    go_wp2_with fail;refine(AA HQ.out am cm K.lm di J9).mono ?_;rintro e W3 ⟨a3,c3,rfl,bA,lT,iG⟩;have r7:=(lT.block b (bx.1 HQ.out.pb.blk).1).trans HQ.out.pb.blk;have e2:W3.cell? ⟨b,2,none⟩=some (.slice am K.lm.length cm):=by rw[<-yA];exact aa r7 rfl
    have ez:∀k,W3.frozen? ⟨b,k,none⟩=false:=λ_=>ax r7;have oA:Hid (PQ2 PS (w.alloc (aH 5 at' xx yy zz S Tt on)) G (W3.setCell ⟨b,2,none⟩ (.slice a3 (jL X1.T K.lm).length c3)) b X1 br X1 (.pointer (some pa)) d {K with vm:=.slice a3 (jL X1.T K.lm).length c3,lm:=jL X1.T K.lm}):=HQ.out.setMust HP.out lT bA (λj hj=>ai (iG.out j hj));clear bA lT iG r7 b2 HQ di yA;go_upto_region 7 with fail;obtain⟨W4,Dq⟩:∃W4,W4=W3.setCell ⟨b,2,none⟩ (.slice a3 (jL X1.T K.lm).length c3):=⟨_,rfl⟩;rw[<-Dq] at oA ⊢;clear Dq e2 ez;have D4:=oA.out.may;have yT:K.vy=.slice ay K.ly.length cy:=hvy;have D5:W4.ownsRow 0 3 1 (.slice ay K.ly.length cy) K.ly.length (bh K.ly):=by rw[<-yT];exact D4
    have b3:W4.cell? ⟨b,3,none⟩=some (.slice ay K.ly.length cy):=by rw[<-yT];exact aa oA.out.pb.blk rfl
    go_wp2_with fail;refine(AA oA.out ay cy K.ly D5 tr).mono ?_;rintro e W5 ⟨a5,c5,rfl,bR,yI,ql⟩;have Ma:=(yI.block b (bx.1 oA.out.pb.blk).1).trans oA.out.pb.blk;have e3:W5.cell? ⟨b,3,none⟩=some (.slice ay K.ly.length cy):=by rw[<-yT];exact aa Ma rfl
    have ez:∀k,W5.frozen? ⟨b,k,none⟩=false:=λ_=>ax Ma;have Ho:Hid (PQ2 PS (w.alloc (aH 5 at' xx yy zz S Tt on)) G (W5.setCell ⟨b,3,none⟩ (.slice a5 (jL X1.T K.ly).length c5)) b X1 br X1 (.pointer (some pa)) d {K with vm:=.slice a3 (jL X1.T K.lm).length c3,lm:=jL X1.T K.lm,vy:=.slice a5 (jL X1.T K.ly).length c5,ly:=jL X1.T K.ly}):=oA.out.setMay HP.out yI bR (λj hj=>ai (ql.out j hj));clear bR yI ql Ma b3 oA D4 D5 hvy yT;go_upto_region 8 with fail;obtain⟨W6,Dr⟩:∃W6,W6=W5.setCell ⟨b,3,none⟩ (.slice a5 (jL X1.T K.ly).length c5):=⟨_,rfl⟩;rw[<-Dr] at Ho ⊢;clear Dr e3 ez;have HL:Hid (LT X1.T (jL X1.T K.lm)/\LT X1.T (jL X1.T K.ly)):=⟨LT.only HW.out.2.1.1,LT.only HW.out.2.2.1⟩;go_wp2_with fail;refine(il HP.out Ho.out HL.out.2 up).mono ?_;rintro e W7 ⟨rfl,V9,zW⟩;have HE:Hid (TurnPost2 PS w G b (.pointer (some pa)) d (Rb Q X st K xx) (.returned (.bool true)) W7):=⟨rfl,X1,br,_,zW.from,⟨HL.out.1,HL.out.2.spoil up⟩,0,HI.out.1,HI.out.2,ai ⟨rfl,rfl,by rw[A9.out],rfl,rfl,rfl⟩⟩;clear zW Ho;go_wp2_with fail;refine(bI _ 0).mono ?_;rintro e w5 ⟨rfl,rfl⟩;go_wp2;go_ret;exact HE.out
   ·have gy:(y==0)=false:=by simp[hy]
    have HE:Hid (TurnPost2 PS w G b (.pointer (some pa)) d (Rb Q X st K xx) (.returned (.bool true)) wc):=by
     obtain⟨_,TQ⟩:=HT.out.1.1.2.resolve_right (λx=>hy x.1);exact⟨rfl,X1,br,K,HQ.out.from,by rw[TQ];exact HW.out.2,y,HT.out.1,HT.out.2.1,af ⟨hy,rfl⟩⟩
    clear hy;go_wp2_with fail;refine(bI _ y).mono ?_;rintro e w5 ⟨rfl,rfl⟩;go_wp2;go_ret;exact HE.out
theorem GN (hP:cG PS Q)(w:World)(b:Nat)(X:YS)(st:List Nat)(pa:Addr)(d:Nat)(K:gu)(G Fp Fx Fy:Nat->Prop)
  (h:PJ2 PS w b X st X (.pointer (some pa)) d K Fp Fx Fy) (hG:∀k,Fp k∨Fx k∨Fy k->G k) (zL:∀k,G k->k<w.heap.size) (ln:sH X.T K) (at' xx yy zz:Int) (S Tt:ByteArray) (on:Bool) :
  Calls prog 101 #[.pointer (some ⟨b,0,none⟩),.agg #[.int .i64 6,.int .i64 at',.int .i64 xx,.int .i64 yy,.int .i64 zz,.string S,.string Tt,.bool on]] w λe w'=>TurnPost2 PS w G b (.pointer (some pa)) d (Q9 Q X st K xx yy zz) e w':=by
 have HP:=ae hP;have HW:=bT h.rs.tw ln;have HG:=ae zL;have H0:Hid (PQ2 PS (w.alloc (aH 6 at' xx yy zz S Tt on)) G (w.alloc (aH 6 at' xx yy zz S Tt on)) b X st X (.pointer (some pa)) d K):=PQ2.alloc hP h hG _;clear h hP ln hG zL
 have HC:Hid (∀(wx:World) X1 br Y1,PQ2 PS (w.alloc (aH 6 at' xx yy zz S Tt on)) G wx b X1 br Y1 (.pointer (some pa)) d K->wx.cell? ⟨b,0,none⟩=some (.pointer (some pa))/\wx.cell? ⟨b,1,none⟩=some (.pointer (some ⟨d,0,none⟩))/\wx.cell? ⟨w.heap.size,2,none⟩=some (.int .i64 xx)/\wx.cell? ⟨w.heap.size,3,none⟩=some (.int .i64 yy)/\wx.cell? ⟨w.heap.size,4,none⟩=some (.int .i64 zz)):=λwx X1 br Y1 hq=>
  ⟨aa hq.pb.blk rfl,aa hq.pb.blk rfl,aa (hq.op HG.out) rfl,aa (hq.op HG.out) rfl,aa (hq.op HG.out) rfl⟩
 have vB:Hid (∀k,Calls prog 97 #[.pointer (some ⟨d,0,none⟩),.int .i64 xx] ((w.alloc (aH 6 at' xx yy zz S Tt on)).drewN k) λe w'=>e=.returned (.int .i64 (aY X.T xx))/\w'=(w.alloc (aH 6 at' xx yy zz S Tt on)).drewN k):=λk=>ph (H0.out.drewN HP.out k) xx;obtain⟨d0,d1,d2,d3,d4⟩:=HC.out _ _ _ _ H0.out;go_enter func101,ntmps101;go_upto_region 1 with fail;go_quiet ((go_at_call 97;exact Calls.quiet_of_same (vB.out _)));have Hn:=ae (H0.out.drewN HP.out nq);generalize (w.alloc (aH 6 at' xx yy zz S Tt on)).drewN nq=wq at Hn ⊢;clear d0 d1 d2 d3 d4 vB H0;obtain⟨up,Ua⟩:∃up,aY X.T xx=up:=⟨_,rfl⟩;rw[Ua];have A9:=ae Ua;clear Ua;have k0:wq.cell? ⟨w.heap.size,0,none⟩=some (.int .i64 6):=aa (Hn.out.op HG.out) rfl;have kM:=ae (Hn.out.drew HP.out);obtain⟨WY,dU,DD⟩:=kM.out.prog HP.out;have CG:=ae dU;have CE:=ae DD;clear dU DD Hn;go_upto_region 10 with fail;clear k0
 go_cut [8] (λyv wx=>∃(y:Int) (X1:YS) (br:List Nat),yv=.int .i64 y/\Hid (YMov X xx yy zz y X1/\Q (.mov xx yy y) X st X1 br/\PQ2 PS (w.alloc (aH 6 at' xx yy zz S Tt on)) G wx b X1 br X (.pointer (some pa)) d K))
 case first=>
  go_region_held3 (λw'=>w'.cell? ⟨b,0,none⟩=some (.pointer (some pa))/\w'.cell? ⟨b,1,none⟩=some (.pointer (some ⟨d,0,none⟩))/\w'.cell? ⟨w.heap.size,2,none⟩=some (.int .i64 xx)/\w'.cell? ⟨w.heap.size,3,none⟩=some (.int .i64 yy)/\w'.cell? ⟨w.heap.size,4,none⟩=some (.int .i64 zz)) (first | exact HC.out _ _ _ _ kM.out | exact HC.out _ _ _ _ HT.out.2.2)
   (first | (go_at_call 119;refine(HP.out.mov _ (.pointer (some pa)) X st WY xx yy zz CG.out).mono ?_;rintro e w1 ⟨y,X1,br,rfl,hT,hq,qd,ft⟩;have HT:Hid (YMov X xx yy zz y X1/\Q (.mov xx yy y) X st X1 br/\PQ2 PS (w.alloc (aH 6 at' xx yy zz S Tt on)) G w1 b X1 br X (.pointer (some pa)) d K):=⟨hT,hq,CE.out w1 X1 br qd ft⟩))
  all_goals
   go_wp2_with fail;go_meet;exact⟨y,X1,br,rfl,HT⟩
 case rest=>
  obtain⟨y,X1,br,rfl,HT⟩:=hcut;have ix:=ae (HT.out.2.2.drew HP.out);obtain⟨Fy2,hrs2,hny2⟩:=ix.out.ref HP.out;have CH:=ae hrs2;have CF:=ae hny2;clear hrs2 hny2 kM CG CE;go_upto_region 11 with fail
  go_cut [9] (λyv wx=>yv=.int .i64 y/\Hid (PQ2 PS (w.alloc (aH 6 at' xx yy zz S Tt on)) G wx b X1 br X1 (.pointer (some pa)) d K))
  case first=>
   go_region_held3 (λw'=>w'.cell? ⟨b,0,none⟩=some (.pointer (some pa))/\w'.cell? ⟨b,1,none⟩=some (.pointer (some ⟨d,0,none⟩))/\w'.cell? ⟨w.heap.size,2,none⟩=some (.int .i64 xx)/\w'.cell? ⟨w.heap.size,3,none⟩=some (.int .i64 yy)/\w'.cell? ⟨w.heap.size,4,none⟩=some (.int .i64 zz)) (first | exact HC.out _ _ _ _ ix.out | exact HC.out _ _ _ _ jB.out)
    (first | (go_at_call 147;refine(K3 CH.out xx yy zz).mono ?_;rintro e w1 ⟨y',Y1,rfl,Ob,Gq,ft⟩;obtain⟨rfl,rfl⟩:=HT.out.1.one Ob;have jB:Hid (PQ2 PS (w.alloc (aH 6 at' xx yy zz S Tt on)) G w1 b X1 br X1 (.pointer (some pa)) d K):=CF.out w1 X1 Gq ft))
   all_goals
    go_wp2_with fail;go_meet;exact⟨rfl,jB⟩
  case rest=>
   obtain⟨rfl,HQ⟩:=hcut;clear ix CH CF;have XI:Hid (sH X1.T K):=⟨HW.out.2.1.of_nums HT.out.1.1.nums,HW.out.2.2.of_nums HT.out.1.1.nums⟩
   by_cases hy:y=0
   ·subst hy;have HI:=bT HT.out.1 HT.out.2.1;clear HT;go_wp2_with fail;refine(il HP.out HQ.out XI.out.2 up).mono ?_;rintro e W7 ⟨rfl,V9,zW⟩;have HQ7:=ae zW;clear zW HQ;have o3:W7.cell? ⟨w.heap.size,3,none⟩=some (.int .i64 yy):=aa (HQ7.out.op HG.out) rfl;go_wp2_with fail;refine(il HP.out HQ7.out (XI.out.2.spoil up) yy).mono ?_;rintro e W8 ⟨rfl,vy8,hq8⟩;have HE:Hid (TurnPost2 PS w G b (.pointer (some pa)) d (Q9 Q X st K xx yy zz) (.returned (.bool true)) W8):=⟨rfl,X1,br,_,hq8.from,⟨XI.out.1,(XI.out.2.spoil up).spoil yy⟩,0,HI.out.1,HI.out.2,ai ⟨rfl,rfl,by rw[A9.out],rfl,rfl,rfl⟩⟩;clear hq8 HQ7 o3;go_wp2_with fail;refine(bI _ 0).mono ?_;rintro e w5 ⟨rfl,rfl⟩;go_wp2;go_ret;exact HE.out
   ·have gy:(y==0)=false:=by simp[hy]
    have HE:Hid (TurnPost2 PS w G b (.pointer (some pa)) d (Q9 Q X st K xx yy zz) (.returned (.bool true)) wc):=⟨rfl,X1,br,K,HQ.out.from,XI.out,y,HT.out.1,HT.out.2.1,af ⟨hy,rfl⟩⟩;clear hy;go_wp2_with fail;refine(bI _ y).mono ?_;rintro e w5 ⟨rfl,rfl⟩;go_wp2;go_ret;exact HE.out
end
section
variable {eG s:ByteArray}
def S9 (s eG:ByteArray):Bool:=(List.range (s.size - 1)).any λn=>(s.extract n (n+2)).toList==eG.toList
def GV (cs:List RComp)(eG:ByteArray):Bool:=cs.any λc=>S9 c.tx eG
def V3 (x:eA)(eG:ByteArray):Bool:=x.sels.any λcs=>GV cs eG
def fO (Rr:List eA)(eG:ByteArray):Bool:=Rr.any λx=>V3 x eG
theorem FG {α:Type}{l:List α}{f:α->Bool}(h:∀j (hj:j<l.length),f l[j]=false):l.any f=false:=by
 rw[List.any_eq_false];intro x hx;obtain⟨j,hj,rfl⟩:=List.getElem_of_mem hx;rw[h j hj];decide
theorem Bi {α:Type}{l:List α}{f:α->Bool}{j:Nat}(hj:j<l.length)(h:f l[j]=true):l.any f=true:=List.any_eq_true.2 ⟨_,bK hj,h⟩
theorem aaA (h:∀n,n+1<s.size->((s.extract n (n+2)).toList==eG.toList)=false):S9 s eG=false:=by
 unfold S9;rw[List.any_eq_false];intro n hn;rw[h n (by have:=List.mem_range.1 hn;omega)];decide
theorem Qe {n:Nat}(hn:n+1<s.size)(h:((s.extract n (n+2)).toList==eG.toList)=true):S9 s eG=true:=List.any_eq_true.2 ⟨n,List.mem_range.2 (by omega),h⟩
def FA (w:World)(Rr:List eA)(eG:ByteArray)(e:Ending)(w':World):Prop:=e=.returned (.bool (fO Rr eG))/\w'=w
theorem qH (w:World)(hp:Option Addr)(Rr:List eA)(eG:ByteArray)(hs:ShM w hp Rr)(qA:∀x∈Rr,MA x)(QK:Rr.length<=400):
  Calls prog 149 #[.pointer hp,.string eG] w λe w'=>FA w Rr eG e w':=by
 obtain⟨b,a,c,xs,mn,rfl,tp,VO,T8⟩:=hs;have HS:Hid (Sh w b (.slice a Rr.length c) mn/\w.ownsRow 0 164 3 (.slice a Rr.length c) Rr.length xs/\(∀r (h:r<Rr.length),RuM w xs r Rr[r])/\∀x∈Rr,MA x):=⟨tp,VO,T8,qA⟩;have s0:w.cell? ⟨b,0,none⟩=some (.slice a Rr.length c):=tp.c0;clear tp VO T8 qA;go_enter func149,ntmps149;go_wp2_with fail
 go_loopg [5] Rr.length (λgk rv wr=>∃r:Nat,rv=.int .i64 r/\r<=Rr.length/\Rr.length - r<=gk/\wr=w/\Hid (∀j (hj:j<Rr.length),j<r->V3 Rr[j] eG=false))
 case atStart=>exact⟨0,rfl,aZ,by omega,rfl,λ_ _ h=>absurd h (Nat.not_lt_zero _)⟩
 case round=>
  obtain⟨r,rfl,jJ,fS,rfl,HN⟩:=hrel
  by_cases aU:r<Rr.length
  ·have hd:decide ((r:Int)<(Rr.length:Int))=true:=by simp;omega
   have aag:(r:Int)<(Rr.length:Int):=by omega
   obtain⟨g,hg,dn,iC⟩:=aR HS.out.2.1 (by omega);subst hg;obtain⟨aS,cS,aD,cD,ys,x1,x2,x3,x4,x5,x6⟩:=HS.out.2.2.1 r aU;have DL:=HS.out.2.2.2 _ (bK aU)
   have Q2:Hid (V3 Rr[r] eG=true->FA wr Rr eG (.returned (.bool true)) wr):=λh=>by
    refine⟨?_,rfl⟩;have:fO Rr eG=true:=Bi aU h;rw[this]
   have A0:Hid (V3 Rr[r] eG=false->∀j (hj:j<Rr.length),j<r+1->V3 Rr[j] eG=false):=λh j hj hl=>by
    rcases Nat.lt_or_ge j r with h1 | h1
    ·exact HN.out j hj h1
    ·obtain rfl:j=r:=by omega
     exact h
   have q1:=iC _ _ x2;generalize Rr[r]=x at x1 x2 x3 x4 x5 x6 DL Q2 A0 q1;have HX:=kK DL x4 x5;have hsf:=DL.sels;have Xg:=bT fS aU;clear x1 x2 x3 x4 x5 x6 DL iC HN fS aU jJ hd;go_wp2_with fail
   go_loopg [6] x.sels.length (λJY jv wq=>∃j:Nat,jv=.int .i64 j/\j<=x.sels.length/\x.sels.length - j<=JY/\wq=wr/\Hid (∀i (hi:i<x.sels.length),i<j->GV x.sels[i] eG=false))
   case atStart=>exact⟨0,rfl,aZ,by omega,rfl,λ_ _ h=>absurd h (Nat.not_lt_zero _)⟩
   case round=>
    obtain⟨j,rfl,Fh,rG,rfl,e9⟩:=hrel
    by_cases hjt:j<x.sels.length
    ·have iR:decide ((j:Int)<(x.sels.length:Int))=true:=by simp;omega
     have aig:(j:Int)<(x.sels.length:Int):=by omega
     obtain⟨gS,hgS,ahY,ZW⟩:=aR HX.out.2.1 (by omega);subst hgS;obtain⟨aC,cC,y1,y2⟩:=HX.out.2.2 j hjt;have QF:=HX.out.1.sok _ (bK hjt);have Tz:Hid (GV x.sels[j] eG=true->V3 x eG=true):=λh=>Bi hjt h
     have Xr:Hid (GV x.sels[j] eG=false->∀i (hi:i<x.sels.length),i<j+1->GV x.sels[i] eG=false):=λh i hi hl=>by
      rcases Nat.lt_or_ge i j with h1 | h1
      ·exact e9.out i hi h1
      ·obtain rfl:i=j:=by omega
       exact h
     have q2:=ZW _ _ y1;generalize x.sels[j]=cs at y1 y2 QF Tz Xr q2;have HC:=bT QF y2;have hcf:=QF.few;have CD:=bT rG hjt;clear y1 y2 QF ZW e9 rG hjt Fh iR;go_wp2_with fail
     go_loopg [7] cs.length (λgk3 kv wq=>∃k:Nat,kv=.int .i64 k/\k<=cs.length/\cs.length - k<=gk3/\wq=wr/\Hid (∀i (hi:i<cs.length),i<k->S9 cs[i].tx eG=false))
     case atStart=>exact⟨0,rfl,aZ,by omega,rfl,λ_ _ h=>absurd h (Nat.not_lt_zero _)⟩
     case round=>
      obtain⟨k,rfl,p8,Om,rfl,og⟩:=hrel
      by_cases hkt:k<cs.length
      ·have yw:decide ((k:Int)<(cs.length:Int))=true:=by simp;omega
       have Z7:(k:Int)<(cs.length:Int):=by omega
       obtain⟨gC,hgC,ahW,ZT⟩:=aR HC.out.2 (by omega);subst hgC;have htk:=(HC.out.1.ok _ (bK hkt));have q3:=ZT _ _ (rC hkt).2;have TA:Hid (S9 cs[k].tx eG=true->GV cs eG=true):=λh=>Bi hkt h
       have Xs:Hid (S9 cs[k].tx eG=false->∀i (hi:i<cs.length),i<k+1->S9 cs[i].tx eG=false):=λh i hi hl=>by
        rcases Nat.lt_or_ge i k with h1 | h1
        ·exact og.out i hi h1
        ·obtain rfl:i=k:=by omega
         exact h
       generalize cs[k].tx=s at htk q3 TA Xs
       have iA:s.size<=400:=by
        rcases htk with h | h
        ·omega
        ·exact h.2.1
       have HG3:=bT Om hkt;clear htk ZT og Om hkt p8 yw;go_wp2_with fail
       go_loopg [9] s.size (λgk4 nv wq=>∃n:Nat,nv=.int .i64 n/\n<=s.size/\s.size - n<=gk4/\wq=wr/\Hid (∀i,i<n->i+1<s.size->((s.extract i (i+2)).toList==eG.toList)=false))
       case atStart=>exact⟨0,rfl,aZ,by omega,rfl,λ_ h=>absurd h (Nat.not_lt_zero _)⟩
       case round=>
        obtain⟨n,rfl,Sm,ah3,rfl,HN4⟩:=hrel
        by_cases Sn:n+1<s.size
        ·have Sa:decide ((n:Int)+1<(s.size:Int))=true:=by simp;omega
         have h1:(0:Int)<=(n:Int):=by omega
         have h2:(n:Int)+2<=(s.size:Int):=by omega
         have h3:(n:Int)<=(n:Int)+2:=by omega
         cases he:((s.extract n (n+2)).toList==eG.toList) with
         | true=>
          have HE:=ae (Q2.out (Tz.out (TA.out (Qe Sn he))));go_wp2;go_ret;exact HE.out
         | false=>
          have tX:Hid (∀i,i<n+1->i+1<s.size->((s.extract i (i+2)).toList==eG.toList)=false):=λi hi VB=>by
           rcases Nat.lt_or_ge i n with h1 | h1
           ·exact HN4.out i h1 VB
           ·obtain rfl:i=n:=by omega
            exact he
          go_wp2;go_roundg (s.size - (n+1))
          case measure=>omega
          case rel=>exact⟨n+1,by go_num,by omega,au,rfl,tX⟩
        ·have Sa:decide ((n:Int)+1<(s.size:Int))=false:=by simp;omega
         have HF:Hid (∀i (hi:i<cs.length),i<k+1->S9 cs[i].tx eG=false):=Xs.out (aaA (λi hi=>HN4.out i (by omega) hi));go_wp2;go_roundg (cs.length - (k+1))
         case measure=>have:=HG3.out;omega
         case rel=>exact⟨k+1,by go_num,HG3.out.2,au,rfl,HF⟩
      ·have yw:decide ((k:Int)<(cs.length:Int))=false:=by simp;omega
       obtain rfl:k=cs.length:=by omega
       have HF:Hid (∀i (hi:i<x.sels.length),i<j+1->GV x.sels[i] eG=false):=Xr.out (FG (λi hi=>og.out i hi hi));go_wp2;go_roundg (x.sels.length - (j+1))
       case measure=>have:=CD.out;omega
       case rel=>exact⟨j+1,by go_num,CD.out.2,au,rfl,HF⟩
    ·have iR:decide ((j:Int)<(x.sels.length:Int))=false:=by simp;omega
     obtain rfl:j=x.sels.length:=by omega
     have HF:Hid (∀i (hi:i<Rr.length),i<r+1->V3 Rr[i] eG=false):=A0.out (FG (λi hi=>e9.out i hi hi));go_wp2;go_roundg (Rr.length - (r+1))
     case measure=>have:=Xg.out;omega
     case rel=>exact⟨r+1,by go_num,Xg.out.2,au,rfl,HF⟩
  ·have hd:decide ((r:Int)<(Rr.length:Int))=false:=by simp;omega
   obtain rfl:r=Rr.length:=by omega
   have HE:Hid (FA wr Rr eG (.returned (.bool false)) wr):=⟨by rw[show fO Rr eG=false from FG (λi hi=>HN.out i hi hi)],rfl⟩;go_wp2;go_ret;exact HE.out
end
def reg? (n:Nat):Code->Option Code
 | .region m o d=>if m=n then some (.region m o d) else none
 | .loop c=>reg? n c
 | .seq a b=>match reg? n a with
  | some c=>some c
  | none=>reg? n b
 | .block _ c=>reg? n c
 | .scope c=>reg? n c
 | .cond _ a b=>match reg? n a with
  | some c=>some c
  | none=>reg? n b
 | _=>none
noncomputable def r22:Code:=((Tryz.f140.body.bind (reg? 22)).getD .skip)
noncomputable def r23:Code:=((Tryz.f140.body.bind (reg? 23)).getD .skip)
theorem IN (W:World)(g g3 b9 n i q:Nat)(hi:i<n)(hq:q<9)(p0 p3 p4 p5:Int)(p1:ByteArray)(p2:Bool)(o0 o1 o2 o3 o4 o5:Value)
  (k0:W.cell? ⟨b9,0,none⟩=some (.int .u8 p0)) (k1:W.cell? ⟨b9,1,none⟩=some (.string p1)) (k2:W.cell? ⟨b9,2,none⟩=some (.bool p2)) (k3:W.cell? ⟨b9,3,none⟩=some (.int .i64 p3)) (k4:W.cell? ⟨b9,4,none⟩=some (.int .i64 p4)) (k5:W.cell? ⟨b9,5,none⟩=some (.int .i64 p5))
  (m0:W.cell? ⟨g,i*54+q*6,none⟩=some o0) (m1:W.cell? ⟨g,i*54+q*6+1,none⟩=some o1) (m2:W.cell? ⟨g,i*54+q*6+2,none⟩=some o2) (m3:W.cell? ⟨g,i*54+q*6+3,none⟩=some o3) (m4:W.cell? ⟨g,i*54+q*6+4,none⟩=some o4) (m5:W.cell? ⟨g,i*54+q*6+5,none⟩=some o5)
  (fz:∀j,W.frozen? ⟨g,j,none⟩=false) (fY:¬b9=g) (c0 c1 c2 c5 c6 c7 c8 XZ X0 X2 X3 X4 X5 X6 X7 X8 X9 Ya Yb Yc Yd Ye Yf Yg Yh Yi Yj Yk Yl Ym Yn Yo Yp Yq Yr Ys Yt Yu Yv Yw Yx Yy Yz YA YB YC YD YE YF YG YH YI YJ YK YL YM YN YO YP YQ YR YT YU YV YW YX YY YZ Y0 Y3 Y4 Y5 Y6 Y7 Y8 Y9 Za Zb Zc Zd Ze Zf Zg Zh Zi Zj Zk Zl Zm Zn Zo Zp Zq Zr Zs MW MX MY MZ M0 M3 M4 M5 M6 M7 M8 M9 Na Nb Nc Nd Nf Ng Nh Ni Nj Nk Nl Nm Nn No Np Nq Nr Ns Nt Nu Nv Nw Nx Ny Nz Rt Ru Rv Rw Rx Ry Rz RA RB RC RF RG RH RJ NA:Value)
  (Q:Exit->Act->World->Prop)
  (hQ:∀(ad7 ad8 ad9 aea aeb aec:Value) ,Q .normal ⟨#[c0,c1,c2,.slice (some ⟨g3,0,none⟩) n n,.slice (some ⟨g,0,none⟩) n n,c5,c6,c7,c8,.pointer (some ⟨b9,0,none⟩),.int .i64 (q:Int),.int .i64 (i:Int),XZ,X0,X2,X3,X4,X5,X6,X7,X8,X9,Ya,Yb,Yc,Yd,Ye,Yf,Yg,Yh,Yi,Yj,Yk,Yl,Ym,Yn,Yo,Yp,Yq,Yr,Ys,Yt,Yu,Yv,Yw,Yx,Yy,Yz,YA,YB,YC,YD,YE,YF,YG,YH,YI,YJ,YK,YL,YM,YN,YO,YP,YQ,YR,YT,YU,YV,YW,YX,YY,YZ,Y0,Y3,Y4,Y5,Y6,Y7,Y8,Y9,Za,Zb,Zc,Zd,Ze,Zf,Zg,Zh,Zi,Zj,Zk,Zl,Zm,Zn,Zo,Zp,Zq,Zr,Zs,MW,MX,MY,MZ,M0,M3,M4,M5,M6,M7,M8,M9,Na,Nb,Nc,Nd,Nf,Ng,Nh,Ni,Nj,Nk,Nl,Nm,Nn,No,Np,Nq,Nr,Ns,Nt,Nu,Nv,Nw,Nx,Ny,Nz,ad7,ad8,ad9,aea,aeb,aec,Rz,RA,RB,RC,RF,RG,RH,RJ,NA],[]⟩ ((W.setCells g (i*54+q*6) [.int .u8 p0,.string p1,.bool p2,.int .i64 p3,.int .i64 p4,.int .i64 p5]).drew)) :
  Code.wp prog r22 Q ⟨#[c0,c1,c2,.slice (some ⟨g3,0,none⟩) n n,.slice (some ⟨g,0,none⟩) n n,c5,c6,c7,c8,.pointer (some ⟨b9,0,none⟩),.int .i64 (q:Int),.int .i64 (i:Int),XZ,X0,X2,X3,X4,X5,X6,X7,X8,X9,Ya,Yb,Yc,Yd,Ye,Yf,Yg,Yh,Yi,Yj,Yk,Yl,Ym,Yn,Yo,Yp,Yq,Yr,Ys,Yt,Yu,Yv,Yw,Yx,Yy,Yz,YA,YB,YC,YD,YE,YF,YG,YH,YI,YJ,YK,YL,YM,YN,YO,YP,YQ,YR,YT,YU,YV,YW,YX,YY,YZ,Y0,Y3,Y4,Y5,Y6,Y7,Y8,Y9,Za,Zb,Zc,Zd,Ze,Zf,Zg,Zh,Zi,Zj,Zk,Zl,Zm,Zn,Zo,Zp,Zq,Zr,Zs,MW,MX,MY,MZ,M0,M3,M4,M5,M6,M7,M8,M9,Na,Nb,Nc,Nd,Nf,Ng,Nh,Ni,Nj,Nk,Nl,Nm,Nn,No,Np,Nq,Nr,Ns,Nt,Nu,Nv,Nw,Nx,Ny,Nz,Rt,Ru,Rv,Rw,Rx,Ry,Rz,RA,RB,RC,RF,RG,RH,RJ,NA],[]⟩ W:=by
 conv=>arg 2;whnf
 have h1:(0:Int)<=(i:Int):=by omega
 have h2:(i:Int)<(n:Int):=by omega
 have h3:(0:Int)<=(q:Int):=by omega
 have h4:(q:Int)<9:=by omega
 have HQ:=ae hQ;clear hQ;have adp:¬g=b9:=λe=>fY e.symm
 go_region_held3 (λw'=>w'.cell? ⟨b9,0,none⟩=some (.int .u8 p0)/\w'.cell? ⟨b9,1,none⟩=some (.string p1)/\w'.cell? ⟨b9,2,none⟩=some (.bool p2)/\w'.cell? ⟨b9,3,none⟩=some (.int .i64 p3)/\w'.cell? ⟨b9,4,none⟩=some (.int .i64 p4)/\w'.cell? ⟨b9,5,none⟩=some (.int .i64 p5)) (go_keep) (fail)
 all_goals exact HQ.out _ _ _ _ _ _
theorem IP (W:World)(g g3 b9 n i q:Nat)(hi:i<n)(hq:q<9)(p1:ByteArray)(o:Value)
  (k1:W.cell? ⟨b9,1,none⟩=some (.string p1))
  (m0:W.cell? ⟨g3,i*9+q,none⟩=some o)
  (fz:W.frozen? ⟨g3,i*9+q,none⟩=false) (fY:¬b9=g3) (c0 c1 c2 c5 c6 c7 c8 XZ X0 X2 X3 X4 X5 X6 X7 X8 X9 Ya Yb Yc Yd Ye Yf Yg Yh Yi Yj Yk Yl Ym Yn Yo Yp Yq Yr Ys Yt Yu Yv Yw Yx Yy Yz YA YB YC YD YE YF YG YH YI YJ YK YL YM YN YO YP YQ YR YT YU YV YW YX YY YZ Y0 Y3 Y4 Y5 Y6 Y7 Y8 Y9 Za Zb Zc Zd Ze Zf Zg Zh Zi Zj Zk Zl Zm Zn Zo Zp Zq Zr Zs MW MX MY MZ M0 M3 M4 M5 M6 M7 M8 M9 Na Nb Nc Nd Nf Ng Nh Ni Nj Nk Nl Nm Nn No Np Nq Nr Ns Nt Nu Nv Nw Nx Ny Nz Rt Ru Rv Rw Rx Ry Rz RA RB RC RF RG RH RJ NA:Value)
  (Q:Exit->Act->World->Prop)
  (hQ:∀(aed aee aef aeg aeh aei aej aek:Value),Q .normal ⟨#[c0,c1,c2,.slice (some ⟨g3,0,none⟩) n n,.slice (some ⟨g,0,none⟩) n n,c5,c6,c7,c8,.pointer (some ⟨b9,0,none⟩),.int .i64 (q:Int),.int .i64 (i:Int),XZ,X0,X2,X3,X4,X5,X6,X7,X8,X9,Ya,Yb,Yc,Yd,Ye,Yf,Yg,Yh,Yi,Yj,Yk,Yl,Ym,Yn,Yo,Yp,Yq,Yr,Ys,Yt,Yu,Yv,Yw,Yx,Yy,Yz,YA,YB,YC,YD,YE,YF,YG,YH,YI,YJ,YK,YL,YM,YN,YO,YP,YQ,YR,YT,YU,YV,YW,YX,YY,YZ,Y0,Y3,Y4,Y5,Y6,Y7,Y8,Y9,Za,Zb,Zc,Zd,Ze,Zf,Zg,Zh,Zi,Zj,Zk,Zl,Zm,Zn,Zo,Zp,Zq,Zr,Zs,MW,MX,MY,MZ,M0,M3,M4,M5,M6,M7,M8,M9,Na,Nb,Nc,Nd,Nf,Ng,Nh,Ni,Nj,Nk,Nl,Nm,Nn,No,Np,Nq,Nr,Ns,Nt,Nu,Nv,Nw,Nx,Ny,Nz,Rt,Ru,Rv,Rw,Rx,Ry,aed,aee,aef,aeg,aeh,aei,aej,aek,NA],[]⟩ ((W.setCell ⟨g3,i*9+q,none⟩ (.string p1)).drew)) :
  Code.wp prog r23 Q ⟨#[c0,c1,c2,.slice (some ⟨g3,0,none⟩) n n,.slice (some ⟨g,0,none⟩) n n,c5,c6,c7,c8,.pointer (some ⟨b9,0,none⟩),.int .i64 (q:Int),.int .i64 (i:Int),XZ,X0,X2,X3,X4,X5,X6,X7,X8,X9,Ya,Yb,Yc,Yd,Ye,Yf,Yg,Yh,Yi,Yj,Yk,Yl,Ym,Yn,Yo,Yp,Yq,Yr,Ys,Yt,Yu,Yv,Yw,Yx,Yy,Yz,YA,YB,YC,YD,YE,YF,YG,YH,YI,YJ,YK,YL,YM,YN,YO,YP,YQ,YR,YT,YU,YV,YW,YX,YY,YZ,Y0,Y3,Y4,Y5,Y6,Y7,Y8,Y9,Za,Zb,Zc,Zd,Ze,Zf,Zg,Zh,Zi,Zj,Zk,Zl,Zm,Zn,Zo,Zp,Zq,Zr,Zs,MW,MX,MY,MZ,M0,M3,M4,M5,M6,M7,M8,M9,Na,Nb,Nc,Nd,Nf,Ng,Nh,Ni,Nj,Nk,Nl,Nm,Nn,No,Np,Nq,Nr,Ns,Nt,Nu,Nv,Nw,Nx,Ny,Nz,Rt,Ru,Rv,Rw,Rx,Ry,Rz,RA,RB,RC,RF,RG,RH,RJ,NA],[]⟩ W:=by
 conv=>arg 2;whnf
 have h1:(0:Int)<=(i:Int):=by omega
 have h2:(i:Int)<(n:Int):=by omega
 have h3:(0:Int)<=(q:Int):=by omega
 have h4:(q:Int)<9:=by omega
 have adp:¬g3=b9:=λe=>fY e.symm;have HQ:=ae hQ;clear hQ
 go_region_held3 (λw'=>w'.cell? ⟨b9,1,none⟩=some (.string p1)) (go_keep) (fail)
 all_goals exact HQ.out _ _ _ _ _ _ _ _
theorem NP (w:World)(a:Addr)(u:Value):w.drew.setCell a u=(w.setCell a u).drew:=by
 unfold World.setCell World.drew;split<;>rfl
theorem TI.end1 {w:World}{n:Nat}{W:World}{S:pZ}{ah:Option Addr}{ch:Nat}{l:List Int}{b9:Nat}{c:Cl}(h:TI w n W S ah ch l b9 c){v:Int}(hb:W.heap[b9]?=some (.cells #[.int .u8 c.d.pr,.string c.d.val,.bool c.d.must,.int .i64 c.ly,.int .i64 v,.int .i64 c.no] 233 (0,0))){i p:Nat}(hi:i<n)(hp:p<9):
  (W.setCells (w.heap.size+1) (i*54+p*6) [.int .u8 c.d.pr,.string c.d.val,.bool c.d.must,.int .i64 c.ly,.int .i64 v,.int .i64 c.no]).drew.cell? ⟨b9,1,none⟩=some (.string c.d.val)/\
  (W.setCells (w.heap.size+1) (i*54+p*6) [.int .u8 c.d.pr,.string c.d.val,.bool c.d.must,.int .i64 c.ly,.int .i64 v,.int .i64 c.no]).drew.cell? ⟨w.heap.size,i*9+p,none⟩=some (.string (S i p).1)/\
  (W.setCells (w.heap.size+1) (i*54+p*6) [.int .u8 c.d.pr,.string c.d.val,.bool c.d.must,.int .i64 c.ly,.int .i64 v,.int .i64 c.no]).drew.frozen? ⟨w.heap.size,i*9+p,none⟩=false/\
  TI w n (((W.setCells (w.heap.size+1) (i*54+p*6) [.int .u8 c.d.pr,.string c.d.val,.bool c.d.must,.int .i64 c.ly,.int .i64 v,.int .i64 c.no]).drew.setCell ⟨w.heap.size,i*9+p,none⟩ (.string c.d.val)).drew) (gf S i p (c.d.val,{c with hv:=v})) ah ch l b9 c:=by
 have e:Zt {c with hv:=v}=[.int .u8 c.d.pr,.string c.d.val,.bool c.d.must,.int .i64 c.ly,.int .i64 v,.int .i64 c.no]:=rfl;obtain⟨_,_,h3,h4⟩:=h.th.tb.setBest hi hp c.d.val {c with hv:=v};have hw:=h.win hi hp c.d.val {c with hv:=v};rw[e] at h3 h4 hw;have hf:=h.far;have h2:∀{wx:World} {cs:Array Value},wx.heap[b9]?=some (.cells cs 233 (0,0))->∀k u,(wx.setCell ⟨w.heap.size+1,k,none⟩ u).heap[b9]?=some (.cells cs 233 (0,0)):=λhx k u=>(Below.heap_setCell _ _ _ _ (by show b9≠w.heap.size+1;omega)).trans hx;have hb6:=h2 (h2 (h2 (h2 (h2 (h2 hb (i*54+p*6) (.int .u8 c.d.pr)) (i*54+p*6+1) (.string c.d.val)) (i*54+p*6+2) (.bool c.d.must)) (i*54+p*6+3) (.int .i64 c.ly)) (i*54+p*6+4) (.int .i64 v)) (i*54+p*6+5) (.int .i64 c.no);refine⟨?_,?_,?_,?_⟩
 ·rw[cell_drew_own];exact aa hb6 rfl
 ·rw[cell_drew_own];exact h3
 ·rw[frozen_drew_own];exact h4
 ·rw[NP];exact(hw.go bd.drew).go bd.drew
theorem JN (s:ByteArray):s.toList.isEmpty=true↔s.size=0:=by
 constructor
 ·intro h;rcases Nat.eq_zero_or_pos s.size with h1 | h1
  ·exact h1
  ·rw[iF s h1] at h;cases h
 ·intro h;rw[eJ h];unfold ByteArray.toList;unfold ByteArray.toList.loop;rw[aj (by decide)];rfl
theorem Lu (w:World)(d:Nat)(els:List REl)(made:Nat)(hp:Option Addr)(vT:Value)(bi:Bool)(vL:Value)(h:RD w d els made hp vT bi vL)(rk:Nat->Nat)(hr:rl els rk)(lL:∀y∈els,y.cl.size<=maxLen)
  (rs:List eA) (hs:ShM w hp rs) (qA:∀x∈rs,MA x) (QK:rs.length<=400) (ol:∀r,lK rs r<=1000000) :
  Calls prog 140 #[.pointer (some ⟨d,0,none⟩)] w λe w'=>TF w els rs e w':=by
 have bC:=h.few;obtain⟨i0,hi,gx,gA,gB⟩:=info_parts Tryz.infoq234;obtain⟨j0,hj,jz0,jz1,jz2⟩:=info_parts Tryz.info236
 have Fi:∀u:World,(Instr.makeSlice 119 (.int .i64 (els.length:Int)) (.int .i64 (els.length:Int))).run prog u=.ok (.slice (some ⟨u.heap.size,0,none⟩) els.length els.length) (u.alloc (.cells (madeCells zT (els.length*9)) 234)):=λu=>by
  have h:=run_make (P:=prog) u 119 234 i0 (.agg zT) underlying119 hi gx .i64 .i64 (els.length:Int) (els.length:Int) (by omega) (Int.le_refl _) (by rw[gB];omega) (by omega);simpa[gA,Value.cells] using h
 have ado:∀u:World,(Instr.makeSlice 230 (.int .i64 (els.length:Int)) (.int .i64 (els.length:Int))).run prog u=.ok (.slice (some ⟨u.heap.size,0,none⟩) els.length els.length) (u.alloc (.cells (madeCells zB (els.length*54)) 236)):=λu=>by
  have h:=run_make (P:=prog) u 230 236 j0 (.agg zB) underlying230 hj jz0 .i64 .i64 (els.length:Int) (els.length:Int) (by omega) (Int.le_refl _) (by rw[jz2];omega) (by omega);simpa[jz1,Value.cells] using h
 obtain⟨aL,cL,uR⟩:=h.shape;subst uR;obtain⟨b,a,c,xs,mn,rfl,tp,VO,T8⟩:=hs;have HR:Hid (RD w d els made (some ⟨b,0,none⟩) vT bi (.slice aL els.length cL)/\rl els rk/\∀y∈els,y.cl.size<=maxLen):=⟨h,hr,lL⟩;have HS:Hid (Sh w b (.slice a rs.length c) mn/\w.ownsRow 0 164 3 (.slice a rs.length c) rs.length xs/\(∀r (h:r<rs.length),RuM w xs r rs[r])/\(∀x∈rs,MA x)/\∀r,lK rs r<=1000000):=⟨tp,VO,T8,qA,ol⟩;have HB:Hid (w.heap[d]?=some (.cells #[.pointer (some ⟨b,0,none⟩),.slice aL els.length cL,.int .i64 made,vT,.bool bi] 121 (0,0))):=h.doc;have d1:=h.c1;have d1b:=(h.below (bd.alloc au (.cells (madeCells zT (els.length*9)) 234))).c1;clear h hr lL tp VO T8 qA ol
 have HT0:Hid (TB w els.length ((w.alloc (.cells (madeCells zT (els.length*9)) 234)).alloc (.cells (madeCells zB (els.length*54)) 236)) (sA els rs 0)):=by
  refine⟨(Kv w w.heap.size els.length au bC).alloc _,?_,(bd.alloc au _).alloc (by simp) _⟩;have:=Kt (w.alloc (.cells (madeCells zT (els.length*9)) 234)) w.heap.size els.length (by simp) bC;simpa[sA] using this
 go_enter func140,ntmps140;go_upto_region 3 with fail;generalize (w.alloc (.cells (madeCells zT (els.length*9)) 234)).alloc (.cells (madeCells zB (els.length*54)) 236)=W1 at HT0 ⊢;clear d1 d1b Fi ado hi hj gx gA gB jz0 jz1 jz2;go_wp2_with fail
 go_loopg [5,6] rs.length (λgk nv rv wr=>∃r:Nat,nv=.int .i64 (lK rs r:Nat)/\rv=.int .i64 r/\r<=rs.length/\rs.length - r<=gk/\Hid (TB w els.length wr (sA els rs r)))
 case atStart=>exact⟨0,rfl,rfl,aZ,by omega,HT0⟩
 case round=>
  obtain⟨r,rfl,rfl,jJ,fS,HT⟩:=hrel;have d0:wr.cell? ⟨d,0,none⟩=some (.pointer (some ⟨b,0,none⟩)):=aa (HR.out.1.below HT.out.below).doc rfl;have s0:wr.cell? ⟨b,0,none⟩=some (.slice a rs.length c):=(HT.out.below.cell (p:=⟨b,0,none⟩) HS.out.1.lt).trans HS.out.1.c0
  by_cases aU:r<rs.length
  ·have hd:decide ((r:Int)<(rs.length:Int))=true:=by simp;omega
   have aag:(r:Int)<(rs.length:Int):=by omega
   obtain⟨g,hg,dn,iC⟩:=aR HS.out.2.1 (by omega);subst hg;obtain⟨aS,cS,aD,cD,ys,x1,x2,x3,x4,x5,x6⟩:=HS.out.2.2.1 r aU;have DL:=HS.out.2.2.2.1 _ (bK aU)
   have Wv:Hid (sA els rs (r+1)=pF els.length (λi=>(bW els rs[r].sels rs[r].sels.length)[i]?.getD 0) rs[r].ly rs[r].dl (lK rs r) (sA els rs r) rs[r].dl.length/\lK rs (r+1)=lK rs r+rs[r].dl.length):=by
    refine⟨?_,?_⟩
    ·show(match rs[r]? with | none=>_ | some x=>_)=_;rw[bO aU]
    ·show lK rs r+(rs[r]?.map λx=>x.dl.length).getD 0=_;rw[bO aU];rfl
   have ol:=HS.out.2.2.2.2 r;generalize lK rs r=n0 at Wv ol ⊢;generalize sA els rs r=S0 at HT Wv;generalize rs[r]=x at x1 x2 x3 x4 x5 x6 DL Wv;have HX:Hid (MA x/\w.ownsRow 0 166 1 (.slice aS x.sels.length cS) x.sels.length ys/\SelsM w 0 ys x.sels/\w.ownsRow 0 229 3 (.slice aD x.dl.length cD) x.dl.length (lg x.dl)):=⟨DL,x4,x5,x6⟩;have hdf:=DL.few
   have Xh:Hid (∀wq,Below w.heap.size w wq->wq.cell? ⟨d,0,none⟩=some (.pointer (some ⟨b,0,none⟩))/\wq.cell? ⟨b,0,none⟩=some (.slice (some ⟨g,0,none⟩) rs.length c)/\wq.cell? ⟨g,r*3,none⟩=some (.int .i64 x.ly)/\wq.cell? ⟨g,r*3+1,none⟩=some (.slice aS x.sels.length cS)/\wq.cell? ⟨g,r*3+2,none⟩=some (.slice aD x.dl.length cD)):=λwq hB=>
    ⟨aa (HR.out.1.below hB).doc rfl,(hB.cell (p:=⟨b,0,none⟩) HS.out.1.lt).trans HS.out.1.c0,(hB.cell (p:=⟨g,r*3,none⟩) dn).trans (iC _ _ x1),(hB.cell (p:=⟨g,r*3+1,none⟩) dn).trans (iC _ _ x2),(hB.cell (p:=⟨g,r*3+2,none⟩) dn).trans (iC _ _ x3)⟩
   clear x1 x2 x3 x4 x5 x6 DL iC d0 s0;obtain⟨d0,s0,q0,q1,q2⟩:=Xh.out wr HT.out.below;go_wp2_with fail;refine(J7 wr d els made _ vT bi _ (HR.out.1.below HT.out.below) rk HR.out.2.1 HR.out.2.2 0 x.ly aS cS _ x.sels ys (aN HX.out.2.1 HT.out.below) (HX.out.2.2.1.below HT.out.below) HX.out.1.sok HX.out.1.sels).mono ?_;rintro e w2 ⟨ah,ch,rfl,WK,dq⟩;have hl:=fW els x.sels x.sels.length;generalize bW els x.sels x.sels.length=l at Wv WK hl ⊢;have HH0:Hid (TH w els.length w2 (pF els.length (λi=>l[i]?.getD 0) x.ly x.dl n0 S0 0) ah ch l):=⟨HT.out.go dq,aP WK HT.out.far⟩;have Xg:Hid (_/\_):=⟨fS,aU⟩;clear WK dq HT d0 s0 q0 q1 q2 fS aU jJ hd;go_wp2_with fail
   go_loopg [5,8] x.dl.length (λJY nv dv wq=>∃dd:Nat,nv=.int .i64 (n0+dd:Nat)/\dv=.int .i64 dd/\dd<=x.dl.length/\x.dl.length - dd<=JY/\Hid (TH w els.length wq (pF els.length (λi=>l[i]?.getD 0) x.ly x.dl n0 S0 dd) ah ch l))
   case atStart=>exact⟨0,rfl,rfl,aZ,by omega,HH0⟩
   case round=>
    obtain⟨dd,rfl,rfl,QG,rG,HH⟩:=hrel;obtain⟨d0,s0,q0,q1,q2⟩:=Xh.out wr HH.out.tb.below
    by_cases hdt:dd<x.dl.length
    ·have iR:decide ((dd:Int)<(x.dl.length:Int))=true:=by simp;omega
     have ahO:(dd:Int)<(x.dl.length:Int):=by omega
     obtain⟨gD,ZU,Gi,Gh⟩:=aR HX.out.2.2.2 (by omega);subst ZU;obtain⟨f0,f1,f2⟩:=N4 hdt;have e0:=(HH.out.tb.below.cell (p:=⟨gD,dd*3,none⟩) Gi).trans (Gh _ _ f0);have e1:=(HH.out.tb.below.cell (p:=⟨gD,dd*3+1,none⟩) Gi).trans (Gh _ _ f1);have e2:=(HH.out.tb.below.cell (p:=⟨gD,dd*3+2,none⟩) Gi).trans (Gh _ _ f2);obtain⟨q,hq,Kg⟩:=HX.out.1.dok _ (bK hdt)
     have uW:Hid (pF els.length (λi=>l[i]?.getD 0) x.ly x.dl n0 S0 (dd+1)=iM (pF els.length (λi=>l[i]?.getD 0) x.ly x.dl n0 S0 dd) ⟨x.dl[dd],x.ly,0,(n0:Int)+dd+1⟩ (λi=>l[i]?.getD 0) q els.length):=by
      show(match x.dl[dd]? with | none=>_ | some x=>_)=_;rw[bO hdt];show iM _ _ _ (KS _) _=_;unfold KS;rw[hq,show((n0+dd+1:Nat):Int)=(n0:Int)+dd+1 from by omega];rfl
     have HQ:Hid (fu x.dl[dd].pr=some q):=hq;clear hq;have W9:Hid (Below w.heap.size w (wr.alloc (.cells #[.int .u8 0,.string ⟨#[]⟩,.bool false,.int .i64 0,.int .i64 0,.int .i64 0] 233))):=HH.out.tb.below.alloc HH.out.tb.below.size _;obtain⟨d0a,s0a,q0a,q1a,q2a⟩:=Xh.out _ W9.out;have e0a:=(W9.out.cell (p:=⟨gD,dd*3,none⟩) Gi).trans (Gh _ _ f0);have e1a:=(W9.out.cell (p:=⟨gD,dd*3+1,none⟩) Gi).trans (Gh _ _ f1);have e2a:=(W9.out.cell (p:=⟨gD,dd*3+2,none⟩) Gi).trans (Gh _ _ f2);clear f0 f1 f2 Gh Gi q1 q1a;generalize x.dl[dd]=y at e0 e1 e2 e0a e1a e2a uW HQ;generalize pF els.length (λi=>l[i]?.getD 0) x.ly x.dl n0 S0 dd=S1 at HH uW;go_upto_region 12 with fail
     go_region
     have XG:Hid (TI w els.length ((wr.alloc (.cells #[.int .u8 y.pr,.string y.val,.bool y.must,.int .i64 x.ly,.int .i64 0,.int .i64 ((n0:Int)+dd+1)] 233)).drew) S1 ah ch l wr.heap.size ⟨y,x.ly,0,(n0:Int)+dd+1⟩):=by
      have hB:Below wr.heap.size wr ((wr.alloc (.cells #[.int .u8 y.pr,.string y.val,.bool y.must,.int .i64 x.ly,.int .i64 0,.int .i64 ((n0:Int)+dd+1)] 233)).drew):=(bd.alloc au _).drew;exact⟨HH.out.go hB,⟨0,heap_alloc_new wr _⟩,HH.out.tb.far,λe=>by have:=(HH.out.hv.lt _ e).2;omega⟩
     clear HH W9 d0 s0 q0 q2 d0a s0a q0a q2a e0 e1 e2 e0a e1a e2a;generalize (wr.alloc (.cells #[.int .u8 y.pr,.string y.val,.bool y.must,.int .i64 x.ly,.int .i64 0,.int .i64 ((n0:Int)+dd+1)] 233)).drew=W3 at XG ⊢;generalize wr.heap.size=b9 at XG ⊢
     have Im:W3.cell? ⟨b9,0,none⟩=some (.int .u8 y.pr):=by
      obtain⟨h4,hb⟩:=XG.out.blk;exact aa hb rfl
     go_wp2_with fail;refine(pW W3 y.pr).mono ?_;rintro e w4 ⟨p,rfl,rfl,HP⟩;obtain⟨W3,rfl⟩:∃W3,W3=w4:=⟨_,rfl⟩
     have kA:q=p:=by
      have h1:=HQ.out;rcases HP.out with⟨_,h2⟩ | ⟨_,h2⟩
      ·rw[h1] at h2;injection h2
      ·rw[h1] at h2;cases h2
     subst kA;clear HP HQ Im;generalize hCe:(⟨y,x.ly,0,(n0:Int)+dd+1⟩:Cl)=C at XG uW;have Xb:Hid (C.d=y/\C.ly=x.ly/\C.no=(n0:Int)+dd+1):=by rw[<-hCe];exact⟨rfl,rfl,rfl⟩
     have CD:Hid (_/\_):=⟨rG,hdt⟩;clear hCe rG hdt QG iR aag ol;go_wp2_with fail
     go_loopg [11] els.length (λgk3 iv wq=>∃i:Nat,iv=.int .i64 i/\i<=els.length/\els.length - i<=gk3/\Hid (TI w els.length wq (iM S1 C (λi=>l[i]?.getD 0) q i) ah ch l b9 C))
     case atStart=>exact⟨0,rfl,aZ,by omega,XG.out.tab (G6 _ _ _ _).symm⟩
     case round=>as_aux_lemma=>
      obtain⟨i,rfl,aia,Om,HI⟩:=hrel;have d1:=(HR.out.1.below HI.out.th.tb.below).c1
      by_cases hit:i<els.length
      ·have yw:decide ((i:Int)<(els.length:Int))=true:=by simp;omega
       have aib:(i:Int)<(els.length:Int):=by omega
       have aiy:(q:Int)<9:=by omega
       obtain⟨gh,hgh,ah2,ZZ⟩:=aR HI.out.th.hv (by omega);subst hgh;obtain⟨v,hv⟩:∃v,l[i]?=some v:=⟨_,bO (by omega)⟩;have k0:=ZZ i (.int .i64 v) (by rw[List.getElem?_map,hv];rfl);obtain⟨h4,LY⟩:=HI.out.blk;have c4:wr.cell? ⟨b9,4,none⟩=some (.int .i64 h4):=aa LY rfl;have cz:∀k,wr.frozen? ⟨b9,k,none⟩=false:=λk=>ax LY;have Fc:Hid (TI w els.length (wr.setCell ⟨b9,4,none⟩ (.int .i64 v)) (iM S1 C (λi=>l[i]?.getD 0) q i) (some ⟨gh,0,none⟩) ch l b9 C/\(wr.setCell ⟨b9,4,none⟩ (.int .i64 v)).heap[b9]?=some (.cells #[.int .u8 C.d.pr,.string C.d.val,.bool C.d.must,.int .i64 C.ly,.int .i64 v,.int .i64 C.no] 233 (0,0))):=HI.out.setH v
       have k1:(wr.setCell ⟨b9,4,none⟩ (.int .i64 v)).cell? ⟨gh,i,none⟩=some (.int .i64 v):=by
        obtain⟨g2,ij,_,yK⟩:=aR Fc.out.1.th.hv (by omega);injection ij with ij
        injection ij with ij
        rw[ij];exact yK i (.int .i64 v) (by rw[List.getElem?_map,hv];rfl)
       have fy:Hid (iM S1 C (λi=>l[i]?.getD 0) q (i+1)=gf (iM S1 C (λi=>l[i]?.getD 0) q i) i q (tT v C (iM S1 C (λi=>l[i]?.getD 0) q i i q))):=by
        unfold Hid;rw[G5,P7];show gf _ _ _ (tT (l[i]?.getD 0) _ _)=_;rw[hv];rfl
       clear ZZ LY hv HI;generalize iM S1 C (λi=>l[i]?.getD 0) q i=S2 at Fc fy
       by_cases hneg:v<0
       ·have gn:decide (v<0)=true:=by simpa using hneg
        have pY:Hid (TI w els.length (wr.setCell ⟨b9,4,none⟩ (.int .i64 v)) (iM S1 C (λi=>l[i]?.getD 0) q (i+1)) (some ⟨gh,0,none⟩) ch l b9 C):=by
         refine Fc.out.1.tab ?_;rw[fy.out];unfold tT;rw[aq hneg,uA]
        clear Fc fy hneg;go_wp2;go_roundg (els.length - (i+1))
        case measure=>omega
        case rel=>exact⟨i+1,by go_num,by omega,au,pY⟩
       ·have gn:decide (v<0)=false:=by simpa using hneg
        have HNG:Hid (¬v<0):=hneg;clear hneg;go_upto_region 19 with fail;generalize wr.setCell ⟨b9,4,none⟩ (.int .i64 v)=W4 at Fc ⊢;clear k0 k1 c4 cz d1 gn h4;have o0:W4.cell? ⟨w.heap.size,i*9+q,none⟩=some (.string (S2 i q).1):=(Fc.out.1.th.tb.out.cellAt _ (by omega)).trans (Dh hit Kg);have Wt:Hid (((S2 i q).1.toList.isEmpty=true↔(S2 i q).1.size=0)):=JN _
        have A9:Hid (∀bb:Bool,(tT v C (S2 i q)=(if((S2 i q).1.toList.isEmpty||bb)=true then(C.d.val,{C with hv:=v}) else S2 i q))∨bb≠yo {C with hv:=v} (S2 i q).2):=λbb=>by
         by_cases hb:bb=yo {C with hv:=v} (S2 i q).2
         ·left;unfold tT;rw[aj HNG.out,hb]
          by_cases he:(S2 i q).1.toList.isEmpty=true
          ·rw[aq (af (Wt.out.1 he)),he,Bool.true_or,aq rfl]
          ·have Ge:(S2 i q).1.toList.isEmpty=false:=by simpa using he
           rw[Ge,Bool.false_or]
           by_cases hw:yo {C with hv:=v} (S2 i q).2=true
           ·rw[aq (ai hw),aq hw]
           ·rw[aj (λh=>h.elim (λh=>he (Wt.out.2 h)) hw),aj hw]
         ·exact ai hb
        clear HNG Wt;obtain⟨gE,wS⟩:∃gE,S2 i q=gE:=⟨_,rfl⟩;have A4:Hid (S2 i q=gE):=wS;rw[wS] at A9 fy o0;clear wS;obtain⟨fe,Dx⟩:∃fe,gE.1.toList.isEmpty=fe:=⟨_,rfl⟩;rw[Dx] at A9;have Qs:Hid (gE.1.toList.isEmpty=fe):=Dx;have m0:W4.cell? ⟨b9,0,none⟩=some (.int .u8 C.d.pr):=aa Fc.out.2 rfl
        have HK4:Hid (∀wx,Below W4.heap.size W4 wx->(wx.cell? ⟨b9,0,none⟩=some (.int .u8 C.d.pr)/\wx.cell? ⟨b9,1,none⟩=some (.string C.d.val)/\wx.cell? ⟨b9,2,none⟩=some (.bool C.d.must)/\wx.cell? ⟨b9,3,none⟩=some (.int .i64 C.ly)/\wx.cell? ⟨b9,4,none⟩=some (.int .i64 v)/\wx.cell? ⟨b9,5,none⟩=some (.int .i64 C.no))/\(wx.cell? ⟨w.heap.size+1,i*54+q*6,none⟩=some (.int .u8 gE.2.d.pr)/\wx.cell? ⟨w.heap.size+1,i*54+q*6+1,none⟩=some (.string gE.2.d.val)/\wx.cell? ⟨w.heap.size+1,i*54+q*6+2,none⟩=some (.bool gE.2.d.must)/\wx.cell? ⟨w.heap.size+1,i*54+q*6+3,none⟩=some (.int .i64 gE.2.ly)/\wx.cell? ⟨w.heap.size+1,i*54+q*6+4,none⟩=some (.int .i64 gE.2.hv)/\wx.cell? ⟨w.heap.size+1,i*54+q*6+5,none⟩=some (.int .i64 gE.2.no))):=λwx hB=>by
         have hb:=(hB.block b9 (bx.1 Fc.out.2).1).trans Fc.out.2;have Cm:=aN Fc.out.1.th.tb.best hB
         have e:∀r,r<6->wx.cell? ⟨w.heap.size+1,i*54+q*6+r,none⟩=some (tc gE.2 r):=λr hr=>by
          rw[<-A4.out];exact(Cm.cellAt _ (by omega)).trans (Dg hit Kg hr)
         exact⟨⟨aa hb rfl,aa hb rfl,aa hb rfl,aa hb rfl,aa hb rfl,aa hb rfl⟩,e 0 (by omega),e 1 (by omega),e 2 (by omega),e 3 (by omega),e 4 (by omega),e 5 (by omega)⟩
        have H0:Hid (Below W4.heap.size W4 W4.drew):=(Below.refl _ W4).drew;have acY:b9<W4.heap.size:=(bx.1 Fc.out.2).1;have acZ:w.heap.size+1<W4.heap.size:=by have:=Fc.out.1.th.tb.far;omega
        clear m0;go_wp2_with fail;clear Dx o0
        go_cut [13] from 99 to 150 (λbv wx=>∃bb:Bool,bv=.bool bb/\Hid (bb=yo {C with hv:=v} gE.2/\Below W4.heap.size W4 wx))
        case first=>
         go_region_held3 (λw'=>(w'.cell? ⟨b9,0,none⟩=some (.int .u8 C.d.pr)/\w'.cell? ⟨b9,1,none⟩=some (.string C.d.val)/\w'.cell? ⟨b9,2,none⟩=some (.bool C.d.must)/\w'.cell? ⟨b9,3,none⟩=some (.int .i64 C.ly)/\w'.cell? ⟨b9,4,none⟩=some (.int .i64 v)/\w'.cell? ⟨b9,5,none⟩=some (.int .i64 C.no))/\(w'.cell? ⟨w.heap.size+1,i*54+q*6,none⟩=some (.int .u8 gE.2.d.pr)/\w'.cell? ⟨w.heap.size+1,i*54+q*6+1,none⟩=some (.string gE.2.d.val)/\w'.cell? ⟨w.heap.size+1,i*54+q*6+2,none⟩=some (.bool gE.2.d.must)/\w'.cell? ⟨w.heap.size+1,i*54+q*6+3,none⟩=some (.int .i64 gE.2.ly)/\w'.cell? ⟨w.heap.size+1,i*54+q*6+4,none⟩=some (.int .i64 gE.2.hv)/\w'.cell? ⟨w.heap.size+1,i*54+q*6+5,none⟩=some (.int .i64 gE.2.no))) (first | exact HK4.out _ HX.out | exact HK4.out _ H0.out)
          (first | (go_at_call 168;refine(Qm _ C.d.pr C.d.val C.d.must C.ly v C.no gE.2.d.pr gE.2.d.val gE.2.d.must gE.2.ly gE.2.hv gE.2.no).mono ?_;rintro e w5 ⟨rfl,wN⟩;have HX:Hid (Below W4.heap.size W4 w5):=H0.out.trans wN;clear wN))
         all_goals
          go_wp2_with fail;go_meet;exact⟨_,rfl,rfl,HX.out⟩
        case rest=>
         obtain⟨bb,rfl,ql⟩:=hcut;obtain⟨W5,rfl⟩:∃W5,W5=wc:=⟨_,rfl⟩;have HUB:Hid (tT v C gE=if(fe||bb)=true then(C.d.val,{C with hv:=v}) else gE):=(A9.out bb).resolve_right (λh=>h ql.out.1);have Fb:Hid (TI w els.length W5 S2 (some ⟨gh,0,none⟩) ch l b9 C):=Fc.out.1.go ql.out.2;obtain⟨⟨c0,c1,c2,c3,c4,c5⟩,k0,k1,k2,k3,k4,k5⟩:=HK4.out _ ql.out.2;have LJ:Hid (W5.heap[b9]?=some (.cells #[.int .u8 C.d.pr,.string C.d.val,.bool C.d.must,.int .i64 C.ly,.int .i64 v,.int .i64 C.no] 233 (0,0))):=(ql.out.2.block b9 (bx.1 Fc.out.2).1).trans Fc.out.2;have bz:∀j,W5.frozen? ⟨w.heap.size+1,j,none⟩=false:=λj=>Fb.out.th.tb.best.frozenAt j;have acY:b9<W5.heap.size:=(bx.1 LJ.out).1;have acZ:w.heap.size+1<W5.heap.size:=by have:=Fb.out.th.tb.far;omega
         have fX:Hid (iM S1 C (λi=>l[i]?.getD 0) q (i+1)=gf S2 i q (if(fe||bb)=true then(C.d.val,{C with hv:=v}) else gE)):=by unfold Hid;rw[fy.out,HUB.out]
         clear ql A9 HK4 H0 Fc HUB fy
         by_cases hfb:(fe||bb)=true
         ·have E8:Hid (w.heap.size+2<=b9):=Fb.out.far;have aac:¬b9=w.heap.size+1:=by have:=E8.out;omega
          have Kc:¬b9=w.heap.size:=by have:=E8.out;omega
          obtain⟨oR,yK,Vy,hti⟩:=Fb.out.end1 LJ.out hit Kg;have QP:Hid ((W5.setCells (w.heap.size+1) (i*54+q*6) [.int .u8 C.d.pr,.string C.d.val,.bool C.d.must,.int .i64 C.ly,.int .i64 v,.int .i64 C.no]).drew.cell? ⟨b9,1,none⟩=some (.string C.d.val)):=oR;have Ck:Hid ((W5.setCells (w.heap.size+1) (i*54+q*6) [.int .u8 C.d.pr,.string C.d.val,.bool C.d.must,.int .i64 C.ly,.int .i64 v,.int .i64 C.no]).drew.cell? ⟨w.heap.size,i*9+q,none⟩=some (.string (S2 i q).1)):=yK;have HC3:Hid ((W5.setCells (w.heap.size+1) (i*54+q*6) [.int .u8 C.d.pr,.string C.d.val,.bool C.d.must,.int .i64 C.ly,.int .i64 v,.int .i64 C.no]).drew.frozen? ⟨w.heap.size,i*9+q,none⟩=false):=Vy
          have XD:Hid (iM S1 C (λi=>l[i]?.getD 0) q (i+1)=gf S2 i q (C.d.val,{C with hv:=v})):=by
           unfold Hid;rw[fX.out,aq hfb]
          have pY:Hid (TI w els.length (((W5.setCells (w.heap.size+1) (i*54+q*6) [.int .u8 C.d.pr,.string C.d.val,.bool C.d.must,.int .i64 C.ly,.int .i64 v,.int .i64 C.no]).drew.setCell ⟨w.heap.size,i*9+q,none⟩ (.string C.d.val)).drew) (iM S1 C (λi=>l[i]?.getD 0) q (i+1)) (some ⟨gh,0,none⟩) ch l b9 C):=hti.tab XD.out.symm;clear oR yK Vy hti XD;clear fX Qs A4 E8 LJ Fb;cases fe with
          | true=>
           clear hfb;go_upto_region 22 with fail;refine IN W5 (w.heap.size+1) w.heap.size b9 els.length i q hit Kg C.d.pr C.ly v C.no C.d.val C.d.must _ _ _ _ _ _ c0 c1 c2 c3 c4 c5 k0 k1 k2 k3 k4 k5 bz aac _ _ _ _ _ _ _ _ _ _ _ _ _ _ _ _ _ _ _ _ _ _ _ _ _ _ _ _ _ _ _ _ _ _ _ _ _ _ _ _ _ _ _ _ _ _ _ _ _ _ _ _ _ _ _ _ _ _ _ _ _ _ _ _ _ _ _ _ _ _ _ _ _ _ _ _ _ _ _ _ _ _ _ _ _ _ _ _ _ _ _ _ _ _ _ _ _ _ _ _ _ _ _ _ _ _ _ _ _ _ _ _ _ _ _ _ _ _ _ _ _ _ _ _ _ _ _ _ _ _ _ _ _ _ _ _ _ _ _ _ _ _ _ _ _ _ _ _ ?_;clear c0 c1 c2 c3 c4 c5 k0 k1 k2 k3 k4 k5 bz;intro a1 a2 a3 a4 a5 a6;go_upto_region 23 with fail;refine IP _ (w.heap.size+1) w.heap.size b9 els.length i q hit Kg C.d.val _ QP.out Ck.out HC3.out Kc _ _ _ _ _ _ _ _ _ _ _ _ _ _ _ _ _ _ _ _ _ _ _ _ _ _ _ _ _ _ _ _ _ _ _ _ _ _ _ _ _ _ _ _ _ _ _ _ _ _ _ _ _ _ _ _ _ _ _ _ _ _ _ _ _ _ _ _ _ _ _ _ _ _ _ _ _ _ _ _ _ _ _ _ _ _ _ _ _ _ _ _ _ _ _ _ _ _ _ _ _ _ _ _ _ _ _ _ _ _ _ _ _ _ _ _ _ _ _ _ _ _ _ _ _ _ _ _ _ _ _ _ _ _ _ _ _ _ _ _ _ _ _ _ _ _ _ _ ?_;intro e1 e2 e3 e4 e5 e6 e7 e8;clear QP Ck HC3;generalize ((W5.setCells (w.heap.size+1) (i*54+q*6) [.int .u8 C.d.pr,.string C.d.val,.bool C.d.must,.int .i64 C.ly,.int .i64 v,.int .i64 C.no]).drew.setCell ⟨w.heap.size,i*9+q,none⟩ (.string C.d.val)).drew=W7 at pY ⊢;go_wp2;go_roundg (els.length - (i+1))
           case measure=>omega
           case rel=>exact⟨i+1,by go_num,by omega,au,pY⟩
          | false=>
           obtain rfl:bb=true:=by simpa using hfb
           clear hfb;go_upto_region 22 with fail;refine IN W5 (w.heap.size+1) w.heap.size b9 els.length i q hit Kg C.d.pr C.ly v C.no C.d.val C.d.must _ _ _ _ _ _ c0 c1 c2 c3 c4 c5 k0 k1 k2 k3 k4 k5 bz aac _ _ _ _ _ _ _ _ _ _ _ _ _ _ _ _ _ _ _ _ _ _ _ _ _ _ _ _ _ _ _ _ _ _ _ _ _ _ _ _ _ _ _ _ _ _ _ _ _ _ _ _ _ _ _ _ _ _ _ _ _ _ _ _ _ _ _ _ _ _ _ _ _ _ _ _ _ _ _ _ _ _ _ _ _ _ _ _ _ _ _ _ _ _ _ _ _ _ _ _ _ _ _ _ _ _ _ _ _ _ _ _ _ _ _ _ _ _ _ _ _ _ _ _ _ _ _ _ _ _ _ _ _ _ _ _ _ _ _ _ _ _ _ _ _ _ _ _ ?_;clear c0 c1 c2 c3 c4 c5 k0 k1 k2 k3 k4 k5 bz;intro a1 a2 a3 a4 a5 a6;go_upto_region 23 with fail;refine IP _ (w.heap.size+1) w.heap.size b9 els.length i q hit Kg C.d.val _ QP.out Ck.out HC3.out Kc _ _ _ _ _ _ _ _ _ _ _ _ _ _ _ _ _ _ _ _ _ _ _ _ _ _ _ _ _ _ _ _ _ _ _ _ _ _ _ _ _ _ _ _ _ _ _ _ _ _ _ _ _ _ _ _ _ _ _ _ _ _ _ _ _ _ _ _ _ _ _ _ _ _ _ _ _ _ _ _ _ _ _ _ _ _ _ _ _ _ _ _ _ _ _ _ _ _ _ _ _ _ _ _ _ _ _ _ _ _ _ _ _ _ _ _ _ _ _ _ _ _ _ _ _ _ _ _ _ _ _ _ _ _ _ _ _ _ _ _ _ _ _ _ _ _ _ _ ?_;intro e1 e2 e3 e4 e5 e6 e7 e8;clear QP Ck HC3;generalize ((W5.setCells (w.heap.size+1) (i*54+q*6) [.int .u8 C.d.pr,.string C.d.val,.bool C.d.must,.int .i64 C.ly,.int .i64 v,.int .i64 C.no]).drew.setCell ⟨w.heap.size,i*9+q,none⟩ (.string C.d.val)).drew=W7 at pY ⊢;go_wp2;go_roundg (els.length - (i+1))
           case measure=>omega
           case rel=>exact⟨i+1,by go_num,by omega,au,pY⟩
         ·have uP:fe=false:=by simp at hfb;exact hfb.1
          have bG:bb=false:=by simp at hfb;exact hfb.2
          have pY:Hid (TI w els.length W5 (iM S1 C (λi=>l[i]?.getD 0) q (i+1)) (some ⟨gh,0,none⟩) ch l b9 C):=by
           refine Fb.out.tab ?_;rw[fX.out,aj hfb,<-A4.out,uA]
          subst uP bG;clear fX hfb Qs A4 Fb c0 c1 c2 c3 c4 c5 k0 k1 k2 k3 k4 k5 bz LJ;go_wp2;go_roundg (els.length - (i+1))
          case measure=>omega
          case rel=>exact⟨i+1,by go_num,by omega,au,pY⟩
      ·have yw:decide ((i:Int)<(els.length:Int))=false:=by simp;omega
       obtain rfl:i=els.length:=by omega
       have HF:Hid (TH w els.length wr (pF els.length (λi=>l[i]?.getD 0) x.ly x.dl n0 S0 (dd+1)) ah ch l):=by
        unfold Hid;rw[uW.out];exact HI.out.th
       clear HI;go_wp2;go_roundg (x.dl.length - (dd+1))
       case measure=>
        have hm:=CD.out;omega
       case rel=>exact⟨dd+1,by go_num,by go_num,CD.out.2,au,HF⟩
    ·have iR:decide ((dd:Int)<(x.dl.length:Int))=false:=by simp;omega
     obtain rfl:dd=x.dl.length:=by omega
     have HF:Hid (TB w els.length wr (sA els rs (r+1))/\(n0+x.dl.length:Nat)=lK rs (r+1)):=⟨by rw[Wv.out.1];exact HH.out.tb,Wv.out.2.symm⟩;clear HH;go_wp2;go_roundg (rs.length - (r+1))
     case measure=>
      have hm:=Xg.out;omega
     case rel=>exact⟨r+1,by rw[HF.out.2],by go_num,Xg.out.2,au,HF.out.1⟩
  ·have hd:decide ((r:Int)<(rs.length:Int))=false:=by simp;omega
   obtain rfl:r=rs.length:=by omega
   have HF:Hid (TF w els rs (.returned (.slice (some ⟨w.heap.size,0,none⟩) els.length els.length)) wr):=⟨rfl,by have:=HT.out.out;rw[Di] at this;exact this,HT.out.below⟩;clear HT;go_wp2;go_ret;exact HF.out
section
variable {Rr:List eA}
theorem Rel2.mem {α β:Type}{R:α->β->Prop}{l:List α}{m:List β}(h:Rel2 R l m){x:α}(hx:x∈l):∃y∈m,R x y:=by
 obtain⟨i,hi,rfl⟩:=List.getElem_of_mem hx;exact⟨_,bK (by rw[<-h.1];exact hi),h.at' hi⟩
section
variable {w w':World}{d:Nat}{els:List REl}{made:Nat}{hp:Option Addr}{vT:Value}{bi:Bool}{vL:Value}{Rr:List eA}{Gs:Nat->Prop}{M:Nat->Mk}{shn:Nat->Bool}{rs:List dF}
theorem Hy (h:∀x∈Rr,x.dl.length<=400):∀r,r<=Rr.length->lK Rr r<=r*400
 | 0,_=>au
 | r+1,hr=>by
  have ih:=Hy h r (by omega);show lK Rr r+(Rr[r]?.map λx=>x.dl.length).getD 0<=(r+1)*400;rw[bO (by omega)];have:=h _ (bK (show r<Rr.length by omega));show lK Rr r+Rr[r].dl.length<=_;omega
theorem CY (h:∀x∈Rr,x.dl.length<=400)(hl:Rr.length<=400):∀r,lK Rr r<=1000000
 | 0=>aZ
 | r+1=>by
  by_cases hr:r+1<=Rr.length
  ·have:=Hy h (r+1) hr;omega
  ·have ih:=CY h hl r;show lK Rr r+(Rr[r]?.map λx=>x.dl.length).getD 0<=_;rw[List.getElem?_eq_none (by omega)];exact ih
theorem RX.ruok (h:RX w d els made hp vT bi vL Rr Gs M shn rs):∀x∈Rr,MA x:=λx hx=>by
 obtain⟨y,_,hr⟩:=h.rel.mem hx;refine⟨hr.fs,λcs kf=>?_,hr.fd,λdc hdc=>?_⟩
 ·obtain⟨z,_,hz⟩:=hr.sels.mem kf;exact V2 h.tw h.re.rm hz
 ·obtain⟨z,_,hz⟩:=hr.dl.mem hdc;exact Ax hz.isp
theorem PH {c q:Nat}(h:fu c=some q):q<9:=by
 unfold fu at h;split at h
 ·injection h with h;omega
 ·split at h
  ·injection h with h;omega
  ·cases h
theorem tJ (s:ByteArray):lD s=i9 s:=by
 unfold lD i9;split
 ·exact qL _
 ·rfl
theorem RX.depth (h:RX w d els made hp vT bi vL Rr Gs M shn rs){y:REl}(hy:y∈els):vA els els.length y.num:=by
 refine zF _ _ (h.tw.up_end (jK hy) ?_);rw[rq];exact Nat.le_succ _
theorem RX.mem (h:RX w d els made hp vT bi vL Rr Gs M shn rs):∀y∈els,y.cl.size<=maxLen:=λy hy=>by
 have:=(h.re.cls y hy).few;unfold maxLen;omega
theorem RX.table (h:RX w d els made hp vT bi vL Rr Gs M shn rs){w1:World}{v:Value}(hB:Below w.heap.size w w1)(ho:w1.ownsRow w.heap.size 234 9 v els.length (lR (Lt els Rr) els.length)):
  RX ((w1.setCell ⟨d,3,none⟩ v).setCell ⟨d,4,none⟩ (.bool true)) d els made hp v true vL Rr Gs M shn rs/\Fr w ((w1.setCell ⟨d,3,none⟩ v).setCell ⟨d,4,none⟩ (.bool true)) (jQ d els vL):=by
 have hR1:RD w1 d els made hp vT bi vL:=h.rd.keep (λk _ hl=>hB.block k hl);have hR2:RD (w1.setCell ⟨d,3,none⟩ v) d els made hp v bi vL:=hR1.setDoc' rfl;have ft:Fr w ((w1.setCell ⟨d,3,none⟩ v).setCell ⟨d,4,none⟩ (.bool true)) (jQ d els vL):=(((Fr.refl w _).below hB).set (p:=⟨d,3,none⟩) (af (af rfl)) _).set (p:=⟨d,4,none⟩) (af (af rfl)) _;have ho0:=aP ho aZ;refine⟨⟨hR2.setDoc' rfl,h.tw,h.re,h.sh.keep (λk hg hl=>ft.block k hl (h.ga k hg)) ft.size,h.rel,h.few,λ_=>⟨Lt els Rr,?_,Lv h.tw h.re.rm h.rel⟩,λk hg=>Nat.lt_of_lt_of_le (h.gl k hg) ft.size,h.ga⟩,ft⟩;have h2:=bj ho0 (p:=⟨d,3,none⟩) (aB ho0 hR1.doc (by decide)) v;exact bj h2 (p:=⟨d,4,none⟩) (aB h2 hR2.doc (by decide)) _
end
section
variable (w:World)(d:Nat)(els:List REl)(made:Nat)(hp:Option Addr)(vT:Value)(bi:Bool)(vL:Value)(Rr:List eA)(Gs:Nat->Prop)(M:Nat->Mk)(shn:Nat->Bool)(rs:List dF)
def mB (n:Int)(s:ByteArray)(e:Ending)(w':World):Prop:=
 (bq (aK els) n s≠0/\e=.returned (.tuple #[.int .i64 0,.int .i64 (bq (aK els) n s)])/\w'=w)∨
 (bq (aK els) n s=0/\e=.returned (.tuple #[.int .i64 (eu (aK els) M rs n s),.int .i64 0])/\∃q8,RX w' d els made hp q8 true vL Rr Gs M shn rs/\((q8=vT/\bi=true)∨∀j,q8.ownBlock=some j->w.heap.size<=j)/\Fr w w' (jQ d els vL))
theorem xH (n:Int)(s:ByteArray)(h:RX w d els made hp vT bi vL Rr Gs M shn rs):
  Calls prog 96 #[.pointer (some ⟨d,0,none⟩),.int .i64 n,.string s] w λe w'=>mB w d els made hp vT bi vL Rr Gs M shn rs n s e w':=by
 have HX:=ae h;clear h;go_enter func96,ntmps96;go_wp2_with fail;refine(eB w d els made hp vT bi vL n HX.out.rd).mono ?_;rintro e w1 ⟨rfl,rfl⟩;obtain⟨w,rfl⟩:∃w,w=w1:=⟨_,rfl⟩;cases hf:bJ els n with
 | none=>
  have he:fa none=.pointer none:=rfl;rw[he]
  have HE:Hid (mB w d els made hp vT bi vL Rr Gs M shn rs n s (.returned (.tuple #[.int .i64 0,.int .i64 5])) w):=by
   have hc:bq (aK els) n s=5:=by unfold bq;rw[cK hf]
   exact af ⟨by rw[hc];decide,by rw[hc],rfl⟩
  clear he hf;go_wp2;go_ret2;exact HE.out
 | some y=>
  have he:fa (some y)=.pointer (some ⟨y.blk,0,none⟩):=rfl;rw[he];obtain⟨OG,zY⟩:=cN hf;have HF:=kK hf OG zY;clear he hf OG zY;go_wp2_with fail;refine(zb w s).mono ?_;rintro e w1 ⟨rfl,rfl⟩;obtain⟨w,rfl⟩:∃w,w=w1:=⟨_,rfl⟩;cases yO:lD s with
  | none=>
   have HE:Hid (mB w d els made hp vT bi vL Rr Gs M shn rs n s (.returned (.tuple #[.int .i64 0,.int .i64 4])) w):=by
    have hc:bq (aK els) n s=4:=by unfold bq;rw[cH HF.out.1];show(match i9 s with | none=>(4:Int) | some _=>0)=4;rw[<-tJ,yO]
    exact af ⟨by rw[hc];decide,by rw[hc],rfl⟩
   have hi:Aw none=-1:=rfl;rw[hi];clear hi yO;go_wp2;go_ret2;exact HE.out
  | some p=>
   have hi:Aw (some p)=(p:Int):=rfl;rw[hi]
   have Ow:p<9:=by
    unfold lD at yO;split at yO
    ·exact PH yO
    ·cases yO
   have HE:Hid (∀w' q8 Tb,RX w' d els made hp q8 true vL Rr Gs M shn rs->((q8=vT/\bi=true)∨∀j,q8.ownBlock=some j->w.heap.size<=j)->Fr w w' (jQ d els vL)->TabR els M rs Tb->mB w d els made hp vT bi vL Rr Gs M shn rs n s (.returned (.tuple #[.int .i64 (kH els Tb els.length n p),.int .i64 0])) w'):=λw' q8 Tb h1 h2 h3 h4=>by
    have hc:bq (aK els) n s=0:=by unfold bq;rw[cH HF.out.1];show(match i9 s with | none=>(4:Int) | some _=>0)=0;rw[<-tJ,yO]
    refine ai ⟨hc,?_,q8,h1,h2,h3⟩
    have hv:eu (aK els) M rs n s=kH els Tb els.length n p:=by
     unfold eu;rw[aq hc,<-HF.out.2.2,yc HX.out.tw h4 els.length HF.out.2.1 (HX.out.depth HF.out.2.1) p Ow,<-tJ,yO];rfl
    rw[hv]
   have HD:Hid (vA els els.length n):=by unfold Hid;rw[<-HF.out.2.2];exact HX.out.depth HF.out.2.1
   have gp:decide ((p:Int)<0)=false:=by simp
   have lU:(p:Int)<9:=by omega
   have Im:(0:Int)<=(p:Int):=by omega
   have d4:w.cell? ⟨d,4,none⟩=some (.bool bi):=aa HX.out.rd.doc rfl;clear hi yO;obtain⟨rk,Sq⟩:=pj HX.out.tw;go_upto_if 24 with fail
   go_cut [9] from 20 to 42 (λpv wx=>pv=.int .i64 p/\Hid (∃q8 Tb,RX wx d els made hp q8 true vL Rr Gs M shn rs/\((q8=vT/\bi=true)∨∀j,q8.ownBlock=some j->w.heap.size<=j)/\Fr w wx (jQ d els vL)/\wx.ownsRow 0 234 9 q8 els.length (lR Tb els.length)/\TabR els M rs Tb))
   case first=>
    cases bi with
    | true=>
     have HG:Hid (∃q8 Tb,RX w d els made hp q8 true vL Rr Gs M shn rs/\((q8=vT/\true=true)∨∀j,q8.ownBlock=some j->w.heap.size<=j)/\Fr w w (jQ d els vL)/\w.ownsRow 0 234 9 q8 els.length (lR Tb els.length)/\TabR els M rs Tb):=by
      obtain⟨Tb,h1,h2⟩:=HX.out.tb rfl;exact⟨vT,Tb,HX.out,af ⟨rfl,rfl⟩,Fr.refl _ _,h1,h2⟩
     go_wp2_with fail;go_meet;exact⟨rfl,HG⟩
    | false=>
     go_wp2_with fail;refine(Lu w d els made hp vT false vL HX.out.rd rk Sq HX.out.mem Rr HX.out.sh.here HX.out.ruok HX.out.few (CY (λx hx=>(HX.out.ruok x hx).few) HX.out.few)).mono ?_;rintro e w1 ⟨rfl,ho,hB⟩
     have HG:Hid (∃q8 Tb,RX ((w1.setCell ⟨d,3,none⟩ (.slice (some ⟨w.heap.size,0,none⟩) els.length els.length)).setCell ⟨d,4,none⟩ (.bool true)) d els made hp q8 true vL Rr Gs M shn rs/\((q8=vT/\false=true)∨∀j,q8.ownBlock=some j->w.heap.size<=j)/\Fr w ((w1.setCell ⟨d,3,none⟩ (.slice (some ⟨w.heap.size,0,none⟩) els.length els.length)).setCell ⟨d,4,none⟩ (.bool true)) (jQ d els vL)/\((w1.setCell ⟨d,3,none⟩ (.slice (some ⟨w.heap.size,0,none⟩) els.length els.length)).setCell ⟨d,4,none⟩ (.bool true)).ownsRow 0 234 9 q8 els.length (lR Tb els.length)/\TabR els M rs Tb):=by
      obtain⟨h1,h2⟩:=HX.out.table hB ho;obtain⟨Tb,h3,h4⟩:=h1.tb rfl;exact⟨_,Tb,h1,ai (λj hj=>by simp[Value.ownBlock] at hj;omega),h2,h3,h4⟩
     have kz:Hid (RD w1 d els made hp vT false vL):=HX.out.rd.keep (λk _ hl=>hB.block k hl);have e3:w1.cell? ⟨d,3,none⟩=some vT:=aa kz.out.doc rfl;have e4:w1.cell? ⟨d,4,none⟩=some (.bool false):=aa kz.out.doc rfl;have ef:∀k,w1.frozen? ⟨d,k,none⟩=false:=λk=>ax kz.out.doc;have QG:=(bx.1 kz.out.doc).1;clear ho hB;go_wp2_with fail;go_meet;exact⟨rfl,HG⟩
   case rest=>
    obtain⟨rfl,HG⟩:=hcut;obtain⟨q8,Tb,h1,h2,h3,h4,h5⟩:=HG.out;obtain⟨aT,cT,hvT⟩:=aA h4;subst hvT;have HW:Hid (RX wc d els made hp (.slice aT els.length cT) true vL Rr Gs M shn rs/\TM wc (.slice aT els.length cT) els.length Tb/\TabR els M rs Tb):=⟨h1,⟨h4,h5.ok⟩,h5⟩;have HV:Hid ((((Value.slice aT els.length cT)=vT/\bi=true)∨∀j,(Value.slice aT els.length cT).ownBlock=some j->w.heap.size<=j)/\Fr w wc (jQ d els vL)):=⟨h2,h3⟩;clear h1 h2 h3 h4 h5 HG d4;have d3:wc.cell? ⟨d,3,none⟩=some (.slice aT els.length cT):=aa HW.out.1.rd.doc rfl;go_wp2_with fail;refine(AP els Tb d made hp _ true vL _ els.length wc n HW.out.1.rd HW.out.2.1 HD.out).mono ?_;rintro e w2 ⟨ci,rfl,If,dq⟩;have Fz:Hid ((prog.info? 38).map (·.size)=some ci.toArray.size/\(9:Nat)=ci.toArray.size/\ci.toArray.all (·.oneCell')=true/\(w2.alloc (.cells eX 38)).heap[w2.heap.size]?=some (.cells eX 38 (0,0))):=⟨by simp only[List.size_toArray,If.len];exact Tryz.sz38,by simp[If.len],all_oneCell_toArray If.one,heap_alloc_new w2 _⟩
    have fm:Hid ((((w2.alloc (.cells eX 38)).setRow w2.heap.size ci.toArray).cell? ⟨w2.heap.size,p,none⟩=some (.int .i64 (kH els Tb els.length n p)))/\mB w d els made hp vT bi vL Rr Gs M shn rs n s (.returned (.tuple #[.int .i64 (kH els Tb els.length n p),.int .i64 0])) ((w2.alloc (.cells eX 38)).setRow w2.heap.size ci.toArray)):=by
     have fj:Below wc.heap.size wc ((w2.alloc (.cells eX 38)).setRow w2.heap.size ci.toArray):=(dq.alloc dq.size _).trans ⟨rfl,rfl,rfl,by simp,λk hk=>setRow_other _ _ _ _ (by have:=dq.size;omega)⟩;refine⟨aa (setRow_heap _ _ _ _ _ _ Fz.out.2.2.2) (by simpa using If.at' p Ow),?_⟩;exact HE.out _ _ Tb (HW.out.1.keep (λk _ hl=>fj.block k hl) fj.size) HV.out.1 (HV.out.2.below fj) HW.out.2.2
    clear If dq d3 HE HW HV HD;generalize kH els Tb els.length n p=vv at fm;have c5:=fm.out.1;unfold eX at c5;go_wp2_with (refine wpList_store_row rfl 38 _ _ rfl w2.heap.size ci.toArray rfl rfl 38 eX Fz.out.2.2.2 Fz.out.1 Fz.out.2.1 Fz.out.2.2.1 ?_);go_ret2;exact fm.out.2
end
end
section
variable {S:Nat->Prop}{w w1:World}
section
variable {PS:World->Value->YS->List Nat->(Nat->Prop)->Prop}{Q:fw->YS->List Nat->YS->List Nat->Prop}{w0:World}{G:Nat->Prop}{w:World}{b:Nat}{X Y:YS}{st:List Nat}{px:Value}{d:Nat}{K:gu}
theorem PQ2.open (hP:cG PS Q)(h:PQ2 PS w0 G w b X st Y px d K):∃Fx Fy,PS w px X st Fx/\RY w d Y Fy/\(∀k,Fy k->¬Fx k)/\(∀k,Fy k->k<w.heap.size)/\(∀w1 X1 br,PS w1 px X1 br (cJ Fx w)->Fr w w1 Fx->PQ2 PS w0 G w1 b X1 br Y px d K)/\∀w1 X1 br w2 Y2,PS w1 px X1 br (cJ Fx w)->Fr w w1 Fx->RY w2 d Y2 (cJ Fy w1)->Fr w1 w2 Fy->PQ2 PS w0 G w2 b X1 br Y2 px d K:=by
 obtain⟨Fp,Fx,Fy,h1,h2,h3⟩:=h
 have nF:∀w1 X1 br,PS w1 px X1 br (cJ Fx w)->Fr w w1 Fx->PJ2 PS w1 b X1 br Y px d K Fp (nG Fx w w1) Fy/\(∀k,Fp k∨nG Fx w w1 k∨Fy k->G k∨w0.heap.size<=k)/\Fr w0 w1 G:=λw1 X1 br hs hf=>by
  refine⟨h1.prog hP hs hf,λk hk=>?_,h3.comp hf (λj hj=>h2 j (ai (af hj)))⟩;rcases hk with hk | hk | hk
  ·exact h2 k (af hk)
  ·exact hk.1.elim (λx=>h2 k (ai (af x))) (λx=>ai (Nat.le_trans h3.size x))
  ·exact h2 k (ai (ai hk))
 refine⟨Fx,Fy,h1.ps,h1.rs,λk hy hx=>h1.xy k hx hy,λk hk=>h1.here k (ai (ai hk)),λw1 X1 br hs hf=>?_,λw1 X1 br w2 Y2 hs hf Ct bG=>?_⟩
 ·obtain⟨k1,k2,k3⟩:=nF w1 X1 br hs hf;exact⟨_,_,_,k1,k2,k3⟩
 ·obtain⟨k1,k2,k3⟩:=nF w1 X1 br hs hf;refine⟨Fp,nG Fx w w1,nG Fy w1 w2,k1.ref hP Ct bG,λk hk=>?_,k3.comp bG (λj hj=>k2 j (ai (ai hj)))⟩;rcases hk with hk | hk | hk
  ·exact k2 k (af hk)
  ·exact k2 k (ai (af hk))
  ·exact hk.1.elim (λx=>k2 k (ai (ai x))) (λx=>ai (Nat.le_trans k3.size x))
theorem Fr.un {n:Nat}(h:Fr (w.drewN n) w1 S):Fr w w1 S:=⟨h.os,h.tape,h.output,h.size,h.block⟩
theorem Fr.dr (h:Fr w w1 S):Fr w w1.drew S:=⟨h.os,h.tape,h.output,h.size,h.block⟩
theorem Fr.un1 (h:Fr w.drew w1 S):Fr w w1 S:=⟨h.os,h.tape,h.output,h.size,h.block⟩
theorem RX.drewN {els:List REl}{made:Nat}{hp:Option Addr}{vT:Value}{bi:Bool}{vL:Value}{Rr:List eA}{Gs:Nat->Prop}{M:Nat->Mk}{shn:Nat->Bool}{rs:List dF}(h:RX w d els made hp vT bi vL Rr Gs M shn rs)(n:Nat):RX (w.drewN n) d els made hp vT bi vL Rr Gs M shn rs:=h.keep (λ_ _ _=>rfl) au
end
def SpoK (T:aJ)(n:Int)(K K':gu)(sp:Bool):Prop:=(sp=false/\K'=K)∨(sp=true/\K'.lm=K.lm/\K'.ly=kG T n K.ly/\K'.ls=K.ls/\K'.cnt=-1/\K'.held=false)
def CN (Q:fw->YS->List Nat->YS->List Nat->Prop)(X:YS)(st:List Nat)(K:gu)(n:Int)(s:ByteArray)(on:Bool)(X':YS)(cA:List Nat)(K':gu):Prop:=
 X'=eP X n s on/\Q (.cls n s on) X st X' cA/\((cf X.T n s≠0/\K'=K)∨(cf X.T n s=0/\aG s=true/\∃(Rr:List eA) (cl:ByteArray),Rel2 yE Rr X.rs/\ClsOK cl/\(∀c,sI c cl=(decide (97<=c/\c<=122)&&(X.M n.toNat).cl (c - 97)))/\SpoK X.T n K K' (fO Rr (⟨#[46]⟩++s)&&decide ((cl.size:Int)≠((i5 cl s on).size:Int)))))
theorem B0 {PS:World->Value->YS->List Nat->(Nat->Prop)->Prop}{Q:fw->YS->List Nat->YS->List Nat->Prop}(hP:cG PS Q)(w:World)(b:Nat)(X:YS)(st:List Nat)(pa:Addr)(d:Nat)(K:gu)(G Fp Fx Fy:Nat->Prop)
  (h:PJ2 PS w b X st X (.pointer (some pa)) d K Fp Fx Fy) (hG:∀k,Fp k∨Fx k∨Fy k->G k) (zL:∀k,G k->k<w.heap.size) (ln:sH X.T K) (kd at' xx yy zz:Int) (S Tt:ByteArray) (on:Bool) :
  Calls prog 102 #[.pointer (some ⟨b,0,none⟩),.agg #[.int .i64 kd,.int .i64 at',.int .i64 xx,.int .i64 yy,.int .i64 zz,.string S,.string Tt,.bool on]] w λe w'=>TurnPost2 PS w G b (.pointer (some pa)) d (CN Q X st K xx Tt on) e w':=by
 have HP:=ae hP;have HW:=ae ln;have HG:=ae zL;have H0:Hid (PQ2 PS (w.alloc (aH kd at' xx yy zz S Tt on)) G (w.alloc (aH kd at' xx yy zz S Tt on)) b X st X (.pointer (some pa)) d K):=PQ2.alloc hP h hG _;clear h hP ln hG zL Fp Fx Fy;obtain⟨Fx,Fy,qd,Ki,wP,ue,Cq,zR⟩:=H0.out.open HP.out;obtain⟨els,hp,vT,bi,vL,Rr,Gs,hX,hA,hF1,hF2,hF3⟩:=Ki;have HX:=bT hX hA;have HF:Hid ((∀k,jQ d els vL k->Fy k)/\(∀k,Gs k->Fy k)/\(bi=true->∀k,vT.ownBlock=some k->Fy k)/\(∀k,Fy k->¬Fx k)/\(∀k,Fy k->k<(w.alloc (aH kd at' xx yy zz S Tt on)).heap.size)):=⟨hF1,hF2,hF3,wP,ue⟩;have sQ:Hid (∀k,PS ((w.alloc (aH kd at' xx yy zz S Tt on)).drewN k) (.pointer (some pa)) X st Fx):=λk=>HP.out.keep qd (λ_ _ _=>rfl) au;have kJ:=ae Cq;have e9:=ae zR;clear hX hA hF1 hF2 hF3 qd wP ue Cq zR
 have HC:Hid (∀(wx:World) X1 br Y1,PQ2 PS (w.alloc (aH kd at' xx yy zz S Tt on)) G wx b X1 br Y1 (.pointer (some pa)) d K->wx.cell? ⟨b,0,none⟩=some (.pointer (some pa))/\wx.cell? ⟨b,1,none⟩=some (.pointer (some ⟨d,0,none⟩))/\wx.cell? ⟨w.heap.size,2,none⟩=some (.int .i64 xx)/\wx.cell? ⟨w.heap.size,6,none⟩=some (.string Tt)/\wx.cell? ⟨w.heap.size,7,none⟩=some (.bool on)):=λwx X1 br Y1 hq=>
  ⟨aa hq.pb.blk rfl,aa hq.pb.blk rfl,aa (hq.op HG.out) rfl,aa (hq.op HG.out) rfl,aa (hq.op HG.out) rfl⟩
 have vB:Hid (∀k,Calls prog 92 #[.pointer (some ⟨d,0,none⟩),.int .i64 xx] ((w.alloc (aH kd at' xx yy zz S Tt on)).drewN k) λe w'=>e=.returned (fa (bJ els xx))/\w'=(w.alloc (aH kd at' xx yy zz S Tt on)).drewN k):=λk=>eB _ d els X.made hp vT bi vL xx (HX.out.1.drewN k).rd
 have E7:Hid (∀wd w2 e br,PS wd (.pointer (some pa)) (eP X xx Tt on) br (cJ Fx (w.alloc (aH kd at' xx yy zz S Tt on)))->Fr (w.alloc (aH kd at' xx yy zz S Tt on)) wd Fx->RX wd d els X.made hp vT bi vL Rr Gs X.M X.shn X.rs->iY wd d els X.made hp vT vL Rr Gs X.M X.shn X.rs xx Tt on e w2->e=.returned (.int .i64 (cf X.T xx Tt))/\PQ2 PS (w.alloc (aH kd at' xx yy zz S Tt on)) G w2 b (eP X xx Tt on) br (eP X xx Tt on) (.pointer (some pa)) d K):=λwd w2 e br hs hf hx cX=>by
  have Gg:Fr wd w2 Fy/\RY w2 d (eP X xx Tt on) (cJ Fy wd)/\e=.returned (.int .i64 (cf X.T xx Tt)):=by
   rcases cX with⟨he,hr,rfl⟩ | ⟨he,hr,p,qY,hl,zX,bG⟩
   ·rw[<-HX.out.2] at he hr;refine⟨Fr.refl _ _,?_,hr⟩;have e1:eP X xx Tt on=X:=by unfold eP;rw[aj he]
    rw[e1];show RSd w2 d X.T X.made X.M X.shn X.rs (cJ Fy w2);rw[HX.out.2];exact hx.rsd (λk hk=>af (HF.out.1 k hk)) (λk hk=>af (HF.out.2.1 k hk)) (λhh k hk=>af (HF.out.2.2.1 hh k hk))
   ·rw[<-HX.out.2] at he;refine⟨bG.mono HF.out.1,?_,by rw[hr,he]⟩;have e1:eP X xx Tt on={X with M:=bM X.M xx.toNat (kj (X.M xx.toNat) Tt on)}:=by unfold eP;rw[aq he]
    rw[e1];show RSd w2 d X.T X.made (bM X.M xx.toNat (kj (X.M xx.toNat) Tt on)) X.shn X.rs (cJ Fy wd);rw[HX.out.2,<-mE (nO (i5 p.cl Tt on)) p.blk];exact zX.rsd (λk hk=>af (HF.out.1 k ((rE (nO _) p.blk k).1 hk))) (λk hk=>af (HF.out.2.1 k hk)) (λhh=>by cases hh)
  exact⟨Gg.2.2,e9.out wd _ br w2 _ hs hf Gg.2.1 Gg.1⟩
 obtain⟨d0,d1,d2,d3,d4⟩:=HC.out _ _ _ _ H0.out;go_enter func102,ntmps102;go_upto_region 2 with fail;go_quiet ((go_at_call 92;exact Calls.quiet_of_same (vB.out _)));have Hn:=ae (H0.out.drewN HP.out nq);have kM:=ae (H0.out.drewN HP.out (nq+1));clear d0 d1 d2 d3 d4 vB H0;cases hf:bJ els xx with
 | none=>
  have he:fa none=.pointer none:=rfl;rw[he];have Mh:=ae hf;clear he hf;go_upto_region 5 with fail
  go_cut [7] (λyv wx=>yv=.int .i64 (cf X.T xx Tt)/\Hid (∃br,Q (.cls xx Tt on) X st (eP X xx Tt on) br/\PS wx (.pointer (some pa)) (eP X xx Tt on) br (cJ Fx (w.alloc (aH kd at' xx yy zz S Tt on)))/\Fr (w.alloc (aH kd at' xx yy zz S Tt on)) wx Fx))
  case first=>
   go_region_held3 (λw'=>w'.cell? ⟨b,0,none⟩=some (.pointer (some pa))/\w'.cell? ⟨b,1,none⟩=some (.pointer (some ⟨d,0,none⟩))/\w'.cell? ⟨w.heap.size,2,none⟩=some (.int .i64 xx)/\w'.cell? ⟨w.heap.size,6,none⟩=some (.string Tt)/\w'.cell? ⟨w.heap.size,7,none⟩=some (.bool on)) (first | exact HC.out _ _ _ _ kM.out | exact HC.out _ _ _ _ HT.out.2)
    (first | (go_at_call 46;refine(HP.out.cls _ (.pointer (some pa)) X st Fx xx Tt on (sQ.out _)).mono ?_;rintro e w1 ⟨br,rfl,hq,dU,ft⟩;have HT:Hid ((∃br,Q (.cls xx Tt on) X st (eP X xx Tt on) br/\PS w1 (.pointer (some pa)) (eP X xx Tt on) br (cJ Fx (w.alloc (aH kd at' xx yy zz S Tt on)))/\Fr (w.alloc (aH kd at' xx yy zz S Tt on)) w1 Fx)/\PQ2 PS (w.alloc (aH kd at' xx yy zz S Tt on)) G w1 b (eP X xx Tt on) br X (.pointer (some pa)) d K):=⟨⟨br,hq,dU,ft.un⟩,kJ.out w1 _ br dU ft.un⟩))
   all_goals
    go_wp2_with fail;go_meet;exact⟨rfl,HT.out.1⟩
  case rest=>
   obtain⟨rfl,HT⟩:=hcut;obtain⟨br,rJ,dU,hfr1⟩:=HT.out;have rf:=kK rJ dU hfr1;have ix:=ae ((kJ.out wc _ br dU hfr1).drew HP.out)
   have Fd:Hid (RX wc.drew d els X.made hp vT bi vL Rr Gs X.M X.shn X.rs):=by
    refine HX.out.1.keep (λk hk hl=>hfr1.block k hl ?_) hfr1.size;rcases hk with hk | hk | ⟨hh,hk⟩
    ·exact HF.out.2.2.2.1 k (HF.out.1 k hk)
    ·exact HF.out.2.2.2.1 k (HF.out.2.1 k hk)
    ·exact HF.out.2.2.2.1 k (HF.out.2.2.1 hh k hk)
   clear rJ dU hfr1 HT kM;go_upto_region 6 with fail
   go_cut [8] (λyv wx=>yv=.int .i64 (cf X.T xx Tt)/\Hid (iY wc.drew d els X.made hp vT vL Rr Gs X.M X.shn X.rs xx Tt on (.returned (.int .i64 (cf X.T xx Tt))) wx/\PQ2 PS (w.alloc (aH kd at' xx yy zz S Tt on)) G wx b (eP X xx Tt on) br (eP X xx Tt on) (.pointer (some pa)) d K))
   case first=>
    go_region_held3 (λw'=>w'.cell? ⟨b,0,none⟩=some (.pointer (some pa))/\w'.cell? ⟨b,1,none⟩=some (.pointer (some ⟨d,0,none⟩))/\w'.cell? ⟨w.heap.size,2,none⟩=some (.int .i64 xx)/\w'.cell? ⟨w.heap.size,6,none⟩=some (.string Tt)/\w'.cell? ⟨w.heap.size,7,none⟩=some (.bool on)) (first | exact HC.out _ _ _ _ ix.out | exact HC.out _ _ _ _ jB.out.2)
     (first | (go_at_call 148;refine(xG _ d els X.made hp vT bi vL Rr Gs X.M X.shn X.rs xx Tt on Fd.out).mono ?_;intro e w2 cX;obtain⟨rfl,Kh⟩:=E7.out wc.drew w2 e br (HP.out.keep rf.out.2.1 (λ_ _ _=>rfl) au) rf.out.2.2.dr Fd.out cX;have jB:Hid (iY wc.drew d els X.made hp vT vL Rr Gs X.M X.shn X.rs xx Tt on (.returned (.int .i64 (cf X.T xx Tt))) w2/\PQ2 PS (w.alloc (aH kd at' xx yy zz S Tt on)) G w2 b (eP X xx Tt on) br (eP X xx Tt on) (.pointer (some pa)) d K):=⟨cX,Kh⟩))
    all_goals
     go_wp2_with fail;go_meet;exact⟨rfl,jB⟩
   case rest=>
    obtain⟨rfl,jB⟩:=hcut
    have J5:cf X.T xx Tt=5:=by
     unfold cf;rw[HX.out.2,cK Mh.out]
    have HE:Hid (TurnPost2 PS w G b (.pointer (some pa)) d (CN Q X st K xx Tt on) (.returned (.bool true)) wc):=⟨rfl,_,br,K,jB.out.2.from,by have:=HW.out;unfold eP;rw[aj (by rw[J5];decide)];exact this,rfl,rf.out.1,af ⟨by rw[J5];decide,rfl⟩⟩;rw[J5];clear J5 jB;go_wp2_with fail;refine(bI _ 5).mono ?_;rintro e w5 ⟨rfl,rfl⟩;go_wp2;go_ret;exact HE.out
 | some p=>
  have he:fa (some p)=.pointer (some ⟨p.blk,0,none⟩):=rfl;rw[he];have Mh:=ae hf;have p2:((w.alloc (aH kd at' xx yy zz S Tt on)).drewN nq).cell? ⟨p.blk,2,none⟩=some (.string p.cl):=aa ((HX.out.1.drewN nq).rd.el p (cN hf).1) rfl;clear he hf;go_upto_region 5 with fail
  go_cut [7] (λyv wx=>yv=.int .i64 (cf X.T xx Tt)/\Hid (∃br,Q (.cls xx Tt on) X st (eP X xx Tt on) br/\PS wx (.pointer (some pa)) (eP X xx Tt on) br (cJ Fx (w.alloc (aH kd at' xx yy zz S Tt on)))/\Fr (w.alloc (aH kd at' xx yy zz S Tt on)) wx Fx))
  case first=>
   go_region_held3 (λw'=>w'.cell? ⟨b,0,none⟩=some (.pointer (some pa))/\w'.cell? ⟨b,1,none⟩=some (.pointer (some ⟨d,0,none⟩))/\w'.cell? ⟨w.heap.size,2,none⟩=some (.int .i64 xx)/\w'.cell? ⟨w.heap.size,6,none⟩=some (.string Tt)/\w'.cell? ⟨w.heap.size,7,none⟩=some (.bool on)) (first | exact HC.out _ _ _ _ kM.out | exact HC.out _ _ _ _ HT.out.2)
    (first | (go_at_call 46;refine(HP.out.cls _ (.pointer (some pa)) X st Fx xx Tt on (sQ.out _)).mono ?_;rintro e w1 ⟨br,rfl,hq,dU,ft⟩;have HT:Hid ((∃br,Q (.cls xx Tt on) X st (eP X xx Tt on) br/\PS w1 (.pointer (some pa)) (eP X xx Tt on) br (cJ Fx (w.alloc (aH kd at' xx yy zz S Tt on)))/\Fr (w.alloc (aH kd at' xx yy zz S Tt on)) w1 Fx)/\PQ2 PS (w.alloc (aH kd at' xx yy zz S Tt on)) G w1 b (eP X xx Tt on) br X (.pointer (some pa)) d K):=⟨⟨br,hq,dU,ft.un⟩,kJ.out w1 _ br dU ft.un⟩))
   all_goals
    go_wp2_with fail;go_meet;exact⟨rfl,HT.out.1⟩
  case rest=>
   obtain⟨rfl,HT⟩:=hcut;obtain⟨br,rJ,dU,hfr1⟩:=HT.out;have rf:=kK rJ dU hfr1;have ix:=ae ((kJ.out wc _ br dU hfr1).drew HP.out)
   have Fd:Hid (RX wc.drew d els X.made hp vT bi vL Rr Gs X.M X.shn X.rs):=by
    refine HX.out.1.keep (λk hk hl=>hfr1.block k hl ?_) hfr1.size;rcases hk with hk | hk | ⟨hh,hk⟩
    ·exact HF.out.2.2.2.1 k (HF.out.1 k hk)
    ·exact HF.out.2.2.2.1 k (HF.out.2.1 k hk)
    ·exact HF.out.2.2.2.1 k (HF.out.2.2.1 hh k hk)
   clear rJ dU hfr1 HT kM;go_upto_region 6 with fail
   go_cut [8] (λyv wx=>yv=.int .i64 (cf X.T xx Tt)/\Hid (iY wc.drew d els X.made hp vT vL Rr Gs X.M X.shn X.rs xx Tt on (.returned (.int .i64 (cf X.T xx Tt))) wx/\PQ2 PS (w.alloc (aH kd at' xx yy zz S Tt on)) G wx b (eP X xx Tt on) br (eP X xx Tt on) (.pointer (some pa)) d K))
   case first=>
    go_region_held3 (λw'=>w'.cell? ⟨b,0,none⟩=some (.pointer (some pa))/\w'.cell? ⟨b,1,none⟩=some (.pointer (some ⟨d,0,none⟩))/\w'.cell? ⟨w.heap.size,2,none⟩=some (.int .i64 xx)/\w'.cell? ⟨w.heap.size,6,none⟩=some (.string Tt)/\w'.cell? ⟨w.heap.size,7,none⟩=some (.bool on)) (first | exact HC.out _ _ _ _ ix.out | exact HC.out _ _ _ _ jB.out.2)
     (first | (go_at_call 148;refine(xG _ d els X.made hp vT bi vL Rr Gs X.M X.shn X.rs xx Tt on Fd.out).mono ?_;intro e w2 cX;obtain⟨rfl,Kh⟩:=E7.out wc.drew w2 e br (HP.out.keep rf.out.2.1 (λ_ _ _=>rfl) au) rf.out.2.2.dr Fd.out cX;have jB:Hid (iY wc.drew d els X.made hp vT vL Rr Gs X.M X.shn X.rs xx Tt on (.returned (.int .i64 (cf X.T xx Tt))) w2/\PQ2 PS (w.alloc (aH kd at' xx yy zz S Tt on)) G w2 b (eP X xx Tt on) br (eP X xx Tt on) (.pointer (some pa)) d K):=⟨cX,Kh⟩))
    all_goals
     go_wp2_with fail;go_meet;exact⟨rfl,jB⟩
   case rest=>
    obtain⟨rfl,jB⟩:=hcut
    have uV:Hid (sH (eP X xx Tt on).T K):=by
     have:=HW.out;unfold Hid eP;split
     ·exact this
     ·exact this
    rcases jB.out.1 with⟨he,-,-⟩ | ⟨he,-,p',qY,kR,hX2,-⟩
    ·rw[<-HX.out.2] at he;have HE:Hid (TurnPost2 PS w G b (.pointer (some pa)) d (CN Q X st K xx Tt on) (.returned (.bool true)) wc):=⟨rfl,_,br,K,jB.out.2.from,uV.out,rfl,rf.out.1,af ⟨he,rfl⟩⟩;have gy:(cf X.T xx Tt==0)=false:=by simp[he]
     generalize cf X.T xx Tt=ce at gy;clear he jB;go_wp2_with fail;refine(bI _ ce).mono ?_;rintro e w5 ⟨rfl,rfl⟩;go_wp2;go_ret;exact HE.out
    ·rw[<-HX.out.2] at he;rw[Mh.out] at qY;injection qY with qY
     subst qY;have Ba:=ae hX2;obtain⟨fA,qB⟩:=cN Mh.out;have Cr:fx p.blk (ji (i5 p.cl Tt on)) p=ji (i5 p.cl Tt on) p:=aq rfl
     have mU:wc.heap[p.blk]?=some (.cells (ji (i5 p.cl Tt on) p).cells 176 (0,0)):=by
      have:=hX2.rd.el _ (bm.2 ⟨p,fA,rfl⟩);rw[Cr] at this;exact this
     have oA:=ae jB.out.2
     have htz:Tt.size=1:=by
      unfold aG at kR;rw[Bool.and_eq_true,bF] at kR;exact kR.1
     have fm:Hid (∀w5 K',PQ2 PS (w.alloc (aH kd at' xx yy zz S Tt on)) G w5 b (eP X xx Tt on) br (eP X xx Tt on) (.pointer (some pa)) d K'->sH (eP X xx Tt on).T K'->SpoK X.T xx K K' (fO Rr (⟨#[46]⟩++Tt)&&decide ((p.cl.size:Int)≠((i5 p.cl Tt on).size:Int)))->TurnPost2 PS w G b (.pointer (some pa)) d (CN Q X st K xx Tt on) (.returned (.bool true)) w5):=λw5 K' h1 h2 h3=>⟨rfl,_,br,K',h1.from,h2,rfl,rf.out.1,ai ⟨he,kR,Rr,p.cl,HX.out.1.rel,HX.out.1.re.cls p fA,by rw[show xx.toNat=p.num from by omega];exact HX.out.1.re.rm.cl p fA,h3⟩⟩;have Fb:Hid ((eP X xx Tt on).T=X.T):=by unfold Hid eP;rw[aq he]
     rw[he];clear he hX2 jB kR qB Cr;have HCQ:Hid (∀k,(wc.drewN k).cell? ⟨b,1,none⟩=some (.pointer (some ⟨d,0,none⟩))/\(wc.drewN k).cell? ⟨d,0,none⟩=some (.pointer hp)/\(wc.drewN k).cell? ⟨w.heap.size,6,none⟩=some (.string Tt)):=λk=>⟨(HC.out _ _ _ _ oA.out).2.1,aa Ba.out.rd.doc rfl,(HC.out _ _ _ _ oA.out).2.2.2.1⟩;have Jm:Hid (∀k,Calls prog 149 #[.pointer hp,.string (⟨#[46]⟩++Tt)] (wc.drewN k) λe w'=>e=.returned (.bool (fO Rr (⟨#[46]⟩++Tt)))/\w'=wc.drewN k):=λk=>qH _ hp Rr _ ((Ba.out.drewN k).sh.here) Ba.out.ruok Ba.out.few;obtain⟨c1,c2,c3⟩:=HCQ.out 0;have c1':wc.cell? ⟨b,1,none⟩=some (.pointer (some ⟨d,0,none⟩)):=c1;have c2':wc.cell? ⟨d,0,none⟩=some (.pointer hp):=c2;have c3':wc.cell? ⟨w.heap.size,6,none⟩=some (.string Tt):=c3;have c4':wc.cell? ⟨p.blk,2,none⟩=some (.string (i5 p.cl Tt on)):=aa mU rfl;have adE:=(HX.out.1.re.cls p fA).few;clear c1 c2 c3 mU;go_upto_region 8 with fail;go_quiet ((go_at_call 149;exact Calls.quiet_of_same (Jm.out _)));have QX:=ae (oA.out.drewN HP.out nq);have c5':(wc.drewN nq).cell? ⟨p.blk,2,none⟩=some (.string (i5 p.cl Tt on)):=c4';have c6':(wc.drewN nq).cell? ⟨w.heap.size,2,none⟩=some (.int .i64 xx):=(HC.out _ _ _ _ oA.out).2.2.1;generalize wc.drewN nq=wq at QX c5' c6' ⊢;clear c1' c2' c3' c4' Jm HCQ oA rf;generalize ol:(i5 p.cl Tt on).size=cn at fm;cases uf:fO Rr (⟨#[46]⟩++Tt) with
     | false=>
      have HE:Hid (TurnPost2 PS w G b (.pointer (some pa)) d (CN Q X st K xx Tt on) (.returned (.bool true)) wq):=fm.out wq K QX.out uV.out (af ⟨by rw[uf];rfl,rfl⟩);clear uf;go_wp2_with fail;refine(bI _ 0).mono ?_;rintro e w5 ⟨rfl,rfl⟩;go_wp2;go_ret;exact HE.out
     | true=>
      by_cases iA:p.cl.size=cn
      ·have HE:Hid (TurnPost2 PS w G b (.pointer (some pa)) d (CN Q X st K xx Tt on) (.returned (.bool true)) wq):=fm.out wq K QX.out uV.out (af ⟨by rw[uf,iA];simp,rfl⟩);have gs:((p.cl.size:Int) != ((i5 p.cl Tt on).size:Int))=false:=by rw[ol,iA];simp
       clear uf;go_wp2_with fail;refine(bI _ 0).mono ?_;rintro e w5 ⟨rfl,rfl⟩;go_wp2;go_ret;exact HE.out
      ·have gs:((p.cl.size:Int) != ((i5 p.cl Tt on).size:Int))=true:=by rw[ol,bne_iff_ne];omega
       have LV:Hid ((fO Rr (⟨#[46]⟩++Tt)&&decide ((p.cl.size:Int)≠(cn:Int)))=true):=by unfold Hid;rw[uf,Bool.true_and,bF];omega
       clear uf;go_wp2_with fail;refine(il HP.out QX.out uV.out.2 xx).mono ?_;rintro e W7 ⟨rfl,V9,zW⟩;have HE:Hid (TurnPost2 PS w G b (.pointer (some pa)) d (CN Q X st K xx Tt on) (.returned (.bool true)) W7):=fm.out W7 _ zW ⟨uV.out.1,uV.out.2.spoil xx⟩ (ai ⟨LV.out,rfl,by rw[<-Fb.out],rfl,rfl,rfl⟩);clear zW;go_wp2_with fail;refine(bI _ 0).mono ?_;rintro e w5 ⟨rfl,rfl⟩;go_wp2;go_ret;exact HE.out
end
def Al (Rr:List eA)(nm s:ByteArray):Bool:=(!(nm.toList==s.toList))&&((decide (nm.size≠0)&&fO Rr (⟨#[35]⟩++nm))||(decide (s.size≠0)&&fO Rr (⟨#[35]⟩++s)))
def Bc (Q:fw->YS->List Nat->YS->List Nat->Prop)(X:YS)(st:List Nat)(K:gu)(n:Int)(s:ByteArray)(X':YS)(cA:List Nat)(K':gu):Prop:=
 X'=eQ X n s/\Q (.nam n s) X st X' cA/\((ct X.T n s≠0/\K'=K)∨(ct X.T n s=0/\(s.size=0∨aG s=true)/\∃(Rr:List eA) (nm:ByteArray),Rel2 yE Rr X.rs/\((nm.size=0/\(X.M n.toNat).nm=0)∨(aG nm=true/\(X.M n.toNat).nm=bt nm 0))/\SpoK X.T n K K' (Al Rr nm s)))
theorem GO {PS:World->Value->YS->List Nat->(Nat->Prop)->Prop}{Q:fw->YS->List Nat->YS->List Nat->Prop}(hP:cG PS Q)(w:World)(b:Nat)(X:YS)(st:List Nat)(pa:Addr)(d:Nat)(K:gu)(G Fp Fx Fy:Nat->Prop)
  (h:PJ2 PS w b X st X (.pointer (some pa)) d K Fp Fx Fy) (hG:∀k,Fp k∨Fx k∨Fy k->G k) (zL:∀k,G k->k<w.heap.size) (ln:sH X.T K) (kd at' xx yy zz:Int) (S Tt:ByteArray) (on:Bool) :
  Calls prog 103 #[.pointer (some ⟨b,0,none⟩),.agg #[.int .i64 kd,.int .i64 at',.int .i64 xx,.int .i64 yy,.int .i64 zz,.string S,.string Tt,.bool on]] w λe w'=>TurnPost2 PS w G b (.pointer (some pa)) d (Bc Q X st K xx Tt) e w':=by
 have HP:=ae hP;have HW:=ae ln;have HG:=ae zL;have H0:Hid (PQ2 PS (w.alloc (aH kd at' xx yy zz S Tt on)) G (w.alloc (aH kd at' xx yy zz S Tt on)) b X st X (.pointer (some pa)) d K):=PQ2.alloc hP h hG _;clear h hP ln hG zL Fp Fx Fy;obtain⟨Fx,Fy,qd,Ki,wP,ue,Cq,zR⟩:=H0.out.open HP.out;obtain⟨els,hp,vT,bi,vL,Rr,Gs,hX,hA,hF1,hF2,hF3⟩:=Ki;have HX:=bT hX hA;have HF:Hid ((∀k,jQ d els vL k->Fy k)/\(∀k,Gs k->Fy k)/\(bi=true->∀k,vT.ownBlock=some k->Fy k)/\(∀k,Fy k->¬Fx k)/\(∀k,Fy k->k<(w.alloc (aH kd at' xx yy zz S Tt on)).heap.size)):=⟨hF1,hF2,hF3,wP,ue⟩;have sQ:Hid (∀k,PS ((w.alloc (aH kd at' xx yy zz S Tt on)).drewN k) (.pointer (some pa)) X st Fx):=λk=>HP.out.keep qd (λ_ _ _=>rfl) au;have kJ:=ae Cq;have e9:=ae zR;clear hX hA hF1 hF2 hF3 qd wP ue Cq zR
 have HC:Hid (∀(wx:World) X1 br Y1,PQ2 PS (w.alloc (aH kd at' xx yy zz S Tt on)) G wx b X1 br Y1 (.pointer (some pa)) d K->wx.cell? ⟨b,0,none⟩=some (.pointer (some pa))/\wx.cell? ⟨b,1,none⟩=some (.pointer (some ⟨d,0,none⟩))/\wx.cell? ⟨w.heap.size,2,none⟩=some (.int .i64 xx)/\wx.cell? ⟨w.heap.size,6,none⟩=some (.string Tt)/\wx.cell? ⟨w.heap.size,7,none⟩=some (.bool on)):=λwx X1 br Y1 hq=>
  ⟨aa hq.pb.blk rfl,aa hq.pb.blk rfl,aa (hq.op HG.out) rfl,aa (hq.op HG.out) rfl,aa (hq.op HG.out) rfl⟩
 have vB:Hid (∀k,Calls prog 92 #[.pointer (some ⟨d,0,none⟩),.int .i64 xx] ((w.alloc (aH kd at' xx yy zz S Tt on)).drewN k) λe w'=>e=.returned (fa (bJ els xx))/\w'=(w.alloc (aH kd at' xx yy zz S Tt on)).drewN k):=λk=>eB _ d els X.made hp vT bi vL xx (HX.out.1.drewN k).rd
 have E7:Hid (∀wd w2 e br,PS wd (.pointer (some pa)) (eQ X xx Tt) br (cJ Fx (w.alloc (aH kd at' xx yy zz S Tt on)))->Fr (w.alloc (aH kd at' xx yy zz S Tt on)) wd Fx->RX wd d els X.made hp vT bi vL Rr Gs X.M X.shn X.rs->jG wd d els X.made hp vT vL Rr Gs X.M X.shn X.rs xx Tt e w2->e=.returned (.int .i64 (ct X.T xx Tt))/\PQ2 PS (w.alloc (aH kd at' xx yy zz S Tt on)) G w2 b (eQ X xx Tt) br (eQ X xx Tt) (.pointer (some pa)) d K):=λwd w2 e br hs hf hx cX=>by
  have Gg:Fr wd w2 Fy/\RY w2 d (eQ X xx Tt) (cJ Fy wd)/\e=.returned (.int .i64 (ct X.T xx Tt)):=by
   rcases cX with⟨he,hr,rfl⟩ | ⟨he,hr,p,qY,hl,zX,bG⟩
   ·rw[<-HX.out.2] at he hr;refine⟨Fr.refl _ _,?_,hr⟩;have e1:eQ X xx Tt=X:=by unfold eQ;rw[aj he]
    rw[e1];show RSd w2 d X.T X.made X.M X.shn X.rs (cJ Fy w2);rw[HX.out.2];exact hx.rsd (λk hk=>af (HF.out.1 k hk)) (λk hk=>af (HF.out.2.1 k hk)) (λhh k hk=>af (HF.out.2.2.1 hh k hk))
   ·rw[<-HX.out.2] at he;refine⟨bG.mono HF.out.1,?_,by rw[hr,he]⟩;have e1:eQ X xx Tt={X with M:=bM X.M xx.toNat (fM (X.M xx.toNat) Tt)}:=by unfold eQ;rw[aq he]
    rw[e1];show RSd w2 d X.T X.made (bM X.M xx.toNat (fM (X.M xx.toNat) Tt)) X.shn X.rs (cJ Fy wd);rw[HX.out.2,<-mE (rU Tt) p.blk];exact zX.rsd (λk hk=>af (HF.out.1 k ((rE (rU _) p.blk k).1 hk))) (λk hk=>af (HF.out.2.1 k hk)) (λhh=>by cases hh)
  exact⟨Gg.2.2,e9.out wd _ br w2 _ hs hf Gg.2.1 Gg.1⟩
 obtain⟨d0,d1,d2,d3,d4⟩:=HC.out _ _ _ _ H0.out;go_enter func103,ntmps103;go_upto_region 2 with fail;go_quiet ((go_at_call 92;exact Calls.quiet_of_same (vB.out _)));have Hn:=ae (H0.out.drewN HP.out nq);have kM:=ae (H0.out.drewN HP.out (nq+1));clear d0 d1 d2 d3 d4 vB H0;cases hf:bJ els xx with
 | none=>
  have he:fa none=.pointer none:=rfl;rw[he];have Mh:=ae hf;clear he hf;go_upto_region 5 with fail
  go_cut [7] (λyv wx=>yv=.int .i64 (ct X.T xx Tt)/\Hid (∃br,Q (.nam xx Tt) X st (eQ X xx Tt) br/\PS wx (.pointer (some pa)) (eQ X xx Tt) br (cJ Fx (w.alloc (aH kd at' xx yy zz S Tt on)))/\Fr (w.alloc (aH kd at' xx yy zz S Tt on)) wx Fx))
  case first=>
   go_region_held3 (λw'=>w'.cell? ⟨b,0,none⟩=some (.pointer (some pa))/\w'.cell? ⟨b,1,none⟩=some (.pointer (some ⟨d,0,none⟩))/\w'.cell? ⟨w.heap.size,2,none⟩=some (.int .i64 xx)/\w'.cell? ⟨w.heap.size,6,none⟩=some (.string Tt)/\w'.cell? ⟨w.heap.size,7,none⟩=some (.bool on)) (first | exact HC.out _ _ _ _ kM.out | exact HC.out _ _ _ _ HT.out.2)
    (first | (go_at_call 21;refine(HP.out.nam _ (.pointer (some pa)) X st Fx xx Tt (sQ.out _)).mono ?_;rintro e w1 ⟨br,rfl,hq,dU,ft⟩;have HT:Hid ((∃br,Q (.nam xx Tt) X st (eQ X xx Tt) br/\PS w1 (.pointer (some pa)) (eQ X xx Tt) br (cJ Fx (w.alloc (aH kd at' xx yy zz S Tt on)))/\Fr (w.alloc (aH kd at' xx yy zz S Tt on)) w1 Fx)/\PQ2 PS (w.alloc (aH kd at' xx yy zz S Tt on)) G w1 b (eQ X xx Tt) br X (.pointer (some pa)) d K):=⟨⟨br,hq,dU,ft.un⟩,kJ.out w1 _ br dU ft.un⟩))
   all_goals
    go_wp2_with fail;go_meet;exact⟨rfl,HT.out.1⟩
  case rest=>
   obtain⟨rfl,HT⟩:=hcut;obtain⟨br,rJ,dU,hfr1⟩:=HT.out;have rf:=kK rJ dU hfr1;have ix:=ae ((kJ.out wc _ br dU hfr1).drew HP.out)
   have Fd:Hid (RX wc.drew d els X.made hp vT bi vL Rr Gs X.M X.shn X.rs):=by
    refine HX.out.1.keep (λk hk hl=>hfr1.block k hl ?_) hfr1.size;rcases hk with hk | hk | ⟨hh,hk⟩
    ·exact HF.out.2.2.2.1 k (HF.out.1 k hk)
    ·exact HF.out.2.2.2.1 k (HF.out.2.1 k hk)
    ·exact HF.out.2.2.2.1 k (HF.out.2.2.1 hh k hk)
   clear rJ dU hfr1 HT kM;go_upto_region 6 with fail
   go_cut [8] (λyv wx=>yv=.int .i64 (ct X.T xx Tt)/\Hid (jG wc.drew d els X.made hp vT vL Rr Gs X.M X.shn X.rs xx Tt (.returned (.int .i64 (ct X.T xx Tt))) wx/\PQ2 PS (w.alloc (aH kd at' xx yy zz S Tt on)) G wx b (eQ X xx Tt) br (eQ X xx Tt) (.pointer (some pa)) d K))
   case first=>
    go_region_held3 (λw'=>w'.cell? ⟨b,0,none⟩=some (.pointer (some pa))/\w'.cell? ⟨b,1,none⟩=some (.pointer (some ⟨d,0,none⟩))/\w'.cell? ⟨w.heap.size,2,none⟩=some (.int .i64 xx)/\w'.cell? ⟨w.heap.size,6,none⟩=some (.string Tt)/\w'.cell? ⟨w.heap.size,7,none⟩=some (.bool on)) (first | exact HC.out _ _ _ _ ix.out | exact HC.out _ _ _ _ jB.out.2)
     (first | (go_at_call 150;refine(Az _ d els X.made hp vT bi vL Rr Gs X.M X.shn X.rs xx Tt Fd.out).mono ?_;intro e w2 cX;obtain⟨rfl,Kh⟩:=E7.out wc.drew w2 e br (HP.out.keep rf.out.2.1 (λ_ _ _=>rfl) au) rf.out.2.2.dr Fd.out cX;have jB:Hid (jG wc.drew d els X.made hp vT vL Rr Gs X.M X.shn X.rs xx Tt (.returned (.int .i64 (ct X.T xx Tt))) w2/\PQ2 PS (w.alloc (aH kd at' xx yy zz S Tt on)) G w2 b (eQ X xx Tt) br (eQ X xx Tt) (.pointer (some pa)) d K):=⟨cX,Kh⟩))
    all_goals
     go_wp2_with fail;go_meet;exact⟨rfl,jB⟩
   case rest=>
    obtain⟨rfl,jB⟩:=hcut
    have J5:ct X.T xx Tt=5:=by
     unfold ct;rw[HX.out.2,cK Mh.out]
    have HE:Hid (TurnPost2 PS w G b (.pointer (some pa)) d (Bc Q X st K xx Tt) (.returned (.bool true)) wc):=⟨rfl,_,br,K,jB.out.2.from,by have:=HW.out;unfold eQ;rw[aj (by rw[J5];decide)];exact this,rfl,rf.out.1,af ⟨by rw[J5];decide,rfl⟩⟩;rw[J5];clear J5 jB;go_wp2_with fail;refine(bI _ 5).mono ?_;rintro e w5 ⟨rfl,rfl⟩;go_wp2;go_ret;exact HE.out
 | some p=>
  have he:fa (some p)=.pointer (some ⟨p.blk,0,none⟩):=rfl;rw[he];have Mh:=ae hf;have p2:((w.alloc (aH kd at' xx yy zz S Tt on)).drewN nq).cell? ⟨p.blk,3,none⟩=some (.string p.nm):=aa ((HX.out.1.drewN nq).rd.el p (cN hf).1) rfl;clear he hf;go_upto_region 5 with fail
  go_cut [7] (λyv wx=>yv=.int .i64 (ct X.T xx Tt)/\Hid (∃br,Q (.nam xx Tt) X st (eQ X xx Tt) br/\PS wx (.pointer (some pa)) (eQ X xx Tt) br (cJ Fx (w.alloc (aH kd at' xx yy zz S Tt on)))/\Fr (w.alloc (aH kd at' xx yy zz S Tt on)) wx Fx))
  case first=>
   go_region_held3 (λw'=>w'.cell? ⟨b,0,none⟩=some (.pointer (some pa))/\w'.cell? ⟨b,1,none⟩=some (.pointer (some ⟨d,0,none⟩))/\w'.cell? ⟨w.heap.size,2,none⟩=some (.int .i64 xx)/\w'.cell? ⟨w.heap.size,6,none⟩=some (.string Tt)/\w'.cell? ⟨w.heap.size,7,none⟩=some (.bool on)) (first | exact HC.out _ _ _ _ kM.out | exact HC.out _ _ _ _ HT.out.2)
    (first | (go_at_call 21;refine(HP.out.nam _ (.pointer (some pa)) X st Fx xx Tt (sQ.out _)).mono ?_;rintro e w1 ⟨br,rfl,hq,dU,ft⟩;have HT:Hid ((∃br,Q (.nam xx Tt) X st (eQ X xx Tt) br/\PS w1 (.pointer (some pa)) (eQ X xx Tt) br (cJ Fx (w.alloc (aH kd at' xx yy zz S Tt on)))/\Fr (w.alloc (aH kd at' xx yy zz S Tt on)) w1 Fx)/\PQ2 PS (w.alloc (aH kd at' xx yy zz S Tt on)) G w1 b (eQ X xx Tt) br X (.pointer (some pa)) d K):=⟨⟨br,hq,dU,ft.un⟩,kJ.out w1 _ br dU ft.un⟩))
   all_goals
    go_wp2_with fail;go_meet;exact⟨rfl,HT.out.1⟩
  case rest=>
   obtain⟨rfl,HT⟩:=hcut;obtain⟨br,rJ,dU,hfr1⟩:=HT.out;have rf:=kK rJ dU hfr1;have ix:=ae ((kJ.out wc _ br dU hfr1).drew HP.out)
   have Fd:Hid (RX wc.drew d els X.made hp vT bi vL Rr Gs X.M X.shn X.rs):=by
    refine HX.out.1.keep (λk hk hl=>hfr1.block k hl ?_) hfr1.size;rcases hk with hk | hk | ⟨hh,hk⟩
    ·exact HF.out.2.2.2.1 k (HF.out.1 k hk)
    ·exact HF.out.2.2.2.1 k (HF.out.2.1 k hk)
    ·exact HF.out.2.2.2.1 k (HF.out.2.2.1 hh k hk)
   clear rJ dU hfr1 HT kM;go_upto_region 6 with fail
   go_cut [8] (λyv wx=>yv=.int .i64 (ct X.T xx Tt)/\Hid (jG wc.drew d els X.made hp vT vL Rr Gs X.M X.shn X.rs xx Tt (.returned (.int .i64 (ct X.T xx Tt))) wx/\PQ2 PS (w.alloc (aH kd at' xx yy zz S Tt on)) G wx b (eQ X xx Tt) br (eQ X xx Tt) (.pointer (some pa)) d K))
   case first=>
    go_region_held3 (λw'=>w'.cell? ⟨b,0,none⟩=some (.pointer (some pa))/\w'.cell? ⟨b,1,none⟩=some (.pointer (some ⟨d,0,none⟩))/\w'.cell? ⟨w.heap.size,2,none⟩=some (.int .i64 xx)/\w'.cell? ⟨w.heap.size,6,none⟩=some (.string Tt)/\w'.cell? ⟨w.heap.size,7,none⟩=some (.bool on)) (first | exact HC.out _ _ _ _ ix.out | exact HC.out _ _ _ _ jB.out.2)
     (first | (go_at_call 150;refine(Az _ d els X.made hp vT bi vL Rr Gs X.M X.shn X.rs xx Tt Fd.out).mono ?_;intro e w2 cX;obtain⟨rfl,Kh⟩:=E7.out wc.drew w2 e br (HP.out.keep rf.out.2.1 (λ_ _ _=>rfl) au) rf.out.2.2.dr Fd.out cX;have jB:Hid (jG wc.drew d els X.made hp vT vL Rr Gs X.M X.shn X.rs xx Tt (.returned (.int .i64 (ct X.T xx Tt))) w2/\PQ2 PS (w.alloc (aH kd at' xx yy zz S Tt on)) G w2 b (eQ X xx Tt) br (eQ X xx Tt) (.pointer (some pa)) d K):=⟨cX,Kh⟩))
    all_goals
     go_wp2_with fail;go_meet;exact⟨rfl,jB⟩
   case rest=>
    obtain⟨rfl,jB⟩:=hcut
    have uV:Hid (sH (eQ X xx Tt).T K):=by
     have:=HW.out;unfold Hid eQ;split
     ·exact this
     ·exact this
    rcases jB.out.1 with⟨he,-,-⟩ | ⟨he,-,p',qY,kR,hX2,-⟩
    ·rw[<-HX.out.2] at he;have HE:Hid (TurnPost2 PS w G b (.pointer (some pa)) d (Bc Q X st K xx Tt) (.returned (.bool true)) wc):=⟨rfl,_,br,K,jB.out.2.from,uV.out,rfl,rf.out.1,af ⟨he,rfl⟩⟩;have gy:(ct X.T xx Tt==0)=false:=by simp[he]
     generalize ct X.T xx Tt=ce at gy;clear he jB;go_wp2_with fail;refine(bI _ ce).mono ?_;rintro e w5 ⟨rfl,rfl⟩;go_wp2;go_ret;exact HE.out
    ·rw[<-HX.out.2] at he;rw[Mh.out] at qY;injection qY with qY
     subst qY;have Ba:=ae hX2;obtain⟨fA,qB⟩:=cN Mh.out;have oA:=ae jB.out.2
     have htz:Tt.size<=1:=by
      rcases kR with h | h
      ·omega
      ·unfold aG at h;rw[Bool.and_eq_true,bF] at h;omega
     have hnz:p.nm.size<=1:=by
      rcases HX.out.1.re.rm.nm p fA with h | h
      ·omega
      ·have h:=h.1;unfold aG at h;rw[Bool.and_eq_true,bF] at h;omega
     have fm:Hid (∀w5 K',PQ2 PS (w.alloc (aH kd at' xx yy zz S Tt on)) G w5 b (eQ X xx Tt) br (eQ X xx Tt) (.pointer (some pa)) d K'->sH (eQ X xx Tt).T K'->SpoK X.T xx K K' (Al Rr p.nm Tt)->TurnPost2 PS w G b (.pointer (some pa)) d (Bc Q X st K xx Tt) (.returned (.bool true)) w5):=λw5 K' h1 h2 h3=>⟨rfl,_,br,K',h1.from,h2,rfl,rf.out.1,ai ⟨he,kR,Rr,p.nm,HX.out.1.rel,by rw[show xx.toNat=p.num from by omega];exact HX.out.1.re.rm.nm p fA,h3⟩⟩;have Fb:Hid ((eQ X xx Tt).T=X.T):=by unfold Hid eQ;rw[aq he]
     have LV:Hid (Al Rr p.nm Tt=((!(p.nm.toList==Tt.toList))&&((decide (p.nm.size≠0)&&fO Rr (⟨#[35]⟩++p.nm))||(decide (Tt.size≠0)&&fO Rr (⟨#[35]⟩++Tt))))):=rfl;rw[he];clear he hX2 jB kR qB fA;have Jm:Hid (∀k eG,Calls prog 149 #[.pointer hp,.string eG] (wc.drewN k) λe w'=>e=.returned (.bool (fO Rr eG))/\w'=wc.drewN k):=λk eG=>qH _ hp Rr _ ((Ba.out.drewN k).sh.here) Ba.out.ruok Ba.out.few;have UM:Hid (∀eG,Calls prog 149 #[.pointer hp,.string eG] wc λe w'=>e=.returned (.bool (fO Rr eG))/\w'=wc):=λeG=>qH _ hp Rr _ Ba.out.sh.here Ba.out.ruok Ba.out.few;have c1':wc.cell? ⟨b,1,none⟩=some (.pointer (some ⟨d,0,none⟩)):=(HC.out _ _ _ _ oA.out).2.1;have c2':wc.cell? ⟨d,0,none⟩=some (.pointer hp):=aa Ba.out.rd.doc rfl;have c3':wc.cell? ⟨w.heap.size,6,none⟩=some (.string Tt):=(HC.out _ _ _ _ oA.out).2.2.2.1;clear rf;cases L6:(p.nm.toList==Tt.toList) with
     | true=>
      have HE:Hid (TurnPost2 PS w G b (.pointer (some pa)) d (Bc Q X st K xx Tt) (.returned (.bool true)) wc):=fm.out wc K oA.out uV.out (af ⟨by rw[LV.out,L6];rfl,rfl⟩);clear Jm UM;go_wp2_with fail;refine(bI _ 0).mono ?_;rintro e w5 ⟨rfl,rfl⟩;go_wp2;go_ret;exact HE.out
     | false=>
      rw[L6] at LV;have HSM:=ae L6;obtain⟨o1,T6⟩:∃o1,(decide (p.nm.size≠0)&&fO Rr (⟨#[35]⟩++p.nm))=o1:=⟨_,rfl⟩;obtain⟨o2,yN⟩:∃o2,(decide (Tt.size≠0)&&fO Rr (⟨#[35]⟩++Tt))=o2:=⟨_,rfl⟩;rw[T6,yN] at LV;have Wp:=ae T6;have Qv:=ae yN;have Xq:Hid (Calls prog 149 #[.pointer hp,.string (⟨#[35]⟩++p.nm)] wc λe w'=>e=.returned (.bool (fO Rr (⟨#[35]⟩++p.nm)))/\w'=wc):=UM.out _;clear T6 yN UM;go_upto_region 8 with fail
      go_cut [9] (λov wx=>ov=.bool o1/\wx=wc)
      case first=>
       by_cases hz:p.nm.size=0
       ·have T9:=eJ hz;have gz:p.nm.toList.isEmpty=true:=by rw[T9];unfold ByteArray.toList;unfold ByteArray.toList.loop;rw[aj (by decide)];rfl
        have QU:Hid (o1=false):=by unfold Hid;rw[<-Wp.out,decide_eq_false (by omega)];rfl
        clear T9;go_wp2_with fail;go_meet;exact⟨by rw[QU.out],rfl⟩
       ·have gz:=iF p.nm (by omega);have QU:Hid (fO Rr (⟨#[35]⟩++p.nm)=o1):=by unfold Hid;rw[<-Wp.out,decide_eq_true hz];rfl
        go_wp2_with fail;refine Xq.out.mono ?_;rintro e w5 ⟨rfl,rfl⟩;rw[QU.out];go_wp2_with fail;go_meet;exact⟨rfl,rfl⟩
      case rest=>
       obtain⟨rfl,rfl⟩:=hcut;go_upto_region 9 with fail
       go_cut [10] (λov wx=>ov=.bool o2/\∃m,wx=wc.drewN m)
       case first=>
        by_cases hz:Tt.size=0
        ·have T9:=eJ hz;have gz:Tt.toList.isEmpty=true:=by rw[T9];unfold ByteArray.toList;unfold ByteArray.toList.loop;rw[aj (by decide)];rfl
         have QU:Hid (o2=false):=by unfold Hid;rw[<-Qv.out,decide_eq_false (by omega)];rfl
         clear T9;go_quiet ((go_at_call 149;exact Calls.quiet_of_same (Jm.out _ _)));go_wp2_with fail;go_meet;exact⟨by rw[QU.out],_,rfl⟩
        ·have gz:=iF Tt (by omega);have QU:Hid (fO Rr (⟨#[35]⟩++Tt)=o2):=by unfold Hid;rw[<-Qv.out,decide_eq_true hz];rfl
         go_quiet ((go_at_call 149;exact Calls.quiet_of_same (Jm.out _ _)));rw[QU.out];go_wp2_with fail;go_meet;exact⟨rfl,_,rfl⟩
       case rest=>
        obtain⟨rfl,m,rfl⟩:=hcut;have QX:=ae (oA.out.drewN HP.out m);have c6':(wc.drewN m).cell? ⟨w.heap.size,2,none⟩=some (.int .i64 xx):=(HC.out _ _ _ _ oA.out).2.2.1;clear c1' c2' c3' Jm Xq oA;generalize wc.drewN m=wq at QX c6' ⊢;cases o1 with
        | true=>
         have LV:Hid (Al Rr p.nm Tt=true):=by unfold Hid;rw[LV.out];rfl
         go_wp2_with fail;refine(il HP.out QX.out uV.out.2 xx).mono ?_;rintro e W7 ⟨rfl,V9,zW⟩;have HE:Hid (TurnPost2 PS w G b (.pointer (some pa)) d (Bc Q X st K xx Tt) (.returned (.bool true)) W7):=fm.out W7 _ zW ⟨uV.out.1,uV.out.2.spoil xx⟩ (ai ⟨LV.out,rfl,by rw[<-Fb.out],rfl,rfl,rfl⟩);clear zW;go_wp2_with fail;refine(bI _ 0).mono ?_;rintro e w5 ⟨rfl,rfl⟩;go_wp2;go_ret;exact HE.out
        | false=>
         cases o2 with
         | true=>
          have LV:Hid (Al Rr p.nm Tt=true):=by unfold Hid;rw[LV.out];rfl
          go_wp2_with fail;refine(il HP.out QX.out uV.out.2 xx).mono ?_;rintro e W7 ⟨rfl,V9,zW⟩;have HE:Hid (TurnPost2 PS w G b (.pointer (some pa)) d (Bc Q X st K xx Tt) (.returned (.bool true)) W7):=fm.out W7 _ zW ⟨uV.out.1,uV.out.2.spoil xx⟩ (ai ⟨LV.out,rfl,by rw[<-Fb.out],rfl,rfl,rfl⟩);clear zW;go_wp2_with fail;refine(bI _ 0).mono ?_;rintro e w5 ⟨rfl,rfl⟩;go_wp2;go_ret;exact HE.out
         | false=>
          have HE:Hid (TurnPost2 PS w G b (.pointer (some pa)) d (Bc Q X st K xx Tt) (.returned (.bool true)) wq):=fm.out wq K QX.out uV.out (af ⟨by rw[LV.out];rfl,rfl⟩);go_wp2_with fail;refine(bI _ 0).mono ?_;rintro e w5 ⟨rfl,rfl⟩;go_wp2;go_ret;exact HE.out
theorem Fr.drew1 {w w':World}{S:Nat->Prop}(h:Fr w w' S):Fr w w'.drew S:=⟨h.os,h.tape,h.output,h.size,h.block⟩
section
variable {DS:World->Value->aJ->Nat->(Nat->Mk)->List dF->(Nat->Prop)->Prop}
end
theorem ns {P:Program}{BR:Array Oper}{o:Oper}{a:Act}{w:World}{K:Act->World->Prop}{Q:Exit->Act->World->Prop}{E:Prop}
  (hg:o.guard=none) (s x:Operand) (t:TypeId) (hop:o.op=Op.call {callee:=Callee.builtin Builtin.append,args:=#[s,x],argTypes:=#[t,t]})
  (an:Nat) (e:TypeId) (i:TypeInfo) (z:Value) (size bytes:Nat) (h1:P.underlying t=some (.slice e)) (h2:P.info? e=some i) (h3:i.zero=some z) (h4:i.size=size) (h5:i.bytes=bytes) (h6:z.cells.size=size) (h7:0<size)
  (v:Value) (n:Nat) (xs:List Value) (hs:a.eval s=v) (bL:w.ownsRow an e size v n xs)
  (ad:Addr) (m c:Nat) (j3:List Value) (hx:a.eval x=.slice (some ad) m c) (hn:j3.length=m*size) (hc:∀j u,j3[j]?=some u->w.cell? (ad.add j)=some u) (h1c:∀u∈j3,u.oneCell'=true)
  (b1:n+m<=maxLen) (b2:(n+m)*bytes<=140737488355328) (hb:an<=w.heap.size)
  (hK:∀v' w',w'.ownsRow an e size v' (n+m) (xs++j3)->w.grownBy w' v.ownBlock->Hid (∀j,v'.ownBlock=some j->v.ownBlock=some j∨w.heap.size<=j)->K (a.put o.dst v') w') :
  if Region.wanted o (yielded BR a.tmps)=true then Oper.wp P o a w K Q else E:=by
 have hw:Region.wanted o (yielded BR a.tmps)=true:=by simp[Region.wanted,hg]
 rw[aq hw];obtain⟨v',w',Gr,r1,r2,r3⟩:=kE (P:=P) w an t o.type e i z size bytes h1 h2 h3 h4 h5 h6 h7 v n xs bL ad m c j3 hn hc h1c b1 b2 hb;unfold Oper.wp;simp only[execOp,hop,resolve,invoke,builtin,Sem.run_bind,Sem.run_pure,Result.andThen_ok,List.map_toArray,List.map_cons,List.map_nil,hs,hx,Gr];exact hK v' w' r1 r2 r3
section
variable {w w':World}{g:Nat}{px vl:Value}{made b:Nat}
end
end Go.Proofs.YtblfffbmklkhmaaGreat
