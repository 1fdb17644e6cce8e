/- Own work. -/
import Derived.Test.YtblfffbmklkhmabGreatAl17
set_option maxRecDepth 100000
set_option maxHeartbeats 40000000
namespace Go.Proofs.YtblfffbmklkhmabGreat
open Go.RowKit Go.Proofs.Tryz
theorem tS (w:World)(a:Option Addr)(c:Nat)(l:List Nat)(n:Int)(aB:Nat)(ho:w.ownsRow aB 3 1 (.slice a l.length c) l.length (bq l))(hl:l.length<=24):
  Calls prog 36 #[.slice a l.length c,.int .i64 n] w λe w'=>wl w (aG n l) e w':=by
 obtain⟨i0,hi,gP,gQ,gR⟩:=info_parts Tryz.info3;have HO:=aw ho;clear ho;go_enter func36,ntmps36;go_wp2_with fail
 go_loopg [5,6] l.length (λgk v iv wr=>∃i:Nat,iv=.int .i64 i/\i<=l.length/\l.length - i<=gk/\wr.ownsRow w.heap.size 3 1 v (aG n (l.take i)).length (bq (aG n (l.take i)))/\Below w.heap.size w wr)
 case atStart=>exact⟨0,rfl,bm,by omega,eB,bo⟩
 case round=>
  obtain⟨i,rfl,jQ,fT,bS,hB⟩:=hrel;obtain⟨a2,c2,hv⟩:=aK bS;subst hv
  by_cases bc:i<l.length
  ·have hd:decide ((i:Int)<(l.length:Int))=true:=by simp;omega
   obtain⟨g,hg,di,hc⟩:=aX HO.out (by omega);subst hg;have q:=(hB.cell (p:=⟨g,i,none⟩) di).trans (hc i (.int .i64 ((l[i]:Nat):Int)) (by simp[bc]))
   have uB:(aG n (l.take i)).length<=24:=by
    have:=lL n (l.take i);have:(l.take i).length<=l.length:=List.length_take_le' _ _;omega
   have HT:=aw (uK bc n);clear hc;generalize aG n (l.take i)=f at bS uB HT;generalize l[i]=y at q HT
   by_cases hn:(y:Int)=n
   ·have gn:((y:Int) != n)=false:=by simp[hn]
    have oR:Hid (aG n (l.take (i+1))=f):=by unfold Hid;rw[HT.out,aE hn];simp
    have HW:=aw bS;clear hn HT bS;go_wp2;go_roundg (l.length - (i+1))
    case measure=>omega
    case rel=>exact⟨i+1,by go_num,by omega,aF,by rw[oR.out];exact HW.out,hB⟩
   ·have gn:((y:Int) != n)=true:=by simp[hn]
    have oR:Hid (aG n (l.take (i+1))=f++[y]):=by unfold Hid;rw[HT.out,aA hn]
    have hz:=hB.size;clear hn HT;go_wp2_with (at_builtin;refine wpList_append_own _ rfl (.tmp 19) (.tmp 24) 28 rfl w.heap.size 3 i0 (.int .i64 0) 1 8 underlying28 hi gP gQ gR rfl (by decide) _ _ _ rfl (bS.alloc _) ⟨wr.heap.size,0,none⟩ 1 1 [.int .i64 (y:Int)] rfl rfl ?c1 ?c2 ?c3 ?c4 ?c5 ?_)
    case c1=>exact bg wr _ rfl _ _ _ rfl
    case c2=>intro u hu;simp at hu;subst hu;rfl
    case c3=>unfold maxLen;omega
    case c4=>omega
    case c5=>simp;omega
    ·intro v' w3 cj fB _;have bH:w3.ownsRow w.heap.size 3 1 v' (f++[y]).length (bq (f++[y])):=by simpa[bq] using cj
     have fA:Below w.heap.size w w3:=(hB.alloc hz _).grown fB (by simp;omega) (λk hk=>(bS.lt k hk).1);clear cj fB bS q;go_wp2;go_roundg (l.length - (i+1))
     case measure=>omega
     case rel=>exact⟨i+1,by go_num,by omega,aF,by rw[oR.out];exact bH,fA⟩
  ·have hd:decide ((i:Int)<(l.length:Int))=false:=by simp;omega
   obtain rfl:i=l.length:=by omega
   rw[List.take_length] at bS;have HW:=aw bS;rw[List.take_length];clear bS;go_wp2;go_ret;exact⟨a2,c2,rfl,HW.out,hB⟩
theorem tV {T:aU}{l:List Nat}(h:LT T l)(n:Int):LT T (aG n l):=⟨h.1.filter _,λk hk=>h.2 k (dJ.1 hk).1⟩
theorem Dm {so su:Bool}{c:Int}(h:-1<=c/\c<=24):-1<=mY so su c/\mY so su c<=24:=by
 unfold mY;cases so<;>cases su<;>simp<;>first | exact h | (split<;>omega) | omega
theorem Qu (T:aU)(e:Int)(s:List Nat × List Nat × Int)(h:-1<=s.2.2/\s.2.2<=24):∀j,-1<=(ua T e s j).2.2/\(ua T e s j).2.2<=24
 | 0=>h
 | j+1=>Dm (Qu T e s h j)
theorem Fo (T:aU):∀(j:Nat) (n:Int),io T (j+1) n=bi T (io T j n)
 | 0,_=>rfl
 | j+1,n=>Fo T j (bi T n)
section
variable {PS:World->Value->YS->List Nat->(Nat->Prop)->Prop}{Q:fu->YS->List Nat->YS->List Nat->Prop}
structure QI (PS:World->Value->YS->List Nat->(Nat->Prop)->Prop)(w:World)(G:Nat->Prop)(b:Nat)(X:YS)(bE:List Nat)(px:Value)(d:Nat)(K:gK)(n:Int)(j:Nat)(K1:gK)(wr:World):Prop where
 pq:PQ2 PS w G wr b X bE X px d K1
 lk:s9 X.T K1
 cnt:-1<=K1.cnt/\K1.cnt<=24
 ls:K1.ls=K.ls
 up:∀i,i<j->0<=io X.T i n
 at':(K1.lm,K1.ly,K1.cnt)=ua X.T n (K.lm,K.ly,K.cnt) j
theorem sO (hP:cP PS Q)(w:World)(b:Nat)(X:YS)(st:List Nat)(pa:Addr)(d:Nat)(K:gK)(G Fp Fx Fy:Nat->Prop)
  (h:PJ2 PS w b X st X (.pointer (some pa)) d K Fp Fx Fy) (hG:∀k,Fp k∨Fx k∨Fy k->G k) (lH:s9 X.T K) (KN:-1<=K.cnt/\K.cnt<=24) (n:Int) (s:ByteArray) :
  Calls prog 16 #[.pointer (some ⟨b,0,none⟩),.int .i64 n,.string s] w λe w'=>TurnPost2 PS w G b (.pointer (some pa)) d (R9 Q X st K n s) e w':=by
 have HP:=aw hP;have HW:=bZ lH KN;have H0:=aw (PQ2.start h hG);clear h hP lH hG KN Fp Fx Fy;obtain⟨Fx,Fy,qD,KZ,xu,uB,CO,Am⟩:=H0.out.open HP.out;obtain⟨aa,hp,vT,br,vL,Rr,Gs,hX,hA,hF1,hF2,hF3⟩:=KZ;have HX:=bZ hX hA;have HF:Hid ((∀k,jX d aa vL k->Fy k)/\(∀k,Gs k->Fy k)/\(br=true->∀k,vT.ownBlock=some k->Fy k)/\(∀k,Fy k->¬Fx k)/\(∀k,Fy k->k<w.heap.size)):=⟨hF1,hF2,hF3,xu,uB⟩;have tm:=aw qD;have kU:=aw CO;have fj:=aw Am;clear hX hA hF1 hF2 hF3 qD xu uB CO Am;have HB:Hid (∀{wx:World} {X1 bE Y1 K1},PQ2 PS w G wx b X1 bE Y1 (.pointer (some pa)) d K1->wx.heap[b]?=some (.cells #[.pointer (some pa),.pointer (some ⟨d,0,none⟩),K1.vm,K1.vy,.int .i64 K1.cnt,K1.vs,.bool K1.held] 56 (0,0))):=λhq=>hq.pb.blk;have b0:w.cell? ⟨b,0,none⟩=some (.pointer (some pa)):=au (HB.out H0.out) rfl;go_enter func16,ntmps16;go_wp2_with fail;refine(HP.out.qry w (.pointer (some pa)) X st Fx n s tm.out).mono ?_;rintro e w1 ⟨bE,rfl,sd,d9,hfr1⟩;have rG:=kC sd d9 hfr1;have kY:=aw (kU.out w1 X bE d9 hfr1)
 have FN:Hid (RX w1 d aa X.made hp vT br vL Rr Gs X.M X.shn X.rs):=by
  refine HX.out.1.keep (λk hk hl=>hfr1.block k hl ?_) hfr1.size;rcases hk with hk | hk | ⟨hh,hk⟩
  ·exact HF.out.2.2.2.1 k (HF.out.1 k hk)
  ·exact HF.out.2.2.2.1 k (HF.out.2.1 k hk)
  ·exact HF.out.2.2.2.1 k (HF.out.2.2.1 hh k hk)
 have b1:w1.cell? ⟨b,1,none⟩=some (.pointer (some ⟨d,0,none⟩)):=au (HB.out kY.out) rfl;clear sd d9 hfr1 b0;go_wp2_with fail;refine(ya w1 d aa X.made hp vT br vL Rr Gs X.M X.shn X.rs n s FN.out).mono ?_;intro e w2 dn;have UD:=HX.out.2;rcases dn with⟨he,rfl,rfl⟩ | ⟨he,rfl,vT2,hX2,jJ,bM⟩
 ·rw[<-UD] at he ⊢;have WJ:eD X.T X.M X.rs n s=0:=by unfold eD;rw[aA he]
  have HE:Hid (TurnPost2 PS w G b (.pointer (some pa)) d (R9 Q X st K n s) (.returned (.bool true)) w2):=⟨rfl,X,bE,K,kY.out,HW.out.1,rfl,rG.out.1,ax ⟨he,rfl⟩⟩;have gy:(bD X.T n s != 0)=true:=by simp[he]
  rw[WJ];generalize bD X.T n s=ce at gy;clear WJ he UD;go_wp2_with fail;refine(bQ _ ce).mono ?_;rintro e w5 ⟨rfl,rfl⟩;go_wp2;go_ret;exact HE.out
 ·rw[<-UD] at he ⊢
  have iL:Hid (PQ2 PS w G w2 b X bE X (.pointer (some pa)) d K):=by
   refine fj.out w1 X bE w2 X rG.out.2.1 rG.out.2.2 ?_ (bM.mono HF.out.1);show RSd w2 d X.T X.made X.M X.shn X.rs (cV Fy w1);rw[UD];refine hX2.rsd (λk hk=>ax (HF.out.1 k hk)) (λk hk=>ax (HF.out.2.1 k hk)) (λ_ k hk=>?_);rcases jJ with⟨e1,e2⟩ | jJ
   ·rw[e1] at hk;exact ax (HF.out.2.2.1 e2 k hk)
   ·exact az (jJ k hk)
  have fC:Hid (∀w5 K' j,QI PS w G b X bE (.pointer (some pa)) d K n j K' w5->io X.T j n<0->TurnPost2 PS w G b (.pointer (some pa)) d (R9 Q X st K n s) (.returned (.bool true)) (w5.setCell ⟨b,6,none⟩ (.bool false))):=λw5 K' j hi hj=>⟨rfl,X,bE,_,hi.pq.setHeld HP.out false,hi.lk,rfl,rG.out.1,az ⟨he,hi.ls,rfl,j,hj,hi.up,hi.at'⟩⟩
  have Bv:Hid (∀j,X.T.length<=j->io X.T j n<0):=λj hj=>by
   have hf:∃l,bF X.T n=some l:=by
    unfold bD at he;cases hft:bF X.T n with
    | none=>rw[hft] at he;cases he
    | some l=>exact⟨l,rfl⟩
   obtain⟨l,hl⟩:=hf;obtain⟨k,rfl,hk⟩:=gJ hl;exact iL.out.tw.up_end hk hj
  have JW:Hid (QI PS w G b X bE (.pointer (some pa)) d K n 0 K w2):=⟨iL.out,HW.out.1,HW.out.2,rfl,λi hi=>absurd hi (Nat.not_lt_zero i),rfl⟩;have Q9:=aw iL.out.few;rw[he];clear hX2 jJ bM he UD b1;generalize eD X.T X.M X.rs n s=vv;go_wp2_with fail;refine(bQ _ 0).mono ?_;rintro e w5 ⟨rfl,rfl⟩;obtain⟨w2,rfl⟩:∃w2,w2=w5:=⟨_,rfl⟩;go_wp2_with fail
  go_loopg [11] X.T.length (λgk nv wr=>∃(j:Nat) (K1:gK),nv=.int .i64 (io X.T j n)/\X.T.length - j<=gk/\Hid (QI PS w G b X bE (.pointer (some pa)) d K n j K1 wr))
  case atStart=>exact⟨0,K,rfl,by omega,JW⟩
  case round=>
   obtain⟨j,K1,rfl,fT,HI⟩:=hrel
   by_cases hneg:io X.T j n<0
   ·have HE:=aw (fC.out wr K1 j HI.out hneg);have b6:wr.cell? ⟨b,6,none⟩=some (.bool K1.held):=au (HB.out HI.out.pq) rfl;have b6f:wr.frozen? ⟨b,6,none⟩=false:=aH (HB.out HI.out.pq);have jM:=(bG.1 (HB.out HI.out.pq)).1;generalize io X.T j n=m at hneg;have gm:decide (0<=m)=false:=by simp;omega
    clear HI;go_wp2;go_ret;exact HE.out
   ·have FR:j<X.T.length:=by
     rcases Nat.lt_or_ge j X.T.length with h1 | h1
     ·exact h1
     ·exact absurd (Bv.out j h1) hneg
    have iQ:=aw (Fo X.T j n)
    have MX:Hid (∀W K2,PQ2 PS w G W b X bE X (.pointer (some pa)) d K2->K2.lm=aG (io X.T j n) K1.lm->K2.ly=aG (io X.T j n) K1.ly->K2.ls=K1.ls->K2.cnt=mY (fQ K1.ly (io X.T j n)) (fQ K1.lm (io X.T j n)) K1.cnt->QI PS w G b X bE (.pointer (some pa)) d K n (j+1) K2 W):=λW K2 h1 h2 h3 h4 h5=>by
     have hi:=HI.out;refine⟨h1,⟨by rw[h2];exact tV hi.lk.1 _,by rw[h3];exact tV hi.lk.2 _⟩,by rw[h5];exact Dm hi.cnt,h4.trans hi.ls,λi Wt=>?_,?_⟩
     ·rcases Nat.lt_or_ge i j with h6 | h6
      ·exact hi.up i h6
      ·obtain rfl:i=j:=by omega
       omega
     ·show(K2.lm,K2.ly,K2.cnt)=(aG (io X.T j n) (ua X.T n (K.lm,K.ly,K.cnt) j).1,aG (io X.T j n) (ua X.T n (K.lm,K.ly,K.cnt) j).2.1,mY (fQ (ua X.T n (K.lm,K.ly,K.cnt) j).2.1 (io X.T j n)) (fQ (ua X.T n (K.lm,K.ly,K.cnt) j).1 (io X.T j n)) (ua X.T n (K.lm,K.ly,K.cnt) j).2.2);rw[<-hi.at',h2,h3,h5]
    obtain⟨m2,CN⟩:∃m2,io X.T (j+1) n=m2:=⟨_,rfl⟩;have Ra:=aw CN;rw[CN] at iQ;clear CN;generalize io X.T j n=m at hneg iQ MX ⊢;have gm:decide (0<=m)=true:=by simp;omega
    have KQ:K1.lm.length<=24:=by have:=HI.out.lk.1.len;have:=Q9.out;omega
    have tQ:K1.ly.length<=24:=by have:=HI.out.lk.2.len;have:=Q9.out;omega
    have HCN:=aw HI.out.cnt;obtain⟨am,cm,yV⟩:=aK HI.out.pq.must;obtain⟨ay,cy,hvy⟩:=aK HI.out.pq.may;have yR:=bZ yV hvy;have VF:=aw HI.out.pq
    have Uh:Hid (∀wx K2,PQ2 PS w G wx b X bE X (.pointer (some pa)) d K2->K2.vm=K1.vm->K2.lm=K1.lm->wx.ownsRow 0 3 1 (.slice am K1.lm.length cm) K1.lm.length (bq K1.lm)/\wx.cell? ⟨b,2,none⟩=some (.slice am K1.lm.length cm)):=λwx K2 hq e1 e2=>by
     rw[<-yR.out.1,<-e1,<-e2];exact⟨hq.must,au (HB.out hq) rfl⟩
    have Gc:Hid (∀wx K2,PQ2 PS w G wx b X bE X (.pointer (some pa)) d K2->K2.vy=K1.vy->K2.ly=K1.ly->wx.ownsRow 0 3 1 (.slice ay K1.ly.length cy) K1.ly.length (bq K1.ly)/\wx.cell? ⟨b,3,none⟩=some (.slice ay K1.ly.length cy)):=λwx K2 hq e1 e2=>by
     rw[<-yR.out.2,<-e1,<-e2];exact⟨hq.may,au (HB.out hq) rfl⟩
    obtain⟨zh,b2⟩:=Uh.out wr K1 VF.out rfl rfl;obtain⟨ho3,b3⟩:=Gc.out wr K1 VF.out rfl rfl;clear HI yV hvy;go_wp2_with fail;refine(mj wr am cm K1.lm m 0 zh KQ).mono ?_;rintro e w5 ⟨rfl,rfl⟩;obtain⟨wr,rfl⟩:∃wr,wr=w5:=⟨_,rfl⟩;go_wp2_with fail;refine(mj wr ay cy K1.ly m 0 ho3 tQ).mono ?_;rintro e w5 ⟨rfl,rfl⟩;obtain⟨wr,rfl⟩:∃wr,wr=w5:=⟨_,rfl⟩;clear zh ho3 b2 b3;generalize fQ K1.lm m=su at MX ⊢;generalize fQ K1.ly m=so at MX ⊢;have b4:wr.cell? ⟨b,4,none⟩=some (.int .i64 K1.cnt):=au (HB.out VF.out) rfl;have VY:wr.frozen? ⟨b,4,none⟩=false:=aH (HB.out VF.out);have jM:=(bG.1 (HB.out VF.out)).1;go_upto_region 12 with fail
    go_cut [70] from 66 to 69 (λpv wx=>pv=.bool (so&&!su)/\Hid (PQ2 PS w G wx b X bE X (.pointer (some pa)) d K1))
    case first=>
     cases so<;>cases su
     all_goals
      go_wp2_with fail;go_meet;exact⟨rfl,VF⟩
    case rest=>
     obtain⟨rfl,Br⟩:=hcut;clear VF b4 VY jM;have b4:wc.cell? ⟨b,4,none⟩=some (.int .i64 K1.cnt):=au (HB.out Br.out) rfl;have VY:wc.frozen? ⟨b,4,none⟩=false:=aH (HB.out Br.out);have jM:=(bG.1 (HB.out Br.out)).1;obtain⟨tt,htt⟩:∃tt,(so&&!su)=tt:=⟨_,rfl⟩;have HTT:=aw htt;rw[htt];clear htt;go_upto_if 70 with fail
     go_cut [11,12] from 46 to 106 (λnv sv wx=>nv=.int .i64 m/\sv=.bool su/\Hid (PQ2 PS w G wx b X bE X (.pointer (some pa)) d {K1 with cnt:=if(so&&!su)=true then(-1:Int) else K1.cnt}))
     case first=>
      cases tt with
      | true=>
       have HC:Hid (PQ2 PS w G (wc.setCell ⟨b,4,none⟩ (.int .i64 (-1))) b X bE X (.pointer (some pa)) d {K1 with cnt:=if(so&&!su)=true then(-1:Int) else K1.cnt}):=by unfold Hid;rw[aE HTT.out];exact Br.out.setCnt HP.out (-1)
       go_wp2_with fail;go_meet;exact⟨rfl,rfl,HC⟩
      | false=>
       have HC:Hid (PQ2 PS w G wc b X bE X (.pointer (some pa)) d {K1 with cnt:=if(so&&!su)=true then(-1:Int) else K1.cnt}):=by unfold Hid;rw[aA (by rw[HTT.out];decide)];exact Br.out
       go_wp2_with fail;go_meet;exact⟨rfl,rfl,HC⟩
     case rest=>
      obtain⟨rfl,rfl,HC⟩:=hcut;clear b4 VY jM Br;obtain⟨c1,lZ⟩:∃c1:Int,(if(so&&!su)=true then(-1:Int) else K1.cnt)=c1:=⟨_,rfl⟩;rw[lZ] at HC;have Ry:=aw lZ
      have B3:-1<=c1/\c1<=24:=by
       have:=HCN.out;rw[<-lZ];split<;>omega
      have adS:=B3.1;have adT:=B3.2;clear lZ B3;have b4:wc.cell? ⟨b,4,none⟩=some (.int .i64 c1):=au (HB.out HC.out) rfl;have VY:wc.frozen? ⟨b,4,none⟩=false:=aH (HB.out HC.out);have jM:=(bG.1 (HB.out HC.out)).1;go_upto_region 14 with fail
      go_cut [81] from 74 to 80 (λpv wx=>pv=.bool (su&&decide (0<c1))/\Hid (PQ2 PS w G wx b X bE X (.pointer (some pa)) d {K1 with cnt:=c1}))
      case first=>
       cases su with
       | false=>
        go_wp2_with fail;go_meet;exact⟨rfl,HC⟩
       | true=>
        go_wp2_with fail;go_meet;exact⟨rfl,HC⟩
      case rest=>
       obtain⟨rfl,Br⟩:=hcut;clear HC b4 VY jM;have b4:wc.cell? ⟨b,4,none⟩=some (.int .i64 c1):=au (HB.out Br.out) rfl;have VY:wc.frozen? ⟨b,4,none⟩=false:=aH (HB.out Br.out);have jM:=(bG.1 (HB.out Br.out)).1;obtain⟨t2,ht2⟩:∃t2,(su&&decide (0<c1))=t2:=⟨_,rfl⟩;have oR:=aw ht2;rw[ht2];clear ht2;go_upto_if 81 with fail
       go_cut [11] from 46 to 106 (λnv wx=>nv=.int .i64 m/\Hid (PQ2 PS w G wx b X bE X (.pointer (some pa)) d {K1 with cnt:=if(su&&decide (0<c1))=true then c1 - 1 else c1}))
       case first=>
        cases t2 with
        | true=>
         have HD:Hid (PQ2 PS w G (wc.setCell ⟨b,4,none⟩ (.int .i64 (c1 - 1))) b X bE X (.pointer (some pa)) d {K1 with cnt:=if(su&&decide (0<c1))=true then c1 - 1 else c1}):=by unfold Hid;rw[aE oR.out];exact Br.out.setCnt HP.out (c1 - 1)
         go_wp2_with fail;go_meet;exact⟨rfl,HD⟩
        | false=>
         have HD:Hid (PQ2 PS w G wc b X bE X (.pointer (some pa)) d {K1 with cnt:=if(su&&decide (0<c1))=true then c1 - 1 else c1}):=by unfold Hid;rw[aA (by rw[oR.out];decide)];exact Br.out
         go_wp2_with fail;go_meet;exact⟨rfl,HD⟩
       case rest=>
        obtain⟨rfl,HD⟩:=hcut;clear b4 VY jM Br;obtain⟨c2,zf⟩:∃c2:Int,(if(su&&decide (0<c1))=true then c1 - 1 else c1)=c2:=⟨_,rfl⟩;rw[zf] at HD
        have CK:Hid (c2=mY so su K1.cnt):=by
         unfold Hid mY;rw[Ry.out];rw[<-zf]
        clear zf adS adT HCN;obtain⟨zh,b2⟩:=Uh.out wc _ HD.out rfl rfl;go_wp2_with fail;refine(tS wc am cm K1.lm m 0 zh KQ).mono ?_;rintro e W3 ⟨a3,c3,rfl,bH,lu⟩;have sH:=(lu.block b (bG.1 (HB.out HD.out)).1).trans (HB.out HD.out);have e2:W3.cell? ⟨b,2,none⟩=some K1.vm:=au sH rfl;have ez:∀k,W3.frozen? ⟨b,k,none⟩=false:=λ_=>aH sH;have jM:=(bG.1 sH).1;have oV:Hid (PQ2 PS w G (W3.setCell ⟨b,2,none⟩ (.slice a3 (aG m K1.lm).length c3)) b X bE X (.pointer (some pa)) d {K1 with cnt:=c2,vm:=.slice a3 (aG m K1.lm).length c3,lm:=aG m K1.lm}):=HD.out.setMust HP.out lu (ba bH bm) (λj hj=>az (bH.lt j hj).1);clear bH lu sH b2 zh HD;go_upto_region 17 with fail;obtain⟨W4,DU⟩:∃W4,W4=W3.setCell ⟨b,2,none⟩ (.slice a3 (aG m K1.lm).length c3):=⟨_,rfl⟩;rw[<-DU] at oV ⊢;clear DU e2 ez jM;obtain⟨ho3,b3⟩:=Gc.out W4 _ oV.out rfl rfl;go_wp2_with fail;refine(tS W4 ay cy K1.ly m 0 ho3 tQ).mono ?_;rintro e W5 ⟨a5,c5,rfl,cf,zd⟩;have MQ:=(zd.block b (bG.1 (HB.out oV.out)).1).trans (HB.out oV.out);have e3:W5.cell? ⟨b,3,none⟩=some K1.vy:=au MQ rfl;have ez:∀k,W5.frozen? ⟨b,k,none⟩=false:=λ_=>aH MQ;have jM:=(bG.1 MQ).1;have Iq:Hid (PQ2 PS w G (W5.setCell ⟨b,3,none⟩ (.slice a5 (aG m K1.ly).length c5)) b X bE X (.pointer (some pa)) d {K1 with cnt:=c2,vm:=.slice a3 (aG m K1.lm).length c3,lm:=aG m K1.lm,vy:=.slice a5 (aG m K1.ly).length c5,ly:=aG m K1.ly}):=oV.out.setMay HP.out zd (ba cf bm) (λj hj=>az (cf.lt j hj).1);clear cf zd MQ b3 ho3 oV;have HQI:Hid (QI PS w G b X bE (.pointer (some pa)) d K n (j+1) {K1 with cnt:=c2,vm:=.slice a3 (aG m K1.lm).length c3,lm:=aG m K1.lm,vy:=.slice a5 (aG m K1.ly).length c5,ly:=aG m K1.ly} (W5.setCell ⟨b,3,none⟩ (.slice a5 (aG m K1.ly).length c5))):=MX.out _ _ Iq.out rfl rfl rfl CK.out;go_upto_region 9 with fail;obtain⟨W6,DV⟩:∃W6,W6=W5.setCell ⟨b,3,none⟩ (.slice a5 (aG m K1.ly).length c5):=⟨_,rfl⟩;rw[<-DV] at Iq HQI ⊢;clear DV e3 ez jM;have b1:W6.cell? ⟨b,1,none⟩=some (.pointer (some ⟨d,0,none⟩)):=au (HB.out Iq.out) rfl;go_wp2_with fail;refine(pM Iq.out m).mono ?_;rintro e w5 ⟨rfl,rfl⟩;obtain⟨W6,rfl⟩:∃W6,W6=w5:=⟨_,rfl⟩;rw[<-iQ.out];clear Iq b1;go_wp2;go_roundg (X.T.length - (j+1))
        case measure=>omega
        case rel=>exact⟨j+1,_,by rw[Ra.out],aF,HQI⟩
end
section
variable {W:List Clm}
def pB:Nat->Array Value
 | 0=>#[.int .i64 0,.int .i64 0,.int .i64 0,.int .i64 0,.int .i64 0,.int .i64 0,.int .i64 0,.int .i64 0,.int .i64 0]
 | 1=>#[.int .i64 1,.int .i64 0,.int .i64 0,.int .i64 0,.int .i64 0,.int .i64 0,.int .i64 0,.int .i64 0,.int .i64 0]
 | 2=>#[.int .i64 1,.int .i64 2,.int .i64 0,.int .i64 0,.int .i64 0,.int .i64 0,.int .i64 0,.int .i64 0,.int .i64 0]
 | 3=>#[.int .i64 1,.int .i64 2,.int .i64 3,.int .i64 0,.int .i64 0,.int .i64 0,.int .i64 0,.int .i64 0,.int .i64 0]
 | 4=>#[.int .i64 1,.int .i64 2,.int .i64 3,.int .i64 4,.int .i64 0,.int .i64 0,.int .i64 0,.int .i64 0,.int .i64 0]
 | 5=>#[.int .i64 1,.int .i64 2,.int .i64 3,.int .i64 4,.int .i64 5,.int .i64 0,.int .i64 0,.int .i64 0,.int .i64 0]
 | _=>#[.int .i64 1,.int .i64 2,.int .i64 3,.int .i64 4,.int .i64 5,.int .i64 6,.int .i64 0,.int .i64 0,.int .i64 0]
def YC (w:World)(l:List Int)(e:Ending)(w':World):Prop:=e=.returned (.agg (aJ l).toArray)/\Below w.heap.size w w'
section
variable (w:World)
theorem sK:Calls prog 98 #[] w λe w'=>YC w eL e w':=by
 go_enter func98,ntmps98;go_wp2_with fail
 go_loopg [3] 6 (λgk iv wr=>∃i:Nat,iv=.int .i64 i/\i<=6/\6 - i<=gk/\wr=(w.alloc (.cells (pB 0) 132)).alloc (.cells (pB i) 132))
 case atStart=>exact⟨0,rfl,bm,by omega,rfl⟩
 case round=>
  obtain⟨i,rfl,hi,fT,rfl⟩:=hrel;have hc:i=0∨i=1∨i=2∨i=3∨i=4∨i=5∨i=6:=by omega
  rcases hc with rfl | rfl | rfl | rfl | rfl | rfl | rfl
  ·simp only[pB];go_wp2;go_roundg 5
   case measure=>omega
   case rel=>exact⟨1,rfl,by omega,by omega,rfl⟩
  ·simp only[pB];go_wp2;go_roundg 4
   case measure=>omega
   case rel=>exact⟨2,rfl,by omega,by omega,rfl⟩
  ·simp only[pB];go_wp2;go_roundg 3
   case measure=>omega
   case rel=>exact⟨3,rfl,by omega,by omega,rfl⟩
  ·simp only[pB];go_wp2;go_roundg 2
   case measure=>omega
   case rel=>exact⟨4,rfl,by omega,by omega,rfl⟩
  ·simp only[pB];go_wp2;go_roundg 1
   case measure=>omega
   case rel=>exact⟨5,rfl,by omega,by omega,rfl⟩
  ·simp only[pB];go_wp2;go_roundg 0
   case measure=>omega
   case rel=>exact⟨6,rfl,by omega,by omega,rfl⟩
  ·have HR:Hid (Below w.heap.size w ((w.alloc (.cells (pB 6) 132)).alloc (.cells (pB 6) 132))):=(bo.alloc aF _).alloc (by simp) _;simp only[pB] at HR ⊢;go_wp2;exact bodyPost_ret (v:=.agg #[.int .i64 1,.int .i64 2,.int .i64 3,.int .i64 4,.int .i64 5,.int .i64 6,.int .i64 0,.int .i64 0,.int .i64 0]) (by simp[results,Tryz.results98,go_sem]) rfl ⟨rfl,HR.out⟩
theorem Tryz.sizeW:(Tryz.prog.info? 210).map (·.size)=some 63:=by kernel_rfl
theorem Tryz.sizeS:(Tryz.prog.info? 132).map (·.size)=some 9:=by kernel_rfl
theorem sizeW (h:W.length=9):(prog.info? 210).map (·.size)=some (bd W).length:=by rw[iM,h];exact Tryz.sizeW
theorem sizeS {l:List Int}(h:l.length=9):(prog.info? 132).map (·.size)=some (aJ l).length:=by rw[List.length_map,h];exact Tryz.sizeS
theorem eA (w:World)(cs:List Value)(t:TypeId):(w.alloc (.cells cs.toArray t)).rangeAt w.heap.size 0 cs:=λj v hv=>by
 rw[Nat.zero_add,cell_of_row _ _ j cs.toArray t (0,0) (heap_alloc_new w _)];simpa using hv
theorem yb {w w':World}{g o:Nat}{cs:List Value}(h:w.rangeAt g o cs)(hk:w'.heap[g]?=w.heap[g]?):w'.rangeAt g o cs:=λj v hv=>by
 have:=h j v hv;unfold World.cell? at this ⊢;rw[hk];exact this
theorem Cb {p k:Nat}(h:co W p=some k):k<9:=by
 unfold co at h;split at h
 ·exact ms h
 ·cases h
theorem Lq (W:List Clm)(hW:jz W)(p:Nat)(hp:p<9):Calls prog 159 #[.agg (bd W).toArray,.int .i64 p] w λe w'=>bK w (jA W p 3 (co W p)) e w':=by
 have HF:=aw hW;have vc:=aw (sizeW hW.1);have Xq:Hid ((w.alloc (.cells (bd W).toArray 210)).rangeAt w.heap.size 0 (bd W)):=eA w _ _;have oE:Hid (Below w.heap.size w (w.alloc (.cells (bd W).toArray 210))):=bo.alloc aF _;have hzz:(w.alloc (.cells (bd W).toArray 210)).heap.size=w.heap.size+1:=by simp
 have HZ:=aw hzz;clear hW hzz;go_enter func159,ntmps159;go_wp2_with (refine wpList_load_mid rfl 210 _ rfl w.heap.size 0 rfl (bd W) _ Xq.out underlying210 rfl vc.out ?_);refine(t8 _ W HF.out p hp).mono ?_;rintro e w1 ⟨rfl,hB⟩;have eu:Hid (Below (w.heap.size+1) (w.alloc (.cells (bd W).toArray 210)) w1):=hB.mono (by have:=HZ.out;omega);clear hB;go_wp2_with fail
 go_loopg [5,6,13] 3 (λgk pv gv iv wr=>∃(i:Nat) (q:Option Nat),iv=.int .i64 i/\i<=3/\3 - i<=gk/\pv=.int .i64 ((q.getD 0:Nat):Int)/\gv=.bool q.isSome/\Hid (Below (w.heap.size+1) (w.alloc (.cells (bd W).toArray 210)) wr/\jA W p 3 (co W p)=jA W p (3 - i) q/\∀k,q=some k->k<9))
 case atStart=>exact⟨0,co W p,rfl,by omega,by omega,rfl,rfl,eu.out,rfl,λk hk=>Cb hk⟩
 case round=>
  obtain⟨i,q,rfl,hi,fT,rfl,rfl,HN⟩:=hrel;have C1:Hid (Below w.heap.size w wr):=oE.out.trans (HN.out.1.mono (by omega))
  by_cases bc:i<3
  ·have hd:decide ((i:Int)<3)=true:=by simp;omega
   cases q with
   | none=>
    have HR:Hid (bK w (jA W p 3 (co W p)) (.returned (.bool false)) wr):=⟨by rw[HN.out.2.1,show 3 - i=(2 - i)+1 from by omega];rfl,C1.out⟩;simp only[Option.getD_none,Option.isSome_none];go_wp2;go_ret;exact HR.out
   | some k=>
    have hk:k<9:=HN.out.2.2 k rfl;simp only[Option.getD_some,Option.isSome_some]
    by_cases XL:k=p
    ·have HR:Hid (bK w (jA W p 3 (co W p)) (.returned (.bool true)) wr):=⟨by rw[HN.out.2.1,show 3 - i=(2 - i)+1 from by omega];show _=Ending.returned (.bool (if k=p then true else _));rw[aE XL],C1.out⟩;have KC:((k:Int)==(p:Int))=true:=by simp[XL]
     clear XL;go_wp2;go_ret;exact HR.out
    ·have HQ:Hid (jA W p 3 (co W p)=jA W p (3 - (i+1)) (co W k)):=by
      unfold Hid;rw[HN.out.2.1,show 3 - i=(3 - (i+1))+1 from by omega];show(if k=p then true else _)=_;rw[aA XL]
     have KC:((k:Int)==(p:Int))=false:=by rw[fq];omega
     have Bt:Hid (wr.rangeAt w.heap.size 0 (bd W)):=bB HN.out.1 (by omega) Xq.out;have HBr:=aw HN.out.1;clear XL HN;go_wp2_with (refine wpList_load_mid rfl 210 _ rfl w.heap.size 0 rfl (bd W) _ Bt.out underlying210 rfl vc.out ?_);refine(t8 _ W HF.out k hk).mono ?_;rintro e w2 ⟨rfl,hB⟩;have fj:Hid (Below (w.heap.size+1) (w.alloc (.cells (bd W).toArray 210)) w2/\jA W p 3 (co W p)=jA W p (3 - (i+1)) (co W k)/\∀j,co W k=some j->j<9):=⟨HBr.out.trans (hB.mono (by have:=HBr.out.size;have:=HZ.out;omega)),HQ.out,λj hj=>Cb hj⟩;clear hB Bt;generalize co W k=q2 at fj ⊢;go_wp2;go_roundg (3 - (i+1))
     case measure=>omega
     case rel=>exact⟨i+1,q2,by go_num,by omega,aF,rfl,rfl,fj⟩
  ·have hd:decide ((i:Int)<3)=false:=by simp;omega
   have HR:Hid (bK w (jA W p 3 (co W p)) (.returned (.bool false)) wr):=⟨by rw[HN.out.2.1,show 3 - i=0 from by omega];rfl,C1.out⟩;go_wp2;go_ret;exact HR.out
end
end
section
variable (w:World)
theorem ro {l:List Int}{p:Nat}(hp:p<l.length):(aJ l)[p]?=some (.int .i64 (l.getD p 0)):=by
 rw[List.getElem?_map,bW hp,List.getD_eq_getElem?_getD,bW hp];rfl
theorem gW (l:List Int):(aJ l).toArray.all (·.oneCell')=true:=all_oneCell_toArray (λv hv=>by
 obtain⟨x,_,rfl⟩:=bx.1 hv;rfl)
abbrev ui (w:World)(W:List Clm)(ai:List Int):World:=(w.alloc (.cells (bd W).toArray 210)).alloc (.cells (aJ ai).toArray 132)
theorem Bi (w:World)(W:List Clm)(ai:List Int):(ui w W ai).heap.size=w.heap.size+2:=by simp
theorem yI (w:World)(W:List Clm)(ai:List Int):Below w.heap.size w (ui w W ai):=(bo.alloc aF _).alloc (by simp) _
theorem QU (w:World)(W:List Clm)(ai:List Int):(ui w W ai).rangeAt w.heap.size 0 (bd W):=World.rangeAt_alloc (eA w _ _) _
theorem QT (w:World)(W:List Clm)(ai:List Int):(ui w W ai).rangeAt (w.heap.size+1) 0 (aJ ai):=by
 have:=eA (w.alloc (.cells (bd W).toArray 210)) (aJ ai) 132;simpa using this
theorem EB (W:List Clm)(hF:jz W)(p:Nat)(hp:p<9)(ai:List Int)(hc:ai.length=9):Calls prog 161 #[.agg (bd W).toArray,.int .i64 p,.agg (aJ ai).toArray] w λe w'=>ve w (cF W p ai) e w':=by
 have HZ:Hid ((ui w W ai).heap.size=w.heap.size+2):=Bi w W ai;have oE:Hid (Below w.heap.size w (ui w W ai)):=yI w W ai;have Ir:Hid ((ui w W ai).rangeAt w.heap.size 0 (bd W)):=QU w W ai;have J1:Hid ((ui w W ai).rangeAt (w.heap.size+1) 0 (aJ ai)):=QT w W ai;have hl:=hF.1
 have HD:Hid (cF W p ai=if W[p].kd=1 then W[p].nu else if W[p].kd=2 then ai.getD p 0 else if W[p].kd=3 then eL.getD p 0 else if m8 p then ai.getD p 0 else eL.getD p 0):=by
  unfold Hid cF;have:W.getD p Clm.none=W[p]:=by rw[List.getD_eq_getElem?_getD,bW (by omega)];rfl
  rw[this]
 have HK:Hid ((bd W)[p*7+4]?=some (.int .i64 W[p].kd)/\(bd W)[p*7+4+1]?=some (.int .i64 W[p].nu)):=⟨by rw[fP (by omega) (by omega)];rfl,by rw[show p*7+4+1=p*7+5 from rfl,fP (by omega) (by omega)];rfl⟩;have HCM:Hid ((aJ ai)[p]?=some (.int .i64 (ai.getD p 0))):=ro (by omega);have HIN:Hid ((aJ eL)[p]?=some (.int .i64 (eL.getD p 0))):=ro (by show p<9;omega);have Gd:Hid ((prog.info? 132).map (·.size)=some (aJ eL).toArray.size):=Tryz.sizeS;have Yh:Hid ((aJ eL).toArray.all (·.oneCell')=true):=gW eL;have ml:(p:Int)<9:=by omega
 generalize W[p].kd=kd at HD HK;generalize W[p].nu=nu at HD HK;clear hF hl;go_enter func161,ntmps161;go_wp2_with fail;refine(sK _).mono ?_;rintro e w1 ⟨rfl,hB⟩;have eu:Hid (Below (w.heap.size+2) (ui w W ai) w1):=hB.mono (by have:=HZ.out;simp at this ⊢);have gA:w.heap.size+2<=w1.heap.size:=by have:=eu.out.size;have:=HZ.out;omega
 clear hB;have hzA:w.heap.size<w1.heap.size:=by omega
 have hzB:w.heap.size+1<w1.heap.size:=by omega
 have q0:w1.cell? ⟨w.heap.size,p*7+4,none⟩=some (.int .i64 kd):=by have:=bB eu.out (by omega) Ir.out (p*7+4) _ HK.out.1;rwa[Nat.zero_add] at this
 have q1:w1.cell? ⟨w.heap.size,p*7+4+1,none⟩=some (.int .i64 nu):=by have:=bB eu.out (by omega) Ir.out (p*7+4+1) _ HK.out.2;rwa[Nat.zero_add] at this
 have q2:w1.cell? ⟨w.heap.size+1,p,none⟩=some (.int .i64 (ai.getD p 0)):=by have:=bB eu.out (by omega) J1.out p _ HCM.out;rwa[Nat.zero_add] at this
 have q3:(w1.alloc (.cells (aJ eL).toArray 132)).cell? ⟨w1.heap.size,p,none⟩=some (.int .i64 (eL.getD p 0)):=Ca w1 _ _ (by rw[List.getElem?_toArray];exact HIN.out);have vb:Hid (Below w.heap.size w (w1.alloc (.cells (aJ eL).toArray 132))):=(oE.out.trans (eu.out.mono (by omega))).alloc (by omega) _;generalize ai.getD p 0=cv at q2 HD;generalize eL.getD p 0=ivv at q3 HD;have M5:Hid (9=(aJ eL).toArray.size):=rfl;generalize (aJ eL).toArray=IA at q3 vb Gd Yh M5 ⊢
 by_cases h1:kd=1
 ·have g1:(kd==1)=true:=by simp[h1]
  have HR:Hid (ve w (cF W p ai) (.returned (.int .i64 nu)) (w1.alloc (.cells IA 132))):=⟨by rw[HD.out,aE h1],vb.out⟩;clear h1 HD;go_wp2_with (refine aO rfl 132 _ _ rfl _ IA 132 rfl rfl Gd.out M5.out Yh.out ?_);go_ret;exact HR.out
 have g1:(kd==1)=false:=by simp[h1]
 by_cases h2:kd=2
 ·have g2:(kd==2)=true:=by simp[h2]
  have HR:Hid (ve w (cF W p ai) (.returned (.int .i64 cv)) (w1.alloc (.cells IA 132))):=⟨by rw[HD.out,aA h1,aE h2],vb.out⟩;clear h1 h2 HD;go_wp2_with (refine aO rfl 132 _ _ rfl _ IA 132 rfl rfl Gd.out M5.out Yh.out ?_);go_ret;exact HR.out
 have g2:(kd==2)=false:=by simp[h2]
 by_cases h3:kd=3
 ·have g3:(kd==3)=true:=by simp[h3]
  have HR:Hid (ve w (cF W p ai) (.returned (.int .i64 ivv)) (w1.alloc (.cells IA 132))):=⟨by rw[HD.out,aA h1,aA h2,aE h3],vb.out⟩;clear h1 h2 h3 HD;go_wp2_with (refine aO rfl 132 _ _ rfl _ IA 132 rfl rfl Gd.out M5.out Yh.out ?_);go_ret;exact HR.out
 have g3:(kd==3)=false:=by simp[h3]
 have oZ:Hid (cF W p ai=if m8 p then cv else ivv):=by unfold Hid;rw[HD.out,aA h1,aA h2,aA h3]
 clear h1 h2 h3 HD;go_wp2_with (refine aO rfl 132 _ _ rfl _ IA 132 rfl rfl Gd.out M5.out Yh.out ?_);refine(Ls _ p).mono ?_;rintro e w2 ⟨rfl,hB⟩;have nX:w1.heap.size<w2.heap.size:=by have:=hB.size;simp at this;omega
 have HBF:Hid (Below w.heap.size w w2):=vb.out.trans (hB.mono vb.out.size);have q2':w2.cell? ⟨w.heap.size+1,p,none⟩=some (.int .i64 cv):=(hB.cell (p:=⟨w.heap.size+1,p,none⟩) (by simp;omega)).trans ((((Below.refl w1.heap.size w1).alloc aF _).cell (p:=⟨w.heap.size+1,p,none⟩) hzB).trans q2);have q3':w2.cell? ⟨w1.heap.size,p,none⟩=some (.int .i64 ivv):=(hB.cell (p:=⟨w1.heap.size,p,none⟩) (by simp)).trans q3;clear hB q0 q1 q2 q3;cases hdn:m8 p with
 | true=>
  have HR:Hid (ve w (cF W p ai) (.returned (.int .i64 cv)) w2):=⟨by rw[oZ.out,hdn];rfl,HBF.out⟩;clear hdn;go_wp2;go_ret;exact HR.out
 | false=>
  have HR:Hid (ve w (cF W p ai) (.returned (.int .i64 ivv)) w2):=⟨by rw[oZ.out,hdn];rfl,HBF.out⟩;clear hdn;go_wp2;go_ret;exact HR.out
end
section
variable {aa:List PEl}{n:Int}{ss:List (List eb)}
section
variable (w:World)
theorem Hl (W:List Clm)(hF:jz W)(p0:Nat)(hp:p0<9)(ai:List Int)(hc:ai.length=9):Calls prog 150 #[.agg (bd W).toArray,.int .i64 p0,.agg (aJ ai).toArray] w λe w'=>ve w (dV W ai 9 p0) e w':=by
 have HZ:=aw (Bi w W ai);have oE:=aw (yI w W ai);have Ir:=aw (QU w W ai);have J1:=aw (QT w W ai);have HF:=aw hF;have vc:=aw (sizeW hF.1);have Uk:=aw (sizeS hc);clear hF;go_enter func150,ntmps150;go_wp2_with fail
 go_loopg [1,9] 9 (λgk pv iv wr=>∃(i p:Nat),iv=.int .i64 i/\pv=.int .i64 p/\i<=9/\9 - i<=gk/\p<9/\Hid (Below (w.heap.size+2) (ui w W ai) wr/\dV W ai 9 p0=dV W ai (9 - i) p))
 case atStart=>exact⟨0,p0,rfl,rfl,by omega,by omega,hp,bo,rfl⟩
 case round=>
  obtain⟨i,p,rfl,rfl,hi,fT,Pe,HN⟩:=hrel;have i8:w.heap.size+2<=wr.heap.size:=by have:=HN.out.1.size;have:=HZ.out;omega
  have C1:Hid (Below w.heap.size w wr):=oE.out.trans (HN.out.1.mono (by omega));have HWr:Hid (wr.rangeAt w.heap.size 0 (bd W)):=bB HN.out.1 (by omega) Ir.out;have ml:(p:Int)<9:=by omega
  by_cases bc:i<9
  ·have hd:decide ((i:Int)<9)=true:=by simp;omega
   have HV:Hid (dV W ai 9 p0=if jA W p 3 (co W p) then ai.getD p 0 else match co W p with | Option.none=>cF W p ai | some q=>dV W ai (9 - (i+1)) q):=by
    unfold Hid;rw[HN.out.2,show 9 - i=(9 - (i+1))+1 from by omega];rfl
   go_wp2_with (refine wpList_load_mid rfl 210 _ rfl w.heap.size 0 rfl (bd W) _ HWr.out underlying210 rfl vc.out ?_);refine(Lq _ W HF.out p Pe).mono ?_;rintro e w1 ⟨rfl,hB⟩;have eu:Hid (Below (w.heap.size+2) (ui w W ai) w1):=HN.out.1.trans (hB.mono (by omega));have GM:w.heap.size+2<=w1.heap.size:=by have:=eu.out.size;have:=HZ.out;omega
   have acx:Hid (Below w.heap.size w w1):=oE.out.trans (eu.out.mono (by omega));have Rh:Hid (w1.rangeAt w.heap.size 0 (bd W)):=bB eu.out (by omega) Ir.out;clear hB;cases ze:jA W p 3 (co W p) with
   | true=>
    have q2:w1.cell? ⟨w.heap.size+1,p,none⟩=some (.int .i64 (ai.getD p 0)):=by have:=bB eu.out (by omega) J1.out p _ (ro (by omega));rwa[Nat.zero_add] at this
    have HR:Hid (ve w (dV W ai 9 p0) (.returned (.int .i64 (ai.getD p 0))) w1):=⟨by rw[HV.out,ze];rfl,acx.out⟩;clear ze HV;generalize ai.getD p 0=cv at q2 HR;go_wp2;go_ret;exact HR.out
   | false=>
    have HV2:Hid (dV W ai 9 p0=match co W p with | Option.none=>cF W p ai | some q=>dV W ai (9 - (i+1)) q):=by unfold Hid;rw[HV.out,ze];rfl
    clear ze HV HN HWr C1;go_wp2_with (refine wpList_load_mid rfl 210 _ rfl w.heap.size 0 rfl (bd W) _ Rh.out underlying210 rfl vc.out ?_);refine(t8 _ W HF.out p Pe).mono ?_;rintro e w2 ⟨rfl,hB⟩;have eM:Hid (Below (w.heap.size+2) (ui w W ai) w2):=eu.out.trans (hB.mono (by omega));have Wq:w.heap.size+2<=w2.heap.size:=by have:=eM.out.size;have:=HZ.out;omega
    have acy:Hid (Below w.heap.size w w2):=oE.out.trans (eM.out.mono (by omega));clear hB;cases qb:co W p with
    | none=>
     have VL:Hid (w2.rangeAt w.heap.size 0 (bd W)):=bB eM.out (by omega) Ir.out;have qK:Hid (w2.rangeAt (w.heap.size+1) 0 (aJ ai)):=bB eM.out (by omega) J1.out;have HV3:Hid (dV W ai 9 p0=cF W p ai):=by unfold Hid;rw[HV2.out,qb]
     clear qb HV2;simp only[Option.getD_none,Option.isSome_none];go_wp2_with (first | (refine wpList_load_mid rfl 210 _ rfl w.heap.size 0 rfl (bd W) _ VL.out underlying210 rfl vc.out ?_) | (refine wpList_load_mid rfl 132 _ rfl (w.heap.size+1) 0 rfl (aJ ai) _ qK.out underlying132 rfl Uk.out ?_));refine(EB _ W HF.out p Pe ai hc).mono ?_;rintro e w3 ⟨rfl,hB⟩;have HR:Hid (ve w (dV W ai 9 p0) (.returned (.int .i64 (cF W p ai))) w3):=⟨by rw[HV3.out],acy.out.trans (hB.mono (by omega))⟩;clear hB HV3;generalize cF W p ai=dv at HR ⊢;go_wp2;go_ret;exact HR.out
    | some q=>
     have KX:=Cb qb;have fj:Hid (Below (w.heap.size+2) (ui w W ai) w2/\dV W ai 9 p0=dV W ai (9 - (i+1)) q):=⟨eM.out,by rw[HV2.out,qb]⟩;clear qb HV2;simp only[Option.getD_some,Option.isSome_some];go_wp2;go_roundg (9 - (i+1))
     case measure=>omega
     case rel=>exact⟨i+1,q,by go_num,rfl,by omega,aF,KX,fj⟩
  ·have hd:decide ((i:Int)<9)=false:=by simp;omega
   have q2:wr.cell? ⟨w.heap.size+1,p,none⟩=some (.int .i64 (ai.getD p 0)):=by have:=bB HN.out.1 (by omega) J1.out p _ (ro (by omega));rwa[Nat.zero_add] at this
   have HR:Hid (ve w (dV W ai 9 p0) (.returned (.int .i64 (ai.getD p 0))) wr):=⟨by rw[HN.out.2,show 9 - i=0 from by omega];rfl,C1.out⟩;generalize ai.getD p 0=cv at q2 HR;go_wp2;go_ret;exact HR.out
structure SlRow (w:World)(Ut:Option Addr)(cc:Nat)(xs:List Value)(ss:List (List eb)):Prop where
 row:w.ownsRow 0 71 1 (.slice Ut ss.length cc) ss.length xs
 sels:Sels w 0 xs ss
 few:ss.length<=400
 short:∀cs∈ss,o9 cs
 fine:∀cs∈ss,∀x∈cs,∀p∈x.ps,p.fine
theorem SlRow.below {w w':World}{Ut:Option Addr}{cc:Nat}{xs:List Value}(h:SlRow w Ut cc xs ss)(hB:Below w.heap.size w w'):SlRow w' Ut cc xs ss:=
 ⟨aY h.row hB,h.sels.keep (iE hB _ _) (iE hB _ _),h.few,h.short,h.fine⟩
def YD (w:World)(r:Int × Bool)(e:Ending)(w':World):Prop:=e=.returned (.tuple #[.int .i64 r.1,.bool r.2])/\Below w.heap.size w w'
theorem Ie {i:Nat}(h:i<ss.length):eG aa n (ss.take (i+1))=hJ aa n (eG aa n (ss.take i)) ss[i]:=by
 unfold eG;rw[gj h,List.foldl_append];rfl
theorem FB:∀{ss:List (List eb)} {a:Int × Bool},(∀cs∈ss,o9 cs)->0<=a.1/\a.1<=160000000400->0<=(ss.foldl (hJ aa n) a).1/\(ss.foldl (hJ aa n) a).1<=160000000400
 | [],_,_,h=>h
 | cs :: ss,a,hs,h=>by
  rw[List.foldl_cons];refine FB (λx hx=>hs x (List.mem_cons_of_mem _ hx)) ?_;unfold hJ;split
  ·have h2:=mf (hs cs List.mem_cons_self) cs.length;rw[List.take_length] at h2;show 0<=max _ _/\max _ _<=_;omega
  ·exact h
theorem x8 (b:Nat)(a:Option Addr)(c:Nat)(aa:List PEl)(n:Int)(ly:Int)(Ut:Option Addr)(cc:Nat)(xs:List Value)(ss:List (List eb))(vd:Value)(hvd:∃ad nd cd,vd=.slice ad nd cd)(h:TRd w b a c aa)(ho:SlRow w Ut cc xs ss):
  Calls prog 157 #[.agg #[.int .i64 ly,.slice Ut ss.length cc,vd],.pointer (some ⟨b,1,none⟩),.int .i64 n] w λe w'=>YD w (eG aa n ss) e w':=by
 obtain⟨ad,nd,cd,rfl⟩:=hvd;have HT:=aw h;have HO:=aw ho;have bJ:=ho.few;have HWL:Hid (∀i,0<=(eG aa n (ss.take i)).1/\(eG aa n (ss.take i)).1<=160000000400):=λi=>FB (λx hx=>ho.short x (List.mem_of_mem_take hx)) ⟨by decide,by decide⟩;have eu:Hid (Below w.heap.size w (w.alloc (.cells #[.int .i64 ly,.slice Ut ss.length cc,.slice ad nd cd] 68))):=bo.alloc aF _;clear h ho;go_enter func157,ntmps157;go_wp2_with fail
 go_loopg [8,9,16] ss.length (λgk gv mv iv wr=>∃(i:Nat),iv=.int .i64 i/\i<=ss.length/\ss.length - i<=gk/\gv=.int .i64 (eG aa n (ss.take i)).1/\mv=.bool (eG aa n (ss.take i)).2/\Hid (Below w.heap.size w wr))
 case atStart=>exact⟨0,rfl,bm,by omega,rfl,rfl,eu.out⟩
 case round=>
  obtain⟨i,rfl,hi,fT,rfl,rfl,HN⟩:=hrel;have i8:=HN.out.size
  by_cases bc:i<ss.length
  ·have hd:decide ((i:Int)<(ss.length:Int))=true:=by simp;omega
   obtain⟨g,hg,di,gM⟩:=aX HO.out.row (by omega);subst hg;obtain⟨ac,ccc,ps,e1,e2,e3⟩:=vO HO.out.sels bc;have c0:=(HN.out.cell (p:=⟨g,i,none⟩) di).trans (gM _ _ e1);have fI:Hid (eG aa n (ss.take (i+1))=hJ aa n (eG aa n (ss.take i)) ss[i]):=Ie bc;have FG:Hid (ClRow w ac ccc ps ss[i]):=⟨e2,e3,(HO.out.short _ (bN bc)).1,(HO.out.short _ (bN bc)).2,HO.out.fine _ (bN bc)⟩;have FJ:=aw (HO.out.short _ (bN bc));have hw0:=HWL.out i;have lX:qS ss[i]<=160000000400:=by have:=mf FJ.out ss[i].length;rwa[List.take_length] at this
   clear e1 e2 e3 gM;generalize eG aa n (ss.take i)=a0 at fI hw0 ⊢;obtain⟨gr,mt⟩:=a0;simp only at hw0 ⊢;obtain⟨hw1,hw2⟩:=hw0;generalize ss[i]=cs at c0 fI FG FJ lX;have eM:Hid (Below w.heap.size w (wr.alloc (.cells #[.slice ac cs.length ccc] 71))):=HN.out.alloc i8 _;go_wp2_with fail;refine(zy b a c aa _ n ac ccc ps cs (HT.out.below eM.out) (FG.out.below eM.out)).mono ?_;rintro e w1 ⟨rfl,hB⟩;have gA:wr.heap.size<w1.heap.size:=by have:=hB.size;simp at this;omega
   have q0:w1.cell? ⟨wr.heap.size,0,none⟩=some (.slice ac cs.length ccc):=(hB.cell (p:=⟨wr.heap.size,0,none⟩) (by simp)).trans (au (heap_alloc_new wr _) rfl);have iP:Hid (Below w.heap.size w w1):=eM.out.trans (hB.mono (by simp;omega));have adR:=iP.out.size;clear hB c0 eM;cases hr:tU aa cs n with
   | false=>
    have gE:Hid (eG aa n (ss.take (i+1))=(gr,mt)):=by unfold Hid;rw[fI.out];unfold hJ;rw[hr];rfl
    clear hr fI;go_wp2;go_roundg (ss.length - (i+1))
    case measure=>omega
    case rel=>exact⟨i+1,by go_num,by omega,aF,by rw[gE.out],by rw[gE.out],iP⟩
   | true=>
    have gE:Hid (eG aa n (ss.take (i+1))=(max gr ((qS cs:Nat):Int),true)):=by unfold Hid;rw[fI.out];unfold hJ;rw[hr];rfl
    clear hr fI;have Vo:=FG.out.below iP.out;go_wp2_with fail;refine(Fc w1 0 ac ccc cs ps Vo.row Vo.comps FJ.out).mono ?_;rintro e w2 ⟨rfl,hB⟩;have zI:=aw (iP.out.trans (hB.mono adR));clear hB Vo;generalize qS cs=z at gE lX ⊢;go_wp2
    case inl=>
     go_roundg (ss.length - (i+1))
     case measure=>omega
     case rel=>exact⟨i+1,by go_num,by omega,aF,by rw[gE.out];show Value.int .i64 (z:Int)=Value.int .i64 (max gr (z:Int));congr 1;omega,by rw[gE.out],zI⟩
    case inr=>
     go_roundg (ss.length - (i+1))
     case measure=>omega
     case rel=>exact⟨i+1,by go_num,by omega,aF,by rw[gE.out];show Value.int .i64 gr=Value.int .i64 (max gr (z:Int));congr 1;omega,by rw[gE.out],zI⟩
  ·have hd:decide ((i:Int)<(ss.length:Int))=false:=by simp;omega
   obtain rfl:i=ss.length:=by omega
   rw[List.take_length];have HR:Hid (YD w (eG aa n ss) (.returned (.tuple #[.int .i64 (eG aa n ss).1,.bool (eG aa n ss).2])) wr):=⟨rfl,HN.out⟩;generalize (eG aa n ss).1=r1 at HR ⊢;generalize (eG aa n ss).2=r2 at HR ⊢;go_wp2;go_ret2;exact HR.out
end
end
section
variable {W:List Clm}{b aB n o p:Nat}{ly wt:Int}{w wr:World}
theorem iO {P:Program}{fn:Func}{s:Tmp}{t:TypeId}(h:fn.results=#[.cell s t])(tmps:Array Value)(hx:tmps.getD s undef=.pointer (some ⟨b,0,none⟩)){cs:List Value}{d:TypeDesc}(hc:w.rangeAt b 0 cs)(hu:P.underlying t=some d)(hd:d.isRow=true)(hi:(P.info? t).map (·.size)=some cs.length):
  (results fn tmps).run P w=.ok (.agg cs.toArray) w:=by
 have Ed:tmps[s]?.getD undef=.pointer (some ⟨b,0,none⟩):=by simpa using hx
 simp[results,h,Ed,asAddr,run_loadVar_mid w b 0 t cs d hc hu hd hi]
theorem dj (hb:aB<=b):∀(vs:List Value) (o:Nat) (wr:World),Below aB w wr->Below aB w (wr.setCells b o vs)
 | [],_,_,h=>h
 | v :: vs,o,wr,h=>dj hb vs (o+1) _ (h.setCell (by exact hb) v)
theorem f9 (w:World)(C:Array Value)(t:TypeId)(n:Nat)(hn:n<=C.size):(w.alloc (.cells C t)).there w.heap.size 0 n:=λj hj=>by
 rw[Nat.zero_add];refine⟨?_,aH (heap_alloc_new w _)⟩;rw[cell_of_row _ _ j C t (0,0) (heap_alloc_new w _)];simp;omega
theorem dH (hB:Below aB w wr)(hb:b<aB)(h:w.there b o n):wr.there b o n:=λj hj=>by
 obtain⟨h1,h2⟩:=h j hj;obtain⟨u,hu⟩:=Option.isSome_iff_exists.1 h1;have hl:=World.block_lt_of_cell? w _ hu;have he:=hB.block b (by omega);refine⟨by rw[hB.cell (p:=⟨b,o+j,none⟩) hb];exact h1,?_⟩;unfold World.frozen? at h2 ⊢;rw[he];exact h2
theorem rq {o' n':Nat}(h:w.there b o n)(h1:o<=o')(h2:o'+n'<=o+n):w.there b o' n':=λj hj=>by
 have:=h (o' - o+j) (by omega);rwa[show o+(o' - o+j)=o'+j from by omega] at this
theorem LM (h:w.rangeAt b 0 (bd W))(ht:w.there b 0 (W.length*7))(hp:p<W.length)(c:Clm):(w.setCells b (p*7) c.cells).rangeAt b 0 (bd (W.set p c)):=λj v hv=>by
 rw[Nat.zero_add]
 have hj:j<W.length*7:=by
  have:=(ee.1 hv).1;rwa[iM,List.length_set] at this
 have hi:j / 7<W.length:=by omega
 have jJ:(bd (W.set p c))[j / 7*7+j % 7]?=some v:=by rw[show j / 7*7+j % 7=j from by omega];exact hv
 rw[fP (by rw[List.length_set];exact hi) (by omega),List.getElem_set] at jJ
 by_cases he:p=j / 7
 ·rw[aE he] at jJ;have:=World.rangeAt_setCells_same w b (p*7) c.cells (rq ht (by omega) (by show p*7+7<=_;omega)) (j % 7) v jJ;rwa[show p*7+j % 7=j from by omega] at this
 ·rw[aA he] at jJ
  rw[World.cell?_setCells_out b c.cells (p*7) w ⟨b,j,none⟩ (λ_ _=>by
   show j<p*7∨p*7+7<=j;omega)]
  have:=h j v (by rw[<-show j / 7*7+j % 7=j from by omega,fP hi (by omega)];exact jJ);rwa[Nat.zero_add] at this
structure AfI (w:World)(ly:Int)(W:List Clm)(wr:World):Prop where
 rng:wr.rangeAt w.heap.size 0 (bd W)
 thr:wr.there w.heap.size 0 63
 lay:wr.cell? ⟨w.heap.size+1,0,none⟩=some (.int .i64 ly)
 res:wr.there (w.heap.size+2) 0 63
 below:Below w.heap.size w wr
 far:w.heap.size+3<=wr.heap.size
theorem AfI.go {w':World}(h:AfI w ly W wr)(hB:Below wr.heap.size wr w'):AfI w ly W w':=by
 have h1:=h.far;have h2:=h.below.size;exact⟨bB hB (by omega) h.rng,dH hB (by omega) h.thr,(hB.cell (p:=⟨w.heap.size+1,0,none⟩) (by show w.heap.size+1<_;omega)).trans h.lay,dH hB (by omega) h.res,h.below.trans (hB.mono h2),Nat.le_trans h1 hB.size⟩
theorem AfI.put (h:AfI w ly W wr)(hl:W.length=9)(hp:p<9)(c:Clm):AfI w ly (W.set p c) (wr.setCells w.heap.size (p*7) c.cells):=by
 refine⟨LM h.rng (by rw[hl];exact h.thr) (by omega) c,World.there_setCells h.thr _ _ _,?_,World.there_setCells h.res _ _ _,dj aF _ _ _ h.below,?_⟩
 ·rw[World.cell?_setCells_out w.heap.size c.cells (p*7) wr ⟨w.heap.size+1,0,none⟩ (λhb _=>absurd hb (by show¬(w.heap.size+1=w.heap.size);omega))];exact h.lay
 ·have:∀(vs:List Value) (o:Nat) (wx:World),(wx.setCells w.heap.size o vs).heap.size=wx.heap.size:=by
   intro vs
   induction vs with
   | nil=>intro o wx;rfl
   | cons v vs ih=>intro o wx;show((wx.setCell _ v).setCells _ _ vs).heap.size=_;rw[ih];simp
  rw[this];exact h.far
def YE (w:World)(W:List Clm)(e:Ending)(w':World):Prop:=e=.returned (.agg (bd W).toArray)/\Below w.heap.size w w'
theorem vF (W:List Clm):∀v∈bd W,v.oneCell'=true:=by
 intro v hv;unfold bd at hv;rw[List.mem_flatMap] at hv;obtain⟨c,_,hc⟩:=hv;unfold Clm.cells at hc;simp only[List.mem_cons,List.not_mem_nil,or_false] at hc;rcases hc with rfl | rfl | rfl | rfl | rfl | rfl | rfl<;>rfl
theorem KA {ds:List PDc}{i:Nat}(h:i<ds.length):(ds.take (i+1)).foldl (fl ly wt) W=fl ly wt ((ds.take i).foldl (fl ly wt) W) ds[i]:=by
 rw[gj h,List.foldl_append];rfl
theorem Mb {d:PDc}(h:jz W)(hd:d.fine):jz (fl ly wt W d):=by
 refine⟨by rw[Bc];exact h.1,λc hc=>?_⟩;unfold fl at hc;split at hc
 ·split at hc
  ·rcases List.mem_or_eq_of_mem_set hc with hc | rfl
   ·exact h.2 c hc
   ·exact hd.2
  ·exact h.2 c hc
 ·exact h.2 c hc
theorem tM:∀{ds:List PDc} {W:List Clm},jz W->(∀d∈ds,d.fine)->jz (ds.foldl (fl ly wt) W)
 | [],_,h,_=>h
 | d :: ds,W,h,hd=>by
  rw[List.foldl_cons];exact tM (Mb h (hd d List.mem_cons_self)) (λx hx=>hd x (List.mem_cons_of_mem _ hx))
end
theorem aeQ (a b:Bool)(c d e f g:Int):(#[.bool a,.bool b,.int .i64 c,.int .i64 d,.int .i64 e,.int .i64 f,.int .u8 g]:Array Value).all (·.oneCell')=true:=all_oneCell_toArray (cs:=[.bool a,.bool b,.int .i64 c,.int .i64 d,.int .i64 e,.int .i64 f,.int .u8 g]) (λu hu=>by
 simp only[List.mem_cons,List.not_mem_nil,or_false] at hu;rcases hu with rfl | rfl | rfl | rfl | rfl | rfl | rfl<;>rfl)
theorem Tryz.sizeCl:(Tryz.prog.info? 208).map (·.size)=some 7:=by kernel_rfl
theorem Kd (w:World)(W:List Clm)(hW:W.length=9)(ly:Int)(v1 v2:Value)(t1 t2 t3:TypeId)(Z:Array Value)(hZ:Z.size=63):AfI w ly W (((w.alloc (.cells (bd W).toArray t1)).alloc (.cells #[.int .i64 ly,v1,v2] t2)).alloc (.cells Z t3)):=by
 have e1:(w.alloc (.cells (bd W).toArray t1)).heap.size=w.heap.size+1:=by simp
 have e2:((w.alloc (.cells (bd W).toArray t1)).alloc (.cells #[.int .i64 ly,v1,v2] t2)).heap.size=w.heap.size+2:=by simp
 have hl:(bd W).toArray.size=63:=by rw[List.size_toArray,iM,hW]
 refine⟨World.rangeAt_alloc (World.rangeAt_alloc (eA w _ _) _) _,World.there_alloc (World.there_alloc (f9 w _ _ 63 (by omega)) _) _,?_,?_,((bo.alloc aF _).alloc (by simp) _).alloc (by simp;omega) _,by simp⟩
 ·rw[World.cell?_alloc_lt _ _ _ (by show w.heap.size+1<_;omega)];have:=Ca (w.alloc (.cells (bd W).toArray t1)) #[.int .i64 ly,v1,v2] t2 (k:=0) (v:=.int .i64 ly) rfl;rwa[e1] at this
 ·have:=f9 ((w.alloc (.cells (bd W).toArray t1)).alloc (.cells #[.int .i64 ly,v1,v2] t2)) Z t3 63 (by omega);rwa[e2] at this
section
variable (w:World)
theorem Hg (W:List Clm)(hF:jz W)(ly wt:Int)(sa:Option Addr)(sn sc:Nat)(ad:Option Addr)(cd:Nat)(qs:List Value)(ds:List PDc)(ho:w.ownsRow 0 220 5 (.slice ad ds.length cd) ds.length qs)(hk:Decs qs ds)(hfd:∀d∈ds,d.fine)(hl:ds.length<=400):
  Calls prog 158 #[.agg (bd W).toArray,.agg #[.int .i64 ly,.slice sa sn sc,.slice ad ds.length cd],.int .i64 wt] w λe w'=>YE w (ds.foldl (fl ly wt) W) e w':=by
 have HF:Hid (∀i,jz ((ds.take i).foldl (fl ly wt) W)):=λi=>tM hF (λd hd=>hfd d (List.mem_of_mem_take hd));have HO:Hid (w.ownsRow 0 220 5 (.slice ad ds.length cd) ds.length qs/\Decs qs ds/\∀d∈ds,d.fine):=⟨ho,hk,hfd⟩;clear hF ho hk hfd;go_enter func158,ntmps158;go_wp2_with fail
 go_loopg [15] ds.length (λgk iv wr=>∃i:Nat,iv=.int .i64 i/\i<=ds.length/\ds.length - i<=gk/\Hid (AfI w ly ((ds.take i).foldl (fl ly wt) W) wr))
 case atStart=>exact⟨0,rfl,bm,by omega,Kd w W (HF.out 0).1 ly _ _ _ _ _ _ rfl⟩
 case round=>
  obtain⟨i,rfl,hi,fT,HN⟩:=hrel;have KP:=HN.out.far;have i8:=HN.out.below.size
  by_cases bc:i<ds.length
  ·have hd:decide ((i:Int)<(ds.length:Int))=true:=by simp;omega
   obtain⟨g,hg,di,gM⟩:=aX HO.out.1 (by omega);subst hg;obtain⟨e0,e1,e2,e3,e4⟩:=II HO.out.2.1 bc;have c0:=(HN.out.below.cell (p:=⟨g,i*5,none⟩) di).trans (gM _ _ e0);have c1:=(HN.out.below.cell (p:=⟨g,i*5+1,none⟩) di).trans (gM _ _ e1);have c2:=(HN.out.below.cell (p:=⟨g,i*5+2,none⟩) di).trans (gM _ _ e2);have c3:=(HN.out.below.cell (p:=⟨g,i*5+3,none⟩) di).trans (gM _ _ e3);have c4:=(HN.out.below.cell (p:=⟨g,i*5+4,none⟩) di).trans (gM _ _ e4);have fI:Hid ((ds.take (i+1)).foldl (fl ly wt) W=fl ly wt ((ds.take i).foldl (fl ly wt) W) ds[i]):=KA bc;have UH:=HO.out.2.2 ds[i] (bN bc);have Xl:=aw (HF.out i);clear e0 e1 e2 e3 e4 gM;generalize ds[i]=d at c0 c1 c2 c3 c4 fI UH;obtain⟨pr,kd,nu,va,im⟩:=d;simp only at c0 c1 c2 c3 c4;obtain⟨hpr,hva⟩:=UH;simp only at hpr hva;generalize (ds.take i).foldl (fl ly wt) W=Wi at HN fI Xl;obtain⟨Wj,hWj⟩:∃Wj,(ds.take (i+1)).foldl (fl ly wt) W=Wj:=⟨_,rfl⟩;have Xw:=aw hWj;rw[hWj] at fI;clear hWj;have HNa:Hid (AfI w ly Wi (wr.alloc (.cells #[.int .u8 pr,.int .i64 kd,.int .i64 nu,.int .u8 va,.bool im] 220))):=HN.out.go (bo.alloc aF _);go_wp2_with fail;refine(mO _ pr hpr).mono ?_;rintro e w1 ⟨rfl,hB⟩;have kU:=aw (HNa.out.go hB);have gA:wr.heap.size<w1.heap.size:=by have:=hB.size;simp at this;omega
   have aaE:=kU.out.far;have d1:w1.cell? ⟨wr.heap.size,1,none⟩=some (.int .i64 kd):=(hB.cell (p:=⟨wr.heap.size,1,none⟩) (by simp)).trans (au (heap_alloc_new wr _) rfl);have d2:w1.cell? ⟨wr.heap.size,2,none⟩=some (.int .i64 nu):=(hB.cell (p:=⟨wr.heap.size,2,none⟩) (by simp)).trans (au (heap_alloc_new wr _) rfl);have d3:w1.cell? ⟨wr.heap.size,3,none⟩=some (.int .u8 va):=(hB.cell (p:=⟨wr.heap.size,3,none⟩) (by simp)).trans (au (heap_alloc_new wr _) rfl);have d4:w1.cell? ⟨wr.heap.size,4,none⟩=some (.bool im):=(hB.cell (p:=⟨wr.heap.size,4,none⟩) (by simp)).trans (au (heap_alloc_new wr _) rfl);have dl:=kU.out.lay;have hzl:w.heap.size+1<w1.heap.size:=by omega
   clear hB c0 c1 c2 c3 c4 HN HNa;cases ml:bP pr with
   | none=>
    have fj:Hid (AfI w ly Wj w1):=by
     have:Wj=Wi:=by rw[fI.out];unfold fl;simp only[ml]
     rw[this];exact kU.out
    clear ml fI;simp only[Option.getD_none,Option.isSome_none];go_wp2;go_roundg (ds.length - (i+1))
    case measure=>omega
    case rel=>exact⟨i+1,by go_num,by omega,aF,by unfold Hid;rw[Xw.out];exact fj.out⟩
   | some k=>
    have hk9:=ms ml;have qu:(k:Int)<9:=by omega
    have hWl:=Xl.out.1
    have HK:Hid ((bd Wi)[k*7]?=Wi[k].cells[0]?/\(bd Wi)[k*7+1]?=Wi[k].cells[1]?/\(bd Wi)[k*7+2]?=Wi[k].cells[2]?/\(bd Wi)[k*7+3]?=Wi[k].cells[3]?/\(bd Wi)[k*7+4]?=Wi[k].cells[4]?/\(bd Wi)[k*7+5]?=Wi[k].cells[5]?/\(bd Wi)[k*7+6]?=Wi[k].cells[6]?):=
     ⟨fP (j:=0) (by omega) (by omega),fP (by omega) (by omega),fP (by omega) (by omega),fP (by omega) (by omega),fP (by omega) (by omega),fP (by omega) (by omega),fP (by omega) (by omega)⟩
    have gE:Hid (Wj=if iW (mL ly wt ⟨pr,kd,nu,va,im⟩) Wi[k] then Wi.set k (mL ly wt ⟨pr,kd,nu,va,im⟩) else Wi):=by
     have:Wi.getD k Clm.none=Wi[k]:=by rw[List.getD_eq_getElem?_getD,bW (by omega)];rfl
     unfold Hid;rw[fI.out];unfold fl;simp only[ml];rw[this]
    clear ml fI;generalize Wi[k]=xk at HK gE;obtain⟨Rv,K4,El,JM,K8,Lk,Mj⟩:=xk;simp only[Option.getD_some,Option.isSome_some]
    have HC:Hid (∀wx,Below (w1.heap.size+1) (w1.alloc (.cells #[.bool true,.bool im,.int .i64 ly,.int .i64 wt,.int .i64 kd,.int .i64 nu,.int .u8 va] 208)).drew wx->wx.cell? ⟨w1.heap.size,0,none⟩=some (.bool true)/\wx.cell? ⟨w1.heap.size,1,none⟩=some (.bool im)/\wx.cell? ⟨w1.heap.size,2,none⟩=some (.int .i64 ly)/\wx.cell? ⟨w1.heap.size,3,none⟩=some (.int .i64 wt)/\wx.cell? ⟨w1.heap.size,4,none⟩=some (.int .i64 kd)/\wx.cell? ⟨w1.heap.size,5,none⟩=some (.int .i64 nu)/\wx.cell? ⟨w1.heap.size,6,none⟩=some (.int .u8 va)/\wx.cell? ⟨w.heap.size,k*7,none⟩=some (.bool Rv)/\wx.cell? ⟨w.heap.size,k*7+1,none⟩=some (.bool K4)/\wx.cell? ⟨w.heap.size,k*7+2,none⟩=some (.int .i64 El)/\wx.cell? ⟨w.heap.size,k*7+3,none⟩=some (.int .i64 JM)/\wx.cell? ⟨w.heap.size,k*7+4,none⟩=some (.int .i64 K8)/\wx.cell? ⟨w.heap.size,k*7+5,none⟩=some (.int .i64 Lk)/\wx.cell? ⟨w.heap.size,k*7+6,none⟩=some (.int .u8 Mj)):=λwx hb=>by
     have nw:(w1.alloc (.cells #[.bool true,.bool im,.int .i64 ly,.int .i64 wt,.int .i64 kd,.int .i64 nu,.int .u8 va] 208)).drew.heap[w1.heap.size]?=some (.cells #[.bool true,.bool im,.int .i64 ly,.int .i64 wt,.int .i64 kd,.int .i64 nu,.int .u8 va] 208):=heap_alloc_new w1 _;have hx:wx.heap[w1.heap.size]?=some (.cells #[.bool true,.bool im,.int .i64 ly,.int .i64 wt,.int .i64 kd,.int .i64 nu,.int .u8 va] 208):=(hb.block _ (by omega)).trans nw;have ML:(w1.alloc (.cells #[.bool true,.bool im,.int .i64 ly,.int .i64 wt,.int .i64 kd,.int .i64 nu,.int .u8 va] 208)).drew.rangeAt w.heap.size 0 (bd Wi):=World.rangeAt_alloc kU.out.rng _;have hr:wx.rangeAt w.heap.size 0 (bd Wi):=bB hb (by omega) ML;have hz:∀j v,(bd Wi)[j]?=some v->wx.cell? ⟨w.heap.size,j,none⟩=some v:=λj v hv=>by have:=hr j v hv;rwa[Nat.zero_add] at this
     obtain⟨f0,f1,f2,f3,f4,f5,f6⟩:=HK.out;exact⟨au hx rfl,au hx rfl,au hx rfl,au hx rfl,au hx rfl,au hx rfl,au hx rfl,hz _ _ f0,hz _ _ f1,hz _ _ f2,hz _ _ f3,hz _ _ f4,hz _ _ f5,hz _ _ f6⟩
    have H0:Hid (Below (w1.heap.size+1) (w1.alloc (.cells #[.bool true,.bool im,.int .i64 ly,.int .i64 wt,.int .i64 kd,.int .i64 nu,.int .u8 va] 208)).drew (w1.alloc (.cells #[.bool true,.bool im,.int .i64 ly,.int .i64 wt,.int .i64 kd,.int .i64 nu,.int .u8 va] 208)).drew):=bo;have HNb:Hid (AfI w ly Wi (w1.alloc (.cells #[.bool true,.bool im,.int .i64 ly,.int .i64 wt,.int .i64 kd,.int .i64 nu,.int .u8 va] 208)).drew):=kU.out.go (bo.alloc aF _).drew;have hzb:(w1.alloc (.cells #[.bool true,.bool im,.int .i64 ly,.int .i64 wt,.int .i64 kd,.int .i64 nu,.int .u8 va] 208)).drew.heap.size=w1.heap.size+1:=by simp[World.drew]
    have HZB:=aw hzb;clear hzb;go_upto_region 7 with fail
    go_cut [39] (λv wx=>v=.bool (iW (mL ly wt ⟨pr,kd,nu,va,im⟩) ⟨Rv,K4,El,JM,K8,Lk,Mj⟩)/\Hid (Below (w1.heap.size+1) (w1.alloc (.cells #[.bool true,.bool im,.int .i64 ly,.int .i64 wt,.int .i64 kd,.int .i64 nu,.int .u8 va] 208)).drew wx))
    case first=>
     go_region_held3 (λw'=>w'.cell? ⟨w1.heap.size,0,none⟩=some (.bool true)/\w'.cell? ⟨w1.heap.size,1,none⟩=some (.bool im)/\w'.cell? ⟨w1.heap.size,2,none⟩=some (.int .i64 ly)/\w'.cell? ⟨w1.heap.size,3,none⟩=some (.int .i64 wt)/\w'.cell? ⟨w1.heap.size,4,none⟩=some (.int .i64 kd)/\w'.cell? ⟨w1.heap.size,5,none⟩=some (.int .i64 nu)/\w'.cell? ⟨w1.heap.size,6,none⟩=some (.int .u8 va)/\w'.cell? ⟨w.heap.size,k*7,none⟩=some (.bool Rv)/\w'.cell? ⟨w.heap.size,k*7+1,none⟩=some (.bool K4)/\w'.cell? ⟨w.heap.size,k*7+2,none⟩=some (.int .i64 El)/\w'.cell? ⟨w.heap.size,k*7+3,none⟩=some (.int .i64 JM)/\w'.cell? ⟨w.heap.size,k*7+4,none⟩=some (.int .i64 K8)/\w'.cell? ⟨w.heap.size,k*7+5,none⟩=some (.int .i64 Lk)/\w'.cell? ⟨w.heap.size,k*7+6,none⟩=some (.int .u8 Mj)) (first | exact HC.out _ H0.out | exact HC.out _ HX.out)
      (first | (go_at_call 170;refine(Hi _ true im ly wt kd nu va Rv K4 El JM K8 Lk Mj).mono ?_;rintro e w2 ⟨rfl,dk⟩;have HX:Hid (Below (w1.heap.size+1) (w1.alloc (.cells #[.bool true,.bool im,.int .i64 ly,.int .i64 wt,.int .i64 kd,.int .i64 nu,.int .u8 va] 208)).drew w2):=dk.mono (by have:=HZB.out;omega)))
     all_goals
      go_wp2_with fail;go_meet;exact⟨rfl,HX⟩
    case rest=>
     obtain⟨rfl,HX⟩:=hcut;have RC:Hid (AfI w ly Wi wc):=HNb.out.go (HX.out.mono (by have:=HZB.out;omega));have GR:=RC.out.far;have hzx:w1.heap.size+1<=wc.heap.size:=by have:=HX.out.size;have:=HZB.out;omega
     clear d1 d2 d3 d4 dl;cases GL:iW (mL ly wt ⟨pr,kd,nu,va,im⟩) ⟨Rv,K4,El,JM,K8,Lk,Mj⟩ with
     | true=>
      have fj:Hid (AfI w ly Wj (wc.setCells w.heap.size (k*7) [.bool true,.bool im,.int .i64 ly,.int .i64 wt,.int .i64 kd,.int .i64 nu,.int .u8 va])):=by
       unfold Hid;rw[gE.out,GL,aE rfl];exact RC.out.put hWl hk9 _
      have HRC:Hid (wc.rangeAt w1.heap.size 0 [.bool true,.bool im,.int .i64 ly,.int .i64 wt,.int .i64 kd,.int .i64 nu,.int .u8 va]):=bB HX.out (by omega) (eA w1 _ _);obtain⟨Rj,ST⟩:∃Rj:List Value,Rj=[.bool true,.bool im,.int .i64 ly,.int .i64 wt,.int .i64 kd,.int .i64 nu,.int .u8 va]:=⟨_,rfl⟩;have bT:Rj.length=7:=by rw[ST];rfl
      have HO7:Hid (Rj.toArray.all (·.oneCell')=true):=by unfold Hid;rw[ST];exact aeQ true im ly wt kd nu va
      rw[<-ST] at HRC fj;have ur:Hid (wc.there w.heap.size (k*7) Rj.toArray.size):=(by unfold Hid;rw[show Rj.toArray.size=7 from(List.size_toArray).trans bT];exact rq RC.out.thr (by omega) (by omega));have vc:Hid ((prog.info? 208).map (·.size)=some Rj.length):=by unfold Hid;rw[bT];exact Tryz.sizeCl
      have ac2:Hid ((prog.info? 208).map (·.size)=some Rj.toArray.size):=by unfold Hid;rw[List.size_toArray];exact vc.out
      clear GL gE HC H0 HNb RC ST bT;go_wp2_with (first | (refine wpList_load_mid rfl 208 _ rfl w1.heap.size 0 rfl Rj _ HRC.out underlying208 rfl vc.out ?_) | (refine wpList_store_mid rfl 208 _ _ rfl w.heap.size (k*7) Rj.toArray rfl rfl ur.out ac2.out HO7.out ?_));go_roundg (ds.length - (i+1))
      case measure=>omega
      case rel=>exact⟨i+1,by go_num,by omega,aF,by unfold Hid;rw[Xw.out];exact fj.out⟩
     | false=>
      have fj:Hid (AfI w ly Wj wc):=by
       unfold Hid;rw[gE.out,GL];exact RC.out
      clear GL gE HC H0 HNb RC;go_wp2;go_roundg (ds.length - (i+1))
      case measure=>omega
      case rel=>exact⟨i+1,by go_num,by omega,aF,by unfold Hid;rw[Xw.out];exact fj.out⟩
  ·have hd:decide ((i:Int)<(ds.length:Int))=false:=by simp;omega
   obtain rfl:i=ds.length:=by omega
   rw[List.take_length] at HN;have Mz:Hid (jz (ds.foldl (fl ly wt) W)):=by have:=HF.out ds.length;rwa[List.take_length] at this
   obtain⟨Wn,Wk⟩:∃Wn,ds.foldl (fl ly wt) W=Wn:=⟨_,rfl⟩;rw[Wk] at HN Mz;have MH:=aw Wk;clear Wk;have FK:=aw (sizeW Mz.out.1);have HLN:Hid ((bd Wn).toArray.size=63):=by unfold Hid;rw[List.size_toArray,iM,Mz.out.1]
   have C8:Hid ((prog.info? 210).map (·.size)=some (bd Wn).toArray.size):=by unfold Hid;rw[List.size_toArray];exact FK.out
   have ur:Hid (wr.there (w.heap.size+2) 0 (bd Wn).toArray.size):=by unfold Hid;rw[HLN.out];exact HN.out.res
   have zK:=aw (all_oneCell_toArray (vF Wn));have Bs:Hid ((wr.setCells (w.heap.size+2) 0 (bd Wn)).rangeAt (w.heap.size+2) 0 (bd Wn)):=World.rangeAt_setCells_same wr _ 0 _ (by have:=ur.out;rwa[List.size_toArray] at this);have vb:Hid (Below w.heap.size w (wr.setCells (w.heap.size+2) 0 (bd Wn))):=dj (by omega) _ _ _ HN.out.below;go_wp2_with (first | (refine wpList_load_mid rfl 210 _ rfl w.heap.size 0 rfl (bd Wn) _ HN.out.rng underlying210 rfl FK.out ?_) | (refine wpList_store_mid rfl 210 _ _ rfl (w.heap.size+2) 0 (bd Wn).toArray rfl rfl ur.out C8.out zK.out ?_));exact bodyPost_ret (iO Tryz.results158 _ rfl Bs.out underlying210 rfl FK.out) rfl ⟨by rw[MH.out],vb.out⟩
end
section
variable {W:List Clm}{aa:List PEl}{n:Int}{w wr:World}
structure WnI (w:World)(W:List Clm)(wr:World):Prop where
 rng:wr.rangeAt (w.heap.size+2) 0 (bd W)
 thr:wr.there (w.heap.size+2) 0 63
 res:wr.there (w.heap.size+1) 0 63
 below:Below w.heap.size w wr
 far:w.heap.size+3<=wr.heap.size
theorem WnI.go {w':World}(h:WnI w W wr)(hB:Below wr.heap.size wr w'):WnI w W w':=by
 have h1:=h.far;have h2:=h.below.size;exact⟨bB hB (by omega) h.rng,dH hB (by omega) h.thr,dH hB (by omega) h.res,h.below.trans (hB.mono h2),Nat.le_trans h1 hB.size⟩
theorem eU (b:Nat):∀(vs:List Value) (o:Nat) (wx:World),(wx.setCells b o vs).heap.size=wx.heap.size
 | [],_,_=>rfl
 | v :: vs,o,wx=>by
  show((wx.setCell _ v).setCells _ _ vs).heap.size=_;rw[eU b vs];simp
theorem WnI.put (h:WnI w W wr){W':List Clm}(hl:W'.length=9):WnI w W' (wr.setCells (w.heap.size+2) 0 (bd W')):=by
 have e:(bd W').length=63:=by rw[iM,hl]
 refine⟨World.rangeAt_setCells_same wr _ 0 _ (by rw[e];exact h.thr),World.there_setCells h.thr _ _ _,World.there_setCells h.res _ _ _,dj (by omega) _ _ _ h.below,?_⟩;rw[eU];exact h.far
theorem Mq (w:World)(A:Array Value)(t1 t2 t3:TypeId)(Z Y:Array Value)(hY:Y.size=63)(hZ:Z=(bd (List.replicate 9 Clm.none)).toArray):WnI w (List.replicate 9 Clm.none) (((w.alloc (.cells A t1)).alloc (.cells Y t2)).alloc (.cells Z t3)):=by
 subst hZ;have e1:(w.alloc (.cells A t1)).heap.size=w.heap.size+1:=by simp
 have e2:((w.alloc (.cells A t1)).alloc (.cells Y t2)).heap.size=w.heap.size+2:=by simp
 refine⟨?_,?_,?_,((bo.alloc aF _).alloc (by simp) _).alloc (by simp;omega) _,by simp⟩
 ·have:=eA ((w.alloc (.cells A t1)).alloc (.cells Y t2)) (bd (List.replicate 9 Clm.none)) t3;rwa[e2] at this
 ·have:=f9 ((w.alloc (.cells A t1)).alloc (.cells Y t2)) (bd (List.replicate 9 Clm.none)).toArray t3 63 (by rw[List.size_toArray,iM,List.length_replicate];decide);rwa[e2] at this
 ·have:=f9 (w.alloc (.cells A t1)) Y t2 63 (by omega);rw[e1] at this;exact World.there_alloc this _
theorem LR {rs:List dx}{i:Nat}(h:i<rs.length):bL aa (rs.take (i+1)) n=lR aa n (bL aa (rs.take i) n) rs[i]:=by
 unfold bL;rw[gj h,List.foldl_append];rfl
theorem ub:∀{rs:List dx} {W:List Clm},jz W->(∀r∈rs,∀d∈r.ds,d.fine)->jz (rs.foldl (lR aa n) W)
 | [],_,h,_=>h
 | r :: rs,W,h,hd=>by
  rw[List.foldl_cons];refine ub ?_ (λx hx=>hd x (List.mem_cons_of_mem _ hx));unfold lR;split
  ·exact tM h (hd r List.mem_cons_self)
  ·exact h
theorem AL:jz (List.replicate 9 Clm.none):=by
 refine⟨by simp,λc hc=>?_⟩;rw[List.eq_of_mem_replicate hc];exact⟨by decide,by decide⟩
section
variable (w:World)
theorem Cr (b:Nat)(a:Option Addr)(c:Nat)(aa:List PEl)(n:Int)(ar:Option Addr)(cr:Nat)(xs:List Value)(rs:List dx)(h:TRd w b a c aa)(ho:RsRow w ar cr xs rs):
  Calls prog 149 #[.agg #[.slice ar rs.length cr],.pointer (some ⟨b,1,none⟩),.int .i64 n] w λe w'=>YE w (bL aa rs n) e w':=by
 have HT:Hid (TRd w b a c aa):=h;have HO:Hid (RsRow w ar cr xs rs):=ho;have bJ:=ho.few;have HF:Hid (∀i,jz (bL aa (rs.take i) n)):=λi=>ub AL (λr hr=>(ho.decl r (List.mem_of_mem_take hr)).2);clear h ho;go_enter func149,ntmps149;go_wp2_with fail
 go_loopg [15] rs.length (λgk iv wr=>∃i:Nat,iv=.int .i64 i/\i<=rs.length/\rs.length - i<=gk/\Hid (WnI w (bL aa (rs.take i) n) wr))
 case atStart=>exact⟨0,rfl,bm,by omega,Mq w _ _ _ _ _ _ rfl rfl⟩
 case round=>
  obtain⟨i,rfl,hi,fT,HN⟩:=hrel;have KP:=HN.out.far;have i8:=HN.out.below.size
  by_cases bc:i<rs.length
  ·have hd:decide ((i:Int)<(rs.length:Int))=true:=by simp;omega
   obtain⟨g,hg,di,gM⟩:=aX HO.out.row (by omega);subst hg;obtain⟨sa,sc,ps,e1,e2,e3⟩:=vN HO.out.ruls bc;obtain⟨e0,da,dc,qs,f1,f2,f3⟩:=uc HO.out.ruls bc;have c0:=(HN.out.below.cell (p:=⟨g,i*3,none⟩) di).trans (gM _ _ e0);have c1:=(HN.out.below.cell (p:=⟨g,i*3+1,none⟩) di).trans (gM _ _ e1);have c2:=(HN.out.below.cell (p:=⟨g,i*3+2,none⟩) di).trans (gM _ _ f1);have fI:Hid (bL aa (rs.take (i+1)) n=lR aa n (bL aa (rs.take i) n) rs[i]):=LR bc;have rz:Hid (SlRow w sa sc ps rs[i].ss):=⟨e2,e3,(HO.out.short _ (bN bc)).1,(HO.out.short _ (bN bc)).2,HO.out.fine _ (bN bc)⟩;have Q7:Hid (w.ownsRow 0 220 5 (.slice da rs[i].ds.length dc) rs[i].ds.length qs/\Decs qs rs[i].ds/\(∀d∈rs[i].ds,d.fine)/\rs[i].ds.length<=400):=⟨f2,f3,(HO.out.decl _ (bN bc)).2,(HO.out.decl _ (bN bc)).1⟩;have Xl:Hid (jz (bL aa (rs.take i) n)):=HF.out i;have HFj:Hid (jz (bL aa (rs.take (i+1)) n)):=HF.out (i+1);clear e0 e1 e2 e3 f1 f2 f3 gM;generalize rs[i]=r at c0 c1 c2 fI rz Q7;obtain⟨ly,ss,ds⟩:=r;simp only at c0 c1 c2;replace rz:Hid (SlRow w sa sc ps ss):=rz;replace Q7:Hid (w.ownsRow 0 220 5 (.slice da ds.length dc) ds.length qs/\Decs qs ds/\(∀d∈ds,d.fine)/\ds.length<=400):=Q7;generalize bL aa (rs.take i) n=Wi at HN fI Xl;obtain⟨Wj,hWj⟩:∃Wj,bL aa (rs.take (i+1)) n=Wj:=⟨_,rfl⟩;have Xw:Hid (bL aa (rs.take (i+1)) n=Wj):=hWj;rw[hWj] at fI HFj;clear hWj;have eM:Hid (Below w.heap.size w (wr.alloc (.cells #[.int .i64 ly,.slice sa ss.length sc,.slice da ds.length dc] 68))):=HN.out.below.alloc i8 _;go_wp2_with fail;refine(x8 _ b a c aa n ly sa sc ps ss (.slice da ds.length dc) ⟨_,_,_,rfl⟩ (HT.out.below eM.out) (rz.out.below eM.out)).mono ?_;rintro e w1 ⟨rfl,hB⟩;have kU:Hid (WnI w Wi w1):=(HN.out.go (bo.alloc aF _)).go hB;have gA:wr.heap.size<w1.heap.size:=by have:=hB.size;simp at this;omega
   have d0:w1.cell? ⟨wr.heap.size,0,none⟩=some (.int .i64 ly):=(hB.cell (p:=⟨wr.heap.size,0,none⟩) (by simp)).trans (au (heap_alloc_new wr _) rfl);have d1:w1.cell? ⟨wr.heap.size,1,none⟩=some (.slice sa ss.length sc):=(hB.cell (p:=⟨wr.heap.size,1,none⟩) (by simp)).trans (au (heap_alloc_new wr _) rfl);have d2:w1.cell? ⟨wr.heap.size,2,none⟩=some (.slice da ds.length dc):=(hB.cell (p:=⟨wr.heap.size,2,none⟩) (by simp)).trans (au (heap_alloc_new wr _) rfl);have aaE:=kU.out.far;clear hB c0 c1 c2 eM HN;have J3:Hid (Wj=if(eG aa n ss).2 then ds.foldl (fl ly (eG aa n ss).1) Wi else Wi):=fI.out;clear fI;generalize eG aa n ss=wm at J3 ⊢;obtain⟨wt,mt⟩:=wm;simp only at J3 ⊢;cases mt with
   | false=>
    have fj:Hid (WnI w Wj w1):=by
     have:Wj=Wi:=J3.out;rw[this];exact kU.out
    clear J3;go_wp2;go_roundg (rs.length - (i+1))
    case measure=>omega
    case rel=>exact⟨i+1,by go_num,by omega,aF,by unfold Hid;rw[Xw.out];exact fj.out⟩
   | true=>
    have gE:Hid (Wj=ds.foldl (fl ly wt) Wi):=J3.out;clear J3;have FK:Hid ((prog.info? 210).map (·.size)=some (bd Wi).length):=sizeW Xl.out.1;have acC:Hid (w1.ownsRow 0 220 5 (.slice da ds.length dc) ds.length qs):=aY Q7.out.1 kU.out.below;go_wp2_with (refine wpList_load_mid rfl 210 _ rfl (w.heap.size+2) 0 rfl (bd Wi) _ kU.out.rng underlying210 rfl FK.out ?_);refine(Hg w1 Wi Xl.out ly wt sa ss.length sc da dc qs ds acC.out Q7.out.2.1 Q7.out.2.2.1 Q7.out.2.2.2).mono ?_;rintro e w2 ⟨rfl,dk⟩;rw[<-gE.out];have RC:Hid (WnI w Wi w2):=kU.out.go dk;have fj:Hid (WnI w Wj (w2.setCells (w.heap.size+2) 0 (bd Wj))):=RC.out.put HFj.out.1;have bT:(bd Wj).toArray.size=63:=List.size_toArray.trans (by rw[iM,HFj.out.1]);have ur:Hid (w2.there (w.heap.size+2) 0 (bd Wj).toArray.size):=by unfold Hid;rw[bT];exact RC.out.thr
    have C8:Hid ((prog.info? 210).map (·.size)=some (bd Wj).toArray.size):=by unfold Hid;rw[bT];exact Tryz.sizeW
    have zK:Hid ((bd Wj).toArray.all (·.oneCell')=true):=all_oneCell_toArray (vF Wj);clear dk bT d0 d1 d2 gE FK;go_wp2_with (refine wpList_store_mid rfl 210 _ _ rfl (w.heap.size+2) 0 (bd Wj).toArray rfl rfl ur.out C8.out zK.out ?_);go_roundg (rs.length - (i+1))
    case measure=>omega
    case rel=>exact⟨i+1,by go_num,by omega,aF,by unfold Hid;rw[Xw.out];exact fj.out⟩
  ·have hd:decide ((i:Int)<(rs.length:Int))=false:=by simp;omega
   obtain rfl:i=rs.length:=by omega
   rw[List.take_length] at HN;have Mz:Hid (jz (bL aa rs n)):=by have:=HF.out rs.length;rwa[List.take_length] at this
   obtain⟨Wn,Wk⟩:∃Wn,bL aa rs n=Wn:=⟨_,rfl⟩;rw[Wk] at HN Mz;have MH:Hid (bL aa rs n=Wn):=Wk;clear Wk;have FK:Hid ((prog.info? 210).map (·.size)=some (bd Wn).length):=sizeW Mz.out.1;have bT:(bd Wn).toArray.size=63:=List.size_toArray.trans (by rw[iM,Mz.out.1]);have C8:Hid ((prog.info? 210).map (·.size)=some (bd Wn).toArray.size):=by unfold Hid;rw[bT];exact Tryz.sizeW
   have ur:Hid (wr.there (w.heap.size+1) 0 (bd Wn).toArray.size):=by unfold Hid;rw[bT];exact HN.out.res
   have zK:Hid ((bd Wn).toArray.all (·.oneCell')=true):=all_oneCell_toArray (vF Wn);have Bs:Hid ((wr.setCells (w.heap.size+1) 0 (bd Wn)).rangeAt (w.heap.size+1) 0 (bd Wn)):=World.rangeAt_setCells_same wr _ 0 _ (by have:=ur.out;rwa[show(bd Wn).toArray.size=(bd Wn).length from List.size_toArray] at this);have vb:Hid (Below w.heap.size w (wr.setCells (w.heap.size+1) 0 (bd Wn))):=dj (by omega) _ _ _ HN.out.below;clear bT;go_wp2_with (first | (refine wpList_load_mid rfl 210 _ rfl (w.heap.size+2) 0 rfl (bd Wn) _ HN.out.rng underlying210 rfl FK.out ?_) | (refine wpList_store_mid rfl 210 _ _ rfl (w.heap.size+1) 0 (bd Wn).toArray rfl rfl ur.out C8.out zK.out ?_));exact bodyPost_ret (iO Tryz.results149 _ rfl Bs.out underlying210 rfl FK.out) rfl ⟨by rw[MH.out],vb.out⟩
end
end
end Go.Proofs.YtblfffbmklkhmabGreat
