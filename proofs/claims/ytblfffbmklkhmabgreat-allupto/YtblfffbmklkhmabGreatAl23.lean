/- Own work. -/
import Derived.Test.YtblfffbmklkhmabGreatAl22
set_option maxRecDepth 100000
set_option maxHeartbeats 40000000
namespace Go.Proofs.YtblfffbmklkhmabGreat
open Go.RowKit Go.Proofs.Tryz
theorem Ho {PS:World->Value->YS->List Nat->(Nat->Prop)->Prop}{Q:fu->YS->List Nat->YS->List Nat->Prop}(hP:cP PS Q)(w0:World)(G:Nat->Prop)(w:World)(b:Nat)(X:YS)(st:List Nat)(px:Value)(d:Nat)(K:gK)(hq:PQ2 PS w0 G w b X st X px d K)(a:Option Addr)(c:Nat)(L:List Nat)
  (ho:w.ownsRow 0 3 1 (.slice a L.length c) L.length (bq L)) (hL:L.length<=24) (hs:K.ls.length<=24) (hH:(∃k∈L,fm X.T X.shn k=true)->∀k∈K.ls,k ∉ L->fm X.T X.shn k=true) :
  Calls prog 49 #[.pointer (some ⟨b,0,none⟩),.slice a L.length c] w λe w'=>e=.returned (.bool true)/\Below w.heap.size w w':=by
 have HP:=aw hP;have HQ:=aw hq;have HO:=aw ho;have HH:=aw hH;obtain⟨av,cs,WK⟩:=aK hq.seen;have HVS:=aw WK;have HB:Hid (∀wr,Below w.heap.size w wr->wr.heap[b]?=some (.cells #[px,.pointer (some ⟨d,0,none⟩),K.vm,K.vy,.int .i64 K.cnt,K.vs,.bool K.held] 56 (0,0))):=λwr hb=>(hb.block b (bG.1 HQ.out.pb.blk).1).trans HQ.out.pb.blk
 have MH:Hid (∀(n:Int) wr,Below w.heap.size w wr->Calls prog 87 #[.pointer (some ⟨d,0,none⟩),.int .i64 n] wr λe w'=>e=.returned (.bool (fm X.T X.shn n))/\w'=wr):=λn wr hb=>by
  obtain⟨F,hr⟩:=(HQ.out.below HP.out hb).rs;exact Mv hr n
 clear hq ho hH hP WK;go_enter func49,ntmps49;go_wp2_with fail
 go_loopg [5,6] L.length (λgk zv iv wr=>∃(i:Nat) (z:Bool),zv=.bool z/\iv=.int .i64 i/\i<=L.length/\L.length - i<=gk/\Hid (Below w.heap.size w wr/\(z=true->∃k∈L,fm X.T X.shn k=true)))
 case atStart=>exact⟨0,false,rfl,rfl,bm,by omega,bo,λh=>by cases h⟩
 case round=>
  obtain⟨i,z,rfl,rfl,hi,fT,HI⟩:=hrel
  by_cases bc:i<L.length
  ·have hd:decide ((i:Int)<(L.length:Int))=true:=by simp;omega
   have jQ:(i:Int)<(L.length:Int):=by omega
   have b1:wr.cell? ⟨b,1,none⟩=some (.pointer (some ⟨d,0,none⟩)):=au (HB.out wr HI.out.1) rfl;obtain⟨g,hg,di,hc⟩:=aX (aY HO.out HI.out.1) (by omega);subst hg;have q1:wr.cell? ⟨g,i,none⟩=some (.int .i64 L[i]):=hc i _ (by rw[List.getElem?_map,bW bc];rfl);have RR:Hid (∀m,Calls prog 87 #[.pointer (some ⟨d,0,none⟩),.int .i64 L[i]] (wr.drewN m) λe w'=>e=.returned (.bool (fm X.T X.shn L[i]))/\w'=wr.drewN m):=λm=>MH.out L[i] _ (dE HI.out.1 m)
   have iQ:Hid (∀m,Below w.heap.size w (wr.drewN m)/\((z||fm X.T X.shn L[i])=true->∃k∈L,fm X.T X.shn k=true)):=λm=>⟨dE HI.out.1 m,λh=>by
    rw[Bool.or_eq_true] at h;rcases h with h | h
    ·exact HI.out.2 h
    ·exact⟨L[i],bN bc,h⟩⟩
   clear hc HI;generalize fm X.T X.shn L[i]=r at RR iQ;generalize L[i]=o at q1 RR;go_upto_region 5 with fail;go_quiet ((go_at_call 87;exact Calls.quiet_of_same (RR.out _)));have fj:=iQ.out nq;clear RR iQ q1 b1;cases z<;>cases r
   all_goals
    go_wp2;go_roundg (L.length - (i+1))
    case measure=>omega
    case rel=>exact⟨i+1,_,rfl,by go_num,by omega,aF,fj⟩
  ·have hd:decide ((i:Int)<(L.length:Int))=false:=by simp;omega
   obtain⟨wo,rfl⟩:∃wo,wo=wr:=⟨_,rfl⟩;have HBO:=aw HI.out.1;have HZ:Hid (z=true->∀k∈K.ls,fQ L k=false->fm X.T X.shn k=true):=λh k hk hn=>HH.out (HI.out.2 h) k hk (λhm=>by rw[iB.2 hm] at hn;cases hn);clear HI;go_wp2_with fail
   go_loopg [8] K.ls.length (λgk iv wr=>∃(i:Nat),iv=.int .i64 i/\i<=K.ls.length/\K.ls.length - i<=gk/\Hid (Below w.heap.size w wr))
   case atStart=>exact⟨0,rfl,bm,by omega,HBO⟩
   case round=>
    obtain⟨i,rfl,hi,fT,HI⟩:=hrel;have b5:wr.cell? ⟨b,5,none⟩=some (.slice av K.ls.length cs):=by rw[<-HVS.out];exact au (HB.out wr HI.out) rfl
    by_cases B6:i<K.ls.length
    ·have iC:decide ((i:Int)<(K.ls.length:Int))=true:=by simp;omega
     have jQ:(i:Int)<(K.ls.length:Int):=by omega
     have b1:wr.cell? ⟨b,1,none⟩=some (.pointer (some ⟨d,0,none⟩)):=au (HB.out wr HI.out) rfl;have eo:wr.ownsRow 0 3 1 (.slice av K.ls.length cs) K.ls.length (bq K.ls):=by rw[<-HVS.out];exact aY HQ.out.seen HI.out
     obtain⟨g,hg,di,hc⟩:=aX eo (by omega);subst hg;have q1:wr.cell? ⟨g,i,none⟩=some (.int .i64 K.ls[i]):=hc i _ (by rw[List.getElem?_map,bW B6];rfl);have Re:=aw (aY HO.out HI.out);have RR:Hid (Calls prog 87 #[.pointer (some ⟨d,0,none⟩),.int .i64 K.ls[i]] wr λe w'=>e=.returned (.bool (fm X.T X.shn K.ls[i]))/\w'=wr):=MH.out _ _ HI.out;have Bo:Hid (z=true->fQ L K.ls[i]=false->fm X.T X.shn K.ls[i]=true):=λh1 h2=>HZ.out h1 _ (bN B6) h2;have F8:=aw (mj wr a c L K.ls[i] 0 Re.out hL);clear hc eo;generalize fm X.T X.shn K.ls[i]=r at RR Bo;generalize fQ L K.ls[i]=q at F8 Bo;generalize K.ls[i]=o at q1 RR F8;go_wp2_with fail;refine F8.out.mono ?_;rintro e w2 ⟨rfl,rfl⟩;obtain⟨wr,rfl⟩:∃wr,wr=w2:=⟨_,rfl⟩;go_wp2_with fail;refine RR.out.mono ?_;rintro e w2 ⟨rfl,rfl⟩;obtain⟨wr,rfl⟩:∃wr,wr=w2:=⟨_,rfl⟩;clear RR F8 q1 b1 b5
     by_cases hz:z=true/\q=false
     ·obtain⟨rfl,rfl⟩:=hz;obtain rfl:r=true:=Bo.out rfl rfl;clear Bo;go_wp2;go_roundg (K.ls.length - (i+1))
      case measure=>omega
      case rel=>exact⟨i+1,by go_num,by omega,aF,HI⟩
     ·cases z with
      | false=>
       clear hz Bo;go_wp2;go_roundg (K.ls.length - (i+1))
       case measure=>omega
       case rel=>exact⟨i+1,by go_num,by omega,aF,HI⟩
      | true=>
       cases q with
       | false=>exact absurd ⟨rfl,rfl⟩ hz
       | true=>
        clear hz Bo;go_wp2;go_roundg (K.ls.length - (i+1))
        case measure=>omega
        case rel=>exact⟨i+1,by go_num,by omega,aF,HI⟩
    ·have iC:decide ((i:Int)<(K.ls.length:Int))=false:=by simp;omega
     go_wp2;go_ret;exact⟨rfl,HI.out⟩
section
variable {L:List Nat}
section
variable {PS:World->Value->YS->List Nat->(Nat->Prop)->Prop}{Q:fu->YS->List Nat->YS->List Nat->Prop}{w0:World}{G:Nat->Prop}{w:World}{b:Nat}{X Y:YS}{st:List Nat}{px:Value}{d:Nat}{K:gK}
theorem PQ2.setAll (hP:cP PS Q)(h:PQ2 PS w0 G w b X st Y px d K){wx:World}(hB:Below w.heap.size w wx){v:Value}{l:List Nat}(ho:wx.ownsRow w.heap.size 3 1 v l.length (bq l))(c:Int)(he:Bool):
  PQ2 PS w0 G (((((wx.setCell ⟨b,2,none⟩ v).setCell ⟨b,3,none⟩ v).setCell ⟨b,5,none⟩ v).setCell ⟨b,4,none⟩ (.int .i64 c)).setCell ⟨b,6,none⟩ (.bool he)) b X st Y px d ⟨v,v,v,c,he,l,l,l⟩:=by
 have h1:=h.setMust hP hB (ba ho bm) (λj hj=>az (ho.lt j hj).1);have h2:PQ2 PS w0 G ((wx.setCell ⟨b,2,none⟩ v).setCell ⟨b,3,none⟩ v) b X st Y px d {K with vm:=v,lm:=l,vy:=v,ly:=l}:=h1.setB hP bo (o:=3) (u:=v) rfl h1.must h1.must h1.seen (λj hj=>ax (ax hj)) (λj hj=>ax (ax hj)) (λj hj=>ax (az (az hj)));have h3:PQ2 PS w0 G (((wx.setCell ⟨b,2,none⟩ v).setCell ⟨b,3,none⟩ v).setCell ⟨b,5,none⟩ v) b X st Y px d {K with vm:=v,lm:=l,vy:=v,ly:=l,vs:=v,ls:=l}:=h2.setB hP bo (o:=5) (u:=v) rfl h2.must h2.must h2.must (λj hj=>ax (ax hj)) (λj hj=>ax (ax hj)) (λj hj=>ax (ax hj));exact(h3.setCnt hP c).setHeld hP he
end
theorem yg (h:L.Pairwise (·<·)):L.Nodup:=h.imp λh=>by omega
theorem TL (h:L.Pairwise (·<·)){i:Nat}(hi:i+1<L.length):L[i]<L[i+1]:=List.pairwise_iff_getElem.1 h i (i+1) (by omega) hi (by omega)
theorem uy {PS:World->Value->YS->List Nat->(Nat->Prop)->Prop}{Q:fu->YS->List Nat->YS->List Nat->Prop}(hP:kV PS Q)(aB:Nat)(w:World)(B:Nat)(vD vI vM:Value)(nx:Nat)(ps:List j4)(es:List tg)(h:GW2 PS ISt aB w B vD vI vM nx ps es)(i:Nat)(hi:i<ps.length)(qb:nx<=274877906944):
  Calls prog 19 #[.pointer (some ⟨B,0,none⟩),.pointer (some ⟨ps[i].b,0,none⟩)] w λe w'=>KidPost2 PS ISt aB w B vD nx ps i ps[i] e w':=by
 obtain⟨i0,GV,gP,gQ,gR⟩:=info_parts Tryz.info3;have tO:=h.pd i hi;have lz:=aw h;have HP:=aw hP;have Yw:Hid (∀w1 w2 made' (G':Nat->Prop),GW2 PS ISt aB w1 B vD vI vM nx ps es->w1.heap.size<=w2.heap.size->(∀k,k<w1.heap.size->¬ps[i].G k->w2.heap[k]?=w1.heap[k]?)->PD2 PS ISt w2 ps[i].b made' G'->(∀k,G' k->ps[i].G k∨w1.heap.size<=k)->GW2 PS ISt aB w2 B vD vI vM nx (ps.set i ⟨ps[i].b,made',G'⟩) es):=λw1 w2 made' G' h1 h2 h3 h4 h5=>h1.turn HP.out.tocP hi h2 h3 h4 h5;have X6:Hid (∀k,ps[i].G k->aB<=k):=λk hk=>lz.out.baseG i hi k hk;have HLT:Hid (∀j (hj:j<ps.length) k,ps[j].G k->k<w.heap.size):=λj hj k hk=>(lz.out.pd j hj).lt k hk;clear h;obtain⟨p,hp⟩:∃p,ps[i]=p:=⟨_,rfl⟩;rw[hp] at tO Yw X6 ⊢;clear hp;obtain⟨X,st,pa,d,K,Fp,Fx,Fy,h1,h2,h3,h4,h5,h6⟩:=tO;have oE:=aw h1.pb.blk;have b0:w.cell? ⟨p.b,0,none⟩=some (.pointer (some pa)):=au oE.out rfl;have HJ:Hid (PJ2 PS w p.b X st X (.pointer (some pa)) d K Fp Fx Fy/\(∀k,Fp k∨Fx k∨Fy k->p.G k)/\(∀k,p.G k->k<w.heap.size)/\X.made=p.made):=⟨h1,h2,h3,h4⟩;have HW:=bZ h5 h6;have bJ:X.T.length<=24:=h1.rs.few;have Pa:K.lm.length<=24:=by have:=h5.1.len;omega
 have tQ:K.ly.length<=24:=by have:=h5.2.len;omega
 have aen:st.length<=24:=by have:=h6.lt.len;omega
 clear h1 h2 h3 h4 h5 h6 hP;go_enter func19,ntmps19;go_wp2_with fail;refine(HP.out.stl w (.pointer (some pa)) X st Fx HJ.out.1.ps).mono ?_;rintro e w1 ⟨L,a,c,rfl,bS,cH,hri,pu⟩;have HR:Hid (w1.ownsRow w.heap.size 3 1 (.slice a L.length c) L.length (bq L)/\L.Pairwise (·<·)/\∀k,k∈L↔k∈st):=⟨bS,hri,pu⟩;have eu:=aw cH;have HLL:=aw (yk (yg hri) HW.out.2.lt.1 pu);have OQ:L.length<=24:=by have:=HLL.out;omega
 have kY:Hid (PQ2 PS w1 p.G w1 p.b X st X (.pointer (some pa)) d K):=PQ2.start (HJ.out.1.keep HP.out.tocP cH.size (λk hk=>cH.block k (HJ.out.1.here k hk))) HJ.out.2.1;have MY:=aw (lz.out.keep HP.out.tocP cH);have rx:Hid (∀wr,Below w1.heap.size w1 wr->wr.heap[p.b]?=some (.cells #[.pointer (some pa),.pointer (some ⟨d,0,none⟩),K.vm,K.vy,.int .i64 K.cnt,K.vs,.bool K.held] 56 (0,0))):=λwr hb=>(hb.block p.b (bG.1 kY.out.pb.blk).1).trans kY.out.pb.blk;obtain⟨am,cm,yV⟩:=aK kY.out.must;obtain⟨ay,cy,hvy⟩:=aK kY.out.may;have yR:=bZ yV hvy;have Re:=aw (ba bS bm);clear bS cH hri pu b0 yV hvy;go_wp2_with fail
 go_loopg [6] L.length (λgk iv wr=>∃(i:Nat),iv=.int .i64 i/\i<=L.length/\L.length - i<=gk/\Hid (Below w1.heap.size w1 wr))
 case atStart=>exact⟨0,rfl,bm,by omega,bo⟩
 case round=>
  obtain⟨j,rfl,hj,fT,HI⟩:=hrel
  by_cases bc:j<L.length
  ·have hd:decide ((j:Int)<(L.length:Int))=true:=by simp;omega
   have jQ:(j:Int)<(L.length:Int):=by omega
   have b3:wr.cell? ⟨p.b,3,none⟩=some (.slice ay K.ly.length cy):=by rw[<-yR.out.2];exact au (rx.out wr HI.out) rfl
   obtain⟨g,hg,di,hc⟩:=aX (aY Re.out HI.out) (by omega);subst hg;have q1:wr.cell? ⟨g,j,none⟩=some (.int .i64 L[j]):=hc j _ (by rw[List.getElem?_map,bW bc];rfl)
   have F8:Hid (∀m,Calls prog 35 #[.slice ay K.ly.length cy,.int .i64 L[j]] (wr.drewN m) λe w'=>e=.returned (.bool true)/\w'=wr.drewN m):=λm=>by
    have eo:(wr.drewN m).ownsRow 0 3 1 (.slice ay K.ly.length cy) K.ly.length (bq K.ly):=by rw[<-yR.out.2];exact aY kY.out.may (dE HI.out m)
    have hx:fQ K.ly L[j]=true:=iB.2 (HW.out.2.may _ ((HR.out.2.2 _).1 (bN bc)));rw[<-hx];exact mj (wr.drewN m) ay cy K.ly L[j] 0 eo tQ
   have iQ:Hid (∀m,Below w1.heap.size w1 (wr.drewN m)):=λm=>dE HI.out m;cases j with
   | zero=>
    generalize L[0]=o at q1 F8;clear hc HI;go_upto_region 5 with fail;go_quiet ((go_at_call 35;exact Calls.quiet_of_same (F8.out _)));have fj:=aw (iQ.out nq);clear F8 iQ q1 b3;generalize wr.drewN nq=wy at fj ⊢;have oF:Hid (∀m,Below w1.heap.size w1 (wy.drewN m)):=λm=>dE fj.out m;go_upto_region 6 with fail;go_quiet (fail);go_wp2;go_roundg (L.length - (0+1))
    case measure=>omega
    case rel=>exact⟨0+1,by go_num,by omega,aF,oF.out _⟩
   | succ j=>
    have q2:wr.cell? ⟨g,j,none⟩=some (.int .i64 L[j]):=hc j _ (by rw[List.getElem?_map,bW (show j<L.length by omega)];rfl);have GY:=TL HR.out.2.1 bc;have gle:decide ((L[j+1]:Int)<=(L[j]:Int))=false:=by simp;omega
    have gl2:decide (L[j+1]<=L[j])=false:=by simp;omega
    have XJ:((j:Int)+1 - 1)=(j:Int):=by omega
    have MJ:(0:Int)<(j:Int)+1:=by omega
    have SX:(j:Int)+1<(L.length:Int):=by omega
    have hj4:(j:Int)<(L.length:Int):=by omega
    have iL:Hid (∀m,(wr.drewN m).cell? ⟨g,j,none⟩=some (.int .i64 L[j])/\(wr.drewN m).cell? ⟨g,j+1,none⟩=some (.int .i64 L[j+1])):=λm=>⟨q2,q1⟩;generalize L[j+1]=o at q1 F8 gle gl2 iL GY;generalize L[j]=o2 at q2 gle gl2 iL GY;clear hc HI GY;go_upto_region 5 with fail;go_quiet ((go_at_call 35;exact Calls.quiet_of_same (F8.out _)));have fj:=aw (iQ.out nq);obtain⟨q3,q4⟩:=iL.out nq;clear F8 iQ q1 q2 b3 iL;generalize wr.drewN nq=wy at fj q3 q4 ⊢;have oF:Hid (∀m,Below w1.heap.size w1 (wy.drewN m)):=λm=>dE fj.out m;go_upto_region 6 with fail;go_quiet (fail);go_wp2;go_roundg (L.length - (j+1+1))
    case measure=>omega
    case rel=>exact⟨j+1+1,by go_num,by omega,aF,oF.out _⟩
  ·have hd:decide ((j:Int)<(L.length:Int))=false:=by simp;omega
   have RA:=aw HI.out;obtain⟨wo,rfl⟩:∃wo,wo=wr:=⟨_,rfl⟩;clear HI;go_wp2_with fail
   go_loopg [8] K.lm.length (λgk iv wr=>∃(i:Nat),iv=.int .i64 i/\i<=K.lm.length/\K.lm.length - i<=gk/\Hid (Below w1.heap.size w1 wr))
   case atStart=>exact⟨0,rfl,bm,by omega,RA⟩
   case round=>
    obtain⟨j,rfl,hj,fT,HI⟩:=hrel;have b2:wr.cell? ⟨p.b,2,none⟩=some (.slice am K.lm.length cm):=by rw[<-yR.out.1];exact au (rx.out wr HI.out) rfl
    by_cases B6:j<K.lm.length
    ·have iC:decide ((j:Int)<(K.lm.length:Int))=true:=by simp;omega
     have jQ:(j:Int)<(K.lm.length:Int):=by omega
     have eo:wr.ownsRow 0 3 1 (.slice am K.lm.length cm) K.lm.length (bq K.lm):=by rw[<-yR.out.1];exact aY kY.out.must HI.out
     obtain⟨g,hg,di,hc⟩:=aX eo (by omega);subst hg;have q1:wr.cell? ⟨g,j,none⟩=some (.int .i64 K.lm[j]):=hc j _ (by rw[List.getElem?_map,bW B6];rfl)
     have F8:Hid (Calls prog 35 #[.slice a L.length c,.int .i64 K.lm[j]] wr λe w'=>e=.returned (.bool true)/\w'=wr):=by
      have hx:fQ L K.lm[j]=true:=iB.2 ((HR.out.2.2 _).2 (HW.out.2.must _ (bN B6)));unfold Hid;rw[<-hx];exact mj wr a c L K.lm[j] 0 (aY Re.out HI.out) OQ
     clear hc eo;generalize K.lm[j]=o at q1 F8;go_wp2_with fail;refine F8.out.mono ?_;rintro e w2 ⟨rfl,rfl⟩;obtain⟨wr,rfl⟩:∃wr,wr=w2:=⟨_,rfl⟩;clear F8 q1 b2;go_wp2;go_roundg (K.lm.length - (j+1))
     case measure=>omega
     case rel=>exact⟨j+1,by go_num,by omega,aF,HI⟩
    ·have iC:decide ((j:Int)<(K.lm.length:Int))=false:=by simp;omega
     obtain⟨wo,rfl⟩:∃wo,wo=wr:=⟨_,rfl⟩;have b4:wo.cell? ⟨p.b,4,none⟩=some (.int .i64 K.cnt):=au (rx.out wo HI.out) rfl;go_upto_region 14 with fail
     go_cut [83] (λpv wx=>pv=.bool false/\wx=wo)
     case first=>
      by_cases hc:0<=K.cnt
      ·have gc:decide (0<=K.cnt)=true:=by simpa using hc
       have gn:((L.length:Int) != K.cnt)=false:=by
        have h1:=HW.out.2.cnt hc;have h2:=HLL.out;rw[bne_eq_false_iff_eq];omega
       clear hc;go_wp2_with fail;go_meet;exact⟨rfl,rfl⟩
      ·have gc:decide (0<=K.cnt)=false:=by simpa using hc
       clear hc;go_wp2_with fail;go_meet;exact⟨rfl,rfl⟩
     case rest=>
      obtain⟨rfl,rfl⟩:=hcut;obtain⟨wo,rfl⟩:∃wo,wo=wc:=⟨_,rfl⟩;have b6:wo.cell? ⟨p.b,6,none⟩=some (.bool K.held):=au (rx.out wo HI.out) rfl;clear b4 b2
      have HHE:Hid (K.held=true->Calls prog 49 #[.pointer (some ⟨p.b,0,none⟩),.slice a L.length c] wo λe w'=>e=.returned (.bool true)/\Below wo.heap.size wo w'):=λhh=>by
       obtain⟨g1,g2⟩:=HW.out.2.held hh;exact Ho HP.out.tocP w1 p.G wo p.b X st (.pointer (some pa)) d K (kY.out.below HP.out.tocP HI.out) a c L (aY Re.out HI.out) OQ HW.out.2.seen (λ⟨k,hk,hw⟩ j hj hn=>g2 ⟨k,(HR.out.2.2 k).1 hk,hw⟩ j hj (λh=>hn ((HR.out.2.2 j).2 h)))
      go_upto_if 87 with fail
      go_cut [] (λwx=>Hid (Below w1.heap.size w1 wx))
      case first=>
       generalize K.held=he at b6 HHE ⊢;cases he with
       | false=>
        go_wp2_with fail;go_meet;exact HI
       | true=>
        go_wp2_with fail;refine(HHE.out (by trivial)).mono ?_;rintro e w2 ⟨rfl,oW⟩;have qp:=aw (HI.out.trans (oW.mono HI.out.size));clear oW;go_wp2_with fail;go_meet;exact qp
      case rest=>
       have qp:=aw hcut;clear hcut b6 HHE HI RA;obtain⟨wo,rfl⟩:∃wo,wo=wc:=⟨_,rfl⟩;have gA:=qp.out.size;have HOO:=aw (aY Re.out qp.out);go_upto_region 21 with fail
       go_cut [11] (λcv wx=>∃a1 c1,cv=.slice a1 L.length c1/\Hid (wx.ownsRow w1.heap.size 3 1 (.slice a1 L.length c1) L.length (bq L)/\Below w1.heap.size w1 wx))
       case first=>
        by_cases h0:a=none
        ·subst h0
         have hn:L.length=0/\c=0:=by
          rcases HOO.out.2 with⟨h,h2⟩ | ⟨_,_,_,h,_⟩
          ·injection h with _ h3 h4;exact⟨h2,h4⟩
          ·injection h with h;cases h
         obtain⟨zg,rfl⟩:=hn;have HL0:=aw (List.eq_nil_of_length_eq_zero zg);have MC:Hid (∃a1 c1,Value.slice none 0 0=.slice a1 L.length c1/\Hid (wo.ownsRow w1.heap.size 3 1 (.slice a1 L.length c1) L.length (bq L)/\Below w1.heap.size w1 wo)):=⟨none,0,by rw[zg],by rw[HL0.out];exact eB,qp.out⟩;have HX0:Hid (Value.slice none L.length 0=.slice none 0 0):=by unfold Hid;rw[zg]
         clear zg;go_wp2_with (first | (at_builtin;refine wpList_append_own_none rfl (.tmp 93) (.tmp 94) 28 rfl w1.heap.size 3 i0 1 underlying28 GV _ _ _ rfl eB HX0.out ?_));go_wp2_with fail;go_meet;exact MC.out
        ·obtain⟨g,rfl⟩:∃g,a=some ⟨g,0,none⟩:=by
          rcases HOO.out.2 with⟨h,_⟩ | ⟨g,_,_,h,_⟩
          ·injection h with h;exact absurd h h0
          ·injection h with h;exact⟨g,h⟩
         clear h0;have hc:=HOO.out.cells (g:=g) rfl;go_wp2_with (at_builtin;refine wpList_append_own _ rfl (.tmp 93) (.tmp 94) 28 rfl w1.heap.size 3 i0 (.int .i64 0) 1 8 underlying28 GV gP gQ gR rfl (by decide) _ _ _ rfl eB ⟨g,0,none⟩ L.length c (bq L) rfl (by simp[bq]) hc (sj _) ?c3 ?c4 ?c5 ?_)
         case c3=>unfold maxLen;omega
         case c4=>omega
         case c5=>exact gA
         intro v5 w5 D9 jn _;have cf:w5.ownsRow w1.heap.size 3 1 v5 L.length (bq L):=by simpa using D9
         have xr:Below w1.heap.size w1 w5:=qp.out.grown jn gA (λk hk=>by simp[Value.ownBlock] at hk);obtain⟨a5,c5,G3⟩:=aK cf;subst G3;have MC:=bZ cf xr;clear D9 jn cf xr hc;go_wp2_with fail;go_meet;exact⟨a5,c5,rfl,MC⟩
       case rest=>
        obtain⟨a1,c1,rfl,kJ⟩:=hcut;clear qp HOO gA;obtain⟨wo,rfl⟩:∃wo,wo=wc:=⟨_,rfl⟩;have pb:=rx.out wo kJ.out.2;have b2:wo.cell? ⟨p.b,2,none⟩=some K.vm:=au pb rfl;have b3:wo.cell? ⟨p.b,3,none⟩=some K.vy:=au pb rfl;have b4:wo.cell? ⟨p.b,4,none⟩=some (.int .i64 K.cnt):=au pb rfl;have b5:wo.cell? ⟨p.b,5,none⟩=some K.vs:=au pb rfl;have b6:wo.cell? ⟨p.b,6,none⟩=some (.bool K.held):=au pb rfl;have ez:∀k,wo.frozen? ⟨p.b,k,none⟩=false:=λ_=>aH pb;have jM:=(bG.1 pb).1;have HQ6:=aw (kY.out.setAll HP.out.tocP kJ.out.2 kJ.out.1 L.length true);clear pb;go_upto_region 27 with fail;obtain⟨W6,DV⟩:∃W6,W6=(((((wo.setCell ⟨p.b,2,none⟩ (.slice a1 L.length c1)).setCell ⟨p.b,3,none⟩ (.slice a1 L.length c1)).setCell ⟨p.b,5,none⟩ (.slice a1 L.length c1)).setCell ⟨p.b,4,none⟩ (.int .i64 L.length)).setCell ⟨p.b,6,none⟩ (.bool true)):=⟨_,rfl⟩;rw[<-DV] at HQ6 ⊢;clear DV b2 b3 b4 b5 b6 ez jM kJ
        have qo:Hid (∃G':Nat->Prop,GW2 PS ISt aB W6 B vD vI vM nx (ps.set i ⟨p.b,p.made,G'⟩) es/\Fr w1 W6 p.G/\∀k,G' k->p.G k∨w1.heap.size<=k):=by
         obtain⟨Fp,Fx,Fy,hj,hg,hf⟩:=HQ6.out;have hLT:LT X.T L:=⟨yg HR.out.2.1,λk hk=>HW.out.2.lt.2 k ((HR.out.2.2 k).1 hk)⟩
         have ad4:ISt X st ⟨.slice a1 L.length c1,.slice a1 L.length c1,.slice a1 L.length c1,L.length,true,L,L,L⟩:=by
          refine⟨HW.out.2.lt,λk hk=>(HR.out.2.2 k).1 hk,λk hk=>(HR.out.2.2 k).2 hk,λ_=>?_,?_,?_,OQ,λ_=>⟨λk hk=>(HR.out.2.2 k).2 hk,λ_ k hk hn=>absurd ((HR.out.2.2 k).1 hk) hn⟩⟩
          ·show((L.length:Nat):Int)=_;rw[HLL.out]
          ·show(-1:Int)<=((L.length:Nat):Int);omega
          ·show((L.length:Nat):Int)<=24;omega
         refine⟨nZ p.G w1 W6,Yw.out w1 W6 p.made _ MY.out hf.size hf.block ⟨X,st,pa,d,_,Fp,Fx,Fy,hj,λk hk=>⟨hg k hk,hj.here k hk⟩,λk hk=>hk.2,HJ.out.2.2.2,⟨hLT,hLT⟩,ad4⟩ (λk hk=>hk.1),hf,λk hk=>hk.1⟩
        clear HQ6;obtain⟨G',O5,IT,hG'⟩:=qo.out;have M0:=aw O5
        have Yk:Hid (W6.ownsRow 0 3 1 (.slice a L.length c) L.length (bq L)):=cZ Re.out (λk hk hl=>IT.block k hl (λhx=>by
         have h1:=HJ.out.2.2.1 k hx;have h2:=(HR.out.1.lt k hk).1;omega))
        have VK:Hid (∀j,(Value.slice a L.length c).ownBlock=some j->aB<=j/\¬tp B vD vI vM es j/\∀i' (Rs:i'<(ps.set i ⟨p.b,p.made,G'⟩).length),¬(ps.set i ⟨p.b,p.made,G'⟩)[i'].G j):=λj hj=>by
         have XJ:=(HR.out.1.lt j hj).1;have MJ:=(HR.out.1.lt j hj).2;refine⟨Nat.le_trans lz.out.baseW XJ,λhm=>by have:=lz.out.ltM j hm;omega,λi' Rs hx=>?_⟩;rw[List.getElem_set] at hx;split at hx
         ·rcases hG' j hx with h1 | h1
          ·have:=HJ.out.2.2.1 j h1;omega
          ·omega
         ·rw[List.length_set] at Rs;have:=HLT.out i' Rs j hx;omega
        have vw:Hid (Below aB w W6):=by
         refine(eu.out.mono lz.out.baseW).trans (IT.toBelow (by have:=eu.out.size;have:=lz.out.baseW;omega) (λk hk=>?_));have:=X6.out k hk;omega
        clear qo O5 IT hG' MY kY;have KN:=M0.out.cnt;go_wp2_with fail;refine(Jl W6 B vD vI vM nx a c L.length (bq L) es.length es.length (es.map tg.v) (es.map λe=>.int .i64 e.m) ⟨M0.out.wb,Yk.out,M0.out.rowI,M0.out.rowM,Fr.refl _ _,λj hj hm=>(VK.out j hj).2.1 (az (az (az (ax hm))))⟩ OQ (by omega) (by omega) (by omega)).mono ?_;intro e w3 dn;obtain⟨sW,sX,qt,fB⟩:=M0.out.own HP.out.tocP Yk.out OQ VK.out dn
        have iP:Hid (Below aB w w3):=by
         obtain⟨_,_,_,_,_,_,_,_,_,_,_,_,_,fr,_⟩:=dn;refine vw.out.trans (fr.toBelow (by have:=vw.out.size;have:=lz.out.baseW;omega) ?_);rintro k (hk | hk | hk | hk)
         ·exact lz.out.baseM k (ax hk)
         ·exact(VK.out k hk).1
         ·exact lz.out.baseM k (az (az (ax hk)))
         ·exact lz.out.baseM k (az (az (az (ax hk))))
        have HE:Hid (KidPost2 PS ISt aB w B vD nx ps i p (.returned (.bool true)) w3):=⟨rfl,iP.out,sW,sX,nx+1,G',qt,aF,fB⟩;obtain⟨rfl,_⟩:=dn;clear fB KN;go_wp2;go_ret;exact HE.out
end
section
variable {B aB i nx:Nat}{I:YS->List Nat->gK->Prop}{PS:World->Value->YS->List Nat->(Nat->Prop)->Prop}{Q:fu->YS->List Nat->YS->List Nat->Prop}{e:Ending}{ps:List j4}{vD:Value}{w w':World}
theorem um (X:YS)(n:Int)(on:Bool):(oD X n on).made=X.made/\(oD X n on).T=X.T:=by unfold oD;split<;>exact⟨rfl,rfl⟩
theorem KidPost2.from {w1:World}{p:j4}(hB:Below aB w w1)(h:KidPost2 PS I aB w1 B vD nx ps i p e w'):KidPost2 PS I aB w B vD nx ps i p e w':=by
 obtain⟨he,hb,hr⟩:=h;exact⟨he,hB.trans hb,hr⟩
theorem yH (hP:cP PS Q){vI vM:Value}{es:List tg}(h:GW2 PS I aB w B vD vI vM nx ps es)(hi:i<ps.length){pa:Addr}{d:Nat}{R:YS->List Nat->gK->Prop}(ht:TurnPost2 PS w ps[i].G ps[i].b (.pointer (some pa)) d R e w')(hR:∀X st K,R X st K->X.made=ps[i].made/\I X st K):KidPost2 PS I aB w B vD nx ps i ps[i] e w':=by
 obtain⟨rfl,X',cN,K',⟨Fp,Fx,Fy,hj,hg,hf⟩,hl,hr⟩:=ht;obtain⟨h1,h2⟩:=hR _ _ _ hr;exact⟨rfl,hf.toBelow h.baseW (h.baseG i hi),vI,vM,nx,nZ ps[i].G w w',es,Nat.le_succ _,h.turn hP hi hf.size (λk hk hn=>hf.block k hk hn) ⟨X',cN,pa,d,K',Fp,Fx,Fy,hj,λk hk=>⟨hg k hk,hj.here k hk⟩,λk hk=>hk.2,h1,hl,h2⟩ (λk hk=>hk.1)⟩
def YG (X:YS)(n:Int)(on:Bool)(X':YS)(cN:List Nat)(K':gK):Prop:=X'=oD X n on/\ISt X' cN K'
theorem Hq (hP:kV PS Q)(w:World)(B b:Nat)(X:YS)(st:List Nat)(pa:Addr)(d:Nat)(K:gK)(G Fp Fx Fy:Nat->Prop)
  (h:PJ2 PS w b X st X (.pointer (some pa)) d K Fp Fx Fy) (hG:∀k,Fp k∨Fx k∨Fy k->G k) (Ag:∀k,G k->k<w.heap.size) (lH:s9 X.T K) (hi:ISt X st K) (af n yy zz:Int) (S Tt:ByteArray) (on:Bool) :
  Calls prog 18 #[.pointer (some ⟨B,0,none⟩),.pointer (some ⟨b,0,none⟩),.agg #[.int .i64 12,.int .i64 af,.int .i64 n,.int .i64 yy,.int .i64 zz,.string S,.string Tt,.bool on]] w λe w'=>TurnPost2 PS w G b (.pointer (some pa)) d (YG X n on) e w':=by
 have HP:=aw hP;have HW:=bZ lH hi;have HG:=aw Ag;have H0:Hid (PQ2 PS (w.alloc (aR 12 af n yy zz S Tt on)) G (w.alloc (aR 12 af n yy zz S Tt on)) b X st X (.pointer (some pa)) d K):=PQ2.alloc hP.tocP h hG _;clear h hP lH hG Ag hi Fp Fx Fy;obtain⟨Fx,qD,qb⟩:=H0.out.prog HP.out.tocP;have tm:Hid (PS (w.alloc (aR 12 af n yy zz S Tt on)).drew (.pointer (some pa)) X st Fx):=HP.out.keep qD (λ_ _ _=>rfl) aF;have iQ:=aw qb;clear qD qb
 have HC:Hid (∀(wx:World) X1 bE Y1,PQ2 PS (w.alloc (aR 12 af n yy zz S Tt on)) G wx b X1 bE Y1 (.pointer (some pa)) d K->wx.cell? ⟨b,0,none⟩=some (.pointer (some pa))/\wx.cell? ⟨b,1,none⟩=some (.pointer (some ⟨d,0,none⟩))/\wx.cell? ⟨w.heap.size,2,none⟩=some (.int .i64 n)/\wx.cell? ⟨w.heap.size,7,none⟩=some (.bool on)):=λwx X1 bE Y1 hq=>
  ⟨au hq.pb.blk rfl,au hq.pb.blk rfl,au (hq.op HG.out) rfl,au (hq.op HG.out) rfl⟩
 have k0:(w.alloc (aR 12 af n yy zz S Tt on)).cell? ⟨w.heap.size,0,none⟩=some (.int .i64 12):=au (H0.out.op HG.out) rfl;have kY:=aw (H0.out.drew HP.out.tocP);obtain⟨y,hy⟩:∃y:Int,(if(bF X.T n).isSome then(0:Int) else 5)=y:=⟨_,rfl⟩;have HY:=aw hy;clear H0 hy;go_enter func18,ntmps18;go_upto_region 3 with fail;clear k0
 go_cut [7] (λyv wx=>yv=.int .i64 y/\Hid (PQ2 PS (w.alloc (aR 12 af n yy zz S Tt on)) G wx b (oD X n on) st X (.pointer (some pa)) d K))
 case first=>
  go_region_held3 (λw'=>w'.cell? ⟨b,0,none⟩=some (.pointer (some pa))/\w'.cell? ⟨b,1,none⟩=some (.pointer (some ⟨d,0,none⟩))/\w'.cell? ⟨w.heap.size,2,none⟩=some (.int .i64 n)/\w'.cell? ⟨w.heap.size,7,none⟩=some (.bool on)) (first | exact HC.out _ _ _ _ kY.out | exact HC.out _ _ _ _ HT.out)
   (first | (go_at_call 44;refine(HP.out.shw _ (.pointer (some pa)) X st Fx n on tm.out).mono ?_;rw[HY.out];rintro e w1 ⟨rfl,d9,fF⟩;have HT:Hid (PQ2 PS (w.alloc (aR 12 af n yy zz S Tt on)) G w1 b (oD X n on) st X (.pointer (some pa)) d K):=iQ.out w1 _ st d9 fF.un1;clear d9 fF))
  all_goals
   go_wp2_with fail;go_meet;exact⟨rfl,HT⟩
 case rest=>
  obtain⟨rfl,HT⟩:=hcut;have iL:=aw (HT.out.drew HP.out.tocP);obtain⟨Fy,KZ,UO⟩:=iL.out.ref HP.out.tocP;have Gc:Hid (RY wc.drew d X Fy/\∀w1 Y1,RY w1 d Y1 (cV Fy wc.drew)->Fr wc.drew w1 Fy->PQ2 PS (w.alloc (aR 12 af n yy zz S Tt on)) G w1 b (oD X n on) st Y1 (.pointer (some pa)) d K):=⟨KZ,UO⟩;clear KZ UO HT kY;go_upto_region 4 with fail
  go_cut [8] (λyv wx=>yv=.int .i64 y/\Hid (PQ2 PS (w.alloc (aR 12 af n yy zz S Tt on)) G wx b (oD X n on) st (oD X n on) (.pointer (some pa)) d K))
  case first=>
   go_region_held3 (λw'=>w'.cell? ⟨b,0,none⟩=some (.pointer (some pa))/\w'.cell? ⟨b,1,none⟩=some (.pointer (some ⟨d,0,none⟩))/\w'.cell? ⟨w.heap.size,2,none⟩=some (.int .i64 n)/\w'.cell? ⟨w.heap.size,7,none⟩=some (.bool on)) (first | exact HC.out _ _ _ _ iL.out | exact HC.out _ _ _ _ jI.out)
    (first | (go_at_call 45;refine(Mu Gc.out.1 n on).mono ?_;rw[HY.out];rintro e w2 ⟨rfl,xB,tN⟩;have jI:Hid (PQ2 PS (w.alloc (aR 12 af n yy zz S Tt on)) G w2 b (oD X n on) st (oD X n on) (.pointer (some pa)) d K):=Gc.out.2 w2 _ xB tN;clear xB tN))
   all_goals
    go_wp2_with fail;go_meet;exact⟨rfl,jI⟩
  case rest=>
   obtain⟨rfl,jI⟩:=hcut;have pb:=jI.out.pb.blk;have b6:wc.cell? ⟨b,6,none⟩=some (.bool K.held):=au pb rfl;have ez:∀k,wc.frozen? ⟨b,k,none⟩=false:=λ_=>aH pb;have jM:=(bG.1 pb).1
   have HE:Hid (TurnPost2 PS w G b (.pointer (some pa)) d (YG X n on) (.returned (.bool true)) (wc.setCell ⟨b,6,none⟩ (.bool false))):=by
    have hi:=HW.out.2;refine⟨rfl,_,st,_,(jI.out.setHeld HP.out.tocP false).from,by rw[(um X n on).2];exact HW.out.1,rfl,by rw[(um X n on).2];exact hi.lt,hi.must,hi.may,hi.cnt,hi.lo,hi.hi,hi.seen,λh=>by cases h⟩
   clear pb Gc iL;go_wp2_with fail;refine(bQ _ y).mono ?_;rintro e w5 ⟨rfl,rfl⟩;go_wp2;go_ret;exact HE.out
section
variable {PS:World->Value->YS->List Nat->(Nat->Prop)->Prop}{Q:fu->YS->List Nat->YS->List Nat->Prop}(aB:Nat)(w:World)(B:Nat)(vD vI vM:Value)(nx:Nat)(ps:List j4)(es:List tg)
theorem BY (hP:kV PS Q)(h:GW2 PS ISt aB w B vD vI vM nx ps es)(i:Nat)(hi:i<ps.length)(n:Int)(s:ByteArray):Calls prog 46 #[.pointer (some ⟨ps[i].b,0,none⟩),.int .i64 n,.string s] w λe w'=>KidPost2 PS ISt aB w B vD nx ps i ps[i] e w':=by
 obtain⟨X,st,pa,d,K,Fp,Fx,Fy,h1,h2,h3,h4,h5,h6⟩:=h.pd i hi;exact(uN hP w _ X st pa d K _ Fp Fx Fy h1 h2 h5 h6 n s).mono λe w' hp=>yH hP.tocP h hi hp λX' cN K' hr=>⟨by rw[hr.1];exact h4,by rw[hr.1];exact hr.2⟩
theorem BX (hP:kV PS Q)(h:GW2 PS ISt aB w B vD vI vM nx ps es)(i:Nat)(hi:i<ps.length)(n:Int):Calls prog 47 #[.pointer (some ⟨ps[i].b,0,none⟩),.int .i64 n] w λe w'=>KidPost2 PS ISt aB w B vD nx ps i ps[i] e w':=by
 obtain⟨X,st,pa,d,K,Fp,Fx,Fy,h1,h2,h3,h4,h5,h6⟩:=h.pd i hi;exact(EM hP w _ X st pa d K _ Fp Fx Fy h1 h2 h5 h6 n).mono λe w' hp=>yH hP.tocP h hi hp λX' cN K' hr=>⟨by rw[hr.1];exact h4,by rw[hr.1];exact hr.2⟩
theorem BW (hP:kV PS Q)(h:GW2 PS ISt aB w B vD vI vM nx ps es)(i:Nat)(hi:i<ps.length)(qb:nx<=274877906944)(kd af X Y Z:Int)(S Tt:ByteArray)(on:Bool)(hk:kd=12∨kd=13∨kd=14∨kd=15):
  Calls prog 18 #[.pointer (some ⟨B,0,none⟩),.pointer (some ⟨ps[i].b,0,none⟩),.agg #[.int .i64 kd,.int .i64 af,.int .i64 X,.int .i64 Y,.int .i64 Z,.string S,.string Tt,.bool on]] w λe w'=>KidPost2 PS ISt aB w B vD nx ps i ps[i] e w':=by
 by_cases h12:kd=12
 ·subst h12;obtain⟨U,st,pa,d,K,Fp,Fx,Fy,h1,h2,h3,h4,h5,h6⟩:=h.pd i hi;exact(Hq hP w B _ U st pa d K _ Fp Fx Fy h1 h2 h3 h5 h6 af X Y Z S Tt on).mono λe w' hp=>yH hP.tocP h hi hp λX' cN K' hr=>⟨by rw[hr.1,(um U X on).1];exact h4,hr.2⟩
 ·have lz:Hid (GW2 PS ISt aB (w.alloc (aR kd af X Y Z S Tt on)) B vD vI vM nx ps es):=h.keep hP.tocP (bo.alloc aF _);have HB:Hid (Below aB w (w.alloc (aR kd af X Y Z S Tt on))):=bo.alloc h.baseW _;have HP:=aw hP;have gg:=hk.resolve_left h12;have d0:(w.alloc (aR kd af X Y Z S Tt on)).cell? ⟨w.heap.size,0,none⟩=some (.int .i64 kd):=au (heap_alloc_new w _) rfl;have d2:(w.alloc (aR kd af X Y Z S Tt on)).cell? ⟨w.heap.size,2,none⟩=some (.int .i64 X):=au (heap_alloc_new w _) rfl;have d6:(w.alloc (aR kd af X Y Z S Tt on)).cell? ⟨w.heap.size,6,none⟩=some (.string Tt):=au (heap_alloc_new w _) rfl;clear h hP hk h12;rcases gg with rfl | rfl | rfl
  ·go_enter func18,ntmps18;go_wp2_with fail;refine(uy HP.out aB _ B vD vI vM nx ps es lz.out i hi qb).mono ?_;intro e w1 hp;have HE:=aw (hp.from HB.out);obtain⟨rfl,_⟩:=hp;go_wp2;go_ret;exact HE.out
  ·go_enter func18,ntmps18;go_wp2_with fail;refine(BY aB _ B vD vI vM nx ps es HP.out lz.out i hi X Tt).mono ?_;intro e w1 hp;have HE:=aw (hp.from HB.out);obtain⟨rfl,_⟩:=hp;go_wp2;go_ret;exact HE.out
  ·go_enter func18,ntmps18;go_wp2_with fail;refine(BX aB _ B vD vI vM nx ps es HP.out lz.out i hi X).mono ?_;intro e w1 hp;have HE:=aw (hp.from HB.out);obtain⟨rfl,_⟩:=hp;go_wp2;go_ret;exact HE.out
end
end
section
variable {B aB i nx:Nat}{es:List tg}{p:j4}{ps:List j4}{vD vI vM:Value}{w wr:World}
section
variable {PS:World->Value->YS->List Nat->(Nat->Prop)->Prop}{Q:fu->YS->List Nat->YS->List Nat->Prop}
theorem LL (hP:kV PS Q)(w:World)(b ae:Nat)(G:Nat->Prop)(h:PD2 PS ISt w b ae G)(n:Int)(s:ByteArray):
  Calls prog 46 #[.pointer (some ⟨b,0,none⟩),.int .i64 n,.string s] w λe w'=>Df PS ISt w b ae G e w':=by
 obtain⟨U,st,pa,d,K,Fp,Fx,Fy,h1,h2,h3,h4,h5,h6⟩:=h;subst h4;refine(uN hP w b U st pa d K G Fp Fx Fy h1 h2 h5 h6 n s).mono λe w' hp=>?_;obtain⟨rfl,X',cN,K',⟨Fp',Fx',Fy',hj,hg,hf⟩,hl,hX,hi⟩:=hp;subst hX;exact⟨rfl,⟨X',cN,pa,d,K',Fp',Fx',Fy',hj,λk hk=>⟨hg k hk,hj.here k hk⟩,λk hk=>hk.2,rfl,hl,hi⟩,hf⟩
def GS (PS:World->Value->YS->List Nat->(Nat->Prop)->Prop)(aB:Nat)(w:World)(B:Nat)(vD vI vM:Value)(nx:Nat)(ps:List j4)(es:List tg)(i:Nat)(p:j4)(wr:World):Prop:=
 Below aB w wr/\∃G',GW2 PS ISt aB wr B vD vI vM nx (ps.set i ⟨p.b,p.made,G'⟩) es
theorem GS.more (hP:cP PS Q)(hi:i<ps.length)(h:GS PS aB w B vD vI vM nx ps es i p wr):
  ∃G',PD2 PS ISt wr p.b p.made G'/\∀w2,PD2 PS ISt w2 p.b p.made (nZ G' wr w2)->Fr wr w2 G'->GS PS aB w B vD vI vM nx ps es i p w2:=by
 obtain⟨hB,G',hg⟩:=h;have hl:i<(ps.set i ⟨p.b,p.made,G'⟩).length:=by rw[List.length_set];exact hi
 have he:(ps.set i ⟨p.b,p.made,G'⟩)[i]=⟨p.b,p.made,G'⟩:=by simp
 have tO:=hg.pd i hl;rw[he] at tO;refine⟨G',tO,λw2 h2 hf=>?_⟩;have hb:=hg.baseG i hl;rw[he] at hb;have ht:=hg.turn hP hl (w':=w2) hf.size (by rw[he];exact λk hk hn=>hf.block k hk hn) (made':=p.made) (G':=nZ G' wr w2) (by rw[he];exact h2) (by rw[he];exact λk hk=>hk.1);rw[he,List.set_set] at ht;exact⟨hB.trans (hf.toBelow hg.baseW hb),_,ht⟩
theorem GS.kids (hP:cP PS Q)(hi:i<ps.length)(qb:nx<=274877906944)(h:GS PS aB w B vD vI vM nx ps es i p wr)(n:Int):
  Calls prog 15 #[.pointer (some ⟨B,0,none⟩),.pointer (some ⟨p.b,0,none⟩),.int .i64 n] wr λe w'=>KidPost2 PS ISt aB w B vD nx ps i p e w':=by
 obtain⟨hB,G',hg⟩:=h;have hl:i<(ps.set i ⟨p.b,p.made,G'⟩).length:=by rw[List.length_set];exact hi
 have he:(ps.set i ⟨p.b,p.made,G'⟩)[i]=⟨p.b,p.made,G'⟩:=by simp
 have hc:=pj hP aB wr B vD vI vM nx _ es hg i hl qb n;rw[he] at hc;refine hc.mono λe w' hp=>?_;obtain⟨GP,oW,sW,sX,FZ,G2,qt,hn,iD⟩:=hp;rw[List.set_set] at iD;exact⟨GP,hB.trans oW,sW,sX,FZ,G2,qt,hn,iD⟩
theorem DP (hP:kV PS Q)(hI:oH Q ISt)(aB:Nat)(w:World)(B:Nat)(vD vI vM:Value)(nx:Nat)(ps:List j4)(es:List tg)(h:GW2 PS ISt aB w B vD vI vM nx ps es)(i:Nat)(hi:i<ps.length)(qb:nx<=274877906944)(n:Int):
  Calls prog 20 #[.pointer (some ⟨B,0,none⟩),.pointer (some ⟨ps[i].b,0,none⟩),.int .i64 n,.int .i64 15] w λe w'=>KidPost2 PS ISt aB w B vD nx ps i ps[i] e w':=by
 have HP:=aw hP;have HI:=aw hI;have HM:Hid (∀{e0 wr},KidPost2 PS ISt aB w B vD nx ps i ps[i] e0 wr->∃G',PD2 PS ISt wr ps[i].b ps[i].made G'/\∀w2,PD2 PS ISt w2 ps[i].b ps[i].made (nZ G' wr w2)->Fr wr w2 G'->KidPost2 PS ISt aB w B vD nx ps i ps[i] (.returned (.bool true)) w2):=λhk=>hk.more HP.out.tocP hi;have H0:Hid (GS PS aB w B vD vI vM nx ps es i ps[i] w):=⟨bo,ps[i].G,by rw[show(⟨ps[i].b,ps[i].made,ps[i].G⟩:j4)=ps[i] from rfl,List.set_getElem_self hi];exact h⟩;obtain⟨p,CP⟩:∃p,ps[i]=p:=⟨_,rfl⟩;rw[CP] at HM H0 ⊢;clear h hP hI CP;have il:(⟨#[65,66,67,68,69,70,88,89,90]⟩:ByteArray).size=9:=rfl;go_enter func20,ntmps20;go_wp2_with fail
 go_loopg [9,10] 9 (λgk okv pv wr=>∃k:Nat,okv=.bool true/\pv=.int .i64 k/\k<=9/\9 - k<=gk/\Hid (GS PS aB w B vD vI vM nx ps es i p wr))
 case atStart=>exact⟨0,rfl,rfl,bm,by omega,H0⟩
 case round=>
  obtain⟨k,rfl,rfl,qu,fT,HK⟩:=hrel
  by_cases bc:k<9
  ·have hd:decide ((k:Int)<9)=true:=by simp;omega
   have h1:(0:Int)<=(k:Int):=by omega
   have h2:(k:Int)+1<=9:=by omega
   have h3:(k:Int)<=(k:Int)+1:=by omega
   obtain⟨G',tO,D5⟩:=HK.out.more HP.out.tocP hi;have VE:=aw tO;have iQ:=aw D5;clear tO D5 HK;go_wp2_with fail;refine(LL HP.out wr p.b p.made G' VE.out n _).mono ?_;rintro e w2 ⟨rfl,hpd2,bM⟩;have Ud:=aw (iQ.out w2 hpd2 bM);clear hpd2 bM;go_wp2;go_roundg (9 - (k+1))
   case measure=>omega
   case rel=>exact⟨k+1,rfl,by go_num,by omega,aF,Ud⟩
  ·have hd:decide ((k:Int)<9)=false:=by simp;omega
   go_wp2_with fail;refine(HK.out.kids HP.out.tocP hi qb n).mono ?_;intro e w1 hp;have HE:=aw hp;obtain⟨rfl,_⟩:=hp;clear HK;go_wp2_with fail
   go_loopg [9,11] 9 (λgk okv pv wr=>∃k:Nat,okv=.bool true/\pv=.int .i64 k/\k<=9/\9 - k<=gk/\Hid (KidPost2 PS ISt aB w B vD nx ps i p (.returned (.bool true)) wr))
   case atStart=>exact⟨0,rfl,rfl,bm,by omega,HE⟩
   case round=>
    obtain⟨k,rfl,rfl,qu,fT,HK⟩:=hrel
    by_cases bc:k<9
    ·have hd:decide ((k:Int)<9)=true:=by simp;omega
     have h1:(0:Int)<=(k:Int):=by omega
     have h2:(k:Int)+1<=9:=by omega
     have h3:(k:Int)<=(k:Int)+1:=by omega
     obtain⟨G',tO,D5⟩:=HM.out HK.out;have VE:=aw tO;have iQ:=aw D5;clear tO D5 HK;go_wp2_with fail;refine(LF HP.out.tocP HI.out wr p.b p.made G' VE.out n _).mono ?_;rintro e w2 ⟨rfl,hpd2,bM⟩;have Ud:=aw (iQ.out w2 hpd2 bM);clear hpd2 bM;go_wp2;go_roundg (9 - (k+1))
     case measure=>omega
     case rel=>exact⟨k+1,rfl,by go_num,by omega,aF,Ud⟩
    ·have hd:decide ((k:Int)<9)=false:=by simp;omega
     go_wp2;go_ret;exact HK.out
theorem EI2.kid {np M:Nat}{bs:List (Nat × Nat)}{c:Nat}(hi:i<ps.length)(CL:Below aB w wr)(hl:ps.length=np)(KS:∀p∈ps,p.made<=M)(GK:ps.map (λp=>(p.b,p.made))=bs){e:Ending}{w1:World}(h:KidPost2 PS ISt aB wr B vD nx ps i ps[i] e w1)(hc:nx+1<=c):EI2 PS ISt aB w B vD np M bs w1 c:=by
 obtain⟨_,mS,sW,sX,FZ,G',qt,hn',vk⟩:=h;refine⟨CL.trans mS,sW,sX,FZ,_,qt,vk,by rw[List.length_set];exact hl,λq hq=>?_,by omega,?_⟩
 ·rcases List.mem_or_eq_of_mem_set hq with hq | rfl
  ·exact KS q hq
  ·show ps[i].made<=M;exact KS _ (bN hi)
 ·rw[<-GK];apply List.ext_getElem?;intro t;rw[List.getElem?_map,List.getElem?_map,List.getElem?_set]
  by_cases ht:i=t
  ·subst ht;rw[aE rfl,aE hi,bW hi];rfl
  ·rw[aA ht]
theorem DN (hP:kV PS Q)(hI:oH Q ISt)(aB:Nat)(w:World)(B:Nat)(aD:Option Addr)(cD np M:Nat)(bs:List (Nat × Nat))(c:Nat)(h:EI2 PS ISt aB w B (.slice aD np cD) np M bs w c)(hnp:np<=131072)(hM:M<=200000)(hc:c<=131072):
  Calls prog 6 #[.pointer (some ⟨B,0,none⟩),.int .i64 15] w λe w'=>e=.returned (.bool true)/\∃c',EI2 PS ISt aB w B (.slice aD np cD) np M bs w' c'/\c'<=68719476736:=by
 have HP:=aw hP;have Xm:=aw hI;have H0:Hid (EI2 PS ISt aB w B (.slice aD np cD) np M bs w (c+0*262144)):=by simpa[Hid] using h
 clear h hP hI;go_enter func6,ntmps6;go_wp2_with fail
 go_loopg [5] np (λgk iv wr=>∃i:Nat,iv=.int .i64 i/\i<=np/\np - i<=gk/\Hid (EI2 PS ISt aB w B (.slice aD np cD) np M bs wr (c+i*262144)))
 case atStart=>exact⟨0,rfl,bm,by omega,H0⟩
 case round=>
  obtain⟨i,rfl,jQ,fT,HI⟩:=hrel
  have c0:wr.cell? ⟨B,0,none⟩=some (.slice aD np cD):=by
   obtain⟨_,vI,vM,nx,ps,es,hg,_⟩:=HI.out;exact au hg.wb.blk rfl
  by_cases bc:i<np
  ·have hd:decide ((i:Int)<(np:Int))=true:=by simp;omega
   obtain⟨b,m,HBM,hm⟩:∃b m,Hid (bs[i]?=some (b,m))/\m<=M:=by
    obtain⟨_,vI,vM,nx,ps,es,hg,hl,KS,_,GK⟩:=HI.out;have hi:i<ps.length:=by omega
    refine⟨ps[i].b,ps[i].made,?_,KS _ (bN hi)⟩;unfold Hid;rw[<-GK,List.getElem?_map,bW hi];rfl
   obtain⟨gD,hgD,q⟩:∃gD,aD=some ⟨gD,0,none⟩/\wr.cell? ⟨gD,i,none⟩=some (.pointer (some ⟨b,0,none⟩)):=by
    obtain⟨_,vI,vM,nx,ps,es,hg,hl,KS,_,GK⟩:=HI.out;have hi:i<ps.length:=by omega
    have hb:ps[i].b=b:=by
     have h1:=HBM.out;rw[<-GK,List.getElem?_map,bW hi] at h1;simp at h1;exact h1.1
    have eo:=hg.rowD;rw[hl] at eo;obtain⟨g,D2,_,hc⟩:=aX eo (by omega);refine⟨g,D2,hc i _ ?_⟩;rw[List.getElem?_map,bW hi,<-hb];rfl
   subst hgD
   have fI:Hid (Calls prog 19 #[.pointer (some ⟨B,0,none⟩),.pointer (some ⟨b,0,none⟩)] wr λe w'=>e=.returned (.bool true)/\EI2 PS ISt aB w B (.slice (some ⟨gD,0,none⟩) np cD) np M bs w' (c+i*262144+1)):=by
    obtain⟨CL,vI,vM,nx,ps,es,hg,hl,KS,qb,GK⟩:=HI.out;have hi:i<ps.length:=by omega
    have hb:ps[i].b=b:=by
     have h1:=HBM.out;rw[<-GK,List.getElem?_map,bW hi] at h1;simp at h1;exact h1.1
    have nz:=uy HP.out aB wr B _ vI vM nx ps es hg i hi (by omega);rw[hb] at nz;exact nz.mono λe w1 hp=>⟨hp.1,EI2.kid hi CL hl KS GK hp (by omega)⟩
   clear HI;go_wp2_with fail;refine fI.out.mono ?_;rintro e w0 ⟨rfl,hei⟩;have JW:=aw hei;clear fI hei;go_wp2_with fail;clear c0 q
   go_loopg [8] (m+1) (λKC jv wq=>∃n:Nat,jv=.int .i64 n/\n<=m+1/\m+1 - n<=KC/\Hid (EI2 PS ISt aB w B (.slice (some ⟨gD,0,none⟩) np cD) np M bs wq (c+i*262144+1+n)))
   case atStart=>exact⟨0,rfl,bm,by omega,JW⟩
   case round=>
    obtain⟨n,rfl,S8,r9,HJ⟩:=hrel;obtain⟨CL,vI,vM,nx,ps,es,hg,hl,KS,qb,GK⟩:=HJ.out;have hi:i<ps.length:=by omega
    have HG:=aw hg;have vb:=aw CL
    have hbm:ps[i].b=b/\ps[i].made=m:=by
     have h1:=HBM.out;rw[<-GK,List.getElem?_map,bW hi] at h1;simpa using h1
    obtain⟨hb,Pb⟩:=hbm;have Vz:=aw KS;have HBS:=aw GK;have HL:=aw hl;obtain⟨d,q1,q2⟩:=(hg.pd i hi).told;rw[hb] at q1;rw[Pb] at q2;clear hg CL KS GK hl HJ
    by_cases uC:n<=m
    ·have iC:decide ((n:Int)<=(m:Int))=true:=by simp;omega
     go_wp2_with fail;have nz:=DP HP.out Xm.out aB wr B (.slice (some ⟨gD,0,none⟩) np cD) vI vM nx ps es HG.out i hi (by omega) (n:Int);rw[hb] at nz;refine nz.mono ?_;intro e w1 hp;have RA:Hid (EI2 PS ISt aB w B (.slice (some ⟨gD,0,none⟩) np cD) np M bs w1 (c+i*262144+1+(n+1))):=EI2.kid hi vb.out HL.out Vz.out HBS.out hp (by omega);obtain⟨rfl,_⟩:=hp;clear nz;go_wp2;go_roundg (m+1 - (n+1))
     case measure=>omega
     case rel=>exact⟨n+1,by go_num,by omega,aF,RA⟩
    ·have iC:decide ((n:Int)<=(m:Int))=false:=by simp;omega
     have RA:Hid (EI2 PS ISt aB w B (.slice (some ⟨gD,0,none⟩) np cD) np M bs wr (c+(i+1)*262144)):=⟨vb.out,vI,vM,nx,ps,es,HG.out,HL.out,Vz.out,by omega,HBS.out⟩;go_wp2;go_roundg (np - (i+1))
     case measure=>omega
     case rel=>exact⟨i+1,by go_num,by omega,aF,RA⟩
  ·have hd:decide ((i:Int)<(np:Int))=false:=by simp;omega
   go_wp2;go_ret;exact⟨rfl,_,HI.out,by omega⟩
theorem GD (hP:kV PS Q)(hI:oH Q ISt)(w wr:World)(n:Nat)(h:PI2 PS ISt w wr n)(hn:n<=131072):
  Calls prog 6 #[.pointer (some ⟨w.heap.size,0,none⟩),.int .i64 15] wr λe w'=>e=.returned (.bool true)/\Hid (Below w.heap.size w w'/\∃vD vI vM nx es,LK w' w.heap.size vD vI vM nx es/\es.length<=1099511627776):=by
 obtain⟨hb,vD,vI,vM,nx,ps,es,hg,h1,h2,h3⟩:=h;obtain⟨aD,cD,rfl⟩:=aK hg.rowD;refine(DN hP hI w.heap.size wr w.heap.size aD cD ps.length (n+1) (ps.map λp=>(p.b,p.made)) nx ⟨bo,vI,vM,nx,ps,es,hg,rfl,h3,aF,rfl⟩ (by omega) (by omega) (by omega)).mono ?_;rintro e w' ⟨he,c',⟨oW,sW,sX,FZ,tf,qt,vk,_,_,hc,_⟩,Rn⟩;refine⟨he,hb.trans oW,_,sW,sX,FZ,qt,⟨vk.wb,vk.rowI,vk.rowM,vk.full⟩,?_⟩;have:=vk.cnt;omega
def It (PS:World->Value->YS->List Nat->(Nat->Prop)->Prop)(lo:Int):Prop:=∀(w wr:World) (i:Nat),PI2 PS ISt w wr i->∀(kd af X Y Z:Int) (S Tt:ByteArray) (on:Bool),S.size<=maxLen->lo<=kd->kd<3->
 Calls prog 5 #[.pointer (some ⟨w.heap.size,0,none⟩),.agg #[.int .i64 kd,.int .i64 af,.int .i64 X,.int .i64 Y,.int .i64 Z,.string S,.string Tt,.bool on]] wr λe w'=>e=.returned (.bool true)/\PI2 PS ISt w w' (i+1)
theorem Pt (X:YS)(v1 v2 v3:Value)(h:X.T=[(0,[])]):ISt X [0] ⟨v1,v2,v3,1,false,[0],[0],[]⟩:=by
 refine⟨⟨by simp,λk hk=>?_⟩,λ_ h=>h,λ_ h=>h,λ_=>rfl,?_,?_,bm,λh=>by cases h⟩
 ·rw[ft] at hk;rw[h,hk];exact⟨[],ft.2 rfl⟩
 ·show(-1:Int)<=1;omega
 ·show(1:Int)<=24;omega
theorem DR (hP:kV PS Q)(hI:oH Q ISt){lo:Int}(KR:It PS lo)(w wr:World)(i:Nat)(h:PI2 PS ISt w wr i)(hi:i<=131072)(kd af X Y Z:Int)(S Tt:ByteArray)(on:Bool)(hS:S.size<=maxLen)(qa:lo<=kd)(gg:kd<=15):
  Calls prog 5 #[.pointer (some ⟨w.heap.size,0,none⟩),.agg #[.int .i64 kd,.int .i64 af,.int .i64 X,.int .i64 Y,.int .i64 Z,.string S,.string Tt,.bool on]] wr λe w'=>e=.returned (.bool true)/\PI2 PS ISt w w' (i+1):=by
 by_cases D3:kd<3
 ·exact KR w wr i h kd af X Y Z S Tt on hS qa D3
 obtain⟨hb,vD,vI,vM,nx,ps,es,hg,h1,h2,h3⟩:=h
 by_cases hk:kd=3
 ·subst hk;exact(GH hP.tocP Pt w.heap.size wr w.heap.size vD vI vM nx ps es hg (i+1) h3 (by omega) af X Y Z S Tt on hS).mono λe w' hp=>⟨hp.1,PI2.step hb h1 h2 hp⟩
 ·exact(GG hP.tocP hI w.heap.size wr w.heap.size vD vI vM nx ps es hg (i+1) h3 (by omega) (by omega) (by omega) kd af X Y Z S Tt on hS (by omega) (λh12 wq j hj hq=>BW w.heap.size wq w.heap.size vD vI vM nx ps es hP hq j hj (by omega) kd af X Y Z S Tt on (by omega))).mono λe w' hp=>⟨hp.1,PI2.step hb h1 h2 hp⟩
theorem ED (hP:kV PS Q)(hI:oH Q ISt)(lo:Int)(KR:It PS lo)(w:World)(b off len ij:Nat)(K A X Y Z:Nat->Int)(S T:Nat->ByteArray)(O:Nat->Bool)(h:Scr w b off len K A X Y Z S T O)(hm:len<=131072):
  Calls prog 4 #[.slice (some ⟨b,off,none⟩) len ij,.int .i64 lo,.int .i64 15] w λe w'=>kz w e w':=by
 have DY:=h.lt;have HS:=aw h;have HP:=aw hP;have Xm:=aw hI;have MA:=aw KR;clear h hP hI KR;have H0:Hid (PI2 PS ISt w (w.alloc (.cells #[.slice none 0 0,.slice none 0 0,.slice none 0 0,.int .i64 0] 30)) 0):=⟨bo.alloc aF _,_,_,_,_,_,_,KE w,aF,aF,λp hp=>by cases hp⟩;go_enter func4,ntmps4;go_wp2_with fail
 go_loopg [8] len (λgk iv wr=>∃i:Nat,iv=.int .i64 i/\i<=len/\len - i<=gk/\Hid (PI2 PS ISt w wr i))
 case atStart=>exact⟨0,rfl,bm,by omega,H0⟩
 case round=>
  obtain⟨i,rfl,hi,fT,HI⟩:=hrel;have hB:=HI.out.1
  by_cases bc:i<len
  ·have hd:decide ((i:Int)<(len:Int))=true:=by simp;omega
   have q0:=(hB.cell (p:=⟨b,off+i*8,none⟩) DY).trans (HS.out.c0 i bc);have q1:=(hB.cell (p:=⟨b,off+i*8+1,none⟩) DY).trans (HS.out.c1 i bc);have q2:=(hB.cell (p:=⟨b,off+i*8+2,none⟩) DY).trans (HS.out.c2 i bc);have q3:=(hB.cell (p:=⟨b,off+i*8+3,none⟩) DY).trans (HS.out.c3 i bc);have q4:=(hB.cell (p:=⟨b,off+i*8+4,none⟩) DY).trans (HS.out.c4 i bc);have q5:=(hB.cell (p:=⟨b,off+i*8+5,none⟩) DY).trans (HS.out.c5 i bc);have q6:=(hB.cell (p:=⟨b,off+i*8+6,none⟩) DY).trans (HS.out.c6 i bc);have q7:=(hB.cell (p:=⟨b,off+i*8+7,none⟩) DY).trans (HS.out.c7 i bc);have FX:=HS.out.small i bc;generalize K i=k0 at q0;generalize A i=k1 at q1;generalize X i=k2 at q2;generalize Y i=k3 at q3;generalize Z i=k4 at q4;generalize S i=s at q5 FX;generalize T i=t at q6;generalize O i=o at q7;have HSM:=aw FX;clear FX
   by_cases qa:lo<=k0
   ·have XG:decide (lo<=k0)=true:=by simpa using qa
    by_cases gg:k0<=15
    ·have iC:decide (k0<=15)=true:=by simpa using gg
     have HK:=bZ qa gg;clear qa gg;go_wp2_with fail;refine(DR HP.out Xm.out MA.out w wr i HI.out (by omega) k0 k1 k2 k3 k4 s t o HSM.out HK.out.1 HK.out.2).mono ?_;rintro e w2 ⟨rfl,hpi⟩;have qp:=aw hpi;clear q0 q1 q2 q3 q4 q5 q6 q7 hpi hB HI;go_wp2;go_roundg (len - (i+1))
     case measure=>omega
     case rel=>exact⟨i+1,by go_num,by omega,aF,qp⟩
    ·have iC:decide (k0<=15)=false:=by simpa using gg
     have qp:=aw HI.out.skip;clear qa gg;go_wp2;go_roundg (len - (i+1))
     case measure=>omega
     case rel=>exact⟨i+1,by go_num,by omega,aF,qp⟩
   ·have XG:decide (lo<=k0)=false:=by simpa using qa
    have qp:=aw HI.out.skip;clear qa;go_wp2;go_roundg (len - (i+1))
    case measure=>omega
    case rel=>exact⟨i+1,by go_num,by omega,aF,qp⟩
  ·have hd:decide ((i:Int)<(len:Int))=false:=by simp;omega
   clear hB;go_wp2_with fail;refine(GD HP.out Xm.out w wr i HI.out (by omega)).mono ?_;rintro e w2 ⟨rfl,HE⟩;obtain⟨CL,vD,vI,vM,nx,es,lH,OZ⟩:=HE.out;have vx:=bZ lH OZ;have vb:=aw CL;clear CL lH OZ HE HI;go_wp2_with fail;refine(G6 w2 w.heap.size vD vI vM nx es vx.out.1 vx.out.2).mono ?_;rintro e w3 ⟨rfl,rB⟩;have iP:=aw (vb.out.trans (rB.below.mono vb.out.size));clear rB;go_wp2_with fail;go_ret;exact⟨rfl,iP.out⟩
end
end
section
open Go.ChangeShapes Go.WideShapes Go.ChangeAt Go.RowKit
theorem Fn (w:World)(p:Option Addr)(k1 k2 k3 k4:Int)(s t:ByteArray)(o:Bool)(hs:s.size<=maxLen):
  Calls prog 5 #[.pointer p,.agg #[.int .i64 2,.int .i64 k1,.int .i64 k2,.int .i64 k3,.int .i64 k4,.string s,.string t,.bool o]] w λe w'=>kz w e w':=by
 go_enter func5,ntmps5;go_wp2_with fail;refine(Ig _ s k2 k3 hs).mono ?_;rintro e w1 ⟨x,y,rfl,mS,r8⟩
 obtain⟨rs,HR⟩:∃rs,Hid (((eH s).1≠0->(x,y)=(0,(eH s).1))/\((eH s).1=0->RulsAt s 0 s.size rs/\(x,y)=pZ rs k2 k3)):=by
  by_cases h0:(eH s).1=0
  ·obtain⟨rs,h1,h2⟩:=r8.out.2 h0;exact⟨rs,λh=>absurd h0 h,λ_=>⟨h1,h2⟩⟩
  ·exact⟨[],λh=>r8.out.1 h,λh=>absurd h h0⟩
 clear r8;obtain⟨hc,hf⟩:=Uu mS w.heap.size (by simp);have gA:=mS.size;go_wp2_with fail;refine(zE _ s k2 k3 rs hs (λh=>(HR.out.2 h).1)).mono ?_;rintro e w2 ⟨x',y',rfl,oW,bM⟩
 have UX:x'=x/\y'=y:=by
  by_cases h0:(eH s).1=0
  ·have e1:=(HR.out.2 h0).2;have e2:=bM.out.2 h0;rw[<-e1] at e2;injection e2 with a b
   exact⟨a,b⟩
  ·have e1:=HR.out.1 h0;have e2:=bM.out.1 h0;rw[<-e1] at e2;injection e2 with a b
   exact⟨a,b⟩
 obtain⟨rfl,rfl⟩:=UX;have lu:Below w.heap.size w w2:=((bo.alloc aF _).trans (mS.mono (by simp))).trans (oW.mono (by simp at gA;omega));have hx:(x'==x')=true:=by simp
 have hy:(y'==y')=true:=by simp
 clear hc hf mS oW HR bM;go_wp2_with fail;refine(kw _ y').mono ?_;rintro e w3 ⟨rfl,rfl⟩;go_wp2_with fail;refine(kw _ y').mono ?_;rintro e w4 ⟨rfl,rfl⟩;go_wp2_with fail;go_ret;exact⟨by simp,lu⟩
end
theorem WR {PS:World->Value->YS->List Nat->(Nat->Prop)->Prop}{Q:fu->YS->List Nat->YS->List Nat->Prop}(hP:cP PS Q):It PS 1:=λw wr i h kd af X Y Z S Tt on hS h1 h2=>by
 have UT:∀e w',kz wr e w'->e=.returned (.bool true)/\PI2 PS ISt w w' (i+1):=λe w' ⟨he,hb⟩=>by
  obtain⟨lW,vD,vI,vM,nx,ps,es,hg,g1,g2,g3⟩:=h;exact⟨he,PI2.skip ⟨lW.trans (hb.mono lW.size),vD,vI,vM,nx,ps,es,hg.keep hP hb,g1,g2,g3⟩⟩
 have hk:kd=1∨kd=2:=by omega
 rcases hk with rfl | rfl
 ·exact(H7 wr _ af X Y Z S Tt on hS).mono λe w' hp=>UT e w' hp
 ·exact(Fn wr _ af X Y Z S Tt on hS).mono λe w' hp=>UT e w' hp
theorem Sj {PS:World->Value->YS->List Nat->(Nat->Prop)->Prop}{Q:fu->YS->List Nat->YS->List Nat->Prop}(hP:kV PS Q)(hI:oH Q ISt)(w:World)(b off len ij:Nat)(K A X Y Z:Nat->Int)(S T:Nat->ByteArray)(O:Nat->Bool)(h:Scr w b off len K A X Y Z S T O)(hm:len<=131072):
  Calls prog 3 #[.slice (some ⟨b,off,none⟩) len ij] w λe w'=>kz w e w':=by
 have HS:Hid (Scr w b off len K A X Y Z S T O):=h;have HP:Hid (kV PS Q):=hP;have Xm:Hid (oH Q ISt):=hI;have MA:Hid (It PS 1):=WR hP.tocP;clear h hP hI;go_enter func3,ntmps3;go_wp2_with fail;refine(ED HP.out Xm.out 1 MA.out _ b off len ij K A X Y Z S T O HS.out hm).mono ?_;rintro e w1 ⟨rfl,hb⟩;go_wp2_with fail;go_ret;exact⟨rfl,hb⟩
theorem Ke (w:World)(ao:Option Addr)(ij:Nat):
  Calls prog 3 #[.slice ao 0 ij] w λe w'=>kz w e w':=by
 go_enter func3,ntmps3;go_wp2_with fail;refine(EE _ ao ij 1 15).mono ?_;rintro e w1 ⟨rfl,hb⟩;go_wp2_with fail;go_ret;exact⟨rfl,hb⟩
section
open Go.ChangeShapes Go.WideShapes Go.ChangeAt Go.RowKit
theorem Np {W:World}{a0:Option Addr}{len ij KB:Nat}{H:Type}{enc:TypeId × Value->H}{x:DataW H × List MemPlace}(h:DataW.trod enc prog W 0 (λ_=>true) true KB 22 [.slice a0 len ij]=some x)(hb:Rows.uptoBulk x.1<=1048576):
  Calls prog 3 #[.slice a0 len ij] W λe w'=>kz W e w':=by
 have bT:=CA h hb;rcases Ev h with rfl | ⟨b,off,K,A,X,Y,Z,S,T,O,rfl,hs,_⟩
 ·exact Ke W a0 ij
 ·exact Sj Qo WO W b off len ij K A X Y Z S T O hs bT
theorem Gl (os:Os)(CH:os.Started)(H:Type)(enc:TypeId × Value->H)(F:Stop.Interp):
  ReturnsInHanded {} Tryz.checked os 3 .any ((Rows.OpenSpec.upto Rows.allSpec).pre6 enc prog Tryz.f3 Rows.allUptoRow.domain false) (((Rows.OpenSpec.upto Rows.allSpec).at F).post enc prog Tryz.f3 false true false false):=by
 refine returnsInHanded_of_cond (C:=Tryz.checked) (s:=Rows.OpenSpec.upto Rows.allSpec) (k:=Rows.uptoSmall) rfl Tryz.own CH (by kernel_rfl) func3
  (OpenSpec.witness (enc:=enc) (C:=Tryz.checked) (s:=Rows.OpenSpec.upto Rows.allSpec) (k:=Rows.uptoSmall) rfl false ⟨#[],#[.slice none 0 0],[]⟩ 8 (by kernel_rfl) (by kernel_rfl) (by kernel_rfl)
   (x:=([.nil],[],[])) (by kernel_rfl) rfl (by kernel_rfl)) ?_
 intro W aB args ds gs adb UV hW _ hk _;have aa5:∀(j:Nat) t v,Tryz.f3.params[j]?=some t->args[j]?=some v->Value.okWide prog W .any aB t v:=UV;have hW':=hW;obtain⟨p,q,hA0,hV,rfl,_,_⟩:=hW;have hA:DataW.TrodAll enc prog W 0 (λ_=>true) true Tryz.f3.params.toList args.toList ds p:=hA0;rw[Tryz.params3] at hA aa5;obtain⟨v0,d0,rfl,rfl,h0⟩:=trodAll_one hA;obtain⟨rfl,rfl⟩:=trodVars_none hV;obtain⟨a0,len,ij,rfl⟩:=okWide_slice underlying22 (aa5 0 22 v0 rfl rfl);have h0k:=h0;obtain⟨KB,hf⟩:=h0;clear hA0 UV;simp only[List.append_nil] at hW' hk
 have hb:Rows.uptoBulk d0<=1048576:=by
  have h1:=of_decide_eq_true hk;simp only[Rows.uptoBulkAll] at h1;omega
 have bc:∀x∈p,x.block<W.heap.size:=λx hx=>by simpa using hW'.lt x hx
 have aax:∀(W':World),Below W.heap.size W W'->DataW.Trod enc prog W' 0 (λb=>decide (b<W.heap.size)) true 22 (.slice a0 len ij) d0 p:=
  λW' hn=>Below.trod Tryz.laidOut (by kernel_rfl) (of_decide_eq_true (by kernel_rfl)) h0k hn bc
 refine(Np (by simpa[Value.cells] using hf) hb).mono λe W' ⟨he,hn⟩=>?_;subst he;refine⟨_,rfl,_,_,_,[],p,[],hW',?_,?_,rfl,hn.frame _,λh=>by cases h⟩
 ·exact trodAll_mk1 (shut_bool underlying4 true)
 ·exact trodAll_mk1 (aax _ hn)
theorem all_holds:Rows.AllUptoSaid:=
 OpenClaim.holds_of_cond 3 Tryz.f3 rfl rfl rfl rfl rfl rfl rfl ⟨rfl,rfl,rfl,rfl,rfl⟩ rfl rfl rfl rfl rfl (by kernel_rfl) func3 (by kernel_rfl)
  (of_decide_eq_true (by kernel_rfl)) (by unfold Func.isWrapper;first | (rw[aE (by decide +kernel)];kernel_rfl) | (rw[aA (by decide +kernel)];exact⟨rfl,rfl⟩))
  (λos CH H enc _ F=>Gl os CH H enc F)
end
end Go.Proofs.YtblfffbmklkhmabGreat
