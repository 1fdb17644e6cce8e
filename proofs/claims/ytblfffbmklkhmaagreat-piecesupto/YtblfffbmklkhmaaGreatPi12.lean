/- Own work. -/
import Derived.Test.YtblfffbmklkhmaaGreatPi1
import Derived.Test.YtblfffbmklkhmaaGreatPi11
import Derived.Test.YtblfffbmklkhmaaGreatPi10
import Derived.Test.YtblfffbmklkhmaaGreatPi6
set_option maxRecDepth 100000
set_option maxHeartbeats 40000000
namespace Go.Proofs.YtblfffbmklkhmaaGreat
open Go.RowKit Go.Proofs.Tryz
section
variable {made:Nat}
section
variable {PS:World->Value->YS->List Nat->(Nat->Prop)->Prop}{Q:fw->YS->List Nat->YS->List Nat->Prop}{w0:World}{G:Nat->Prop}{w:World}{b:Nat}{X Y:YS}{st:List Nat}{px:Value}{d:Nat}{K:gu}
theorem PQ2.apart (h:PQ2 PS w0 G w b X st Y px d K):∃Fy,RY w d Y Fy/\¬Fy b:=by
 obtain⟨Fp,Fx,Fy,h1,_⟩:=h;exact⟨Fy,h1.rs,h1.py b h1.inb⟩
structure AI (w:World)(b:Nat)(px:Value)(d:Nat)(els:List REl)(made:Nat)(hp:Option Addr)(vT:Value)(bi:Bool)(vL:Value)(K:gu)(i:Nat)(wr:World)(v:Value):Prop where
 pb:PB wr b px d K.vm v K.cnt K.vs K.held
 own:wr.ownsRow w.heap.size 3 1 v i (bh ((els.map REl.num).take i))
 fr:Fr w wr (λk=>k=b)
 rd:RD wr d els made hp vT bi vL
theorem AI.put {els:List REl}{hp:Option Addr}{vT:Value}{bi:Bool}{vL:Value}{i:Nat}{wr:World}{v:Value}(h:AI w b px d els made hp vT bi vL K i wr v)(hi:i<els.length)(hbf:¬jQ d els vL b)(ue:∀k,jQ d els vL k->k<w.heap.size){A:Obj}{w8:World}{v8:Value}(bL:w8.ownsRow w.heap.size 3 1 v8 (i+1) (bh ((els.map REl.num).take i)++[.int .i64 els[i].num]))(hg:((wr.alloc A).drew).grownBy w8 v.ownBlock):
  AI w b px d els made hp vT bi vL K (i+1) (w8.setCell ⟨b,3,none⟩ v8) v8/\w8.cell? ⟨b,3,none⟩=some v/\w8.frozen? ⟨b,3,none⟩=false/\b<w8.heap.size:=by
 have jF:=(bx.1 h.pb.blk).1;have fY:v.ownBlock≠some b:=aB h.own h.pb.blk (by decide);have Fe:w8.heap[b]?=_:=(hg.block b (by simp[World.drew];omega) (λe=>fY e.symm)).trans ((Below.heap_alloc wr A b jF).trans h.pb.blk);have Kc:v8.ownBlock≠some b:=aB bL Fe (by decide);have ft:Fr w w8 (λk=>k=b):=((h.fr.alloc A).drew1).gb hg (λk hk=>ai (h.own.lt k hk).1);have tm:Fr wr w8 (λk=>v.ownBlock=some k):=(((Fr.refl wr (λk=>v.ownBlock=some k)).alloc A).drew1).gb hg (λk hk=>af hk);refine⟨⟨?_,?_,ft.set (p:=⟨b,3,none⟩) (af rfl) _,?_⟩,aa Fe rfl,ax Fe,(bx.1 Fe).1⟩
 ·show(World.setCell _ _ _).heap[b]?=_;rw[aF Fe];rfl
 ·have e1:bh ((els.map REl.num).take (i+1))=bh ((els.map REl.num).take i)++[.int .i64 els[i].num]:=by
   rw[fU (by simpa using hi)];simp[bh]
  rw[e1];exact bj bL Kc _
 ·refine h.rd.keep (λk hk hl=>?_);have Ii:k≠b:=λe=>hbf (e▸hk);rw[Below.heap_setCell _ _ _ _ (by show k≠b;exact Ii)];refine tm.block k hl (λe=>?_);have aip:=(h.own.lt k e).1;have Ua:=ue k hk;omega
theorem LT.all {T:aJ}(hw:TW T made):LT T (T.map Prod.fst):=⟨hw.nums,λk hk=>by
 obtain⟨x,hx,rfl⟩:=bm.1 hk;exact⟨x.2,hx⟩⟩
def Hj (PS:World->Value->YS->List Nat->(Nat->Prop)->Prop)(w0:World)(G:Nat->Prop)(b:Nat)(X:YS)(st:List Nat)(Y:YS)(px:Value)(d:Nat)(K:gu)(e:Ending)(w':World):Prop:=
 e=.returned (.tuple #[])/\∃vy',PQ2 PS w0 G w' b X st Y px d {K with vy:=vy',ly:=Y.T.map Prod.fst,cnt:=-1,held:=false}
theorem PO (hP:cG PS Q)(h:PQ2 PS w0 G w b X st Y px d K):
  Calls prog 105 #[.pointer (some ⟨b,0,none⟩)] w λe w'=>Hj PS w0 G b X st Y px d K e w':=by
 obtain⟨i0,hi,gx,gA,gB⟩:=info_parts Tryz.info3;obtain⟨Fy,⟨els,hp,vT,bi,vL,Rr,Gs,hX,hA,hF,_⟩,VJ⟩:=h.apart;obtain⟨aL,cL,uR⟩:=hX.rd.shape;subst uR;have bC:=hX.rd.few;have HQ:=ae h;have HP:=ae hP;have HN:Hid (¬jQ d els (.slice aL els.length cL) b/\(∀k,jQ d els (.slice aL els.length cL) k->k<w.heap.size)/\Y.T=aK els/\TW Y.T Y.made):=⟨λe=>VJ (hF b e),FV hX.rd,hA,h.tw⟩;have b3:w.cell? ⟨b,3,none⟩=some K.vy:=aa h.pb.blk rfl;have b3f:w.frozen? ⟨b,3,none⟩=false:=ax h.pb.blk;have jF:=(bx.1 h.pb.blk).1
 have H0:Hid (AI w b px d els Y.made hp vT bi (.slice aL els.length cL) K 0 (w.setCell ⟨b,3,none⟩ (.slice none 0 0)) (.slice none 0 0)):=by
  refine⟨?_,er,(Fr.refl w (λk=>k=b)).set (p:=⟨b,3,none⟩) (af rfl) _,hX.rd.keep (λk hk _=>?_)⟩
  ·show(World.setCell _ _ _).heap[b]?=_;rw[aF h.pb.blk];rfl
  ·exact Below.heap_setCell _ _ _ _ (by show k≠b;exact λe=>HN.out.1 (e▸hk))
 have fm:Hid (∀wr v,AI w b px d els Y.made hp vT bi (.slice aL els.length cL) K els.length wr v->Hj PS w0 G b X st Y px d K (.returned (.tuple #[])) ((wr.setCell ⟨b,4,none⟩ (.int .i64 (-1))).setCell ⟨b,6,none⟩ (.bool false))):=λwr v ha=>by
  have hq:=HQ.out;have ft:Fr w ((wr.setCell ⟨b,4,none⟩ (.int .i64 (-1))).setCell ⟨b,6,none⟩ (.bool false)) (λk=>k=b):=(ha.fr.set (p:=⟨b,4,none⟩) (af rfl) _).set (p:=⟨b,6,none⟩) (af rfl) _
  have LY:(wr.setCell ⟨b,4,none⟩ (.int .i64 (-1))).heap[b]?=some (.cells #[px,.pointer (some ⟨d,0,none⟩),K.vm,v,.int .i64 (-1),K.vs,.bool K.held] 124 (0,0)):=by
   rw[aF ha.pb.blk];rfl
  have keep:∀{u:Value} {l:List Nat},w.ownsRow 0 3 1 u l.length (bh l)->((wr.setCell ⟨b,4,none⟩ (.int .i64 (-1))).setCell ⟨b,6,none⟩ (.bool false)).ownsRow 0 3 1 u l.length (bh l):=λho=>cO ho (λj hj hl=>ft.block j hl (λe=>aB ho hq.pb.blk (by decide) (e▸hj)));have Gp:els.map REl.num=Y.T.map Prod.fst:=by rw[HN.out.2.2.1,mC]
  have bL:((wr.setCell ⟨b,4,none⟩ (.int .i64 (-1))).setCell ⟨b,6,none⟩ (.bool false)).ownsRow 0 3 1 v (Y.T.map Prod.fst).length (bh (Y.T.map Prod.fst)):=by
   have h1:=ha.own;rw[List.take_of_length_le (by simp),Gp] at h1;have hz:els.length=(Y.T.map Prod.fst).length:=by rw[<-Gp,List.length_map]
   rw[hz] at h1;have h2:=bj h1 (p:=⟨b,4,none⟩) (aB h1 ha.pb.blk (by decide)) (.int .i64 (-1));exact aP (bj h2 (p:=⟨b,6,none⟩) (aB h2 LY (by decide)) _) aZ
  refine⟨rfl,v,hq.pair HP.out ft ?_ (keep hq.must) bL (keep hq.seen) (λ_ hj=>af (af hj)) (λj hj=>ai (ha.own.lt j hj).1) (λ_ hj=>af (ai (ai hj)))⟩;show(World.setCell _ _ _).heap[b]?=_;rw[aF LY];rfl
 clear h hX hA hF VJ hP HQ;go_enter func105,ntmps105;go_upto_region 1 with fail;generalize w.setCell ⟨b,3,none⟩ (.slice none 0 0)=W1 at H0 ⊢;clear b3 b3f;go_wp2_with fail
 go_loopg [2] els.length (λgk iv wr=>∃(i:Nat) (v:Value),iv=.int .i64 i/\i<=els.length/\els.length - i<=gk/\Hid (AI w b px d els Y.made hp vT bi (.slice aL els.length cL) K i wr v))
 case atStart=>exact⟨0,_,rfl,aZ,by omega,H0⟩
 case round=>
  obtain⟨i,v,rfl,jJ,fS,HS⟩:=hrel;have bX:((els.map REl.num).take i).length=i:=by rw[List.length_take,List.length_map];omega
  have b1:wr.cell? ⟨b,1,none⟩=some (.pointer (some ⟨d,0,none⟩)):=aa HS.out.pb.blk rfl;have d1:=HS.out.rd.c1
  by_cases aU:i<els.length
  ·have hd:decide ((i:Int)<(els.length:Int))=true:=by simp;omega
   obtain⟨g,hg,q1⟩:=HS.out.rd.at' aU;subst hg;obtain⟨q2,_⟩:=eR (HS.out.rd.el els[i] (bK aU));obtain⟨av,cv,hv⟩:=aA HS.out.own;subst hv;have b3:wr.cell? ⟨b,3,none⟩=some (.slice av i cv):=aa HS.out.pb.blk rfl;have b3f:wr.frozen? ⟨b,3,none⟩=false:=ax HS.out.pb.blk;have hwz:=HS.out.fr.size;have US:Hid (∀(A:Obj) (w8:World) (v8:Value),w8.ownsRow w.heap.size 3 1 v8 (i+1) (bh ((els.map REl.num).take i)++[.int .i64 els[i].num])->((wr.alloc A).drew).grownBy w8 (Value.slice av i cv).ownBlock->AI w b px d els Y.made hp vT bi (.slice (some ⟨g,0,none⟩) els.length cL) K (i+1) (w8.setCell ⟨b,3,none⟩ v8) v8/\w8.cell? ⟨b,3,none⟩=some (.slice av i cv)/\w8.frozen? ⟨b,3,none⟩=false/\b<w8.heap.size):=λA w8 v8 h1 h2=>HS.out.put aU HN.out.1 HN.out.2.1 h1 h2;have Xu:=ae HS.out.own;clear HS;generalize bh ((els.map REl.num).take i)=xs at US Xu;generalize els[i].num=k at q2 US;have Vu:b<wr.heap.size:=by omega
   have b3a:(wr.alloc (.cells #[.int .i64 (k:Int)] 3)).cell? ⟨b,3,none⟩=some (.slice av i cv):=((((Below.refl wr.heap.size wr).alloc au _).cell (p:=⟨b,3,none⟩) Vu)).trans b3;go_upto_region 4 with fail
   go_region_law (refine ns rfl (.tmp 22) (.tmp 36) 40 rfl w.heap.size 3 i0 (.int .i64 0) 1 8 underlying40 hi gx gA gB rfl (by decide) (.slice av i cv) i xs (by simp[Act.eval]) ((Xu.out.alloc _).drew) ⟨wr.heap.size,0,none⟩ 1 1 [.int .i64 k] (by simp[Act.eval]) rfl (aW wr _ rfl _ _ _ rfl) (by simp[Value.oneCell']) (by unfold maxLen;omega) (by omega) (by simp[World.drew];omega) ?_;intro v8 w8 wT ZS Fe;obtain⟨a8,c8,hv8⟩:=aA wT;have Jn:=US.out _ w8 v8 wT ZS;have y1:=Jn.2.1;have y1f:=Jn.2.2.1;have y1l:=Jn.2.2.2)
   all_goals
    have HAI:Hid (AI w b px d els Y.made hp vT bi (.slice (some ⟨g,0,none⟩) els.length cL) K (i+1) (w8.setCell ⟨b,3,none⟩ (.slice a8 (i+1) c8)) (.slice a8 (i+1) c8)):=by
     have h9:=Jn.1;rw[hv8] at h9;exact h9
    clear Jn wT ZS Fe hv8;go_wp2;go_roundg (els.length - (i+1))
    case measure=>omega
    case rel=>exact⟨i+1,_,by go_num,by omega,au,HAI⟩
  ·have hd:decide ((i:Int)<(els.length:Int))=false:=by simp;omega
   obtain rfl:i=els.length:=by omega
   have HE:=ae (fm.out wr v HS.out);have b4:wr.cell? ⟨b,4,none⟩=some (.int .i64 K.cnt):=aa HS.out.pb.blk rfl;have b6:wr.cell? ⟨b,6,none⟩=some (.bool K.held):=aa HS.out.pb.blk rfl;have bf:∀k,wr.frozen? ⟨b,k,none⟩=false:=λk=>ax HS.out.pb.blk;have Vu:=(bx.1 HS.out.pb.blk).1;clear HS;go_wp2;go_end0;exact HE.out
end
end
section
variable {G:Nat->Prop}{I:YS->List Nat->gu->Prop}{PS:World->Value->YS->List Nat->(Nat->Prop)->Prop}{Q:fw->YS->List Nat->YS->List Nat->Prop}{b d made:Nat}{pa:Addr}{w w':World}
def Rc (Q:fw->YS->List Nat->YS->List Nat->Prop)(X:YS)(st:List Nat)(K:gu)(s:ByteArray)(X':YS)(cA:List Nat)(K':gu):Prop:=
 X'=gX X s/\Q (.sht s) X st X' cA/\(((gP s).1≠0/\K'=K)∨((gP s).1=0/\K'.lm=K.lm/\K'.ly=X.T.map Prod.fst/\K'.ls=K.ls/\K'.cnt=-1/\K'.held=false))
def mG (so su:Bool)(c:Int):Int:=if(su&&decide (0<(if(so&&!su)=true then(-1:Int) else c)))=true then(if(so&&!su)=true then(-1:Int) else c) - 1 else if(so&&!su)=true then -1 else c
def tK (T:aJ)(e:Int)(s:List Nat × List Nat × Int):Nat->List Nat × List Nat × Int
 | 0=>s
 | j+1=>(aw (gY T j e) (tK T e s j).1,aw (gY T j e) (tK T e s j).2.1,mG (fH (tK T e s j).2.1 (gY T j e)) (fH (tK T e s j).1 (gY T j e)) (tK T e s j).2.2)
def Ra (Q:fw->YS->List Nat->YS->List Nat->Prop)(X:YS)(st:List Nat)(K:gu)(n:Int)(s:ByteArray)(X':YS)(cA:List Nat)(K':gu):Prop:=
 X'=X/\Q (.qry n s) X st X' cA/\((bq X.T n s≠0/\K'=K)∨(bq X.T n s=0/\K'.ls=K.ls/\K'.held=false/\∃j,gY X.T j n<0/\(∀i,i<j->0<=gY X.T i n)/\(K'.lm,K'.ly,K'.cnt)=tK X.T n (K.lm,K.ly,K.cnt) j))
structure oF (Q:fw->YS->List Nat->YS->List Nat->Prop)(I:YS->List Nat->gu->Prop):Prop where
 ins:∀{X st K par at' kind X' cA K'},I X st K->sH X.T K->Q8 Q X st K par at' kind X' cA K'->I X' cA K'
 rem:∀{X st K n X' cA K'},I X st K->sH X.T K->Rb Q X st K n X' cA K'->I X' cA K'
 mov:∀{X st K n m at' X' cA K'},I X st K->sH X.T K->Q9 Q X st K n m at' X' cA K'->I X' cA K'
 cls:∀{X st K n s on X' cA K'},I X st K->sH X.T K->CN Q X st K n s on X' cA K'->I X' cA K'
 nam:∀{X st K n s X' cA K'},I X st K->sH X.T K->Bc Q X st K n s X' cA K'->I X' cA K'
 sht:∀{X st K s X' cA K'},I X st K->sH X.T K->Rc Q X st K s X' cA K'->I X' cA K'
 qry:∀{X st K n s X' cA K'},I X st K->sH X.T K->Ra Q X st K n s X' cA K'->I X' cA K'
 cnt:∀{X st K},I X st K->-1<=K.cnt/\K.cnt<=24
def PD2 (PS:World->Value->YS->List Nat->(Nat->Prop)->Prop)(I:YS->List Nat->gu->Prop)(w:World)(b made:Nat)(G:Nat->Prop):Prop:=
 ∃X st pa d K Fp Fx Fy,PJ2 PS w b X st X (.pointer (some pa)) d K Fp Fx Fy/\(∀k,Fp k∨Fx k∨Fy k->G k)/\(∀k,G k->k<w.heap.size)/\X.made=made/\sH X.T K/\I X st K
section
variable {PS:World->Value->YS->List Nat->(Nat->Prop)->Prop}{Q:fw->YS->List Nat->YS->List Nat->Prop}{I:YS->List Nat->gu->Prop}{w:World}{b made:Nat}{G:Nat->Prop}
theorem PD2.keep (hP:cG PS Q)(h:PD2 PS I w b made G){w1:World}(iA:w.heap.size<=w1.heap.size)(hk:∀k,G k->w1.heap[k]?=w.heap[k]?):PD2 PS I w1 b made G:=by
 obtain⟨X,st,pa,d,K,Fp,Fx,Fy,h1,h2,h3,h4⟩:=h;exact⟨X,st,pa,d,K,Fp,Fx,Fy,h1.keep hP iA (λk hx=>hk k (h2 k hx)),h2,λk hx=>Nat.lt_of_lt_of_le (h3 k hx) iA,h4⟩
theorem PD2.lt (h:PD2 PS I w b made G):∀k,G k->k<w.heap.size:=by
 obtain⟨X,st,pa,d,K,Fp,Fx,Fy,h1,h2,h3,h4⟩:=h;exact h3
end
def gZ (PS:World->Value->YS->List Nat->(Nat->Prop)->Prop)(I:YS->List Nat->gu->Prop)(w:World)(b made:Nat)(G:Nat->Prop)(e:Ending)(w':World):Prop:=
 e=.returned (.bool true)/\∃made',made'<=made+1/\PD2 PS I w' b made' (nG G w w')/\Fr w w' G
theorem PQ2.doc {X:YS}{st:List Nat}{K:gu}(hq:PQ2 PS w G w' b X st X (.pointer (some pa)) d K)(hm:X.made<=made+1)(hl:sH X.T K)(hi:I X st K):gZ PS I w b made G (.returned (.bool true)) w':=by
 obtain⟨Fp,Fx,Fy,hj,hg,hf⟩:=hq;exact⟨rfl,X.made,hm,⟨X,st,pa,d,K,Fp,Fx,Fy,hj,λk hk=>⟨hg k hk,hj.here k hk⟩,λk hk=>hk.2,rfl,hl,hi⟩,hf⟩
theorem TurnPost2.doc {o:Obj}{R:YS->List Nat->gu->Prop}{e:Ending}(h:TurnPost2 PS (w.alloc o) G b (.pointer (some pa)) d R e w')(hr:∀X st K,R X st K->X.made<=made+1/\I X st K):gZ PS I w b made G e w':=by
 obtain⟨rfl,X',cA,K',hq,hl,hR⟩:=h;obtain⟨h1,h2⟩:=hr _ _ _ hR;exact hq.from.doc h1 hl h2
theorem LF (X:YS)(n:Int)(s:ByteArray)(on:Bool):(eP X n s on).made=X.made:=by unfold eP;split<;>rfl
theorem LG (X:YS)(n:Int)(s:ByteArray):(eQ X n s).made=X.made:=by unfold eQ;split<;>rfl
theorem tV (X:YS)(s:ByteArray):(gX X s).made=X.made/\(gX X s).T=X.T:=by unfold gX;split<;>exact⟨rfl,rfl⟩
theorem B3 (hP:cG PS Q)(w:World)(b:Nat)(X:YS)(st:List Nat)(pa:Addr)(d:Nat)(K:gu)(G Fp Fx Fy:Nat->Prop)
  (h:PJ2 PS w b X st X (.pointer (some pa)) d K Fp Fx Fy) (hG:∀k,Fp k∨Fx k∨Fy k->G k) (zL:∀k,G k->k<w.heap.size) (ln:sH X.T K) (at' xx yy zz:Int) (S Tt:ByteArray) (on:Bool) (hS:S.size<=maxLen) :
  Calls prog 61 #[.pointer (some ⟨b,0,none⟩),.agg #[.int .i64 10,.int .i64 at',.int .i64 xx,.int .i64 yy,.int .i64 zz,.string S,.string Tt,.bool on]] w λe w'=>TurnPost2 PS w G b (.pointer (some pa)) d (Rc Q X st K S) e w':=by
 have HP:=ae hP;have HW:=ae ln;have HG:=ae zL;have H0:Hid (PQ2 PS (w.alloc (aH 10 at' xx yy zz S Tt on)) G (w.alloc (aH 10 at' xx yy zz S Tt on)) b X st X (.pointer (some pa)) d K):=PQ2.alloc hP h hG _;clear h hP ln hG zL Fp Fx Fy;obtain⟨Fx,Fy,qd,Ki,wP,ue,Cq,zR⟩:=H0.out.open HP.out;obtain⟨els,hp,vT,bi,vL,Rr,Gs,hX,hA,hF1,hF2,hF3⟩:=Ki;have HX:=bT hX hA;have HF:Hid ((∀k,jQ d els vL k->Fy k)/\(∀k,Gs k->Fy k)/\(bi=true->∀k,vT.ownBlock=some k->Fy k)/\(∀k,Fy k->¬Fx k)/\(∀k,Fy k->k<(w.alloc (aH 10 at' xx yy zz S Tt on)).heap.size)):=⟨hF1,hF2,hF3,wP,ue⟩;have sQ:Hid (PS (w.alloc (aH 10 at' xx yy zz S Tt on)).drew (.pointer (some pa)) X st Fx):=HP.out.keep qd (λ_ _ _=>rfl) au;have kJ:=ae Cq;have e9:=ae zR;clear hX hA hF1 hF2 hF3 qd wP ue Cq zR
 have HC:Hid (∀(wx:World) X1 br Y1,PQ2 PS (w.alloc (aH 10 at' xx yy zz S Tt on)) G wx b X1 br Y1 (.pointer (some pa)) d K->wx.cell? ⟨b,0,none⟩=some (.pointer (some pa))/\wx.cell? ⟨b,1,none⟩=some (.pointer (some ⟨d,0,none⟩))/\wx.cell? ⟨w.heap.size,5,none⟩=some (.string S)):=λwx X1 br Y1 hq=>
  ⟨aa hq.pb.blk rfl,aa hq.pb.blk rfl,aa (hq.op HG.out) rfl⟩
 have E7:Hid (∀wd w2 e br,PS wd (.pointer (some pa)) (gX X S) br (cJ Fx (w.alloc (aH 10 at' xx yy zz S Tt on)))->Fr (w.alloc (aH 10 at' xx yy zz S Tt on)) wd Fx->RX wd d els X.made hp vT bi vL Rr Gs X.M X.shn X.rs->rh wd d els X.made vT vL X.M X.shn S e w2->e=.returned (.int .i64 (gP S).1)/\PQ2 PS (w.alloc (aH 10 at' xx yy zz S Tt on)) G w2 b (gX X S) br (gX X S) (.pointer (some pa)) d K):=λwd w2 e br hs hf hx cX=>by
  have Gg:Fr wd w2 Fy/\RY w2 d (gX X S) (cJ Fy wd):=by
   rcases cX.2 with⟨he,hB⟩ | ⟨he,p2,Rr2,zX,bG⟩
   ·refine⟨(Fr.refl _ _).below hB,?_⟩;have e1:gX X S=X:=by unfold gX;rw[aj he]
    rw[e1];show RSd w2 d X.T X.made X.M X.shn X.rs (cJ Fy wd);rw[HX.out.2];have hx3:=hx.keep (w':=w2) (λk _ hl=>hB.block k hl) hB.size;exact hx3.rsd (λk hk=>af (HF.out.1 k hk)) (λk hk=>af (HF.out.2.1 k hk)) (λhh k hk=>af (HF.out.2.2.1 hh k hk))
   ·refine⟨bG.mono HF.out.1,?_⟩;have e1:gX X S={X with rs:=eH S}:=by unfold gX;rw[aq he]
    rw[e1];show RSd w2 d X.T X.made X.M X.shn (eH S) (cJ Fy wd);rw[HX.out.2];exact zX.rsd (λk hk=>af (HF.out.1 k hk)) (λk hk=>ai hk.1) (λhh=>by cases hh)
  exact⟨cX.1,e9.out wd _ br w2 _ hs hf Gg.2 Gg.1⟩
 have uV:Hid (sH (gX X S).T K):=by unfold Hid;rw[(tV X S).2];exact HW.out
 have k0:(w.alloc (aH 10 at' xx yy zz S Tt on)).cell? ⟨w.heap.size,0,none⟩=some (.int .i64 10):=aa (H0.out.op HG.out) rfl;have kM:=ae (H0.out.drew HP.out);clear H0;go_enter func61,ntmps61;go_upto_region 11 with fail;clear k0
 go_cut [5] (λyv wx=>yv=.int .i64 (gP S).1/\Hid (∃br,Q (.sht S) X st (gX X S) br/\PS wx (.pointer (some pa)) (gX X S) br (cJ Fx (w.alloc (aH 10 at' xx yy zz S Tt on)))/\Fr (w.alloc (aH 10 at' xx yy zz S Tt on)) wx Fx))
 case first=>
  go_region_held3 (λw'=>w'.cell? ⟨b,0,none⟩=some (.pointer (some pa))/\w'.cell? ⟨b,1,none⟩=some (.pointer (some ⟨d,0,none⟩))/\w'.cell? ⟨w.heap.size,5,none⟩=some (.string S)) (first | exact HC.out _ _ _ _ kM.out | exact HC.out _ _ _ _ HT.out.2)
   (first | (go_at_call 28;refine(HP.out.sht _ (.pointer (some pa)) X st Fx S hS sQ.out).mono ?_;rintro e w1 ⟨br,rfl,hq,dU,ft⟩;have HT:Hid ((∃br,Q (.sht S) X st (gX X S) br/\PS w1 (.pointer (some pa)) (gX X S) br (cJ Fx (w.alloc (aH 10 at' xx yy zz S Tt on)))/\Fr (w.alloc (aH 10 at' xx yy zz S Tt on)) w1 Fx)/\PQ2 PS (w.alloc (aH 10 at' xx yy zz S Tt on)) G w1 b (gX X S) br X (.pointer (some pa)) d K):=⟨⟨br,hq,dU,ft.un1⟩,kJ.out w1 _ br dU ft.un1⟩))
  all_goals
   go_wp2_with fail;go_meet;exact⟨rfl,HT.out.1⟩
 case rest=>
  obtain⟨rfl,HT⟩:=hcut;obtain⟨br,rJ,dU,hfr1⟩:=HT.out;have rf:=kK rJ dU hfr1;have ix:=ae ((kJ.out wc _ br dU hfr1).drew HP.out)
  have Fd:Hid (RX wc.drew d els X.made hp vT bi vL Rr Gs X.M X.shn X.rs):=by
   refine HX.out.1.keep (λk hk hl=>hfr1.block k hl ?_) hfr1.size;rcases hk with hk | hk | ⟨hh,hk⟩
   ·exact HF.out.2.2.2.1 k (HF.out.1 k hk)
   ·exact HF.out.2.2.2.1 k (HF.out.2.1 k hk)
   ·exact HF.out.2.2.2.1 k (HF.out.2.2.1 hh k hk)
  clear rJ dU hfr1 HT kM;go_upto_region 12 with fail
  go_cut [6] (λyv wx=>yv=.int .i64 (gP S).1/\Hid (PQ2 PS (w.alloc (aH 10 at' xx yy zz S Tt on)) G wx b (gX X S) br (gX X S) (.pointer (some pa)) d K))
  case first=>
   go_region_held3 (λw'=>w'.cell? ⟨b,0,none⟩=some (.pointer (some pa))/\w'.cell? ⟨b,1,none⟩=some (.pointer (some ⟨d,0,none⟩))/\w'.cell? ⟨w.heap.size,5,none⟩=some (.string S)) (first | exact HC.out _ _ _ _ ix.out | exact HC.out _ _ _ _ jB.out)
    (first | (go_at_call 104;refine(GQ _ d els X.made hp vT bi vL Rr Gs X.M X.shn X.rs S hS Fd.out).mono ?_;intro e w2 cX;obtain⟨rfl,Kh⟩:=E7.out wc.drew w2 e br (HP.out.keep rf.out.2.1 (λ_ _ _=>rfl) au) rf.out.2.2.dr Fd.out cX;clear cX;have jB:Hid (PQ2 PS (w.alloc (aH 10 at' xx yy zz S Tt on)) G w2 b (gX X S) br (gX X S) (.pointer (some pa)) d K):=Kh))
   all_goals
    go_wp2_with fail;go_meet;exact⟨rfl,jB⟩
  case rest=>
   obtain⟨rfl,jB⟩:=hcut
   by_cases hc:(gP S).1=0
   ·have fm:Hid (∀w5 vy',PQ2 PS (w.alloc (aH 10 at' xx yy zz S Tt on)) G w5 b (gX X S) br (gX X S) (.pointer (some pa)) d {K with vy:=vy',ly:=(gX X S).T.map Prod.fst,cnt:=-1,held:=false}->TurnPost2 PS w G b (.pointer (some pa)) d (Rc Q X st K S) (.returned (.bool true)) w5):=λw5 vy' h1=>⟨rfl,_,br,_,h1.from,⟨uV.out.1,LT.all h1.tw⟩,rfl,rf.out.1,ai ⟨hc,rfl,by show(gX X S).T.map Prod.fst=_;rw[(tV X S).2],rfl,rfl,rfl⟩⟩;rw[hc];clear hc;go_wp2_with fail;refine(PO HP.out jB.out).mono ?_;rintro e W7 ⟨rfl,V9,zW⟩;have HE:=fm.out W7 V9 zW;have Xd:=ae HE;clear HE zW fm;go_wp2_with fail;refine(bI _ 0).mono ?_;rintro e w5 ⟨rfl,rfl⟩;go_wp2;go_ret;exact Xd.out
   ·have HE:Hid (TurnPost2 PS w G b (.pointer (some pa)) d (Rc Q X st K S) (.returned (.bool true)) wc):=⟨rfl,_,br,K,jB.out.from,uV.out,rfl,rf.out.1,af ⟨hc,rfl⟩⟩;have gy:((gP S).1==0)=false:=by simp[hc]
    generalize (gP S).1=ce at gy;clear hc;go_wp2_with fail;refine(bI _ ce).mono ?_;rintro e w5 ⟨rfl,rfl⟩;go_wp2;go_ret;exact HE.out
theorem Em (hP:cG PS Q)(hI:oF Q I)(w:World)(b made:Nat)(G:Nat->Prop)(h:PD2 PS I w b made G)(mW:made<=1099511627776)(kd at' X Y Z:Int)(S Tt:ByteArray)(on:Bool)(hS:S.size<=maxLen)(hk:kd=4∨kd=5∨kd=6∨kd=8∨kd=9∨kd=10):
  Calls prog 61 #[.pointer (some ⟨b,0,none⟩),.agg #[.int .i64 kd,.int .i64 at',.int .i64 X,.int .i64 Y,.int .i64 Z,.string S,.string Tt,.bool on]] w λe w'=>gZ PS I w b made G e w':=by
 obtain⟨U,st,pa,d,K,Fp,Fx,Fy,h1,h2,h3,h4,h5,h6⟩:=h;subst h4;have HJ:Hid (PJ2 PS (w.alloc (aH kd at' X Y Z S Tt on)) b U st U (.pointer (some pa)) d K Fp Fx Fy/\(∀k,G k->k<(w.alloc (aH kd at' X Y Z S Tt on)).heap.size)):=⟨h1.keep hP (by simp) (λk hk=>Below.heap_alloc w _ k (h1.here k hk)),λk hk=>by have:=h3 k hk;simp;omega⟩;have HA:Hid ((∀k,Fp k∨Fx k∨Fy k->G k)/\sH U.T K/\I U st K):=⟨h2,h5,h6⟩;have HP:=ae hP;have HI:=ae hI
 have Hp:Hid (kd=10->Calls prog 61 #[.pointer (some ⟨b,0,none⟩),.agg #[.int .i64 10,.int .i64 at',.int .i64 X,.int .i64 Y,.int .i64 Z,.string S,.string Tt,.bool on]] w λe w'=>gZ PS I w b U.made G e w'):=λ_=>(B3 hP w b U st pa d K G Fp Fx Fy h1 h2 h3 h5 at' X Y Z S Tt on hS).mono λe w' hp=>by
  obtain⟨rfl,X',cA,K',hq,hl,hR⟩:=hp;exact hq.doc (by rw[hR.1,(tV U S).1];exact Nat.le_succ _) hl (hI.sht h6 h5 hR)
 clear h1 h2 h3 h5 h6 hP hI;rcases hk with rfl | rfl | rfl | rfl | rfl | rfl
 ·go_enter func61,ntmps61;go_wp2_with fail;refine(zd HP.out _ b U st pa d K G Fp Fx Fy HJ.out.1 HA.out.1 HJ.out.2 HA.out.2.1 mW 4 at' X Y Z S Tt on).mono ?_;intro e w1 hp;have HD:Hid (gZ PS I w b U.made G e w1):=TurnPost2.doc hp (λX' cA K' hR=>⟨by obtain⟨y,n,h1,_⟩:=hR;exact(h1.1.tw HJ.out.1.rs.tw).2,HI.out.ins HA.out.2.2 HA.out.2.1 hR⟩);obtain⟨rfl,_⟩:=hp;go_wp2;go_ret;exact HD.out
 ·go_enter func61,ntmps61;go_wp2_with fail;refine(B1 HP.out _ b U st pa d K G Fp Fx Fy HJ.out.1 HA.out.1 HJ.out.2 HA.out.2.1 at' X Y Z S Tt on).mono ?_;intro e w1 hp;have HD:Hid (gZ PS I w b U.made G e w1):=TurnPost2.doc hp (λX' cA K' hR=>⟨by obtain⟨y,h1,_⟩:=hR;rw[h1.2.1];exact Nat.le_succ _,HI.out.rem HA.out.2.2 HA.out.2.1 hR⟩);obtain⟨rfl,_⟩:=hp;go_wp2;go_ret;exact HD.out
 ·go_enter func61,ntmps61;go_wp2_with fail;refine(GN HP.out _ b U st pa d K G Fp Fx Fy HJ.out.1 HA.out.1 HJ.out.2 HA.out.2.1 at' X Y Z S Tt on).mono ?_;intro e w1 hp;have HD:Hid (gZ PS I w b U.made G e w1):=TurnPost2.doc hp (λX' cA K' hR=>⟨by obtain⟨y,h1,_⟩:=hR;rw[h1.2.1];exact Nat.le_succ _,HI.out.mov HA.out.2.2 HA.out.2.1 hR⟩);obtain⟨rfl,_⟩:=hp;go_wp2;go_ret;exact HD.out
 ·go_enter func61,ntmps61;go_wp2_with fail;refine(B0 HP.out _ b U st pa d K G Fp Fx Fy HJ.out.1 HA.out.1 HJ.out.2 HA.out.2.1 8 at' X Y Z S Tt on).mono ?_;intro e w1 hp;have HD:Hid (gZ PS I w b U.made G e w1):=TurnPost2.doc hp (λX' cA K' hR=>⟨by rw[hR.1,LF];exact Nat.le_succ _,HI.out.cls HA.out.2.2 HA.out.2.1 hR⟩);obtain⟨rfl,_⟩:=hp;go_wp2;go_ret;exact HD.out
 ·go_enter func61,ntmps61;go_wp2_with fail;refine(GO HP.out _ b U st pa d K G Fp Fx Fy HJ.out.1 HA.out.1 HJ.out.2 HA.out.2.1 9 at' X Y Z S Tt on).mono ?_;intro e w1 hp;have HD:Hid (gZ PS I w b U.made G e w1):=TurnPost2.doc hp (λX' cA K' hR=>⟨by rw[hR.1,LG];exact Nat.le_succ _,HI.out.nam HA.out.2.2 HA.out.2.1 hR⟩);obtain⟨rfl,_⟩:=hp;go_wp2;go_ret;exact HD.out
 ·exact Hp.out rfl
end
theorem tu (w:World)(a:Option Addr)(c:Nat)(l:List Nat)(n:Int)(an:Nat)(ho:w.ownsRow an 3 1 (.slice a l.length c) l.length (bh l))(hl:l.length<=24):
  Calls prog 99 #[.slice a l.length c,.int .i64 n] w λe w'=>vE w (aw n l) e w':=by
 obtain⟨i0,hi,gx,gA,gB⟩:=info_parts Tryz.info3;have HO:=ae ho;clear ho;go_enter func99,ntmps99;go_wp2_with fail
 go_loopg [5,6] l.length (λgk v iv wr=>∃i:Nat,iv=.int .i64 i/\i<=l.length/\l.length - i<=gk/\wr.ownsRow w.heap.size 3 1 v (aw n (l.take i)).length (bh (aw n (l.take i)))/\Below w.heap.size w wr)
 case atStart=>exact⟨0,rfl,aZ,by omega,er,bd⟩
 case round=>
  obtain⟨i,rfl,jJ,fS,bL,hB⟩:=hrel;obtain⟨a2,c2,hv⟩:=aA bL;subst hv
  by_cases aU:i<l.length
  ·have hd:decide ((i:Int)<(l.length:Int))=true:=by simp;omega
   obtain⟨g,hg,dn,hc⟩:=aR HO.out (by omega);subst hg;have q:=(hB.cell (p:=⟨g,i,none⟩) dn).trans (hc i (.int .i64 ((l[i]:Nat):Int)) (by simp[aU]))
   have ue:(aw n (l.take i)).length<=24:=by
    have:=lz n (l.take i);have:(l.take i).length<=l.length:=List.length_take_le' _ _;omega
   have HT:=ae (um aU n);clear hc;generalize aw n (l.take i)=f at bL ue HT;generalize l[i]=y at q HT
   by_cases hn:(y:Int)=n
   ·have gn:((y:Int) != n)=false:=by simp[hn]
    have ox:Hid (aw n (l.take (i+1))=f):=by unfold Hid;rw[HT.out,aq hn];simp
    have HW:=ae bL;clear hn HT bL;go_wp2;go_roundg (l.length - (i+1))
    case measure=>omega
    case rel=>exact⟨i+1,by go_num,by omega,au,by rw[ox.out];exact HW.out,hB⟩
   ·have gn:((y:Int) != n)=true:=by simp[hn]
    have ox:Hid (aw n (l.take (i+1))=f++[y]):=by unfold Hid;rw[HT.out,aj hn]
    have hz:=hB.size;clear hn HT;go_wp2_with (at_builtin;refine wpList_append_own _ rfl (.tmp 19) (.tmp 24) 40 rfl w.heap.size 3 i0 (.int .i64 0) 1 8 underlying40 hi gx gA gB rfl (by decide) _ _ _ rfl (bL.alloc _) ⟨wr.heap.size,0,none⟩ 1 1 [.int .i64 (y:Int)] rfl rfl ?c1 ?c2 ?c3 ?c4 ?c5 ?_)
    case c1=>exact aW wr _ rfl _ _ _ rfl
    case c2=>intro u hu;simp at hu;subst hu;rfl
    case c3=>unfold maxLen;omega
    case c4=>omega
    case c5=>simp;omega
    ·intro v' w3 bU fk _;have bA:w3.ownsRow w.heap.size 3 1 v' (f++[y]).length (bh (f++[y])):=by simpa[bh] using bU
     have fj:Below w.heap.size w w3:=(hB.alloc hz _).grown fk (by simp;omega) (λk hk=>(bL.lt k hk).1);clear bU fk bL q;go_wp2;go_roundg (l.length - (i+1))
     case measure=>omega
     case rel=>exact⟨i+1,by go_num,by omega,au,by rw[ox.out];exact bA,fj⟩
  ·have hd:decide ((i:Int)<(l.length:Int))=false:=by simp;omega
   obtain rfl:i=l.length:=by omega
   rw[List.take_length] at bL;have HW:=ae bL;rw[List.take_length];clear bL;go_wp2;go_ret;exact⟨a2,c2,rfl,HW.out,hB⟩
theorem tC {T:aJ}{l:List Nat}(h:LT T l)(n:Int):LT T (aw n l):=⟨h.1.filter _,λk hk=>h.2 k (dA.1 hk).1⟩
theorem CW {so su:Bool}{c:Int}(h:-1<=c/\c<=24):-1<=mG so su c/\mG so su c<=24:=by
 unfold mG;cases so<;>cases su<;>simp<;>first | exact h | (split<;>omega) | omega
theorem PN (T:aJ)(e:Int)(s:List Nat × List Nat × Int)(h:-1<=s.2.2/\s.2.2<=24):∀j,-1<=(tK T e s j).2.2/\(tK T e s j).2.2<=24
 | 0=>h
 | j+1=>CW (PN T e s h j)
theorem ET (T:aJ):∀(j:Nat) (n:Int),gY T (j+1) n=aY T (gY T j n)
 | 0,_=>rfl
 | j+1,n=>ET T j (aY T n)
section
variable {PS:World->Value->YS->List Nat->(Nat->Prop)->Prop}{Q:fw->YS->List Nat->YS->List Nat->Prop}
structure QI (PS:World->Value->YS->List Nat->(Nat->Prop)->Prop)(w:World)(G:Nat->Prop)(b:Nat)(X:YS)(br:List Nat)(px:Value)(d:Nat)(K:gu)(n:Int)(j:Nat)(K1:gu)(wr:World):Prop where
 pq:PQ2 PS w G wr b X br X px d K1
 lk:sH X.T K1
 cnt:-1<=K1.cnt/\K1.cnt<=24
 ls:K1.ls=K.ls
 up:∀i,i<j->0<=gY X.T i n
 at':(K1.lm,K1.ly,K1.cnt)=tK X.T n (K.lm,K.ly,K.cnt) j
theorem si (hP:cG PS Q)(w:World)(b:Nat)(X:YS)(st:List Nat)(pa:Addr)(d:Nat)(K:gu)(G Fp Fx Fy:Nat->Prop)
  (h:PJ2 PS w b X st X (.pointer (some pa)) d K Fp Fx Fy) (hG:∀k,Fp k∨Fx k∨Fy k->G k) (ln:sH X.T K) (J6:-1<=K.cnt/\K.cnt<=24) (n:Int) (s:ByteArray) :
  Calls prog 60 #[.pointer (some ⟨b,0,none⟩),.int .i64 n,.string s] w λe w'=>TurnPost2 PS w G b (.pointer (some pa)) d (Ra Q X st K n s) e w':=by
 have HP:=ae hP;have HW:=bT ln J6;have H0:=ae (PQ2.start h hG);clear h hP ln hG J6 Fp Fx Fy;obtain⟨Fx,Fy,qd,Ki,wP,ue,Cq,zR⟩:=H0.out.open HP.out;obtain⟨els,hp,vT,bi,vL,Rr,Gs,hX,hA,hF1,hF2,hF3⟩:=Ki;have HX:=bT hX hA;have HF:Hid ((∀k,jQ d els vL k->Fy k)/\(∀k,Gs k->Fy k)/\(bi=true->∀k,vT.ownBlock=some k->Fy k)/\(∀k,Fy k->¬Fx k)/\(∀k,Fy k->k<w.heap.size)):=⟨hF1,hF2,hF3,wP,ue⟩;have sQ:=ae qd;have kJ:=ae Cq;have e9:=ae zR;clear hX hA hF1 hF2 hF3 qd wP ue Cq zR;have HB:Hid (∀{wx:World} {X1 br Y1 K1},PQ2 PS w G wx b X1 br Y1 (.pointer (some pa)) d K1->wx.heap[b]?=some (.cells #[.pointer (some pa),.pointer (some ⟨d,0,none⟩),K1.vm,K1.vy,.int .i64 K1.cnt,K1.vs,.bool K1.held] 124 (0,0))):=λhq=>hq.pb.blk;have b0:w.cell? ⟨b,0,none⟩=some (.pointer (some pa)):=aa (HB.out H0.out) rfl;go_enter func60,ntmps60;go_wp2_with fail;refine(HP.out.qry w (.pointer (some pa)) X st Fx n s sQ.out).mono ?_;rintro e w1 ⟨br,rfl,rJ,dU,hfr1⟩;have rf:=kK rJ dU hfr1;have kM:=ae (kJ.out w1 X br dU hfr1)
 have Fd:Hid (RX w1 d els X.made hp vT bi vL Rr Gs X.M X.shn X.rs):=by
  refine HX.out.1.keep (λk hk hl=>hfr1.block k hl ?_) hfr1.size;rcases hk with hk | hk | ⟨hh,hk⟩
  ·exact HF.out.2.2.2.1 k (HF.out.1 k hk)
  ·exact HF.out.2.2.2.1 k (HF.out.2.1 k hk)
  ·exact HF.out.2.2.2.1 k (HF.out.2.2.1 hh k hk)
 have b1:w1.cell? ⟨b,1,none⟩=some (.pointer (some ⟨d,0,none⟩)):=aa (HB.out kM.out) rfl;clear rJ dU hfr1 b0;go_wp2_with fail;refine(xH w1 d els X.made hp vT bi vL Rr Gs X.M X.shn X.rs n s Fd.out).mono ?_;intro e w2 cX;have TR:=HX.out.2;rcases cX with⟨he,rfl,rfl⟩ | ⟨he,rfl,vT2,hX2,jC,bG⟩
 ·rw[<-TR] at he ⊢;have VR:eu X.T X.M X.rs n s=0:=by unfold eu;rw[aj he]
  have HE:Hid (TurnPost2 PS w G b (.pointer (some pa)) d (Ra Q X st K n s) (.returned (.bool true)) w2):=⟨rfl,X,br,K,kM.out,HW.out.1,rfl,rf.out.1,af ⟨he,rfl⟩⟩;have gy:(bq X.T n s != 0)=true:=by simp[he]
  rw[VR];generalize bq X.T n s=ce at gy;clear VR he TR;go_wp2_with fail;refine(bI _ ce).mono ?_;rintro e w5 ⟨rfl,rfl⟩;go_wp2;go_ret;exact HE.out
 ·rw[<-TR] at he ⊢
  have ix:Hid (PQ2 PS w G w2 b X br X (.pointer (some pa)) d K):=by
   refine e9.out w1 X br w2 X rf.out.2.1 rf.out.2.2 ?_ (bG.mono HF.out.1);show RSd w2 d X.T X.made X.M X.shn X.rs (cJ Fy w1);rw[TR];refine hX2.rsd (λk hk=>af (HF.out.1 k hk)) (λk hk=>af (HF.out.2.1 k hk)) (λ_ k hk=>?_);rcases jC with⟨e1,e2⟩ | jC
   ·rw[e1] at hk;exact af (HF.out.2.2.1 e2 k hk)
   ·exact ai (jC k hk)
  have fm:Hid (∀w5 K' j,QI PS w G b X br (.pointer (some pa)) d K n j K' w5->gY X.T j n<0->TurnPost2 PS w G b (.pointer (some pa)) d (Ra Q X st K n s) (.returned (.bool true)) (w5.setCell ⟨b,6,none⟩ (.bool false))):=λw5 K' j hi hj=>⟨rfl,X,br,_,hi.pq.setHeld HP.out false,hi.lk,rfl,rf.out.1,ai ⟨he,hi.ls,rfl,j,hj,hi.up,hi.at'⟩⟩
  have A9:Hid (∀j,X.T.length<=j->gY X.T j n<0):=λj hj=>by
   have hf:∃l,bw X.T n=some l:=by
    unfold bq at he;cases hft:bw X.T n with
    | none=>rw[hft] at he;cases he
    | some l=>exact⟨l,rfl⟩
   obtain⟨l,hl⟩:=hf;obtain⟨k,rfl,hk⟩:=gj hl;exact ix.out.tw.up_end hk hj
  have Jk:Hid (QI PS w G b X br (.pointer (some pa)) d K n 0 K w2):=⟨ix.out,HW.out.1,HW.out.2,rfl,λi hi=>absurd hi (Nat.not_lt_zero i),rfl⟩;have Qs:=ae ix.out.few;rw[he];clear hX2 jC bG he TR b1;generalize eu X.T X.M X.rs n s=vv;go_wp2_with fail;refine(bI _ 0).mono ?_;rintro e w5 ⟨rfl,rfl⟩;obtain⟨w2,rfl⟩:∃w2,w2=w5:=⟨_,rfl⟩;go_wp2_with fail
  go_loopg [11] X.T.length (λgk nv wr=>∃(j:Nat) (K1:gu),nv=.int .i64 (gY X.T j n)/\X.T.length - j<=gk/\Hid (QI PS w G b X br (.pointer (some pa)) d K n j K1 wr))
  case atStart=>exact⟨0,K,rfl,by omega,Jk⟩
  case round=>
   obtain⟨j,K1,rfl,fS,HI⟩:=hrel
   by_cases hneg:gY X.T j n<0
   ·have HE:=ae (fm.out wr K1 j HI.out hneg);have b6:wr.cell? ⟨b,6,none⟩=some (.bool K1.held):=aa (HB.out HI.out.pq) rfl;have b6f:wr.frozen? ⟨b,6,none⟩=false:=ax (HB.out HI.out.pq);have jF:=(bx.1 (HB.out HI.out.pq)).1;generalize gY X.T j n=m at hneg;have gm:decide (0<=m)=false:=by simp;omega
    clear HI;go_wp2;go_ret;exact HE.out
   ·have Fh:j<X.T.length:=by
     rcases Nat.lt_or_ge j X.T.length with h1 | h1
     ·exact h1
     ·exact absurd (A9.out j h1) hneg
    have iH:=ae (ET X.T j n)
    have Mi:Hid (∀W K2,PQ2 PS w G W b X br X (.pointer (some pa)) d K2->K2.lm=aw (gY X.T j n) K1.lm->K2.ly=aw (gY X.T j n) K1.ly->K2.ls=K1.ls->K2.cnt=mG (fH K1.ly (gY X.T j n)) (fH K1.lm (gY X.T j n)) K1.cnt->QI PS w G b X br (.pointer (some pa)) d K n (j+1) K2 W):=λW K2 h1 h2 h3 h4 h5=>by
     have hi:=HI.out;refine⟨h1,⟨by rw[h2];exact tC hi.lk.1 _,by rw[h3];exact tC hi.lk.2 _⟩,by rw[h5];exact CW hi.cnt,h4.trans hi.ls,λi VB=>?_,?_⟩
     ·rcases Nat.lt_or_ge i j with h6 | h6
      ·exact hi.up i h6
      ·obtain rfl:i=j:=by omega
       omega
     ·show(K2.lm,K2.ly,K2.cnt)=(aw (gY X.T j n) (tK X.T n (K.lm,K.ly,K.cnt) j).1,aw (gY X.T j n) (tK X.T n (K.lm,K.ly,K.cnt) j).2.1,mG (fH (tK X.T n (K.lm,K.ly,K.cnt) j).2.1 (gY X.T j n)) (fH (tK X.T n (K.lm,K.ly,K.cnt) j).1 (gY X.T j n)) (tK X.T n (K.lm,K.ly,K.cnt) j).2.2);rw[<-hi.at',h2,h3,h5]
    obtain⟨m2,Cp⟩:∃m2,gY X.T (j+1) n=m2:=⟨_,rfl⟩;have Qt:=ae Cp;rw[Cp] at iH;clear Cp;generalize gY X.T j n=m at hneg iH Mi ⊢;have gm:decide (0<=m)=true:=by simp;omega
    have J9:K1.lm.length<=24:=by have:=HI.out.lk.1.len;have:=Qs.out;omega
    have tr:K1.ly.length<=24:=by have:=HI.out.lk.2.len;have:=Qs.out;omega
    have HCN:=ae HI.out.cnt;obtain⟨am,cm,yA⟩:=aA HI.out.pq.must;obtain⟨ay,cy,hvy⟩:=aA HI.out.pq.may;have yt:=bT yA hvy;have UQ:=ae HI.out.pq
    have Tp:Hid (∀wx K2,PQ2 PS w G wx b X br X (.pointer (some pa)) d K2->K2.vm=K1.vm->K2.lm=K1.lm->wx.ownsRow 0 3 1 (.slice am K1.lm.length cm) K1.lm.length (bh K1.lm)/\wx.cell? ⟨b,2,none⟩=some (.slice am K1.lm.length cm)):=λwx K2 hq e1 e2=>by
     rw[<-yt.out.1,<-e1,<-e2];exact⟨hq.must,aa (HB.out hq) rfl⟩
    have Fw:Hid (∀wx K2,PQ2 PS w G wx b X br X (.pointer (some pa)) d K2->K2.vy=K1.vy->K2.ly=K1.ly->wx.ownsRow 0 3 1 (.slice ay K1.ly.length cy) K1.ly.length (bh K1.ly)/\wx.cell? ⟨b,3,none⟩=some (.slice ay K1.ly.length cy)):=λwx K2 hq e1 e2=>by
     rw[<-yt.out.2,<-e1,<-e2];exact⟨hq.may,aa (HB.out hq) rfl⟩
    obtain⟨yN,b2⟩:=Tp.out wr K1 UQ.out rfl rfl;obtain⟨ho3,b3⟩:=Fw.out wr K1 UQ.out rfl rfl;clear HI yA hvy;go_wp2_with fail;refine(lS wr am cm K1.lm m 0 yN J9).mono ?_;rintro e w5 ⟨rfl,rfl⟩;obtain⟨wr,rfl⟩:∃wr,wr=w5:=⟨_,rfl⟩;go_wp2_with fail;refine(lS wr ay cy K1.ly m 0 ho3 tr).mono ?_;rintro e w5 ⟨rfl,rfl⟩;obtain⟨wr,rfl⟩:∃wr,wr=w5:=⟨_,rfl⟩;clear yN ho3 b2 b3;generalize fH K1.lm m=su at Mi ⊢;generalize fH K1.ly m=so at Mi ⊢;have b4:wr.cell? ⟨b,4,none⟩=some (.int .i64 K1.cnt):=aa (HB.out UQ.out) rfl;have U8:wr.frozen? ⟨b,4,none⟩=false:=ax (HB.out UQ.out);have jF:=(bx.1 (HB.out UQ.out)).1;go_upto_region 12 with fail
    go_cut [70] from 66 to 69 (λpv wx=>pv=.bool (so&&!su)/\Hid (PQ2 PS w G wx b X br X (.pointer (some pa)) d K1))
    case first=>
     cases so<;>cases su
     all_goals
      go_wp2_with fail;go_meet;exact⟨rfl,UQ⟩
    case rest=>
     obtain⟨rfl,A5⟩:=hcut;clear UQ b4 U8 jF;have b4:wc.cell? ⟨b,4,none⟩=some (.int .i64 K1.cnt):=aa (HB.out A5.out) rfl;have U8:wc.frozen? ⟨b,4,none⟩=false:=ax (HB.out A5.out);have jF:=(bx.1 (HB.out A5.out)).1;obtain⟨tt,htt⟩:∃tt,(so&&!su)=tt:=⟨_,rfl⟩;have HTT:=ae htt;rw[htt];clear htt;go_upto_if 70 with fail
     go_cut [11,12] from 46 to 106 (λnv sv wx=>nv=.int .i64 m/\sv=.bool su/\Hid (PQ2 PS w G wx b X br X (.pointer (some pa)) d {K1 with cnt:=if(so&&!su)=true then(-1:Int) else K1.cnt}))
     case first=>
      cases tt with
      | true=>
       have HC:Hid (PQ2 PS w G (wc.setCell ⟨b,4,none⟩ (.int .i64 (-1))) b X br X (.pointer (some pa)) d {K1 with cnt:=if(so&&!su)=true then(-1:Int) else K1.cnt}):=by unfold Hid;rw[aq HTT.out];exact A5.out.setCnt HP.out (-1)
       go_wp2_with fail;go_meet;exact⟨rfl,rfl,HC⟩
      | false=>
       have HC:Hid (PQ2 PS w G wc b X br X (.pointer (some pa)) d {K1 with cnt:=if(so&&!su)=true then(-1:Int) else K1.cnt}):=by unfold Hid;rw[aj (by rw[HTT.out];decide)];exact A5.out
       go_wp2_with fail;go_meet;exact⟨rfl,rfl,HC⟩
     case rest=>
      obtain⟨rfl,rfl,HC⟩:=hcut;clear b4 U8 jF A5;obtain⟨c1,oR⟩:∃c1:Int,(if(so&&!su)=true then(-1:Int) else K1.cnt)=c1:=⟨_,rfl⟩;rw[oR] at HC;have QP:=ae oR
      have BD:-1<=c1/\c1<=24:=by
       have:=HCN.out;rw[<-oR];split<;>omega
      have ac2:=BD.1;have ac3:=BD.2;clear oR BD;have b4:wc.cell? ⟨b,4,none⟩=some (.int .i64 c1):=aa (HB.out HC.out) rfl;have U8:wc.frozen? ⟨b,4,none⟩=false:=ax (HB.out HC.out);have jF:=(bx.1 (HB.out HC.out)).1;go_upto_region 14 with fail
      go_cut [81] from 74 to 80 (λpv wx=>pv=.bool (su&&decide (0<c1))/\Hid (PQ2 PS w G wx b X br X (.pointer (some pa)) d {K1 with cnt:=c1}))
      case first=>
       cases su with
       | false=>
        go_wp2_with fail;go_meet;exact⟨rfl,HC⟩
       | true=>
        go_wp2_with fail;go_meet;exact⟨rfl,HC⟩
      case rest=>
       obtain⟨rfl,A5⟩:=hcut;clear HC b4 U8 jF;have b4:wc.cell? ⟨b,4,none⟩=some (.int .i64 c1):=aa (HB.out A5.out) rfl;have U8:wc.frozen? ⟨b,4,none⟩=false:=ax (HB.out A5.out);have jF:=(bx.1 (HB.out A5.out)).1;obtain⟨t2,ht2⟩:∃t2,(su&&decide (0<c1))=t2:=⟨_,rfl⟩;have ox:=ae ht2;rw[ht2];clear ht2;go_upto_if 81 with fail
       go_cut [11] from 46 to 106 (λnv wx=>nv=.int .i64 m/\Hid (PQ2 PS w G wx b X br X (.pointer (some pa)) d {K1 with cnt:=if(su&&decide (0<c1))=true then c1 - 1 else c1}))
       case first=>
        cases t2 with
        | true=>
         have HD:Hid (PQ2 PS w G (wc.setCell ⟨b,4,none⟩ (.int .i64 (c1 - 1))) b X br X (.pointer (some pa)) d {K1 with cnt:=if(su&&decide (0<c1))=true then c1 - 1 else c1}):=by unfold Hid;rw[aq ox.out];exact A5.out.setCnt HP.out (c1 - 1)
         go_wp2_with fail;go_meet;exact⟨rfl,HD⟩
        | false=>
         have HD:Hid (PQ2 PS w G wc b X br X (.pointer (some pa)) d {K1 with cnt:=if(su&&decide (0<c1))=true then c1 - 1 else c1}):=by unfold Hid;rw[aj (by rw[ox.out];decide)];exact A5.out
         go_wp2_with fail;go_meet;exact⟨rfl,HD⟩
       case rest=>
        obtain⟨rfl,HD⟩:=hcut;clear b4 U8 jF A5;obtain⟨c2,yK⟩:∃c2:Int,(if(su&&decide (0<c1))=true then c1 - 1 else c1)=c2:=⟨_,rfl⟩;rw[yK] at HD
        have Ck:Hid (c2=mG so su K1.cnt):=by
         unfold Hid mG;rw[QP.out];rw[<-yK]
        clear yK ac2 ac3 HCN;obtain⟨yN,b2⟩:=Tp.out wc _ HD.out rfl rfl;go_wp2_with fail;refine(tu wc am cm K1.lm m 0 yN J9).mono ?_;rintro e W3 ⟨a3,c3,rfl,bA,lT⟩;have r7:=(lT.block b (bx.1 (HB.out HD.out)).1).trans (HB.out HD.out);have e2:W3.cell? ⟨b,2,none⟩=some K1.vm:=aa r7 rfl;have ez:∀k,W3.frozen? ⟨b,k,none⟩=false:=λ_=>ax r7;have jF:=(bx.1 r7).1;have oA:Hid (PQ2 PS w G (W3.setCell ⟨b,2,none⟩ (.slice a3 (aw m K1.lm).length c3)) b X br X (.pointer (some pa)) d {K1 with cnt:=c2,vm:=.slice a3 (aw m K1.lm).length c3,lm:=aw m K1.lm}):=HD.out.setMust HP.out lT (aP bA aZ) (λj hj=>ai (bA.lt j hj).1);clear bA lT r7 b2 yN HD;go_upto_region 17 with fail;obtain⟨W4,Dq⟩:∃W4,W4=W3.setCell ⟨b,2,none⟩ (.slice a3 (aw m K1.lm).length c3):=⟨_,rfl⟩;rw[<-Dq] at oA ⊢;clear Dq e2 ez jF;obtain⟨ho3,b3⟩:=Fw.out W4 _ oA.out rfl rfl;go_wp2_with fail;refine(tu W4 ay cy K1.ly m 0 ho3 tr).mono ?_;rintro e W5 ⟨a5,c5,rfl,bR,yI⟩;have Ma:=(yI.block b (bx.1 (HB.out oA.out)).1).trans (HB.out oA.out);have e3:W5.cell? ⟨b,3,none⟩=some K1.vy:=aa Ma rfl;have ez:∀k,W5.frozen? ⟨b,k,none⟩=false:=λ_=>ax Ma;have jF:=(bx.1 Ma).1;have Ho:Hid (PQ2 PS w G (W5.setCell ⟨b,3,none⟩ (.slice a5 (aw m K1.ly).length c5)) b X br X (.pointer (some pa)) d {K1 with cnt:=c2,vm:=.slice a3 (aw m K1.lm).length c3,lm:=aw m K1.lm,vy:=.slice a5 (aw m K1.ly).length c5,ly:=aw m K1.ly}):=oA.out.setMay HP.out yI (aP bR aZ) (λj hj=>ai (bR.lt j hj).1);clear bR yI Ma b3 ho3 oA;have HQI:Hid (QI PS w G b X br (.pointer (some pa)) d K n (j+1) {K1 with cnt:=c2,vm:=.slice a3 (aw m K1.lm).length c3,lm:=aw m K1.lm,vy:=.slice a5 (aw m K1.ly).length c5,ly:=aw m K1.ly} (W5.setCell ⟨b,3,none⟩ (.slice a5 (aw m K1.ly).length c5))):=Mi.out _ _ Ho.out rfl rfl rfl Ck.out;go_upto_region 9 with fail;obtain⟨W6,Dr⟩:∃W6,W6=W5.setCell ⟨b,3,none⟩ (.slice a5 (aw m K1.ly).length c5):=⟨_,rfl⟩;rw[<-Dr] at Ho HQI ⊢;clear Dr e3 ez jF;have b1:W6.cell? ⟨b,1,none⟩=some (.pointer (some ⟨d,0,none⟩)):=aa (HB.out Ho.out) rfl;go_wp2_with fail;refine(ph Ho.out m).mono ?_;rintro e w5 ⟨rfl,rfl⟩;obtain⟨W6,rfl⟩:∃W6,W6=w5:=⟨_,rfl⟩;rw[<-iH.out];clear Ho b1;go_wp2;go_roundg (X.T.length - (j+1))
        case measure=>omega
        case rel=>exact⟨j+1,_,by rw[Qt.out],au,HQI⟩
end
section
variable {W:List Clm}
def oV:Nat->Array Value
 | 0=>#[.int .i64 0,.int .i64 0,.int .i64 0,.int .i64 0,.int .i64 0,.int .i64 0,.int .i64 0,.int .i64 0,.int .i64 0]
 | 1=>#[.int .i64 1,.int .i64 0,.int .i64 0,.int .i64 0,.int .i64 0,.int .i64 0,.int .i64 0,.int .i64 0,.int .i64 0]
 | 2=>#[.int .i64 1,.int .i64 2,.int .i64 0,.int .i64 0,.int .i64 0,.int .i64 0,.int .i64 0,.int .i64 0,.int .i64 0]
 | 3=>#[.int .i64 1,.int .i64 2,.int .i64 3,.int .i64 0,.int .i64 0,.int .i64 0,.int .i64 0,.int .i64 0,.int .i64 0]
 | 4=>#[.int .i64 1,.int .i64 2,.int .i64 3,.int .i64 4,.int .i64 0,.int .i64 0,.int .i64 0,.int .i64 0,.int .i64 0]
 | 5=>#[.int .i64 1,.int .i64 2,.int .i64 3,.int .i64 4,.int .i64 5,.int .i64 0,.int .i64 0,.int .i64 0,.int .i64 0]
 | _=>#[.int .i64 1,.int .i64 2,.int .i64 3,.int .i64 4,.int .i64 5,.int .i64 6,.int .i64 0,.int .i64 0,.int .i64 0]
def XN (w:World)(l:List Int)(e:Ending)(w':World):Prop:=e=.returned (.agg (az l).toArray)/\Below w.heap.size w w'
section
variable (w:World)
theorem sb:Calls prog 83 #[] w λe w'=>XN w eC e w':=by
 go_enter func83,ntmps83;go_wp2_with fail
 go_loopg [3] 6 (λgk iv wr=>∃i:Nat,iv=.int .i64 i/\i<=6/\6 - i<=gk/\wr=(w.alloc (.cells (oV 0) 103)).alloc (.cells (oV i) 103))
 case atStart=>exact⟨0,rfl,aZ,by omega,rfl⟩
 case round=>
  obtain⟨i,rfl,hi,fS,rfl⟩:=hrel;have hc:i=0∨i=1∨i=2∨i=3∨i=4∨i=5∨i=6:=by omega
  rcases hc with rfl | rfl | rfl | rfl | rfl | rfl | rfl
  ·simp only[oV];go_wp2;go_roundg 5
   case measure=>omega
   case rel=>exact⟨1,rfl,by omega,by omega,rfl⟩
  ·simp only[oV];go_wp2;go_roundg 4
   case measure=>omega
   case rel=>exact⟨2,rfl,by omega,by omega,rfl⟩
  ·simp only[oV];go_wp2;go_roundg 3
   case measure=>omega
   case rel=>exact⟨3,rfl,by omega,by omega,rfl⟩
  ·simp only[oV];go_wp2;go_roundg 2
   case measure=>omega
   case rel=>exact⟨4,rfl,by omega,by omega,rfl⟩
  ·simp only[oV];go_wp2;go_roundg 1
   case measure=>omega
   case rel=>exact⟨5,rfl,by omega,by omega,rfl⟩
  ·simp only[oV];go_wp2;go_roundg 0
   case measure=>omega
   case rel=>exact⟨6,rfl,by omega,by omega,rfl⟩
  ·have HR:Hid (Below w.heap.size w ((w.alloc (.cells (oV 6) 103)).alloc (.cells (oV 6) 103))):=(bd.alloc au _).alloc (by simp) _;simp only[oV] at HR ⊢;go_wp2;exact bodyPost_ret (v:=.agg #[.int .i64 1,.int .i64 2,.int .i64 3,.int .i64 4,.int .i64 5,.int .i64 6,.int .i64 0,.int .i64 0,.int .i64 0]) (by simp[results,Tryz.results83,go_sem]) rfl ⟨rfl,HR.out⟩
theorem Tryz.sizeW:(Tryz.prog.info? 223).map (·.size)=some 63:=by kernel_rfl
theorem Tryz.sizeS:(Tryz.prog.info? 103).map (·.size)=some 9:=by kernel_rfl
theorem sizeW (h:W.length=9):(prog.info? 223).map (·.size)=some (aV W).length:=by rw[iB,h];exact Tryz.sizeW
theorem sizeS {l:List Int}(h:l.length=9):(prog.info? 103).map (·.size)=some (az l).length:=by rw[List.length_map,h];exact Tryz.sizeS
theorem ep (w:World)(cs:List Value)(t:TypeId):(w.alloc (.cells cs.toArray t)).rangeAt w.heap.size 0 cs:=λj v hv=>by
 rw[Nat.zero_add,cell_of_row _ _ j cs.toArray t (0,0) (heap_alloc_new w _)];simpa using hv
theorem xI {w w':World}{g o:Nat}{cs:List Value}(h:w.rangeAt g o cs)(hk:w'.heap[g]?=w.heap[g]?):w'.rangeAt g o cs:=λj v hv=>by
 have:=h j v hv;unfold World.cell? at this ⊢;rw[hk];exact this
theorem BK {p k:Nat}(h:bV W p=some k):k<9:=by
 unfold bV at h;split at h
 ·exact l9 h
 ·cases h
theorem KH (W:List Clm)(hW:jr W)(p:Nat)(hp:p<9):Calls prog 183 #[.agg (aV W).toArray,.int .i64 p] w λe w'=>bD w (js W p 3 (bV W p)) e w':=by
 have HF:=ae hW;have uI:=ae (sizeW hW.1);have Ws:Hid ((w.alloc (.cells (aV W).toArray 223)).rangeAt w.heap.size 0 (aV W)):=ep w _ _;have od:Hid (Below w.heap.size w (w.alloc (.cells (aV W).toArray 223))):=bd.alloc au _;have hzz:(w.alloc (.cells (aV W).toArray 223)).heap.size=w.heap.size+1:=by simp
 have HZ:=ae hzz;clear hW hzz;go_enter func183,ntmps183;go_wp2_with (refine wpList_load_mid rfl 223 _ rfl w.heap.size 0 rfl (aV W) _ Ws.out underlying223 rfl uI.out ?_);refine(tI _ W HF.out p hp).mono ?_;rintro e w1 ⟨rfl,hB⟩;have eg:Hid (Below (w.heap.size+1) (w.alloc (.cells (aV W).toArray 223)) w1):=hB.mono (by have:=HZ.out;omega);clear hB;go_wp2_with fail
 go_loopg [5,6,13] 3 (λgk pv gv iv wr=>∃(i:Nat) (q:Option Nat),iv=.int .i64 i/\i<=3/\3 - i<=gk/\pv=.int .i64 ((q.getD 0:Nat):Int)/\gv=.bool q.isSome/\Hid (Below (w.heap.size+1) (w.alloc (.cells (aV W).toArray 223)) wr/\js W p 3 (bV W p)=js W p (3 - i) q/\∀k,q=some k->k<9))
 case atStart=>exact⟨0,bV W p,rfl,by omega,by omega,rfl,rfl,eg.out,rfl,λk hk=>BK hk⟩
 case round=>
  obtain⟨i,q,rfl,hi,fS,rfl,rfl,HN⟩:=hrel;have CB:Hid (Below w.heap.size w wr):=od.out.trans (HN.out.1.mono (by omega))
  by_cases aU:i<3
  ·have hd:decide ((i:Int)<3)=true:=by simp;omega
   cases q with
   | none=>
    have HR:Hid (bD w (js W p 3 (bV W p)) (.returned (.bool false)) wr):=⟨by rw[HN.out.2.1,show 3 - i=(2 - i)+1 from by omega];rfl,CB.out⟩;simp only[Option.getD_none,Option.isSome_none];go_wp2;go_ret;exact HR.out
   | some k=>
    have hk:k<9:=HN.out.2.2 k rfl;simp only[Option.getD_some,Option.isSome_some]
    by_cases WO:k=p
    ·have HR:Hid (bD w (js W p 3 (bV W p)) (.returned (.bool true)) wr):=⟨by rw[HN.out.2.1,show 3 - i=(2 - i)+1 from by omega];show _=Ending.returned (.bool (if k=p then true else _));rw[aq WO],CB.out⟩;have JY:((k:Int)==(p:Int))=true:=by simp[WO]
     clear WO;go_wp2;go_ret;exact HR.out
    ·have HQ:Hid (js W p 3 (bV W p)=js W p (3 - (i+1)) (bV W k)):=by
      unfold Hid;rw[HN.out.2.1,show 3 - i=(3 - (i+1))+1 from by omega];show(if k=p then true else _)=_;rw[aj WO]
     have JY:((k:Int)==(p:Int))=false:=by rw[ff];omega
     have A7:Hid (wr.rangeAt w.heap.size 0 (aV W)):=bo HN.out.1 (by omega) Ws.out;have HBr:=ae HN.out.1;clear WO HN;go_wp2_with (refine wpList_load_mid rfl 223 _ rfl w.heap.size 0 rfl (aV W) _ A7.out underlying223 rfl uI.out ?_);refine(tI _ W HF.out k hk).mono ?_;rintro e w2 ⟨rfl,hB⟩;have e9:Hid (Below (w.heap.size+1) (w.alloc (.cells (aV W).toArray 223)) w2/\js W p 3 (bV W p)=js W p (3 - (i+1)) (bV W k)/\∀j,bV W k=some j->j<9):=⟨HBr.out.trans (hB.mono (by have:=HBr.out.size;have:=HZ.out;omega)),HQ.out,λj hj=>BK hj⟩;clear hB A7;generalize bV W k=q2 at e9 ⊢;go_wp2;go_roundg (3 - (i+1))
     case measure=>omega
     case rel=>exact⟨i+1,q2,by go_num,by omega,au,rfl,rfl,e9⟩
  ·have hd:decide ((i:Int)<3)=false:=by simp;omega
   have HR:Hid (bD w (js W p 3 (bV W p)) (.returned (.bool false)) wr):=⟨by rw[HN.out.2.1,show 3 - i=0 from by omega];rfl,CB.out⟩;go_wp2;go_ret;exact HR.out
end
end
section
variable (w:World)
theorem qP {l:List Int}{p:Nat}(hp:p<l.length):(az l)[p]?=some (.int .i64 (l.getD p 0)):=by
 rw[List.getElem?_map,bO hp,List.getD_eq_getElem?_getD,bO hp];rfl
theorem gH (l:List Int):(az l).toArray.all (·.oneCell')=true:=all_oneCell_toArray (λv hv=>by
 obtain⟨x,_,rfl⟩:=bm.1 hv;rfl)
abbrev tS (w:World)(W:List Clm)(akc:List Int):World:=(w.alloc (.cells (aV W).toArray 223)).alloc (.cells (az akc).toArray 103)
theorem AU (w:World)(W:List Clm)(akc:List Int):(tS w W akc).heap.size=w.heap.size+2:=by simp
theorem yk (w:World)(W:List Clm)(akc:List Int):Below w.heap.size w (tS w W akc):=(bd.alloc au _).alloc (by simp) _
theorem Qd (w:World)(W:List Clm)(akc:List Int):(tS w W akc).rangeAt w.heap.size 0 (aV W):=World.rangeAt_alloc (ep w _ _) _
theorem Qc (w:World)(W:List Clm)(akc:List Int):(tS w W akc).rangeAt (w.heap.size+1) 0 (az akc):=by
 have:=ep (w.alloc (.cells (aV W).toArray 223)) (az akc) 103;simpa using this
theorem D9 (W:List Clm)(hF:jr W)(p:Nat)(hp:p<9)(akc:List Int)(hc:akc.length=9):Calls prog 185 #[.agg (aV W).toArray,.int .i64 p,.agg (az akc).toArray] w λe w'=>uJ w (cj W p akc) e w':=by
 have HZ:Hid ((tS w W akc).heap.size=w.heap.size+2):=AU w W akc;have od:Hid (Below w.heap.size w (tS w W akc)):=yk w W akc;have Hq:Hid ((tS w W akc).rangeAt w.heap.size 0 (aV W)):=Qd w W akc;have Jp:Hid ((tS w W akc).rangeAt (w.heap.size+1) 0 (az akc)):=Qc w W akc;have hl:=hF.1
 have HD:Hid (cj W p akc=if W[p].kd=1 then W[p].nu else if W[p].kd=2 then akc.getD p 0 else if W[p].kd=3 then eC.getD p 0 else if mK p then akc.getD p 0 else eC.getD p 0):=by
  unfold Hid cj;have:W.getD p Clm.none=W[p]:=by rw[List.getD_eq_getElem?_getD,bO (by omega)];rfl
  rw[this]
 have HK:Hid ((aV W)[p*7+4]?=some (.int .i64 W[p].kd)/\(aV W)[p*7+4+1]?=some (.int .i64 W[p].nu)):=⟨by rw[fG (by omega) (by omega)];rfl,by rw[show p*7+4+1=p*7+5 from rfl,fG (by omega) (by omega)];rfl⟩;have HCM:Hid ((az akc)[p]?=some (.int .i64 (akc.getD p 0))):=qP (by omega);have HIN:Hid ((az eC)[p]?=some (.int .i64 (eC.getD p 0))):=qP (by show p<9;omega);have Fz:Hid ((prog.info? 103).map (·.size)=some (az eC).toArray.size):=Tryz.sizeS;have Xt:Hid ((az eC).toArray.all (·.oneCell')=true):=gH eC;have lU:(p:Int)<9:=by omega
 generalize W[p].kd=kd at HD HK;generalize W[p].nu=nu at HD HK;clear hF hl;go_enter func185,ntmps185;go_wp2_with fail;refine(sb _).mono ?_;rintro e w1 ⟨rfl,hB⟩;have eg:Hid (Below (w.heap.size+2) (tS w W akc) w1):=hB.mono (by have:=HZ.out;simp at this ⊢);have gK:w.heap.size+2<=w1.heap.size:=by have:=eg.out.size;have:=HZ.out;omega
 clear hB;have hzA:w.heap.size<w1.heap.size:=by omega
 have hzB:w.heap.size+1<w1.heap.size:=by omega
 have q0:w1.cell? ⟨w.heap.size,p*7+4,none⟩=some (.int .i64 kd):=by have:=bo eg.out (by omega) Hq.out (p*7+4) _ HK.out.1;rwa[Nat.zero_add] at this
 have q1:w1.cell? ⟨w.heap.size,p*7+4+1,none⟩=some (.int .i64 nu):=by have:=bo eg.out (by omega) Hq.out (p*7+4+1) _ HK.out.2;rwa[Nat.zero_add] at this
 have q2:w1.cell? ⟨w.heap.size+1,p,none⟩=some (.int .i64 (akc.getD p 0)):=by have:=bo eg.out (by omega) Jp.out p _ HCM.out;rwa[Nat.zero_add] at this
 have q3:(w1.alloc (.cells (az eC).toArray 103)).cell? ⟨w1.heap.size,p,none⟩=some (.int .i64 (eC.getD p 0)):=BJ w1 _ _ (by rw[List.getElem?_toArray];exact HIN.out);have uH:Hid (Below w.heap.size w (w1.alloc (.cells (az eC).toArray 103))):=(od.out.trans (eg.out.mono (by omega))).alloc (by omega) _;generalize akc.getD p 0=cv at q2 HD;generalize eC.getD p 0=ivv at q3 HD;have Mp:Hid (9=(az eC).toArray.size):=rfl;generalize (az eC).toArray=IA at q3 uH Fz Xt Mp ⊢
 by_cases h1:kd=1
 ·have g1:(kd==1)=true:=by simp[h1]
  have HR:Hid (uJ w (cj W p akc) (.returned (.int .i64 nu)) (w1.alloc (.cells IA 103))):=⟨by rw[HD.out,aq h1],uH.out⟩;clear h1 HD;go_wp2_with (refine aE rfl 103 _ _ rfl _ IA 103 rfl rfl Fz.out Mp.out Xt.out ?_);go_ret;exact HR.out
 have g1:(kd==1)=false:=by simp[h1]
 by_cases h2:kd=2
 ·have g2:(kd==2)=true:=by simp[h2]
  have HR:Hid (uJ w (cj W p akc) (.returned (.int .i64 cv)) (w1.alloc (.cells IA 103))):=⟨by rw[HD.out,aj h1,aq h2],uH.out⟩;clear h1 h2 HD;go_wp2_with (refine aE rfl 103 _ _ rfl _ IA 103 rfl rfl Fz.out Mp.out Xt.out ?_);go_ret;exact HR.out
 have g2:(kd==2)=false:=by simp[h2]
 by_cases h3:kd=3
 ·have g3:(kd==3)=true:=by simp[h3]
  have HR:Hid (uJ w (cj W p akc) (.returned (.int .i64 ivv)) (w1.alloc (.cells IA 103))):=⟨by rw[HD.out,aj h1,aj h2,aq h3],uH.out⟩;clear h1 h2 h3 HD;go_wp2_with (refine aE rfl 103 _ _ rfl _ IA 103 rfl rfl Fz.out Mp.out Xt.out ?_);go_ret;exact HR.out
 have g3:(kd==3)=false:=by simp[h3]
 have oD:Hid (cj W p akc=if mK p then cv else ivv):=by unfold Hid;rw[HD.out,aj h1,aj h2,aj h3]
 clear h1 h2 h3 HD;go_wp2_with (refine aE rfl 103 _ _ rfl _ IA 103 rfl rfl Fz.out Mp.out Xt.out ?_);refine(KK _ p).mono ?_;rintro e w2 ⟨rfl,hB⟩;have nE:w1.heap.size<w2.heap.size:=by have:=hB.size;simp at this;omega
 have HBF:Hid (Below w.heap.size w w2):=uH.out.trans (hB.mono uH.out.size);have q2':w2.cell? ⟨w.heap.size+1,p,none⟩=some (.int .i64 cv):=(hB.cell (p:=⟨w.heap.size+1,p,none⟩) (by simp;omega)).trans ((((Below.refl w1.heap.size w1).alloc au _).cell (p:=⟨w.heap.size+1,p,none⟩) hzB).trans q2);have q3':w2.cell? ⟨w1.heap.size,p,none⟩=some (.int .i64 ivv):=(hB.cell (p:=⟨w1.heap.size,p,none⟩) (by simp)).trans q3;clear hB q0 q1 q2 q3;cases hdn:mK p with
 | true=>
  have HR:Hid (uJ w (cj W p akc) (.returned (.int .i64 cv)) w2):=⟨by rw[oD.out,hdn];rfl,HBF.out⟩;clear hdn;go_wp2;go_ret;exact HR.out
 | false=>
  have HR:Hid (uJ w (cj W p akc) (.returned (.int .i64 ivv)) w2):=⟨by rw[oD.out,hdn];rfl,HBF.out⟩;clear hdn;go_wp2;go_ret;exact HR.out
end
section
variable {els:List PEl}{n:Int}{ss:List (List d9)}
section
variable (w:World)
theorem GM (W:List Clm)(hF:jr W)(p0:Nat)(hp:p0<9)(akc:List Int)(hc:akc.length=9):Calls prog 163 #[.agg (aV W).toArray,.int .i64 p0,.agg (az akc).toArray] w λe w'=>uJ w (dN W akc 9 p0) e w':=by
 have HZ:=ae (AU w W akc);have od:=ae (yk w W akc);have Hq:=ae (Qd w W akc);have Jp:=ae (Qc w W akc);have HF:=ae hF;have uI:=ae (sizeW hF.1);have Ts:=ae (sizeS hc);clear hF;go_enter func163,ntmps163;go_wp2_with fail
 go_loopg [1,9] 9 (λgk pv iv wr=>∃(i p:Nat),iv=.int .i64 i/\pv=.int .i64 p/\i<=9/\9 - i<=gk/\p<9/\Hid (Below (w.heap.size+2) (tS w W akc) wr/\dN W akc 9 p0=dN W akc (9 - i) p))
 case atStart=>exact⟨0,p0,rfl,rfl,by omega,by omega,hp,bd,rfl⟩
 case round=>
  obtain⟨i,p,rfl,rfl,hi,fS,Ow,HN⟩:=hrel;have iW:w.heap.size+2<=wr.heap.size:=by have:=HN.out.1.size;have:=HZ.out;omega
  have CB:Hid (Below w.heap.size w wr):=od.out.trans (HN.out.1.mono (by omega));have HWr:Hid (wr.rangeAt w.heap.size 0 (aV W)):=bo HN.out.1 (by omega) Hq.out;have lU:(p:Int)<9:=by omega
  by_cases aU:i<9
  ·have hd:decide ((i:Int)<9)=true:=by simp;omega
   have HV:Hid (dN W akc 9 p0=if js W p 3 (bV W p) then akc.getD p 0 else match bV W p with | Option.none=>cj W p akc | some q=>dN W akc (9 - (i+1)) q):=by
    unfold Hid;rw[HN.out.2,show 9 - i=(9 - (i+1))+1 from by omega];rfl
   go_wp2_with (refine wpList_load_mid rfl 223 _ rfl w.heap.size 0 rfl (aV W) _ HWr.out underlying223 rfl uI.out ?_);refine(KH _ W HF.out p Ow).mono ?_;rintro e w1 ⟨rfl,hB⟩;have eg:Hid (Below (w.heap.size+2) (tS w W akc) w1):=HN.out.1.trans (hB.mono (by omega));have Gb:w.heap.size+2<=w1.heap.size:=by have:=eg.out.size;have:=HZ.out;omega
   have abI:Hid (Below w.heap.size w w1):=od.out.trans (eg.out.mono (by omega));have Qy:Hid (w1.rangeAt w.heap.size 0 (aV W)):=bo eg.out (by omega) Hq.out;clear hB;cases yJ:js W p 3 (bV W p) with
   | true=>
    have q2:w1.cell? ⟨w.heap.size+1,p,none⟩=some (.int .i64 (akc.getD p 0)):=by have:=bo eg.out (by omega) Jp.out p _ (qP (by omega));rwa[Nat.zero_add] at this
    have HR:Hid (uJ w (dN W akc 9 p0) (.returned (.int .i64 (akc.getD p 0))) w1):=⟨by rw[HV.out,yJ];rfl,abI.out⟩;clear yJ HV;generalize akc.getD p 0=cv at q2 HR;go_wp2;go_ret;exact HR.out
   | false=>
    have HV2:Hid (dN W akc 9 p0=match bV W p with | Option.none=>cj W p akc | some q=>dN W akc (9 - (i+1)) q):=by unfold Hid;rw[HV.out,yJ];rfl
    clear yJ HV HN HWr CB;go_wp2_with (refine wpList_load_mid rfl 223 _ rfl w.heap.size 0 rfl (aV W) _ Qy.out underlying223 rfl uI.out ?_);refine(tI _ W HF.out p Ow).mono ?_;rintro e w2 ⟨rfl,hB⟩;have eD:Hid (Below (w.heap.size+2) (tS w W akc) w2):=eg.out.trans (hB.mono (by omega));have Vx:w.heap.size+2<=w2.heap.size:=by have:=eD.out.size;have:=HZ.out;omega
    have abJ:Hid (Below w.heap.size w w2):=od.out.trans (eD.out.mono (by omega));clear hB;cases pK:bV W p with
    | none=>
     have UW:Hid (w2.rangeAt w.heap.size 0 (aV W)):=bo eD.out (by omega) Hq.out;have sF:Hid (w2.rangeAt (w.heap.size+1) 0 (az akc)):=bo eD.out (by omega) Jp.out;have HV3:Hid (dN W akc 9 p0=cj W p akc):=by unfold Hid;rw[HV2.out,pK]
     clear pK HV2;simp only[Option.getD_none,Option.isSome_none];go_wp2_with (first | (refine wpList_load_mid rfl 223 _ rfl w.heap.size 0 rfl (aV W) _ UW.out underlying223 rfl uI.out ?_) | (refine wpList_load_mid rfl 103 _ rfl (w.heap.size+1) 0 rfl (az akc) _ sF.out underlying103 rfl Ts.out ?_));refine(D9 _ W HF.out p Ow akc hc).mono ?_;rintro e w3 ⟨rfl,hB⟩;have HR:Hid (uJ w (dN W akc 9 p0) (.returned (.int .i64 (cj W p akc))) w3):=⟨by rw[HV3.out],abJ.out.trans (hB.mono (by omega))⟩;clear hB HV3;generalize cj W p akc=dv at HR ⊢;go_wp2;go_ret;exact HR.out
    | some q=>
     have Kg:=BK pK;have e9:Hid (Below (w.heap.size+2) (tS w W akc) w2/\dN W akc 9 p0=dN W akc (9 - (i+1)) q):=⟨eD.out,by rw[HV2.out,pK]⟩;clear pK HV2;simp only[Option.getD_some,Option.isSome_some];go_wp2;go_roundg (9 - (i+1))
     case measure=>omega
     case rel=>exact⟨i+1,q,by go_num,rfl,by omega,au,Kg,e9⟩
  ·have hd:decide ((i:Int)<9)=false:=by simp;omega
   have q2:wr.cell? ⟨w.heap.size+1,p,none⟩=some (.int .i64 (akc.getD p 0)):=by have:=bo HN.out.1 (by omega) Jp.out p _ (qP (by omega));rwa[Nat.zero_add] at this
   have HR:Hid (uJ w (dN W akc 9 p0) (.returned (.int .i64 (akc.getD p 0))) wr):=⟨by rw[HN.out.2,show 9 - i=0 from by omega];rfl,CB.out⟩;generalize akc.getD p 0=cv at q2 HR;go_wp2;go_ret;exact HR.out
structure SlRow (w:World)(TG:Option Addr)(cc:Nat)(xs:List Value)(ss:List (List d9)):Prop where
 row:w.ownsRow 0 141 1 (.slice TG ss.length cc) ss.length xs
 sels:Sels w 0 xs ss
 few:ss.length<=400
 short:∀cs∈ss,rn cs
 fine:∀cs∈ss,∀x∈cs,∀p∈x.ps,p.fine
theorem SlRow.below {w w':World}{TG:Option Addr}{cc:Nat}{xs:List Value}(h:SlRow w TG cc xs ss)(hB:Below w.heap.size w w'):SlRow w' TG cc xs ss:=
 ⟨aN h.row hB,h.sels.keep (ik hB _ _) (ik hB _ _),h.few,h.short,h.fine⟩
def XO (w:World)(r:Int × Bool)(e:Ending)(w':World):Prop:=e=.returned (.tuple #[.int .i64 r.1,.bool r.2])/\Below w.heap.size w w'
theorem Hd {i:Nat}(h:i<ss.length):ey els n (ss.take (i+1))=gN els n (ey els n (ss.take i)) ss[i]:=by
 unfold ey;rw[fU h,List.foldl_append];rfl
theorem E2:∀{ss:List (List d9)} {a:Int × Bool},(∀cs∈ss,rn cs)->0<=a.1/\a.1<=160000000400->0<=(ss.foldl (gN els n) a).1/\(ss.foldl (gN els n) a).1<=160000000400
 | [],_,_,h=>h
 | cs :: ss,a,hs,h=>by
  rw[List.foldl_cons];refine E2 (λx hx=>hs x (List.mem_cons_of_mem _ hx)) ?_;unfold gN;split
  ·have h2:=oK (hs cs List.mem_cons_self) cs.length;rw[List.take_length] at h2;show 0<=max _ _/\max _ _<=_;omega
  ·exact h
theorem xF (b:Nat)(a:Option Addr)(c:Nat)(els:List PEl)(n:Int)(ly:Int)(TG:Option Addr)(cc:Nat)(xs:List Value)(ss:List (List d9))(vd:Value)(hvd:∃ad nd cd,vd=.slice ad nd cd)(h:TRd w b a c els)(ho:SlRow w TG cc xs ss):
  Calls prog 181 #[.agg #[.int .i64 ly,.slice TG ss.length cc,vd],.pointer (some ⟨b,1,none⟩),.int .i64 n] w λe w'=>XO w (ey els n ss) e w':=by
 obtain⟨ad,nd,cd,rfl⟩:=hvd;have HT:=ae h;have HO:=ae ho;have bC:=ho.few;have HWL:Hid (∀i,0<=(ey els n (ss.take i)).1/\(ey els n (ss.take i)).1<=160000000400):=λi=>E2 (λx hx=>ho.short x (List.mem_of_mem_take hx)) ⟨by decide,by decide⟩;have eg:Hid (Below w.heap.size w (w.alloc (.cells #[.int .i64 ly,.slice TG ss.length cc,.slice ad nd cd] 138))):=bd.alloc au _;clear h ho;go_enter func181,ntmps181;go_wp2_with fail
 go_loopg [8,9,16] ss.length (λgk gv mv iv wr=>∃(i:Nat),iv=.int .i64 i/\i<=ss.length/\ss.length - i<=gk/\gv=.int .i64 (ey els n (ss.take i)).1/\mv=.bool (ey els n (ss.take i)).2/\Hid (Below w.heap.size w wr))
 case atStart=>exact⟨0,rfl,aZ,by omega,rfl,rfl,eg.out⟩
 case round=>
  obtain⟨i,rfl,hi,fS,rfl,rfl,HN⟩:=hrel;have iW:=HN.out.size
  by_cases aU:i<ss.length
  ·have hd:decide ((i:Int)<(ss.length:Int))=true:=by simp;omega
   obtain⟨g,hg,dn,iC⟩:=aR HO.out.row (by omega);subst hg;obtain⟨ac,ccc,ps,e1,e2,e3⟩:=Cb HO.out.sels aU;have c0:=(HN.out.cell (p:=⟨g,i,none⟩) dn).trans (iC _ _ e1);have fy:Hid (ey els n (ss.take (i+1))=gN els n (ey els n (ss.take i)) ss[i]):=Hd aU;have E7:Hid (ClRow w ac ccc ps ss[i]):=⟨e2,e3,(HO.out.short _ (bK aU)).1,(HO.out.short _ (bK aU)).2,HO.out.fine _ (bK aU)⟩;have Hp:=ae (HO.out.short _ (bK aU));have hw0:=HWL.out i;have lL:zC ss[i]<=160000000400:=by have:=oK Hp.out ss[i].length;rwa[List.take_length] at this
   clear e1 e2 e3 iC;generalize ey els n (ss.take i)=a0 at fy hw0 ⊢;obtain⟨gr,mt⟩:=a0;simp only at hw0 ⊢;obtain⟨hw1,hw2⟩:=hw0;generalize ss[i]=cs at c0 fy E7 Hp lL;have eD:Hid (Below w.heap.size w (wr.alloc (.cells #[.slice ac cs.length ccc] 141))):=HN.out.alloc iW _;go_wp2_with fail;refine(zc b a c els _ n ac ccc ps cs (HT.out.below eD.out) (E7.out.below eD.out)).mono ?_;rintro e w1 ⟨rfl,hB⟩;have gK:wr.heap.size<w1.heap.size:=by have:=hB.size;simp at this;omega
   have q0:w1.cell? ⟨wr.heap.size,0,none⟩=some (.slice ac cs.length ccc):=(hB.cell (p:=⟨wr.heap.size,0,none⟩) (by simp)).trans (aa (heap_alloc_new wr _) rfl);have iG:Hid (Below w.heap.size w w1):=eD.out.trans (hB.mono (by simp;omega));have ac0:=iG.out.size;clear hB c0 eD;cases hr:tB els cs n with
   | false=>
    have fX:Hid (ey els n (ss.take (i+1))=(gr,mt)):=by unfold Hid;rw[fy.out];unfold gN;rw[hr];rfl
    clear hr fy;go_wp2;go_roundg (ss.length - (i+1))
    case measure=>omega
    case rel=>exact⟨i+1,by go_num,by omega,au,by rw[fX.out],by rw[fX.out],iG⟩
   | true=>
    have fX:Hid (ey els n (ss.take (i+1))=(max gr ((zC cs:Nat):Int),true)):=by unfold Hid;rw[fy.out];unfold gN;rw[hr];rfl
    clear hr fy;have UA:=E7.out.below iG.out;go_wp2_with fail;refine(P2 w1 0 ac ccc cs ps UA.row UA.comps Hp.out).mono ?_;rintro e w2 ⟨rfl,hB⟩;have zi:=ae (iG.out.trans (hB.mono ac0));clear hB UA;generalize zC cs=z at fX lL ⊢;go_wp2
    case inl=>
     go_roundg (ss.length - (i+1))
     case measure=>omega
     case rel=>exact⟨i+1,by go_num,by omega,au,by rw[fX.out];show Value.int .i64 (z:Int)=Value.int .i64 (max gr (z:Int));congr 1;omega,by rw[fX.out],zi⟩
    case inr=>
     go_roundg (ss.length - (i+1))
     case measure=>omega
     case rel=>exact⟨i+1,by go_num,by omega,au,by rw[fX.out];show Value.int .i64 gr=Value.int .i64 (max gr (z:Int));congr 1;omega,by rw[fX.out],zi⟩
  ·have hd:decide ((i:Int)<(ss.length:Int))=false:=by simp;omega
   obtain rfl:i=ss.length:=by omega
   rw[List.take_length];have HR:Hid (XO w (ey els n ss) (.returned (.tuple #[.int .i64 (ey els n ss).1,.bool (ey els n ss).2])) wr):=⟨rfl,HN.out⟩;generalize (ey els n ss).1=r1 at HR ⊢;generalize (ey els n ss).2=r2 at HR ⊢;go_wp2;go_ret2;exact HR.out
end
end
section
variable {W:List Clm}{b an n o p:Nat}{ly wt:Int}{w wr:World}
theorem iE {P:Program}{fn:Func}{s:Tmp}{t:TypeId}(h:fn.results=#[.cell s t])(tmps:Array Value)(hx:tmps.getD s undef=.pointer (some ⟨b,0,none⟩)){cs:List Value}{d:TypeDesc}(hc:w.rangeAt b 0 cs)(hu:P.underlying t=some d)(hd:d.isRow=true)(hi:(P.info? t).map (·.size)=some cs.length):
  (results fn tmps).run P w=.ok (.agg cs.toArray) w:=by
 have DK:tmps[s]?.getD undef=.pointer (some ⟨b,0,none⟩):=by simpa using hx
 simp[results,h,DK,asAddr,run_loadVar_mid w b 0 t cs d hc hu hd hi]
theorem cV (hb:an<=b):∀(vs:List Value) (o:Nat) (wr:World),Below an w wr->Below an w (wr.setCells b o vs)
 | [],_,_,h=>h
 | v :: vs,o,wr,h=>cV hb vs (o+1) _ (h.setCell (by exact hb) v)
theorem fQ (w:World)(C:Array Value)(t:TypeId)(n:Nat)(hn:n<=C.size):(w.alloc (.cells C t)).there w.heap.size 0 n:=λj hj=>by
 rw[Nat.zero_add];refine⟨?_,ax (heap_alloc_new w _)⟩;rw[cell_of_row _ _ j C t (0,0) (heap_alloc_new w _)];simp;omega
theorem dx (hB:Below an w wr)(hb:b<an)(h:w.there b o n):wr.there b o n:=λj hj=>by
 obtain⟨h1,h2⟩:=h j hj;obtain⟨u,hu⟩:=Option.isSome_iff_exists.1 h1;have hl:=World.block_lt_of_cell? w _ hu;have he:=hB.block b (by omega);refine⟨by rw[hB.cell (p:=⟨b,o+j,none⟩) hb];exact h1,?_⟩;unfold World.frozen? at h2 ⊢;rw[he];exact h2
theorem qR {o' n':Nat}(h:w.there b o n)(h1:o<=o')(h2:o'+n'<=o+n):w.there b o' n':=λj hj=>by
 have:=h (o' - o+j) (by omega);rwa[show o+(o' - o+j)=o'+j from by omega] at this
theorem K7 (h:w.rangeAt b 0 (aV W))(ht:w.there b 0 (W.length*7))(hp:p<W.length)(c:Clm):(w.setCells b (p*7) c.cells).rangeAt b 0 (aV (W.set p c)):=λj v hv=>by
 rw[Nat.zero_add]
 have hj:j<W.length*7:=by
  have:=(dY.1 hv).1;rwa[iB,List.length_set] at this
 have hi:j / 7<W.length:=by omega
 have jC:(aV (W.set p c))[j / 7*7+j % 7]?=some v:=by rw[show j / 7*7+j % 7=j from by omega];exact hv
 rw[fG (by rw[List.length_set];exact hi) (by omega),List.getElem_set] at jC
 by_cases he:p=j / 7
 ·rw[aq he] at jC;have:=World.rangeAt_setCells_same w b (p*7) c.cells (qR ht (by omega) (by show p*7+7<=_;omega)) (j % 7) v jC;rwa[show p*7+j % 7=j from by omega] at this
 ·rw[aj he] at jC
  rw[World.cell?_setCells_out b c.cells (p*7) w ⟨b,j,none⟩ (λ_ _=>by
   show j<p*7∨p*7+7<=j;omega)]
  have:=h j v (by rw[<-show j / 7*7+j % 7=j from by omega,fG hi (by omega)];exact jC);rwa[Nat.zero_add] at this
structure AfI (w:World)(ly:Int)(W:List Clm)(wr:World):Prop where
 rng:wr.rangeAt w.heap.size 0 (aV W)
 thr:wr.there w.heap.size 0 63
 lay:wr.cell? ⟨w.heap.size+1,0,none⟩=some (.int .i64 ly)
 res:wr.there (w.heap.size+2) 0 63
 below:Below w.heap.size w wr
 far:w.heap.size+3<=wr.heap.size
theorem AfI.go {w':World}(h:AfI w ly W wr)(hB:Below wr.heap.size wr w'):AfI w ly W w':=by
 have h1:=h.far;have h2:=h.below.size;exact⟨bo hB (by omega) h.rng,dx hB (by omega) h.thr,(hB.cell (p:=⟨w.heap.size+1,0,none⟩) (by show w.heap.size+1<_;omega)).trans h.lay,dx hB (by omega) h.res,h.below.trans (hB.mono h2),Nat.le_trans h1 hB.size⟩
theorem AfI.put (h:AfI w ly W wr)(hl:W.length=9)(hp:p<9)(c:Clm):AfI w ly (W.set p c) (wr.setCells w.heap.size (p*7) c.cells):=by
 refine⟨K7 h.rng (by rw[hl];exact h.thr) (by omega) c,World.there_setCells h.thr _ _ _,?_,World.there_setCells h.res _ _ _,cV au _ _ _ h.below,?_⟩
 ·rw[World.cell?_setCells_out w.heap.size c.cells (p*7) wr ⟨w.heap.size+1,0,none⟩ (λhb _=>absurd hb (by show¬(w.heap.size+1=w.heap.size);omega))];exact h.lay
 ·have:∀(vs:List Value) (o:Nat) (wx:World),(wx.setCells w.heap.size o vs).heap.size=wx.heap.size:=by
   intro vs
   induction vs with
   | nil=>intro o wx;rfl
   | cons v vs ih=>intro o wx;show((wx.setCell _ v).setCells _ _ vs).heap.size=_;rw[ih];simp
  rw[this];exact h.far
def XP (w:World)(W:List Clm)(e:Ending)(w':World):Prop:=e=.returned (.agg (aV W).toArray)/\Below w.heap.size w w'
theorem vc (W:List Clm):∀v∈aV W,v.oneCell'=true:=by
 intro v hv;unfold aV at hv;rw[List.mem_flatMap] at hv;obtain⟨c,_,hc⟩:=hv;unfold Clm.cells at hc;simp only[List.mem_cons,List.not_mem_nil,or_false] at hc;rcases hc with rfl | rfl | rfl | rfl | rfl | rfl | rfl<;>rfl
theorem JW {ds:List PDc}{i:Nat}(h:i<ds.length):(ds.take (i+1)).foldl (fb ly wt) W=fb ly wt ((ds.take i).foldl (fb ly wt) W) ds[i]:=by
 rw[fU h,List.foldl_append];rfl
theorem Lq {d:PDc}(h:jr W)(hd:d.fine):jr (fb ly wt W d):=by
 refine⟨by rw[AO];exact h.1,λc hc=>?_⟩;unfold fb at hc;split at hc
 ·split at hc
  ·rcases List.mem_or_eq_of_mem_set hc with hc | rfl
   ·exact h.2 c hc
   ·exact hd.2
  ·exact h.2 c hc
 ·exact h.2 c hc
theorem tl:∀{ds:List PDc} {W:List Clm},jr W->(∀d∈ds,d.fine)->jr (ds.foldl (fb ly wt) W)
 | [],_,h,_=>h
 | d :: ds,W,h,hd=>by
  rw[List.foldl_cons];exact tl (Lq h (hd d List.mem_cons_self)) (λx hx=>hd x (List.mem_cons_of_mem _ hx))
end
theorem ad2 (a b:Bool)(c d e f g:Int):(#[.bool a,.bool b,.int .i64 c,.int .i64 d,.int .i64 e,.int .i64 f,.int .u8 g]:Array Value).all (·.oneCell')=true:=all_oneCell_toArray (cs:=[.bool a,.bool b,.int .i64 c,.int .i64 d,.int .i64 e,.int .i64 f,.int .u8 g]) (λu hu=>by
 simp only[List.mem_cons,List.not_mem_nil,or_false] at hu;rcases hu with rfl | rfl | rfl | rfl | rfl | rfl | rfl<;>rfl)
theorem Tryz.sizeCl:(Tryz.prog.info? 221).map (·.size)=some 7:=by kernel_rfl
theorem JA (w:World)(W:List Clm)(hW:W.length=9)(ly:Int)(v1 v2:Value)(t1 t2 t3:TypeId)(Z:Array Value)(hZ:Z.size=63):AfI w ly W (((w.alloc (.cells (aV W).toArray t1)).alloc (.cells #[.int .i64 ly,v1,v2] t2)).alloc (.cells Z t3)):=by
 have e1:(w.alloc (.cells (aV W).toArray t1)).heap.size=w.heap.size+1:=by simp
 have e2:((w.alloc (.cells (aV W).toArray t1)).alloc (.cells #[.int .i64 ly,v1,v2] t2)).heap.size=w.heap.size+2:=by simp
 have hl:(aV W).toArray.size=63:=by rw[List.size_toArray,iB,hW]
 refine⟨World.rangeAt_alloc (World.rangeAt_alloc (ep w _ _) _) _,World.there_alloc (World.there_alloc (fQ w _ _ 63 (by omega)) _) _,?_,?_,((bd.alloc au _).alloc (by simp) _).alloc (by simp;omega) _,by simp⟩
 ·rw[World.cell?_alloc_lt _ _ _ (by show w.heap.size+1<_;omega)];have:=BJ (w.alloc (.cells (aV W).toArray t1)) #[.int .i64 ly,v1,v2] t2 (k:=0) (v:=.int .i64 ly) rfl;rwa[e1] at this
 ·have:=fQ ((w.alloc (.cells (aV W).toArray t1)).alloc (.cells #[.int .i64 ly,v1,v2] t2)) Z t3 63 (by omega);rwa[e2] at this
section
variable (w:World)
theorem GG (W:List Clm)(hF:jr W)(ly wt:Int)(sa:Option Addr)(sn sc:Nat)(ad:Option Addr)(cd:Nat)(qs:List Value)(ds:List PDc)(ho:w.ownsRow 0 253 5 (.slice ad ds.length cd) ds.length qs)(hk:Decs qs ds)(hfd:∀d∈ds,d.fine)(hl:ds.length<=400):
  Calls prog 182 #[.agg (aV W).toArray,.agg #[.int .i64 ly,.slice sa sn sc,.slice ad ds.length cd],.int .i64 wt] w λe w'=>XP w (ds.foldl (fb ly wt) W) e w':=by
 have HF:Hid (∀i,jr ((ds.take i).foldl (fb ly wt) W)):=λi=>tl hF (λd hd=>hfd d (List.mem_of_mem_take hd));have HO:Hid (w.ownsRow 0 253 5 (.slice ad ds.length cd) ds.length qs/\Decs qs ds/\∀d∈ds,d.fine):=⟨ho,hk,hfd⟩;clear hF ho hk hfd;go_enter func182,ntmps182;go_wp2_with fail
 go_loopg [15] ds.length (λgk iv wr=>∃i:Nat,iv=.int .i64 i/\i<=ds.length/\ds.length - i<=gk/\Hid (AfI w ly ((ds.take i).foldl (fb ly wt) W) wr))
 case atStart=>exact⟨0,rfl,aZ,by omega,JA w W (HF.out 0).1 ly _ _ _ _ _ _ rfl⟩
 case round=>
  obtain⟨i,rfl,hi,fS,HN⟩:=hrel;have J8:=HN.out.far;have iW:=HN.out.below.size
  by_cases aU:i<ds.length
  ·have hd:decide ((i:Int)<(ds.length:Int))=true:=by simp;omega
   obtain⟨g,hg,dn,iC⟩:=aR HO.out.1 (by omega);subst hg;obtain⟨e0,e1,e2,e3,e4⟩:=H7 HO.out.2.1 aU;have c0:=(HN.out.below.cell (p:=⟨g,i*5,none⟩) dn).trans (iC _ _ e0);have c1:=(HN.out.below.cell (p:=⟨g,i*5+1,none⟩) dn).trans (iC _ _ e1);have c2:=(HN.out.below.cell (p:=⟨g,i*5+2,none⟩) dn).trans (iC _ _ e2);have c3:=(HN.out.below.cell (p:=⟨g,i*5+3,none⟩) dn).trans (iC _ _ e3);have c4:=(HN.out.below.cell (p:=⟨g,i*5+4,none⟩) dn).trans (iC _ _ e4);have fy:Hid ((ds.take (i+1)).foldl (fb ly wt) W=fb ly wt ((ds.take i).foldl (fb ly wt) W) ds[i]):=JW aU;have TV:=HO.out.2.2 ds[i] (bK aU);have Wl:=ae (HF.out i);clear e0 e1 e2 e3 e4 iC;generalize ds[i]=d at c0 c1 c2 c3 c4 fy TV;obtain⟨pr,kd,nu,va,im⟩:=d;simp only at c0 c1 c2 c3 c4;obtain⟨hpr,hva⟩:=TV;simp only at hpr hva;generalize (ds.take i).foldl (fb ly wt) W=Wi at HN fy Wl;obtain⟨Wj,hWj⟩:∃Wj,(ds.take (i+1)).foldl (fb ly wt) W=Wj:=⟨_,rfl⟩;have Wy:=ae hWj;rw[hWj] at fy;clear hWj;have HNa:Hid (AfI w ly Wi (wr.alloc (.cells #[.int .u8 pr,.int .i64 kd,.int .i64 nu,.int .u8 va,.bool im] 253))):=HN.out.go (bd.alloc au _);go_wp2_with fail;refine(mw _ pr hpr).mono ?_;rintro e w1 ⟨rfl,hB⟩;have kJ:=ae (HNa.out.go hB);have gK:wr.heap.size<w1.heap.size:=by have:=hB.size;simp at this;omega
   have ZR:=kJ.out.far;have d1:w1.cell? ⟨wr.heap.size,1,none⟩=some (.int .i64 kd):=(hB.cell (p:=⟨wr.heap.size,1,none⟩) (by simp)).trans (aa (heap_alloc_new wr _) rfl);have d2:w1.cell? ⟨wr.heap.size,2,none⟩=some (.int .i64 nu):=(hB.cell (p:=⟨wr.heap.size,2,none⟩) (by simp)).trans (aa (heap_alloc_new wr _) rfl);have d3:w1.cell? ⟨wr.heap.size,3,none⟩=some (.int .u8 va):=(hB.cell (p:=⟨wr.heap.size,3,none⟩) (by simp)).trans (aa (heap_alloc_new wr _) rfl);have d4:w1.cell? ⟨wr.heap.size,4,none⟩=some (.bool im):=(hB.cell (p:=⟨wr.heap.size,4,none⟩) (by simp)).trans (aa (heap_alloc_new wr _) rfl);have dl:=kJ.out.lay;have hzl:w.heap.size+1<w1.heap.size:=by omega
   clear hB c0 c1 c2 c3 c4 HN HNa;cases lU:bH pr with
   | none=>
    have e9:Hid (AfI w ly Wj w1):=by
     have:Wj=Wi:=by rw[fy.out];unfold fb;simp only[lU]
     rw[this];exact kJ.out
    clear lU fy;simp only[Option.getD_none,Option.isSome_none];go_wp2;go_roundg (ds.length - (i+1))
    case measure=>omega
    case rel=>exact⟨i+1,by go_num,by omega,au,by unfold Hid;rw[Wy.out];exact e9.out⟩
   | some k=>
    have hk9:=l9 lU;have p8:(k:Int)<9:=by omega
    have hWl:=Wl.out.1
    have HK:Hid ((aV Wi)[k*7]?=Wi[k].cells[0]?/\(aV Wi)[k*7+1]?=Wi[k].cells[1]?/\(aV Wi)[k*7+2]?=Wi[k].cells[2]?/\(aV Wi)[k*7+3]?=Wi[k].cells[3]?/\(aV Wi)[k*7+4]?=Wi[k].cells[4]?/\(aV Wi)[k*7+5]?=Wi[k].cells[5]?/\(aV Wi)[k*7+6]?=Wi[k].cells[6]?):=
     ⟨fG (j:=0) (by omega) (by omega),fG (by omega) (by omega),fG (by omega) (by omega),fG (by omega) (by omega),fG (by omega) (by omega),fG (by omega) (by omega),fG (by omega) (by omega)⟩
    have fX:Hid (Wj=if iO (mr ly wt ⟨pr,kd,nu,va,im⟩) Wi[k] then Wi.set k (mr ly wt ⟨pr,kd,nu,va,im⟩) else Wi):=by
     have:Wi.getD k Clm.none=Wi[k]:=by rw[List.getD_eq_getElem?_getD,bO (by omega)];rfl
     unfold Hid;rw[fy.out];unfold fb;simp only[lU];rw[this]
    clear lU fy;generalize Wi[k]=xk at HK fX;obtain⟨QM,Kk,DU,Ja,Ko,KB,Ly⟩:=xk;simp only[Option.getD_some,Option.isSome_some]
    have HC:Hid (∀wx,Below (w1.heap.size+1) (w1.alloc (.cells #[.bool true,.bool im,.int .i64 ly,.int .i64 wt,.int .i64 kd,.int .i64 nu,.int .u8 va] 221)).drew wx->wx.cell? ⟨w1.heap.size,0,none⟩=some (.bool true)/\wx.cell? ⟨w1.heap.size,1,none⟩=some (.bool im)/\wx.cell? ⟨w1.heap.size,2,none⟩=some (.int .i64 ly)/\wx.cell? ⟨w1.heap.size,3,none⟩=some (.int .i64 wt)/\wx.cell? ⟨w1.heap.size,4,none⟩=some (.int .i64 kd)/\wx.cell? ⟨w1.heap.size,5,none⟩=some (.int .i64 nu)/\wx.cell? ⟨w1.heap.size,6,none⟩=some (.int .u8 va)/\wx.cell? ⟨w.heap.size,k*7,none⟩=some (.bool QM)/\wx.cell? ⟨w.heap.size,k*7+1,none⟩=some (.bool Kk)/\wx.cell? ⟨w.heap.size,k*7+2,none⟩=some (.int .i64 DU)/\wx.cell? ⟨w.heap.size,k*7+3,none⟩=some (.int .i64 Ja)/\wx.cell? ⟨w.heap.size,k*7+4,none⟩=some (.int .i64 Ko)/\wx.cell? ⟨w.heap.size,k*7+5,none⟩=some (.int .i64 KB)/\wx.cell? ⟨w.heap.size,k*7+6,none⟩=some (.int .u8 Ly)):=λwx hb=>by
     have mU:(w1.alloc (.cells #[.bool true,.bool im,.int .i64 ly,.int .i64 wt,.int .i64 kd,.int .i64 nu,.int .u8 va] 221)).drew.heap[w1.heap.size]?=some (.cells #[.bool true,.bool im,.int .i64 ly,.int .i64 wt,.int .i64 kd,.int .i64 nu,.int .u8 va] 221):=heap_alloc_new w1 _;have hx:wx.heap[w1.heap.size]?=some (.cells #[.bool true,.bool im,.int .i64 ly,.int .i64 wt,.int .i64 kd,.int .i64 nu,.int .u8 va] 221):=(hb.block _ (by omega)).trans mU;have hr0:(w1.alloc (.cells #[.bool true,.bool im,.int .i64 ly,.int .i64 wt,.int .i64 kd,.int .i64 nu,.int .u8 va] 221)).drew.rangeAt w.heap.size 0 (aV Wi):=World.rangeAt_alloc kJ.out.rng _;have hr:wx.rangeAt w.heap.size 0 (aV Wi):=bo hb (by omega) hr0;have hz:∀j v,(aV Wi)[j]?=some v->wx.cell? ⟨w.heap.size,j,none⟩=some v:=λj v hv=>by have:=hr j v hv;rwa[Nat.zero_add] at this
     obtain⟨f0,f1,f2,f3,f4,f5,f6⟩:=HK.out;exact⟨aa hx rfl,aa hx rfl,aa hx rfl,aa hx rfl,aa hx rfl,aa hx rfl,aa hx rfl,hz _ _ f0,hz _ _ f1,hz _ _ f2,hz _ _ f3,hz _ _ f4,hz _ _ f5,hz _ _ f6⟩
    have H0:Hid (Below (w1.heap.size+1) (w1.alloc (.cells #[.bool true,.bool im,.int .i64 ly,.int .i64 wt,.int .i64 kd,.int .i64 nu,.int .u8 va] 221)).drew (w1.alloc (.cells #[.bool true,.bool im,.int .i64 ly,.int .i64 wt,.int .i64 kd,.int .i64 nu,.int .u8 va] 221)).drew):=bd;have HNb:Hid (AfI w ly Wi (w1.alloc (.cells #[.bool true,.bool im,.int .i64 ly,.int .i64 wt,.int .i64 kd,.int .i64 nu,.int .u8 va] 221)).drew):=kJ.out.go (bd.alloc au _).drew;have hzb:(w1.alloc (.cells #[.bool true,.bool im,.int .i64 ly,.int .i64 wt,.int .i64 kd,.int .i64 nu,.int .u8 va] 221)).drew.heap.size=w1.heap.size+1:=by simp[World.drew]
    have HZB:=ae hzb;clear hzb;go_upto_region 7 with fail
    go_cut [39] (λv wx=>v=.bool (iO (mr ly wt ⟨pr,kd,nu,va,im⟩) ⟨QM,Kk,DU,Ja,Ko,KB,Ly⟩)/\Hid (Below (w1.heap.size+1) (w1.alloc (.cells #[.bool true,.bool im,.int .i64 ly,.int .i64 wt,.int .i64 kd,.int .i64 nu,.int .u8 va] 221)).drew wx))
    case first=>
     go_region_held3 (λw'=>w'.cell? ⟨w1.heap.size,0,none⟩=some (.bool true)/\w'.cell? ⟨w1.heap.size,1,none⟩=some (.bool im)/\w'.cell? ⟨w1.heap.size,2,none⟩=some (.int .i64 ly)/\w'.cell? ⟨w1.heap.size,3,none⟩=some (.int .i64 wt)/\w'.cell? ⟨w1.heap.size,4,none⟩=some (.int .i64 kd)/\w'.cell? ⟨w1.heap.size,5,none⟩=some (.int .i64 nu)/\w'.cell? ⟨w1.heap.size,6,none⟩=some (.int .u8 va)/\w'.cell? ⟨w.heap.size,k*7,none⟩=some (.bool QM)/\w'.cell? ⟨w.heap.size,k*7+1,none⟩=some (.bool Kk)/\w'.cell? ⟨w.heap.size,k*7+2,none⟩=some (.int .i64 DU)/\w'.cell? ⟨w.heap.size,k*7+3,none⟩=some (.int .i64 Ja)/\w'.cell? ⟨w.heap.size,k*7+4,none⟩=some (.int .i64 Ko)/\w'.cell? ⟨w.heap.size,k*7+5,none⟩=some (.int .i64 KB)/\w'.cell? ⟨w.heap.size,k*7+6,none⟩=some (.int .u8 Ly)) (first | exact HC.out _ H0.out | exact HC.out _ HX.out)
      (first | (go_at_call 196;refine(GI _ true im ly wt kd nu va QM Kk DU Ja Ko KB Ly).mono ?_;rintro e w2 ⟨rfl,dq⟩;have HX:Hid (Below (w1.heap.size+1) (w1.alloc (.cells #[.bool true,.bool im,.int .i64 ly,.int .i64 wt,.int .i64 kd,.int .i64 nu,.int .u8 va] 221)).drew w2):=dq.mono (by have:=HZB.out;omega)))
     all_goals
      go_wp2_with fail;go_meet;exact⟨rfl,HX⟩
    case rest=>
     obtain⟨rfl,HX⟩:=hcut;have QT:Hid (AfI w ly Wi wc):=HNb.out.go (HX.out.mono (by have:=HZB.out;omega));have Gg:=QT.out.far;have hzx:w1.heap.size+1<=wc.heap.size:=by have:=HX.out.size;have:=HZB.out;omega
     clear d1 d2 d3 d4 dl;cases Ga:iO (mr ly wt ⟨pr,kd,nu,va,im⟩) ⟨QM,Kk,DU,Ja,Ko,KB,Ly⟩ with
     | true=>
      have e9:Hid (AfI w ly Wj (wc.setCells w.heap.size (k*7) [.bool true,.bool im,.int .i64 ly,.int .i64 wt,.int .i64 kd,.int .i64 nu,.int .u8 va])):=by
       unfold Hid;rw[fX.out,Ga,aq rfl];exact QT.out.put hWl hk9 _
      have HRC:Hid (wc.rangeAt w1.heap.size 0 [.bool true,.bool im,.int .i64 ly,.int .i64 wt,.int .i64 kd,.int .i64 nu,.int .u8 va]):=bo HX.out (by omega) (ep w1 _ _);obtain⟨QA,R9⟩:∃QA:List Value,QA=[.bool true,.bool im,.int .i64 ly,.int .i64 wt,.int .i64 kd,.int .i64 nu,.int .u8 va]:=⟨_,rfl⟩;have bX:QA.length=7:=by rw[R9];rfl
      have HO7:Hid (QA.toArray.all (·.oneCell')=true):=by unfold Hid;rw[R9];exact ad2 true im ly wt kd nu va
      rw[<-R9] at HRC e9;have tZ:Hid (wc.there w.heap.size (k*7) QA.toArray.size):=(by unfold Hid;rw[show QA.toArray.size=7 from(List.size_toArray).trans bX];exact qR QT.out.thr (by omega) (by omega));have uI:Hid ((prog.info? 221).map (·.size)=some QA.length):=by unfold Hid;rw[bX];exact Tryz.sizeCl
      have ace:Hid ((prog.info? 221).map (·.size)=some QA.toArray.size):=by unfold Hid;rw[List.size_toArray];exact uI.out
      clear Ga fX HC H0 HNb QT R9 bX;go_wp2_with (first | (refine wpList_load_mid rfl 221 _ rfl w1.heap.size 0 rfl QA _ HRC.out underlying221 rfl uI.out ?_) | (refine wpList_store_mid rfl 221 _ _ rfl w.heap.size (k*7) QA.toArray rfl rfl tZ.out ace.out HO7.out ?_));go_roundg (ds.length - (i+1))
      case measure=>omega
      case rel=>exact⟨i+1,by go_num,by omega,au,by unfold Hid;rw[Wy.out];exact e9.out⟩
     | false=>
      have e9:Hid (AfI w ly Wj wc):=by
       unfold Hid;rw[fX.out,Ga];exact QT.out
      clear Ga fX HC H0 HNb QT;go_wp2;go_roundg (ds.length - (i+1))
      case measure=>omega
      case rel=>exact⟨i+1,by go_num,by omega,au,by unfold Hid;rw[Wy.out];exact e9.out⟩
  ·have hd:decide ((i:Int)<(ds.length:Int))=false:=by simp;omega
   obtain rfl:i=ds.length:=by omega
   rw[List.take_length] at HN;have LN:Hid (jr (ds.foldl (fb ly wt) W)):=by have:=HF.out ds.length;rwa[List.take_length] at this
   obtain⟨Wn,Vr⟩:∃Wn,ds.foldl (fb ly wt) W=Wn:=⟨_,rfl⟩;rw[Vr] at HN LN;have LX:=ae Vr;clear Vr;have Fa:=ae (sizeW LN.out.1);have HLN:Hid ((aV Wn).toArray.size=63):=by unfold Hid;rw[List.size_toArray,iB,LN.out.1]
   have CI:Hid ((prog.info? 223).map (·.size)=some (aV Wn).toArray.size):=by unfold Hid;rw[List.size_toArray];exact Fa.out
   have tZ:Hid (wr.there (w.heap.size+2) 0 (aV Wn).toArray.size):=by unfold Hid;rw[HLN.out];exact HN.out.res
   have zk:=ae (all_oneCell_toArray (vc Wn));have A6:Hid ((wr.setCells (w.heap.size+2) 0 (aV Wn)).rangeAt (w.heap.size+2) 0 (aV Wn)):=World.rangeAt_setCells_same wr _ 0 _ (by have:=tZ.out;rwa[List.size_toArray] at this);have uH:Hid (Below w.heap.size w (wr.setCells (w.heap.size+2) 0 (aV Wn))):=cV (by omega) _ _ _ HN.out.below;go_wp2_with (first | (refine wpList_load_mid rfl 223 _ rfl w.heap.size 0 rfl (aV Wn) _ HN.out.rng underlying223 rfl Fa.out ?_) | (refine wpList_store_mid rfl 223 _ _ rfl (w.heap.size+2) 0 (aV Wn).toArray rfl rfl tZ.out CI.out zk.out ?_));exact bodyPost_ret (iE Tryz.results182 _ rfl A6.out underlying223 rfl Fa.out) rfl ⟨by rw[LX.out],uH.out⟩
end
section
variable {W:List Clm}{els:List PEl}{n:Int}{w wr:World}
structure WnI (w:World)(W:List Clm)(wr:World):Prop where
 rng:wr.rangeAt (w.heap.size+2) 0 (aV W)
 thr:wr.there (w.heap.size+2) 0 63
 res:wr.there (w.heap.size+1) 0 63
 below:Below w.heap.size w wr
 far:w.heap.size+3<=wr.heap.size
theorem WnI.go {w':World}(h:WnI w W wr)(hB:Below wr.heap.size wr w'):WnI w W w':=by
 have h1:=h.far;have h2:=h.below.size;exact⟨bo hB (by omega) h.rng,dx hB (by omega) h.thr,dx hB (by omega) h.res,h.below.trans (hB.mono h2),Nat.le_trans h1 hB.size⟩
theorem eM (b:Nat):∀(vs:List Value) (o:Nat) (wx:World),(wx.setCells b o vs).heap.size=wx.heap.size
 | [],_,_=>rfl
 | v :: vs,o,wx=>by
  show((wx.setCell _ v).setCells _ _ vs).heap.size=_;rw[eM b vs];simp
theorem WnI.put (h:WnI w W wr){W':List Clm}(hl:W'.length=9):WnI w W' (wr.setCells (w.heap.size+2) 0 (aV W')):=by
 have e:(aV W').length=63:=by rw[iB,hl]
 refine⟨World.rangeAt_setCells_same wr _ 0 _ (by rw[e];exact h.thr),World.there_setCells h.thr _ _ _,World.there_setCells h.res _ _ _,cV (by omega) _ _ _ h.below,?_⟩;rw[eM];exact h.far
theorem LE (w:World)(A:Array Value)(t1 t2 t3:TypeId)(Z Y:Array Value)(hY:Y.size=63)(hZ:Z=(aV (List.replicate 9 Clm.none)).toArray):WnI w (List.replicate 9 Clm.none) (((w.alloc (.cells A t1)).alloc (.cells Y t2)).alloc (.cells Z t3)):=by
 subst hZ;have e1:(w.alloc (.cells A t1)).heap.size=w.heap.size+1:=by simp
 have e2:((w.alloc (.cells A t1)).alloc (.cells Y t2)).heap.size=w.heap.size+2:=by simp
 refine⟨?_,?_,?_,((bd.alloc au _).alloc (by simp) _).alloc (by simp;omega) _,by simp⟩
 ·have:=ep ((w.alloc (.cells A t1)).alloc (.cells Y t2)) (aV (List.replicate 9 Clm.none)) t3;rwa[e2] at this
 ·have:=fQ ((w.alloc (.cells A t1)).alloc (.cells Y t2)) (aV (List.replicate 9 Clm.none)).toArray t3 63 (by rw[List.size_toArray,iB,List.length_replicate];decide);rwa[e2] at this
 ·have:=fQ (w.alloc (.cells A t1)) Y t2 63 (by omega);rw[e1] at this;exact World.there_alloc this _
theorem Lc {rs:List dF}{i:Nat}(h:i<rs.length):bE els (rs.take (i+1)) n=lF els n (bE els (rs.take i) n) rs[i]:=by
 unfold bE;rw[fU h,List.foldl_append];rfl
theorem tL:∀{rs:List dF} {W:List Clm},jr W->(∀r∈rs,∀d∈r.ds,d.fine)->jr (rs.foldl (lF els n) W)
 | [],_,h,_=>h
 | r :: rs,W,h,hd=>by
  rw[List.foldl_cons];refine tL ?_ (λx hx=>hd x (List.mem_cons_of_mem _ hx));unfold lF;split
  ·exact tl h (hd r List.mem_cons_self)
  ·exact h
theorem An:jr (List.replicate 9 Clm.none):=by
 refine⟨by simp,λc hc=>?_⟩;rw[List.eq_of_mem_replicate hc];exact⟨by decide,by decide⟩
section
variable (w:World)
theorem BY (b:Nat)(a:Option Addr)(c:Nat)(els:List PEl)(n:Int)(ar:Option Addr)(cr:Nat)(xs:List Value)(rs:List dF)(h:TRd w b a c els)(ho:RsRow w ar cr xs rs):
  Calls prog 162 #[.agg #[.slice ar rs.length cr],.pointer (some ⟨b,1,none⟩),.int .i64 n] w λe w'=>XP w (bE els rs n) e w':=by
 have HT:Hid (TRd w b a c els):=h;have HO:Hid (RsRow w ar cr xs rs):=ho;have bC:=ho.few;have HF:Hid (∀i,jr (bE els (rs.take i) n)):=λi=>tL An (λr hr=>(ho.decl r (List.mem_of_mem_take hr)).2);clear h ho;go_enter func162,ntmps162;go_wp2_with fail
 go_loopg [15] rs.length (λgk iv wr=>∃i:Nat,iv=.int .i64 i/\i<=rs.length/\rs.length - i<=gk/\Hid (WnI w (bE els (rs.take i) n) wr))
 case atStart=>exact⟨0,rfl,aZ,by omega,LE w _ _ _ _ _ _ rfl rfl⟩
 case round=>
  obtain⟨i,rfl,hi,fS,HN⟩:=hrel;have J8:=HN.out.far;have iW:=HN.out.below.size
  by_cases aU:i<rs.length
  ·have hd:decide ((i:Int)<(rs.length:Int))=true:=by simp;omega
   obtain⟨g,hg,dn,iC⟩:=aR HO.out.row (by omega);subst hg;obtain⟨sa,sc,ps,e1,e2,e3⟩:=B7 HO.out.ruls aU;obtain⟨e0,da,dc,qs,f1,f2,f3⟩:=tM HO.out.ruls aU;have c0:=(HN.out.below.cell (p:=⟨g,i*3,none⟩) dn).trans (iC _ _ e0);have c1:=(HN.out.below.cell (p:=⟨g,i*3+1,none⟩) dn).trans (iC _ _ e1);have c2:=(HN.out.below.cell (p:=⟨g,i*3+2,none⟩) dn).trans (iC _ _ f1);have fy:Hid (bE els (rs.take (i+1)) n=lF els n (bE els (rs.take i) n) rs[i]):=Lc aU;have sG:Hid (SlRow w sa sc ps rs[i].ss):=⟨e2,e3,(HO.out.short _ (bK aU)).1,(HO.out.short _ (bK aU)).2,HO.out.fine _ (bK aU)⟩;have Qq:Hid (w.ownsRow 0 253 5 (.slice da rs[i].ds.length dc) rs[i].ds.length qs/\Decs qs rs[i].ds/\(∀d∈rs[i].ds,d.fine)/\rs[i].ds.length<=400):=⟨f2,f3,(HO.out.decl _ (bK aU)).2,(HO.out.decl _ (bK aU)).1⟩;have Wl:Hid (jr (bE els (rs.take i) n)):=HF.out i;have HFj:Hid (jr (bE els (rs.take (i+1)) n)):=HF.out (i+1);clear e0 e1 e2 e3 f1 f2 f3 iC;generalize rs[i]=r at c0 c1 c2 fy sG Qq;obtain⟨ly,ss,ds⟩:=r;simp only at c0 c1 c2;replace sG:Hid (SlRow w sa sc ps ss):=sG;replace Qq:Hid (w.ownsRow 0 253 5 (.slice da ds.length dc) ds.length qs/\Decs qs ds/\(∀d∈ds,d.fine)/\ds.length<=400):=Qq;generalize bE els (rs.take i) n=Wi at HN fy Wl;obtain⟨Wj,hWj⟩:∃Wj,bE els (rs.take (i+1)) n=Wj:=⟨_,rfl⟩;have Wy:Hid (bE els (rs.take (i+1)) n=Wj):=hWj;rw[hWj] at fy HFj;clear hWj;have eD:Hid (Below w.heap.size w (wr.alloc (.cells #[.int .i64 ly,.slice sa ss.length sc,.slice da ds.length dc] 138))):=HN.out.below.alloc iW _;go_wp2_with fail;refine(xF _ b a c els n ly sa sc ps ss (.slice da ds.length dc) ⟨_,_,_,rfl⟩ (HT.out.below eD.out) (sG.out.below eD.out)).mono ?_;rintro e w1 ⟨rfl,hB⟩;have kJ:Hid (WnI w Wi w1):=(HN.out.go (bd.alloc au _)).go hB;have gK:wr.heap.size<w1.heap.size:=by have:=hB.size;simp at this;omega
   have d0:w1.cell? ⟨wr.heap.size,0,none⟩=some (.int .i64 ly):=(hB.cell (p:=⟨wr.heap.size,0,none⟩) (by simp)).trans (aa (heap_alloc_new wr _) rfl);have d1:w1.cell? ⟨wr.heap.size,1,none⟩=some (.slice sa ss.length sc):=(hB.cell (p:=⟨wr.heap.size,1,none⟩) (by simp)).trans (aa (heap_alloc_new wr _) rfl);have d2:w1.cell? ⟨wr.heap.size,2,none⟩=some (.slice da ds.length dc):=(hB.cell (p:=⟨wr.heap.size,2,none⟩) (by simp)).trans (aa (heap_alloc_new wr _) rfl);have ZR:=kJ.out.far;clear hB c0 c1 c2 eD HN;have Jr:Hid (Wj=if(ey els n ss).2 then ds.foldl (fb ly (ey els n ss).1) Wi else Wi):=fy.out;clear fy;generalize ey els n ss=wm at Jr ⊢;obtain⟨wt,mt⟩:=wm;simp only at Jr ⊢;cases mt with
   | false=>
    have e9:Hid (WnI w Wj w1):=by
     have:Wj=Wi:=Jr.out;rw[this];exact kJ.out
    clear Jr;go_wp2;go_roundg (rs.length - (i+1))
    case measure=>omega
    case rel=>exact⟨i+1,by go_num,by omega,au,by unfold Hid;rw[Wy.out];exact e9.out⟩
   | true=>
    have fX:Hid (Wj=ds.foldl (fb ly wt) Wi):=Jr.out;clear Jr;have Fa:Hid ((prog.info? 223).map (·.size)=some (aV Wi).length):=sizeW Wl.out.1;have abN:Hid (w1.ownsRow 0 253 5 (.slice da ds.length dc) ds.length qs):=aN Qq.out.1 kJ.out.below;go_wp2_with (refine wpList_load_mid rfl 223 _ rfl (w.heap.size+2) 0 rfl (aV Wi) _ kJ.out.rng underlying223 rfl Fa.out ?_);refine(GG w1 Wi Wl.out ly wt sa ss.length sc da dc qs ds abN.out Qq.out.2.1 Qq.out.2.2.1 Qq.out.2.2.2).mono ?_;rintro e w2 ⟨rfl,dq⟩;rw[<-fX.out];have QT:Hid (WnI w Wi w2):=kJ.out.go dq;have e9:Hid (WnI w Wj (w2.setCells (w.heap.size+2) 0 (aV Wj))):=QT.out.put HFj.out.1;have bX:(aV Wj).toArray.size=63:=List.size_toArray.trans (by rw[iB,HFj.out.1]);have tZ:Hid (w2.there (w.heap.size+2) 0 (aV Wj).toArray.size):=by unfold Hid;rw[bX];exact QT.out.thr
    have CI:Hid ((prog.info? 223).map (·.size)=some (aV Wj).toArray.size):=by unfold Hid;rw[bX];exact Tryz.sizeW
    have zk:Hid ((aV Wj).toArray.all (·.oneCell')=true):=all_oneCell_toArray (vc Wj);clear dq bX d0 d1 d2 fX Fa;go_wp2_with (refine wpList_store_mid rfl 223 _ _ rfl (w.heap.size+2) 0 (aV Wj).toArray rfl rfl tZ.out CI.out zk.out ?_);go_roundg (rs.length - (i+1))
    case measure=>omega
    case rel=>exact⟨i+1,by go_num,by omega,au,by unfold Hid;rw[Wy.out];exact e9.out⟩
  ·have hd:decide ((i:Int)<(rs.length:Int))=false:=by simp;omega
   obtain rfl:i=rs.length:=by omega
   rw[List.take_length] at HN;have LN:Hid (jr (bE els rs n)):=by have:=HF.out rs.length;rwa[List.take_length] at this
   obtain⟨Wn,Vr⟩:∃Wn,bE els rs n=Wn:=⟨_,rfl⟩;rw[Vr] at HN LN;have LX:Hid (bE els rs n=Wn):=Vr;clear Vr;have Fa:Hid ((prog.info? 223).map (·.size)=some (aV Wn).length):=sizeW LN.out.1;have bX:(aV Wn).toArray.size=63:=List.size_toArray.trans (by rw[iB,LN.out.1]);have CI:Hid ((prog.info? 223).map (·.size)=some (aV Wn).toArray.size):=by unfold Hid;rw[bX];exact Tryz.sizeW
   have tZ:Hid (wr.there (w.heap.size+1) 0 (aV Wn).toArray.size):=by unfold Hid;rw[bX];exact HN.out.res
   have zk:Hid ((aV Wn).toArray.all (·.oneCell')=true):=all_oneCell_toArray (vc Wn);have A6:Hid ((wr.setCells (w.heap.size+1) 0 (aV Wn)).rangeAt (w.heap.size+1) 0 (aV Wn)):=World.rangeAt_setCells_same wr _ 0 _ (by have:=tZ.out;rwa[show(aV Wn).toArray.size=(aV Wn).length from List.size_toArray] at this);have uH:Hid (Below w.heap.size w (wr.setCells (w.heap.size+1) 0 (aV Wn))):=cV (by omega) _ _ _ HN.out.below;clear bX;go_wp2_with (first | (refine wpList_load_mid rfl 223 _ rfl (w.heap.size+2) 0 rfl (aV Wn) _ HN.out.rng underlying223 rfl Fa.out ?_) | (refine wpList_store_mid rfl 223 _ _ rfl (w.heap.size+1) 0 (aV Wn).toArray rfl rfl tZ.out CI.out zk.out ?_));exact bodyPost_ret (iE Tryz.results162 _ rfl A6.out underlying223 rfl Fa.out) rfl ⟨by rw[LX.out],uH.out⟩
end
end
def fN (cs:List d9)(kd lt:Int):Bool:=cs.any λc=>c.ps.any λp=>decide (p.kd=kd)&&decide (p.lt=lt)
theorem Am (rs:List dF)(kd lt:Int):dt rs kd lt=rs.any λr=>r.ss.any λcs=>fN cs kd lt:=rfl
section
theorem Ee (w:World)(ac:Option Addr)(cc:Nat)(xs:List Value)(cs:List d9)(kd lt:Int)(ho:ClRow w ac cc xs cs):Calls prog 74 #[.agg #[.slice ac cs.length cc],.int .i64 kd,.int .u8 lt] w λe w'=>bD w (fN cs kd lt) e w':=by
 have HO:=ae ho;have bC:=ho.few;clear ho;go_enter func74,ntmps74;go_wp2_with fail
 go_loopg [14] cs.length (λgk iv wr=>∃i:Nat,iv=.int .i64 i/\i<=cs.length/\cs.length - i<=gk/\Hid (Below w.heap.size w wr/\∀j (_:j<cs.length),j<i->(cs[j].ps.any λp=>decide (p.kd=kd)&&decide (p.lt=lt))=false))
 case atStart=>exact⟨0,rfl,aZ,by omega,bd.alloc au _,λj _ h=>by omega⟩
 case round=>
  obtain⟨i,rfl,hi,fS,HN⟩:=hrel;obtain⟨wo,rfl⟩:∃wo,wo=wr:=⟨_,rfl⟩;have iW:=HN.out.1.size
  by_cases aU:i<cs.length
  ·have hd:decide ((i:Int)<(cs.length:Int))=true:=by simp;omega
   obtain⟨g,hg,dn,iC⟩:=aR HO.out.row (by omega);subst hg;obtain⟨ap,cp,ps,e0,e1,e2,e3,e4⟩:=rz HO.out.comps aU;have c0:=(HN.out.1.cell (p:=⟨g,i*3,none⟩) dn).trans (iC _ _ e0);have c1:=(HN.out.1.cell (p:=⟨g,i*3+1,none⟩) dn).trans (iC _ _ e1);have c2:=(HN.out.1.cell (p:=⟨g,i*3+2,none⟩) dn).trans (iC _ _ e2);have sQ:=bT e3 e4;have lU:=HO.out.short _ (bK aU)
   have iH:Hid ((cs[i].ps.any λp=>decide (p.kd=kd)&&decide (p.lt=lt))=false->∀j (_:j<cs.length),j<i+1->(cs[j].ps.any λp=>decide (p.kd=kd)&&decide (p.lt=lt))=false):=λhm j hj h1=>by
    by_cases e:j=i
    ·subst e;exact hm
    ·exact HN.out.2 j hj (by omega)
   have HY:Hid ((cs[i].ps.any λp=>decide (p.kd=kd)&&decide (p.lt=lt))=true->fN cs kd lt=true):=λh=>by
    unfold fN;rw[List.any_eq_true];exact⟨cs[i],bK aU,h⟩
   clear e0 e1 e2 e3 e4 iC;generalize cs[i].sg=sg at c0;generalize (cs[i].ty:Int)=ty at c1;generalize cs[i].ps=pl at c2 sQ lU iH HY;have eg:Hid (Below w.heap.size w (wo.alloc (.cells #[.int .u8 sg,.int .u8 ty,.slice ap pl.length cp] 190))):=HN.out.1.alloc iW _;clear HN;go_wp2_with fail
   go_loopg [21] pl.length (λgk iv wr=>∃k:Nat,iv=.int .i64 k/\k<=pl.length/\pl.length - k<=gk/\Hid (Below w.heap.size w wr/\∀j (_:j<pl.length),j<k->¬(pl[j].kd=kd/\pl[j].lt=lt)))
   case atStart=>exact⟨0,rfl,aZ,by omega,eg.out,λj _ h=>by omega⟩
   case round=>
    obtain⟨k,rfl,hk,rG,HJ⟩:=hrel;have Sf:=HJ.out.1.size
    by_cases ln:k<pl.length
    ·have iR:decide ((k:Int)<(pl.length:Int))=true:=by simp;omega
     obtain⟨g2,ij,lM,BE⟩:=aR sQ.out.1 (by omega);subst ij;obtain⟨e0,e1,e2,e3,e4⟩:=oZ sQ.out.2 ln;have k0:=(HJ.out.1.cell (p:=⟨g2,k*5,none⟩) lM).trans (BE _ _ e0);have k1:=(HJ.out.1.cell (p:=⟨g2,k*5+1,none⟩) lM).trans (BE _ _ e1);have k2:=(HJ.out.1.cell (p:=⟨g2,k*5+2,none⟩) lM).trans (BE _ _ e2);have k3:=(HJ.out.1.cell (p:=⟨g2,k*5+3,none⟩) lM).trans (BE _ _ e3);have k4:=(HJ.out.1.cell (p:=⟨g2,k*5+4,none⟩) lM).trans (BE _ _ e4)
     have UL:Hid (¬(pl[k].kd=kd/\pl[k].lt=lt)->∀j (_:j<pl.length),j<k+1->¬(pl[j].kd=kd/\pl[j].lt=lt)):=λhm j hj h1=>by
      by_cases e:j=k
      ·subst e;exact hm
      ·exact HJ.out.2 j hj (by omega)
     have WA:Hid (pl[k].kd=kd/\pl[k].lt=lt->fN cs kd lt=true):=λh=>HY.out (by
      rw[List.any_eq_true];exact⟨pl[k],bK ln,by simp[h.1,h.2]⟩)
     clear e0 e1 e2 e3 e4 BE;generalize pl[k].nt=pnt at k0;generalize pl[k].kd=pkd at k1 UL WA;generalize pl[k].lt=plt at k2 UL WA;generalize pl[k].st=pst at k3;generalize pl[k].sr=psr at k4;have iG:Hid (Below w.heap.size w (wr.alloc (.cells #[.bool pnt,.int .i64 pkd,.int .u8 plt,.int .i64 pst,.int .i64 psr] 192))):=HJ.out.1.alloc Sf _
     by_cases h1:pkd=kd
     ·have g1:(pkd==kd)=true:=by simp[h1]
      by_cases h2:plt=lt
      ·have g2:(plt==lt)=true:=by simp[h2]
       have HR:Hid (bD w (fN cs kd lt) (.returned (.bool true)) (wr.alloc (.cells #[.bool pnt,.int .i64 pkd,.int .u8 plt,.int .i64 pst,.int .i64 psr] 192))):=⟨by rw[WA.out ⟨h1,h2⟩],iG.out⟩;clear h1 h2;go_wp2;go_ret;exact HR.out
      ·have g2:(plt==lt)=false:=by simp[h2]
       have qU:Hid (Below w.heap.size w (wr.alloc (.cells #[.bool pnt,.int .i64 pkd,.int .u8 plt,.int .i64 pst,.int .i64 psr] 192))/\∀j (_:j<pl.length),j<k+1->¬(pl[j].kd=kd/\pl[j].lt=lt)):=⟨iG.out,UL.out (λh=>h2 h.2)⟩;clear h1 h2;go_wp2;go_roundg (pl.length - (k+1))
       case measure=>omega
       case rel=>exact⟨k+1,by go_num,by omega,au,qU⟩
     ·have g1:(pkd==kd)=false:=by simp[h1]
      have qU:Hid (Below w.heap.size w (wr.alloc (.cells #[.bool pnt,.int .i64 pkd,.int .u8 plt,.int .i64 pst,.int .i64 psr] 192))/\∀j (_:j<pl.length),j<k+1->¬(pl[j].kd=kd/\pl[j].lt=lt)):=⟨iG.out,UL.out (λh=>h1 h.1)⟩;clear h1;go_wp2;go_roundg (pl.length - (k+1))
      case measure=>omega
      case rel=>exact⟨k+1,by go_num,by omega,au,qU⟩
    ·have iR:decide ((k:Int)<(pl.length:Int))=false:=by simp;omega
     have e9:Hid (Below w.heap.size w wr/\∀j (_:j<cs.length),j<i+1->(cs[j].ps.any λp=>decide (p.kd=kd)&&decide (p.lt=lt))=false):=by
      refine⟨HJ.out.1,iH.out ?_⟩;rw[List.any_eq_false];intro p hp hx;obtain⟨j,hj,rfl⟩:=List.getElem_of_mem hp;refine HJ.out.2 j hj (by omega) ?_;simpa using hx
     clear HJ;go_wp2;go_roundg (cs.length - (i+1))
     case measure=>omega
     case rel=>exact⟨i+1,by go_num,by omega,au,e9⟩
  ·have hd:decide ((i:Int)<(cs.length:Int))=false:=by simp;omega
   have HR:Hid (bD w (fN cs kd lt) (.returned (.bool false)) wo):=by
    refine⟨?_,HN.out.1⟩
    have:fN cs kd lt=false:=by
     unfold fN;rw[List.any_eq_false];intro x hx;obtain⟨j,hj,rfl⟩:=List.getElem_of_mem hx;rw[HN.out.2 j hj (by omega)];decide
    rw[this]
   go_wp2;go_ret;exact HR.out
theorem pg (w:World)(ar:Option Addr)(cr:Nat)(xs:List Value)(rs:List dF)(kd lt:Int)(ho:RsRow w ar cr xs rs):Calls prog 40 #[.agg #[.slice ar rs.length cr],.int .i64 kd,.int .u8 lt] w λe w'=>bD w (dt rs kd lt) e w':=by
 have HO:=ae ho;have bC:=ho.few;clear ho;go_enter func40,ntmps40;go_wp2_with fail
 go_loopg [14] rs.length (λgk iv wr=>∃i:Nat,iv=.int .i64 i/\i<=rs.length/\rs.length - i<=gk/\Hid (Below w.heap.size w wr/\∀j (_:j<rs.length),j<i->(rs[j].ss.any λcs=>fN cs kd lt)=false))
 case atStart=>exact⟨0,rfl,aZ,by omega,bd.alloc au _,λj _ h=>by omega⟩
 case round=>
  obtain⟨i,rfl,hi,fS,HN⟩:=hrel;obtain⟨wo,rfl⟩:∃wo,wo=wr:=⟨_,rfl⟩;have iW:=HN.out.1.size
  by_cases aU:i<rs.length
  ·have hd:decide ((i:Int)<(rs.length:Int))=true:=by simp;omega
   obtain⟨g,hg,dn,iC⟩:=aR HO.out.row (by omega);subst hg;obtain⟨sa,sc,ps,e1,e2,e3⟩:=B7 HO.out.ruls aU;obtain⟨e0,da,dc,qs,f1,f2,f3⟩:=tM HO.out.ruls aU;have c0:=(HN.out.1.cell (p:=⟨g,i*3,none⟩) dn).trans (iC _ _ e0);have c1:=(HN.out.1.cell (p:=⟨g,i*3+1,none⟩) dn).trans (iC _ _ e1);have c2:=(HN.out.1.cell (p:=⟨g,i*3+2,none⟩) dn).trans (iC _ _ f1);have sG:Hid (SlRow w sa sc ps rs[i].ss):=⟨e2,e3,(HO.out.short _ (bK aU)).1,(HO.out.short _ (bK aU)).2,HO.out.fine _ (bK aU)⟩
   have iH:Hid ((rs[i].ss.any λcs=>fN cs kd lt)=false->∀j (_:j<rs.length),j<i+1->(rs[j].ss.any λcs=>fN cs kd lt)=false):=λhm j hj h1=>by
    by_cases e:j=i
    ·subst e;exact hm
    ·exact HN.out.2 j hj (by omega)
   have HY:Hid ((rs[i].ss.any λcs=>fN cs kd lt)=true->dt rs kd lt=true):=λh=>by
    rw[Am,List.any_eq_true];exact⟨rs[i],bK aU,h⟩
   clear e0 e1 e2 e3 f1 f2 f3 iC;generalize rs[i].ly=ly at c0;generalize rs[i].ds.length=nd at c2;generalize rs[i].ss=ss at c1 sG iH HY;have L5:=sG.out.few;have eg:Hid (Below w.heap.size w (wo.alloc (.cells #[.int .i64 ly,.slice sa ss.length sc,.slice da nd dc] 138))):=HN.out.1.alloc iW _;clear HN;go_wp2_with fail
   go_loopg [21] ss.length (λgk iv wr=>∃k:Nat,iv=.int .i64 k/\k<=ss.length/\ss.length - k<=gk/\Hid (Below w.heap.size w wr/\∀j (_:j<ss.length),j<k->fN ss[j] kd lt=false))
   case atStart=>exact⟨0,rfl,aZ,by omega,eg.out,λj _ h=>by omega⟩
   case round=>
    obtain⟨k,rfl,hk,rG,HJ⟩:=hrel;have Sf:=HJ.out.1.size
    by_cases ln:k<ss.length
    ·have iR:decide ((k:Int)<(ss.length:Int))=true:=by simp;omega
     obtain⟨g2,ij,lM,BE⟩:=aR sG.out.row (by omega);subst ij;obtain⟨ca,cc,qs2,e0,e1,e2⟩:=Cb sG.out.sels ln;have k0:=(HJ.out.1.cell (p:=⟨g2,k,none⟩) lM).trans (BE _ _ e0);have E7:Hid (ClRow w ca cc qs2 ss[k]):=⟨e1,e2,(sG.out.short _ (bK ln)).1,(sG.out.short _ (bK ln)).2,sG.out.fine _ (bK ln)⟩
     have UL:Hid (fN ss[k] kd lt=false->∀j (_:j<ss.length),j<k+1->fN ss[j] kd lt=false):=λhm j hj h1=>by
      by_cases e:j=k
      ·subst e;exact hm
      ·exact HJ.out.2 j hj (by omega)
     have WA:Hid (fN ss[k] kd lt=true->dt rs kd lt=true):=λh=>HY.out (by
      rw[List.any_eq_true];exact⟨ss[k],bK ln,h⟩)
     clear e0 e1 e2 BE;generalize ss[k]=cs at k0 E7 UL WA;have iG:Hid (Below w.heap.size w (wr.alloc (.cells #[.slice ca cs.length cc] 141))):=HJ.out.1.alloc Sf _;clear HJ;go_wp2_with fail;refine(Ee _ ca cc qs2 cs kd lt (E7.out.below iG.out)).mono ?_;rintro e w3 ⟨rfl,fj⟩;have zi:=ae (iG.out.trans (fj.mono iG.out.size));clear fj iG k0;cases hr:fN cs kd lt with
     | true=>
      have HR:Hid (bD w (dt rs kd lt) (.returned (.bool true)) w3):=⟨by rw[WA.out hr],zi.out⟩;clear hr;go_wp2;go_ret;exact HR.out
     | false=>
      have qU:Hid (Below w.heap.size w w3/\∀j (_:j<ss.length),j<k+1->fN ss[j] kd lt=false):=⟨zi.out,UL.out hr⟩;clear hr;go_wp2;go_roundg (ss.length - (k+1))
      case measure=>omega
      case rel=>exact⟨k+1,by go_num,by omega,au,qU⟩
    ·have iR:decide ((k:Int)<(ss.length:Int))=false:=by simp;omega
     have e9:Hid (Below w.heap.size w wr/\∀j (_:j<rs.length),j<i+1->(rs[j].ss.any λcs=>fN cs kd lt)=false):=by
      refine⟨HJ.out.1,iH.out ?_⟩;rw[List.any_eq_false];intro p hp;obtain⟨j,hj,rfl⟩:=List.getElem_of_mem hp;rw[HJ.out.2 j hj (by omega)];decide
     clear HJ;go_wp2;go_roundg (rs.length - (i+1))
     case measure=>omega
     case rel=>exact⟨i+1,by go_num,by omega,au,e9⟩
  ·have hd:decide ((i:Int)<(rs.length:Int))=false:=by simp;omega
   have HR:Hid (bD w (dt rs kd lt) (.returned (.bool false)) wo):=by
    refine⟨?_,HN.out.1⟩
    have:dt rs kd lt=false:=by
     rw[Am,List.any_eq_false];intro x hx;obtain⟨j,hj,rfl⟩:=List.getElem_of_mem hx;rw[HN.out.2 j hj (by omega)];decide
    rw[this]
   go_wp2;go_ret;exact HR.out
end
end Go.Proofs.YtblfffbmklkhmaaGreat
