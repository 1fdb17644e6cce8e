/- Own work. -/
import Derived.Test.YtblfffbmklkhmaaGreatPi1
import Derived.Test.YtblfffbmklkhmaaGreatPi4
import Derived.Deep.MidRow
import Derived.Deep.WholeRow
import Derived.Great.BuildSlice
import Derived.Test.YtblfffbmklkhmaaGreatPi3
set_option maxRecDepth 100000
set_option maxHeartbeats 40000000
namespace Go.Proofs.YtblfffbmklkhmaaGreat
open Go.RowKit Go.Proofs.Tryz
section
variable {a n:Int}{k p place:Nat}{la:List Nat}
structure PEl where
 num:Nat
 par:Int
 rest:List Value
def aO (els:List PEl)(n:Int):List Nat:=(els.filter λe=>decide (e.par=n)).map PEl.num
theorem eF (A B:List PEl)(n:Int):aO (A++B) n=aO A n++aO B n:=by simp[aO]
theorem pL (x:PEl)(n:Int):aO [x] n=if x.par=n then[x.num] else[]:=by
 by_cases h:x.par=n<;>simp[aO,h]
theorem fK {els:List PEl}:k∈aO els n↔∃e∈els,e.par=n/\e.num=k:=by
 unfold aO;rw[bm];constructor
 ·rintro⟨e,he,h⟩;rw[dA] at he;exact⟨e,he.1,by simpa using he.2,h⟩
 ·rintro⟨e,he,h1,h2⟩;exact⟨e,dA.2 ⟨he,by simpa using h1⟩,h2⟩
structure PT (els:List PEl)(T:aJ):Prop where
 nums:(els.map PEl.num).Nodup
 to':∀e∈els,∃l,(e.num,l)∈T
 of':∀n l,(n,l)∈T->∃e∈els,e.num=n
 kids:∀n l,(n,l)∈T->l=aO els n
 root:∀e∈els,e.num=0->e.par=-1
theorem BU {els:List PEl}(h:(els.map PEl.num).Nodup){e f:PEl}(he:e∈els)(hf:f∈els)(hn:e.num=f.num):e=f:=by
 induction els with
 | nil=>cases he
 | cons x T ih=>
  rw[List.map_cons,List.nodup_cons] at h;rcases List.mem_cons.1 he with zN | zN<;>rcases List.mem_cons.1 hf with uP | uP
  ·rw[zN,uP]
  ·rw[zN] at hn;exact absurd (bm.2 ⟨f,uP,hn.symm⟩) h.1
  ·rw[uP] at hn;exact absurd (bm.2 ⟨e,zN,hn⟩) h.1
  ·exact ih h.2 zN uP
section
variable {els:List PEl}{T:aJ}{made:Nat}
theorem PT.par (h:PT els T)(hw:TW T made){e:PEl}(he:e∈els):e.par=aY T e.num:=by
 by_cases h0:e.num=0
 ·rw[h.root e he h0,h0];exact hw.root_par.symm
 ·obtain⟨l,hl⟩:=h.to' e he;obtain⟨q,hq,hm,hp⟩:=hw.up hl h0;rw[hp];rw[h.kids q.1 q.2 hq,fK] at hm;obtain⟨f,hf,h1,h2⟩:=hm;rw[<-BU h.nums hf he h2];exact h1
theorem PT.len (h:PT els T)(hw:TW T made):els.length=T.length:=by
 have h1:=dw h.nums (m:=T.map Prod.fst) (λk hk=>by
  obtain⟨e,he,rfl⟩:=bm.1 hk;obtain⟨l,hl⟩:=h.to' e he;exact bm.2 ⟨_,hl,rfl⟩)
 have h2:=dw hw.nums (m:=els.map PEl.num) (λk hk=>by
  obtain⟨x,hx,rfl⟩:=bm.1 hk;obtain⟨e,he,h3⟩:=h.of' x.1 x.2 hx;exact bm.2 ⟨e,he,h3⟩)
 simp at h1 h2;omega
def dk (els:List PEl)(n:Int):Option PEl:=els.find? λe=>decide ((e.num:Int)=n)
theorem dI {e:PEl}(h:dk els n=some e):e∈els/\(e.num:Int)=n:=⟨List.mem_of_find?_eq_some h,by simpa using List.find?_some h⟩
theorem qv (h:dk els n=none){e:PEl}(he:e∈els):(e.num:Int)≠n:=by
 unfold dk at h;rw[List.find?_eq_none] at h;simpa using h e he
theorem PT.find_none (h:PT els T)(hf:dk els n=none):bw T n=none:=by
 cases ht:bw T n with
 | none=>rfl
 | some l=>
  obtain⟨k,rfl,hk⟩:=gj ht;obtain⟨e,he,h1⟩:=h.of' k l hk;exact absurd (by rw[h1]) (qv hf he)
theorem dZ {T:aJ}(hn:(T.map Prod.fst).Nodup){l:List Nat}(h:(k,l)∈T):bw T k=some l:=by
 unfold bw;cases hf:T.find? λe=>decide ((e.1:Int)=(k:Int)) with
 | none=>
  rw[List.find?_eq_none] at hf;exact absurd (by simp) (hf _ h)
 | some e=>
  have h1:(e.1:Int)=(k:Int):=by simpa using List.find?_some hf
  have h2:=pO hn (List.mem_of_find?_eq_some hf) h (by show e.1=k;omega);rw[h2];rfl
theorem PT.find_some (h:PT els T)(hw:TW T made){e:PEl}(hf:dk els n=some e):bw T n=some (aO els n)/\(e.num,aO els n)∈T/\n=e.num:=by
 obtain⟨he,rfl⟩:=dI hf;obtain⟨l,hl⟩:=h.to' e he;have:=h.kids _ _ hl;subst this;exact⟨dZ hw.nums hl,hl,rfl⟩
def parP (els:List PEl)(n:Int):Int:=match dk els n with | none=>-1 | some e=>e.par
theorem PT.parP (h:PT els T)(hw:TW T made)(n:Int):parP els n=aY T n:=by
 unfold Go.Proofs.YtblfffbmklkhmaaGreat.parP;cases hf:dk els n with
 | some e=>
  obtain⟨he,rfl⟩:=dI hf;exact h.par hw he
 | none=>
  rcases cP T n with h1 | ⟨e,he,h1,_⟩
  ·exact h1.1.symm
  ·obtain⟨k,hk,rfl⟩:=yg.1 h1;obtain⟨l,hl⟩:=hw.kin e he k hk;obtain⟨f,bG,h2⟩:=h.of' k l hl;exact absurd (by rw[h2]) (qv hf bG)
theorem TW.chain (hw:TW T made){rk:Nat->Nat}(hr:∀e∈T,∀k∈e.2,rk e.1<rk k)(ha:0<=a):∀(k n:Nat),(∃c,(n,c)∈T)->gY T k n=a->∃l:List Nat,l.length=k+1/\l.Nodup/\(∀x∈l,∃c,(x,c)∈T)/\∀x∈l,rk x<=rk n
 | 0,n,hn,_=>⟨[n],rfl,by simp,λx hx=>by rw[fg] at hx;rw[hx];exact hn,λx hx=>by rw[fg] at hx;rw[hx];exact au⟩
 | k+1,n,hn,h=>by
  have h':gY T k (aY T n)=a:=h;rcases cP T n with⟨h1,_⟩ | ⟨e,he,h1,h2⟩
  ·rw[h1] at h';have:=me T (n:=-1) (by omega) k;omega
  ·rw[h2] at h';obtain⟨l,hl,hd,jS,qw⟩:=TW.chain hw hr ha k e.1 ⟨e.2,he⟩ h';have aU:=hr e he n (it.1 h1);refine⟨n :: l,by simp[hl],List.nodup_cons.2 ⟨λhx=>by have:=qw n hx;omega,hd⟩,λx hx=>?_,λx hx=>?_⟩
   ·rcases List.mem_cons.1 hx with rfl | hx
    ·exact hn
    ·exact jS x hx
   ·rcases List.mem_cons.1 hx with rfl | hx
    ·exact au
    ·have:=qw x hx;omega
theorem TW.short (hw:TW T made)(ha:0<=a){n:Nat}(hn:∃c,(n,c)∈T):dD T a n↔∃k,k<T.length/\gY T k n=a:=by
 obtain⟨rk,hr⟩:=hw.rank;constructor
 ·rintro⟨_,k,hk⟩;obtain⟨l,hl,hd,jS,_⟩:=hw.chain hr ha k n hn hk
  have:=dw hd (m:=T.map Prod.fst) (λx hx=>by
   obtain⟨c,hc⟩:=jS x hx;exact bm.2 ⟨_,hc,rfl⟩)
  simp at this;exact⟨k,by omega,hk⟩
 ·rintro⟨k,_,hk⟩;exact⟨ha,k,hk⟩
def dO (els:List PEl)(place:Nat)(x:PEl):List PEl:=els.take place++[x]++els.drop place
theorem Ab (place:Nat)(x:PEl)(n:Int):aO (dO els place x) n=if x.par=n then cY (aO els n) (aO (els.take place) n).length x.num else aO els n:=by
 unfold dO;rw[eF,eF,pL];have Sr:aO els n=aO (els.take place) n++aO (els.drop place) n:=by rw[<-eF,List.take_append_drop]
 by_cases h:x.par=n
 ·rw[aq h,aq h,Sr];unfold cY;rw[List.take_left',List.drop_left']<;>rfl
 ·rw[aj h,aj h,Sr,List.append_nil]
theorem fL {x e:PEl}:e∈dO els place x↔e=x∨e∈els:=by
 unfold dO;rw[List.mem_append,List.mem_append,fg];constructor
 ·rintro((h | h) | h)
  ·exact ai (List.mem_of_mem_take h)
  ·exact af h
  ·exact ai (List.mem_of_mem_drop h)
 ·rintro(h | h)
  ·exact af (ai h)
  ·rw[<-List.take_append_drop place els,List.mem_append] at h;exact h.elim (λx=>af (af x)) ai
theorem Ao (place:Nat)(x:PEl)(h:(els.map PEl.num).Nodup)(hx:∀e∈els,e.num≠x.num):((dO els place x).map PEl.num).Nodup:=by
 have:(dO els place x).map PEl.num=cY (els.map PEl.num) place x.num:=by
  unfold dO cY;rw[List.map_append,List.map_append,List.map_take,List.map_drop];rfl
 rw[this]
 exact qI h (λhm=>by
  obtain⟨e,he,h1⟩:=bm.1 hm;exact hx e he h1)
theorem PT.ins (h:PT els T)(hw:TW T made)(hp:∃l,(p,l)∈T)(rest:List Value)(hk:(aO (els.take place) p).length=k):PT (dO els place ⟨made,p,rest⟩) (lH T p k made):=by
 obtain⟨l0,yM⟩:=hw.root;have h0:0<made:=hw.lt _ yM
 have aU:∀e∈els,e.num<made:=λe he=>by
  obtain⟨l,hl⟩:=h.to' e he;exact hw.lt _ hl
 refine⟨Ao _ _ h.nums (λe he=>by have:=aU e he;show e.num≠made;omega),λe he=>?_,λn l hl=>?_,λn l hl=>?_,λe he h1=>?_⟩
 ·rcases fL.1 he with rfl | he
  ·exact⟨[],cE.2 (ai rfl)⟩
  ·obtain⟨l,hl⟩:=h.to' e he;exact⟨if e.num=p then cY l k made else l,cE.2 (af ⟨(e.num,l),hl,rfl,rfl⟩)⟩
 ·rcases cE.1 hl with⟨x,hx,h1,_⟩ | h1
  ·obtain⟨e,he,h2⟩:=h.of' x.1 x.2 hx;exact⟨e,fL.2 (ai he),h2.trans h1.symm⟩
  ·injection h1 with h1 _
   exact⟨_,fL.2 (af rfl),h1.symm⟩
 ·rw[Ab];rcases cE.1 hl with⟨x,hx,h1,h2⟩ | h1
  ·have sJ:n=x.1:=h1;have F8:l=if x.1=p then cY x.2 k made else x.2:=h2
   have fT:=h.kids x.1 x.2 hx;subst sJ;rw[F8]
   by_cases oo:x.1=p
   ·rw[aq oo,aq (by show(p:Int)=_;rw[oo]),<-fT,oo,hk]
   ·rw[aj oo,aj (by show¬(p:Int)=_;omega),<-fT]
  ·injection h1 with h1 h2
   subst h1 h2;obtain⟨lp,Sj⟩:=hp;have fA:=hw.lt _ Sj;rw[aj (by show¬(p:Int)=_;have:p<n:=fA;omega)];symm;rw[List.eq_nil_iff_forall_not_mem];intro x hx;rw[fK] at hx;obtain⟨e,he,h1,_⟩:=hx;rw[h.par hw he] at h1;rcases cP T e.num with⟨h2,_⟩ | ⟨f,hf,_,h2⟩
   ·omega
   ·have:=hw.lt f hf;omega
 ·rcases fL.1 he with rfl | he
  ·have:made=0:=h1;omega
  ·exact h.root e he h1
theorem rP (p:PEl->Bool)(n:Int):aO (els.filter p) n=(els.filter λe=>p e&&decide (e.par=n)).map PEl.num:=by
 unfold aO;rw[List.filter_filter]
 congr 1
 refine List.filter_congr λe _=>?_;rw[Bool.and_comm]
theorem ul (a:Nat)(n:Int):aw a (aO els n)=(els.filter λe=>decide (e.num≠a)&&decide (e.par=n)).map PEl.num:=by
 unfold aw aO;rw[List.filter_map,List.filter_filter]
 congr 1
 refine List.filter_congr λe _=>?_;show(decide (¬((e.num:Nat):Int)=a)&&_)=_
 congr 1
 by_cases h:e.num=a
 ·simp[h]
 ·simp[h];omega
theorem PT.rem (h:PT els T)(hw:TW T made){a:Nat}(ha:(a,la)∈T)(h0:a≠0):PT (els.filter λe=>!bZ T a e.num) (j8 T a):=by
 obtain⟨q,hq,hm,hp⟩:=hw.up ha h0
 have hu:∀(e:PEl),(!bZ T a e.num)=true↔¬dD T a e.num:=λe=>by
  rw[<-bp];cases bZ T a e.num<;>simp
 refine⟨h.nums.sublist (List.filter_sublist.map _),λe he=>?_,λn l hl=>?_,λn l hl=>?_,λe he=>h.root e (dA.1 he).1⟩
 ·rw[dA,hu] at he;obtain⟨l,hl⟩:=h.to' e he.1;exact⟨if e.num=q.1 then aw a l else l,(ed hp).2 ⟨(e.num,l),hl,he.2,rfl,rfl⟩⟩
 ·obtain⟨x,hx,hxu,h1,_⟩:=(ed hp).1 hl;obtain⟨e,he,h2⟩:=h.of' x.1 x.2 hx;refine⟨e,dA.2 ⟨he,(hu e).2 ?_⟩,h2.trans h1.symm⟩;rw[h2];exact hxu
 ·obtain⟨x,hx,hxu,h1,h2⟩:=(ed hp).1 hl;have sJ:n=x.1:=h1;have F8:l=if x.1=q.1 then aw a x.2 else x.2:=h2
  subst sJ;have fT:=h.kids x.1 x.2 hx
  have nF:∀e∈els,e.par=(x.1:Int)->((!bZ T a e.num)=true↔e.num≠a):=by
   intro e he hep;rw[hu];have hme:e.num∈x.2:=by rw[fT];exact fK.2 ⟨e,he,hep,rfl⟩
   rw[hw.under_kid hx hme a];exact⟨λh1 h2=>h1 (af h2),λh1 h2=>h2.elim h1 hxu⟩
  have ac7:aO (els.filter λe=>!bZ T a e.num) x.1=aw a (aO els x.1):=by
   rw[rP,ul]
   congr 1
   refine List.filter_congr λe he=>?_
   by_cases hep:e.par=(x.1:Int)
   ·have:=nF e he hep
    by_cases hea:e.num=a
    ·have h3:(!bZ T a e.num)=false:=by
      cases hb:(!bZ T a e.num) with
      | false=>rfl
      | true=>exact absurd hea (this.1 hb)
     rw[h3];simp[hea]
    ·rw[this.2 hea];simp[hea]
   ·simp[hep]
  rw[ac7,F8,<-fT];split
  ·rfl
  ·rename_i hn;symm;unfold aw;rw[List.filter_eq_self];intro y hy;rw[bF];intro e;have hya:y=a:=by omega
   subst hya;have:=hw.one x hx q hq y hy hm;rw[this] at hn;exact hn rfl
theorem PT.without (h:PT els T){e:PEl}(he:els[place]?=some e):els.eraseIdx place=els.filter λx=>decide (x.num≠e.num):=by
 have aU:=(dY.1 he).1;have Cr:=(dY.1 he).2
 have Sr:els=els.take place++e :: els.drop (place+1):=by
  rw[<-Cr,<-List.drop_eq_getElem_cons aU,List.take_append_drop]
 have hn:=h.nums;rw[List.eraseIdx_eq_take_drop_succ]
 conv=>rhs;rw[Sr]
 rw[Sr] at hn;rw[List.map_append,List.map_cons,List.nodup_append] at hn;rw[List.filter_append,List.filter_cons]
 have h1:(els.take place).filter (λx=>decide (x.num≠e.num))=els.take place:=by
  rw[List.filter_eq_self];intro x hx;rw[bF];exact hn.2.2 x.num (bm.2 ⟨x,hx,rfl⟩) e.num (by simp)
 have h2:(els.drop (place+1)).filter (λx=>decide (x.num≠e.num))=els.drop (place+1):=by
  rw[List.filter_eq_self];intro x hx;rw[bF];intro h3;have h4:=hn.2.1;rw[List.nodup_cons] at h4;exact h4.1 (bm.2 ⟨x,hx,h3⟩)
 rw[h1,h2];simp
theorem rQ (a:Nat)(n:Int):aO (els.filter λx=>decide (x.num≠a)) n=aw a (aO els n):=by
 rw[rP,ul]
theorem PT.mov (h:PT els T)(hw:TW T made){a:Nat}(ha:(a,la)∈T)(h0:a≠0)(rest:List Value)(hk:(aO ((els.filter λx=>decide (x.num≠a)).take place) p).length=k):
  PT (dO (els.filter λx=>decide (x.num≠a)) place ⟨a,p,rest⟩) (lI T a p k):=by
 obtain⟨q,hq,hm,hp⟩:=hw.up ha h0;have jS:∀e:PEl,e∈(els.filter λx=>decide (x.num≠a))↔e∈els/\e.num≠a:=λe=>by rw[dA,bF]
 refine⟨Ao _ _ (h.nums.sublist (List.filter_sublist.map _)) (λe he=>((jS e).1 he).2),λe he=>?_,λn l hl=>?_,λn l hl=>?_,λe he h1=>?_⟩
 ·rcases fL.1 he with rfl | he
  ·exact⟨if a=p then cY (aw a (if a=q.1 then aw a la else la)) k a else if a=q.1 then aw a la else la,(dX hp).2 ⟨(a,la),ha,rfl,rfl⟩⟩
  ·obtain⟨l,hl⟩:=h.to' e ((jS e).1 he).1;exact⟨if e.num=p then cY (aw a (if e.num=q.1 then aw a l else l)) k a else if e.num=q.1 then aw a l else l,(dX hp).2 ⟨(e.num,l),hl,rfl,rfl⟩⟩
 ·obtain⟨x,hx,h1,_⟩:=(dX hp).1 hl;have sJ:n=x.1:=h1
  by_cases Uc:x.1=a
  ·exact⟨_,fL.2 (af rfl),by rw[sJ,Uc]⟩
  ·obtain⟨e,he,h2⟩:=h.of' x.1 x.2 hx;exact⟨e,fL.2 (ai ((jS e).2 ⟨he,by omega⟩)),h2.trans sJ.symm⟩
 ·obtain⟨x,hx,h1,h2⟩:=(dX hp).1 hl;have sJ:n=x.1:=h1;subst sJ;have fT:=h.kids x.1 x.2 hx
  have nU:∀l',(if x.1=q.1 then aw a x.2 else x.2)=l'->l'=aw a x.2:=by
   intro l' h3;rw[<-h3];split
   ·rfl
   ·rename_i hn;symm;unfold aw;rw[List.filter_eq_self];intro y hy;rw[bF];intro e;have hya:y=a:=by omega
    subst hya;have:=hw.one x hx q hq y hy hm;rw[this] at hn;exact hn rfl
  have adr:=nU _ rfl;have F8:l=if x.1=p then cY (aw a (if x.1=q.1 then aw a x.2 else x.2)) k a else if x.1=q.1 then aw a x.2 else x.2:=h2
  rw[adr] at F8;rw[Ab,rQ,<-fT,F8,rV]
  by_cases oo:x.1=p
  ·rw[aq oo,aq (by show(p:Int)=_;rw[oo]),oo,hk]
  ·rw[aj oo,aj (by show¬(p:Int)=_;omega)]
 ·rcases fL.1 he with rfl | he
  ·exact absurd h1 h0
  ·exact h.root e ((jS e).1 he).1 h1
end
end
section
variable {cs:List Value}{e:PEl}{els:List PEl}{g i num o:Nat}{n par:Int}{w:World}
section
variable {P:Program}{BR:Array Oper}{rest:List Oper}{o:Oper}{a:Act}{w:World}{Q:Exit->Act->World->Prop}
theorem aE (ZY:o.guard=none)(ty:TypeId)(x y:Operand)(ho:o.op=.store ty x y)(c c':Array Value)(t:TypeId)(hx:a.eval x=.pointer (some ⟨w.heap.size,0,none⟩))(hy:a.eval y=.agg c')
  (hi:(P.info? ty).map (·.size)=some c'.size) (hs:c.size=c'.size) (h1:c'.all (·.oneCell')=true) (h:wpList P BR Q rest (a.put o.dst undef) (w.alloc (.cells c' t))):wpList P BR Q (o :: rest) a (w.alloc (.cells c t)):=by
 refine wpList_store_row ZY ty x y ho w.heap.size c' hx hy t c (heap_alloc_last w _) hi hs h1 ?_;rw[World.setRow_alloc_new];exact h
theorem NY {s:Nat}(hs:0<s)(c z:Array Value)(h1:c.size=s)(h2:z.size=s):Instr.fill (λi=>some (i*s,s)) z [(0,.agg c)]=some c:=by
 have h:=Great.fill_whole hs [Value.agg c] z (λv hv=>by rw[fg] at hv;rw[hv];exact h1) (by simp[h2]);have e1:(([Value.agg c].zipIdx 0).map λx=>(x.2,x.1))=[(0,Value.agg c)]:=rfl;rw[e1] at h;rw[h];simp[Value.cells]
theorem uT (hg:o.guard=none)(t e:TypeId)(x:Operand)(ho:o.op=.buildSlice t 1 #[(0,x)])(c:Array Value)(hx:a.eval x=.agg c)(ie:TypeInfo)(z:Value)
  (hu:P.underlying t=some (.slice e)) (hie:P.info? e=some ie) (hz:ie.zero=some z) (hs:ie.size=c.size) (lN:0<c.size) (L6:c.size<=1000)
  (h:wpList P BR Q rest (a.put o.dst (.slice (some ⟨w.heap.size,0,none⟩) 1 1)) (w.alloc (.cells c e))):wpList P BR Q (o :: rest) a w:=by
 refine wpList_buildSlice hg t e 1 _ ho c ie z hu hie hz (by omega) (by omega) ?_ h;rw[hs];have e1:(#[((0:Nat),x)].map λ(p:Nat × Operand)=>(p.1,a.eval p.2)).toList=[(0,Value.agg c)]:=by simp[hx]
 show Instr.fill _ _ (#[((0:Nat),x)].map λ(p:Nat × Operand)=>(p.1,a.eval p.2)).toList=some c;rw[e1];exact NY lN c _ rfl (by simp)
end
def PEl.cells (e:PEl):List Value:=.int .i64 e.num :: .int .i64 e.par :: e.rest
def PEl.ok (e:PEl):Prop:=e.rest.length=29/\∀v∈e.rest,v.oneCell'=true
theorem PEl.ok.len (h:e.ok):e.cells.length=31:=by
 unfold PEl.cells;rw[List.length_cons,List.length_cons,h.1]
theorem PEl.ok.one (h:e.ok):∀v∈e.cells,v.oneCell'=true:=by
 intro v hv;unfold PEl.cells at hv;rcases List.mem_cons.1 hv with rfl | hv
 ·rfl
 rcases List.mem_cons.1 hv with rfl | hv
 ·rfl
 ·exact h.2 v hv
def hO (els:List PEl):List Value:=els.flatMap PEl.cells
theorem N6 (h:∀e∈els,e.ok):(hO els).length=els.length*31:=by
 induction els with
 | nil=>rfl
 | cons x l ih=>
  have h1:=(h x List.mem_cons_self).len;have h2:=ih (λe he=>h e (List.mem_cons_of_mem _ he));unfold hO at h2 ⊢;rw[List.flatMap_cons,List.length_append,h1,h2,List.length_cons];omega
theorem RV (h:∀e∈els,e.ok){j:Nat}(hi:i<els.length)(hj:j<31):(hO els)[i*31+j]?=els[i].cells[j]?:=by
 induction els generalizing i with
 | nil=>simp at hi
 | cons x l ih=>
  have h1:=(h x List.mem_cons_self).len;unfold hO;rw[List.flatMap_cons];cases i with
  | zero=>
   rw[List.getElem?_append_left (by omega)];simp
  | succ i=>
   rw[List.getElem?_append_right (by omega),h1,show(i+1)*31+j - 31=i*31+j from by omega];have:=ih (λe he=>h e (List.mem_cons_of_mem _ he)) (i:=i) (by simpa using hi);unfold hO at this;rw[this];simp
structure PL (w:World)(v:Value)(els:List PEl):Prop where
 row:w.ownsRow 0 134 31 v els.length (hO els)
 ok:∀e∈els,e.ok
theorem PL.shape {v:Value}(h:PL w v els):∃a c,v=.slice a els.length c:=aA h.row
theorem PL.at' {a:Option Addr}{c:Nat}(h:PL w (.slice a els.length c) els)(hi:i<els.length):
  ∃g,a=some ⟨g,0,none⟩/\g<w.heap.size/\w.rangeAt g (i*31) els[i].cells:=by
 obtain⟨g,hg,dn,hc⟩:=aR h.row (by omega);refine⟨g,hg,dn,λj v hv=>hc _ _ ?_⟩;have hl:=(h.ok els[i] (bK hi)).len
 have hj:j<31:=by
  have:=(dY.1 hv).1;omega
 rw[RV h.ok hi hj];exact hv
theorem bo {wr:World}{an:Nat}(hB:Below an w wr)(hg:g<an)(h:w.rangeAt g o cs):wr.rangeAt g o cs:=
 λj v hv=>(hB.cell (p:=⟨g,o+j,none⟩) hg).trans (h j v hv)
theorem Tryz.size134:(Tryz.prog.info? 134).map (·.size)=some 31:=by kernel_rfl
structure ElAt (w:World)(g o:Nat)(cs:List Value)(num:Nat)(par:Int):Prop where
 rng:w.rangeAt g o cs
 len:cs.length=31
 one:∀v∈cs,v.oneCell'=true
 c0:cs[0]?=some (.int .i64 num)
 c1:cs[1]?=some (.int .i64 par)
theorem ElAt.size (h:ElAt w g o cs num par):(prog.info? 134).map (·.size)=some cs.length:=by rw[h.len];exact Tryz.size134
theorem ElAt.size' (h:ElAt w g o cs num par):(prog.info? 134).map (·.size)=some cs.toArray.size:=by rw[List.size_toArray];exact h.size
theorem ElAt.same (h:ElAt w g o cs num par):31=cs.toArray.size:=by rw[List.size_toArray,h.len]
theorem ElAt.all (h:ElAt w g o cs num par):cs.toArray.all (·.oneCell')=true:=all_oneCell_toArray h.one
def Ju (w:World)(els:List PEl)(n:Int)(e:Ending)(w':World):Prop:=
 Below w.heap.size w w'/\((dk els n=none/\e=.returned (.tuple #[.int .i64 0,.bool false]))∨∃(i:Nat) (x:PEl),els[i]?=some x/\dk els n=some x/\e=.returned (.tuple #[.int .i64 i,.bool true]))
theorem N1 (hi:i<els.length)(nU:∀j (hj:j<els.length),j<i->((els[j].num:Int)=n)->False)(h:(els[i].num:Int)=n):dk els n=some els[i]:=by
 unfold dk;rw[List.find?_eq_some_iff_getElem];refine⟨by simpa using h,i,hi,rfl,λj hj=>?_⟩;have:=nU j (by omega) hj;simpa using this
theorem N2 (nU:∀j (hj:j<els.length),((els[j].num:Int)=n)->False):dk els n=none:=by
 unfold dk;rw[List.find?_eq_none];intro e he;obtain⟨j,hj,rfl⟩:=List.getElem_of_mem he;simpa using nU j hj
theorem dP (w:World)(b:Nat)(v:Value)(els:List PEl)(n:Int)(hb:w.cell? ⟨b,1,none⟩=some v)(h:PL w v els)(bC:els.length<=24):
  Calls prog 72 #[.pointer (some ⟨b,1,none⟩),.int .i64 n] w λe w'=>Ju w els n e w':=by
 obtain⟨a,c,hv⟩:=h.shape;subst hv;have HP:=ae h;clear h;go_enter func72,ntmps72;go_wp2_with fail
 go_loopg [13] els.length (λgk iv wr=>∃i:Nat,iv=.int .i64 i/\i<=els.length/\els.length - i<=gk/\Hid (Below w.heap.size w wr/\∀j (hj:j<els.length),j<i->((els[j].num:Int)=n)->False))
 case atStart=>exact⟨0,rfl,aZ,by omega,bd,λj hj h=>by omega⟩
 case round=>
  obtain⟨i,rfl,hi,fS,HN⟩:=hrel
  by_cases aU:i<els.length
  ·have hd:decide ((i:Int)<(els.length:Int))=true:=by simp;omega
   obtain⟨g,hg,dn,hr⟩:=HP.out.at' aU;subst hg;obtain⟨x,hx⟩:∃x,els[i]=x:=⟨_,rfl⟩;have HX:Hid (els[i]?=some x):=by unfold Hid;rw[bO aU,hx]
   have hxo:x.ok:=hx▸HP.out.ok _ (bK aU);have HF:Hid ((x.num:Int)=n->dk els n=some x):=λh=>by rw[<-hx] at h ⊢;exact N1 aU HN.out.2 h
   have iH:Hid (¬(x.num:Int)=n->∀j (hj:j<els.length),j<i+1->((els[j].num:Int)=n)->False):=λhm j hj h1 h2=>by
    by_cases e:j=i
    ·subst e;rw[hx] at h2;exact hm h2
    ·exact HN.out.2 j hj (by omega) h2
   have HE:Hid (ElAt wr g (i*31) x.cells x.num x.par):=by rw[<-hx];exact⟨bo HN.out.1 dn hr,(HP.out.ok _ (bK aU)).len,(HP.out.ok _ (bK aU)).one,rfl,rfl⟩
   clear hx hr hxo;generalize x.cells=cs at HE;have c0:cs[0]?=some (.int .i64 x.num):=HE.out.c0;have eD:Hid (Below w.heap.size w (wr.alloc (.cells cs.toArray 134))):=HN.out.1.alloc HN.out.1.size _
   by_cases hn:(x.num:Int)=n
   ·have gn:((x.num:Int)==n)=true:=by simp[hn]
    have sO:=ae (HF.out hn);clear hn;go_wp2_with (first | (refine wpList_load_mid rfl 134 _ rfl g (i*31) rfl cs _ HE.out.rng underlying134 rfl HE.out.size ?_) | (refine aE rfl 134 _ _ rfl _ cs.toArray 134 rfl rfl HE.out.size' HE.out.same HE.out.all ?_));go_ret2;exact⟨eD.out,ai ⟨i,x,HX.out,sO.out,rfl⟩⟩
   ·have gn:((x.num:Int)==n)=false:=by simp[hn]
    have e9:=iH.out hn;have og:Hid (Below w.heap.size w (wr.alloc (.cells cs.toArray 134))/\∀j (hj:j<els.length),j<i+1->((els[j].num:Int)=n)->False):=⟨eD.out,e9⟩;clear hn e9;go_wp2_with (first | (refine wpList_load_mid rfl 134 _ rfl g (i*31) rfl cs _ HE.out.rng underlying134 rfl HE.out.size ?_) | (refine aE rfl 134 _ _ rfl _ cs.toArray 134 rfl rfl HE.out.size' HE.out.same HE.out.all ?_));go_roundg (els.length - (i+1))
    case measure=>omega
    case rel=>exact⟨i+1,by go_num,by omega,au,og⟩
  ·have hd:decide ((i:Int)<(els.length:Int))=false:=by simp;omega
   have CC:Hid (dk els n=none):=N2 (λj hj h=>HN.out.2 j hj (by omega) h);go_wp2;go_ret2;exact⟨HN.out.1,af ⟨CC.out,rfl⟩⟩
end
section
variable {cs:List Value}{els:List PEl}{g i num o:Nat}{par:Int}{w:World}
theorem PL.el {a:Option Addr}{c:Nat}(h:PL w (.slice a els.length c) els)(hi:i<els.length):∃g,a=some ⟨g,0,none⟩/\g<w.heap.size/\ElAt w g (i*31) els[i].cells els[i].num els[i].par:=by
 obtain⟨g,hg,dn,hr⟩:=h.at' hi;exact⟨g,hg,dn,hr,(h.ok _ (bK hi)).len,(h.ok _ (bK hi)).one,rfl,rfl⟩
theorem ElAt.below {wr:World}{an:Nat}(h:ElAt w g o cs num par)(hB:Below an w wr)(hg:g<an):ElAt wr g o cs num par:=⟨bo hB hg h.rng,h.len,h.one,h.c0,h.c1⟩
theorem ElAt.cell1 (h:ElAt w g o cs num par):w.cell? ⟨g,o+1,none⟩=some (.int .i64 par):=h.rng 1 _ h.c1
theorem Aa (h:i<els.length)(n:Int):aO (els.take (i+1)) n=aO (els.take i) n++if els[i].par=n then[els[i].num] else[]:=by
 rw[fU h,eF,pL]
theorem DP (els:List PEl)(n:Int):(aO els n).length<=els.length:=by
 unfold aO;rw[List.length_map];exact List.length_filter_le _ _
def FB (w:World)(els:List PEl)(par at':Int)(e:Ending)(w':World):Prop:=
 Below w.heap.size w w'/\((∃place:Nat,e=.returned (.tuple #[.int .i64 place,.bool true])/\place<=els.length/\((aO (els.take place) par).length:Int)=at')∨(∃n:Int,e=.returned (.tuple #[.int .i64 n,.bool false])/\(at'<0∨((aO els par).length:Int)<at')))
theorem xA (w:World)(v:Value)(els:List PEl)(par at':Int)(h:PL w v els)(bC:els.length<=24):
  Calls prog 111 #[v,.int .i64 par,.int .i64 at'] w λe w'=>FB w els par at' e w':=by
 obtain⟨a,c,hv⟩:=h.shape;subst hv;have HP:=ae h;clear h;go_enter func111,ntmps111;go_wp2_with fail
 go_loopg [8,13] els.length (λgk av iv wr=>∃i:Nat,iv=.int .i64 i/\i<=els.length/\els.length - i<=gk/\av=.int .i64 ((aO (els.take i) par).length:Nat)/\Hid (Below w.heap.size w wr/\(at'<0∨((aO (els.take i) par).length:Int)<=at')))
 case atStart=>exact⟨0,rfl,aZ,by omega,rfl,bd,by simp[aO];omega⟩
 case round=>
  obtain⟨i,rfl,hi,fS,rfl,HN⟩:=hrel
  have p8:(aO (els.take i) par).length<=24:=by
   have:=DP (els.take i) par;have:(els.take i).length<=els.length:=List.length_take_le' _ _;omega
  by_cases aU:i<els.length
  ·have hd:decide ((i:Int)<(els.length:Int))=true:=by simp;omega
   obtain⟨g,hg,dn,he⟩:=HP.out.el aU;subst hg;have Ft:=ae (Aa aU par);have HE:=ae (he.below HN.out.1 dn);have HK:Hid (∀k,(aO (els.take i) par).length=k->(k:Int)=at'->((aO (els.take i) par).length:Int)=at'):=λk h1 h2=>by rw[h1];exact h2
   clear he;generalize els[i]=x at HE Ft;generalize x.cells=cs at HE;have c1:cs[1]?=some (.int .i64 x.par):=HE.out.c1;have eD:Hid (Below w.heap.size w (wr.alloc (.cells cs.toArray 134))):=HN.out.1.alloc HN.out.1.size _
   by_cases eZ:x.par=par
   ·have gp:(x.par != par)=false:=by simp[eZ]
    have Fu:Hid (aO (els.take (i+1)) par=aO (els.take i) par++[x.num]):=by unfold Hid;rw[Ft.out,aq eZ]
    clear eZ Ft
    by_cases BC:((aO (els.take i) par).length:Int)=at'
    ·have AY:=ae BC;have ga:(((aO (els.take i) par).length:Int)==at')=true:=by simp[BC]
     clear BC;go_wp2_with (first | (refine wpList_load_mid rfl 134 _ rfl g (i*31) rfl cs _ HE.out.rng underlying134 rfl HE.out.size ?_) | (refine aE rfl 134 _ _ rfl _ cs.toArray 134 rfl rfl HE.out.size' HE.out.same HE.out.all ?_));go_ret2;exact⟨eD.out,af ⟨i,rfl,hi,AY.out⟩⟩
    ·have ga:(((aO (els.take i) par).length:Int)==at')=false:=by rw[ff];exact BC
     have e9:Hid (Below w.heap.size w (wr.alloc (.cells cs.toArray 134))/\(at'<0∨((aO (els.take (i+1)) par).length:Int)<=at')):=by
      refine⟨eD.out,?_⟩;rw[Fu.out,List.length_append];have:=HN.out.2;simp;omega
     have Tm:Hid (((aO (els.take (i+1)) par).length:Nat)=(aO (els.take i) par).length+1):=by unfold Hid;rw[Fu.out];simp
     clear BC;generalize (aO (els.take i) par).length=n0 at p8 ga Tm ⊢;go_wp2_with (first | (refine wpList_load_mid rfl 134 _ rfl g (i*31) rfl cs _ HE.out.rng underlying134 rfl HE.out.size ?_) | (refine aE rfl 134 _ _ rfl _ cs.toArray 134 rfl rfl HE.out.size' HE.out.same HE.out.all ?_));go_roundg (els.length - (i+1))
     case measure=>omega
     case rel=>exact⟨i+1,by go_num,by omega,au,by rw[Tm.out];go_num,e9⟩
   ·have gp:(x.par != par)=true:=by simp[eZ]
    have Fu:Hid (aO (els.take (i+1)) par=aO (els.take i) par):=by unfold Hid;rw[Ft.out,aj eZ,List.append_nil]
    have e9:Hid (Below w.heap.size w (wr.alloc (.cells cs.toArray 134))/\(at'<0∨((aO (els.take (i+1)) par).length:Int)<=at')):=⟨eD.out,by rw[Fu.out];exact HN.out.2⟩;clear eZ Ft;go_wp2_with (first | (refine wpList_load_mid rfl 134 _ rfl g (i*31) rfl cs _ HE.out.rng underlying134 rfl HE.out.size ?_) | (refine aE rfl 134 _ _ rfl _ cs.toArray 134 rfl rfl HE.out.size' HE.out.same HE.out.all ?_));go_roundg (els.length - (i+1))
    case measure=>omega
    case rel=>exact⟨i+1,by go_num,by omega,au,by rw[Fu.out],e9⟩
  ·have hd:decide ((i:Int)<(els.length:Int))=false:=by simp;omega
   obtain rfl:i=els.length:=by omega
   rw[List.take_length] at HN p8 ⊢
   by_cases BC:((aO els par).length:Int)=at'
   ·have AY:=ae BC;have ga:(((aO els par).length:Int)==at')=true:=by simp[BC]
    clear BC;go_wp2;go_ret2;refine⟨HN.out.1,af ⟨els.length,rfl,au,?_⟩⟩;rw[List.take_length];exact AY.out
   ·have ga:(((aO els par).length:Int)==at')=false:=by rw[ff];exact BC
    have AY:=ae BC;clear BC;go_wp2;go_ret2;refine⟨HN.out.1,ai ⟨_,rfl,?_⟩⟩;have:=HN.out.2;have:=AY.out;omega
theorem i8 (w:World)(b:Nat)(v:Value)(els:List PEl)(n:Int)(hb:w.cell? ⟨b,1,none⟩=some v)(h:PL w v els)(bC:els.length<=24):
  Calls prog 126 #[.pointer (some ⟨b,1,none⟩),.int .i64 n] w λe w'=>e=.returned (.int .i64 (parP els n))/\Below w.heap.size w w':=by
 obtain⟨a,c,hv⟩:=h.shape;subst hv;have HP:=ae h;have jF:b<w.heap.size:=World.block_lt_of_cell? w _ hb;clear h;go_enter func126,ntmps126;go_wp2_with fail;refine(dP w b _ els n hb HP.out bC).mono ?_;rintro e w1 ⟨hB,⟨hf,rfl⟩ | ⟨i,x,hx,hf,rfl⟩⟩
 ·have HE:Hid (parP els n=-1):=by unfold Hid parP;rw[hf]
  clear hf;go_wp2;go_ret;rw[HE.out];exact⟨rfl,hB⟩
 ·have HE:Hid (parP els n=x.par):=by unfold Hid parP;rw[hf]
  have hi:=(dY.1 hx).1;have om:=(dY.1 hx).2;obtain⟨g,hg,dn,he⟩:=HP.out.el hi;subst hg;have q1:=(he.below hB dn).cell1;rw[om] at q1;have qW:w1.cell? ⟨b,1,none⟩=some (.slice (some ⟨g,0,none⟩) els.length c):=(hB.cell (p:=⟨b,1,none⟩) jF).trans hb;have jJ:(i:Int)<(els.length:Int):=by omega
  clear hx hf om he;go_wp2;go_ret;rw[HE.out];exact⟨rfl,hB⟩
def upP (els:List PEl):Nat->Int->Int
 | 0,n=>n
 | k+1,n=>parP els (upP els k n)
theorem PT.upP {T:aJ}{made:Nat}(h:PT els T)(hw:TW T made)(n:Int):∀k,upP els k n=gY T k n
 | 0=>rfl
 | k+1=>by
  rw[pV T n k 1];show Go.Proofs.YtblfffbmklkhmaaGreat.parP els (Go.Proofs.YtblfffbmklkhmaaGreat.upP els k n)=aY T (gY T k n);rw[PT.upP h hw n k,h.parP hw]
def CK (w:World)(els:List PEl)(n top:Int)(e:Ending)(w':World):Prop:=
 Below w.heap.size w w'/\∃r:Bool,e=.returned (.bool r)/\(r=true↔∃k,k<els.length/\upP els k n=top)
theorem mb (w:World)(b:Nat)(v:Value)(els:List PEl)(n top:Int)(hb:w.cell? ⟨b,1,none⟩=some v)(h:PL w v els)(bC:els.length<=24):
  Calls prog 120 #[.pointer (some ⟨b,1,none⟩),.int .i64 n,.int .i64 top] w λe w'=>CK w els n top e w':=by
 obtain⟨a,c,hv⟩:=h.shape;subst hv;have HP:=ae h;have jF:b<w.heap.size:=World.block_lt_of_cell? w _ hb;have od:=ae hb;clear h;go_enter func120,ntmps120;go_wp2_with fail
 go_loopg [1,12] els.length (λgk nv iv wr=>∃i:Nat,iv=.int .i64 i/\i<=els.length/\els.length - i<=gk/\nv=.int .i64 (upP els i n)/\Hid (Below w.heap.size w wr/\∀k,k<i->upP els k n≠top))
 case atStart=>exact⟨0,rfl,aZ,by omega,rfl,bd,λk hk=>by omega⟩
 case round=>
  obtain⟨i,rfl,hi,fS,rfl,HN⟩:=hrel
  by_cases aU:i<els.length
  ·have hd:decide ((i:Int)<(els.length:Int))=true:=by simp;omega
   by_cases ht:upP els i n=top
   ·have HE:Hid (∃k,k<els.length/\upP els k n=top):=⟨i,aU,ht⟩;have gt:(upP els i n==top)=true:=by simp[ht]
    clear ht;go_wp2;go_ret;exact⟨HN.out.1,true,rfl,λ_=>HE.out,λ_=>rfl⟩
   ·have gt:(upP els i n==top)=false:=by simp[ht]
    have e9:Hid (∀k,k<i+1->upP els k n≠top):=λk hk=>by
     by_cases e:k=i
     ·rw[e];exact ht
     ·exact HN.out.2 k (by omega)
    have HU:Hid (upP els (i+1) n=parP els (upP els i n)):=rfl;clear ht;generalize upP els i n=m at gt HU ⊢;have hbr:wr.cell? ⟨b,1,none⟩=some (.slice a els.length c):=(HN.out.1.cell (p:=⟨b,1,none⟩) jF).trans od.out;have HPr:Hid (PL wr (.slice a els.length c) els):=⟨aN HP.out.row HN.out.1,HP.out.ok⟩;go_wp2_with fail;refine(i8 wr b _ els m hbr HPr.out bC).mono ?_;rintro e w1 ⟨rfl,hB⟩;have og:Hid (Below w.heap.size w w1/\∀k,k<i+1->upP els k n≠top):=⟨HN.out.1.trans (hB.mono HN.out.1.size),e9.out⟩;clear hB hbr;go_wp2;go_roundg (els.length - (i+1))
    case measure=>omega
    case rel=>exact⟨i+1,by go_num,by omega,au,by rw[HU.out],og⟩
  ·have hd:decide ((i:Int)<(els.length:Int))=false:=by simp;omega
   go_wp2;go_ret;refine⟨HN.out.1,false,rfl,λh=>(by cases h),λ⟨k,hk,fT⟩=>absurd fT (HN.out.2 k (by omega))⟩
end
section
variable {els:List PEl}{i place:Nat}{x:PEl}
theorem Tryz.infoE:∃(i:TypeInfo) (z:Value),Tryz.prog.info? 134=some i/\i.zero=some z/\i.size=31/\i.bytes=48/\z.cells.size=31:=by
 have h:(prog.info? 134).map (λi=>(i.zero.map (·.cells.size),i.size,i.bytes))=some (some 31,31,48):=by kernel_rfl
 cases hq:prog.info? 134 with
 | none=>rw[hq] at h;cases h
 | some i=>
  rw[hq] at h;simp only[Option.map_some,Option.some.injEq,Prod.mk.injEq] at h;cases hz:i.zero with
  | none=>rw[hz] at h;cases h.1
  | some z=>
   rw[hz] at h;simp only[Option.map_some,Option.some.injEq] at h;exact⟨i,z,rfl,hz,h.2.1,h.2.2,h.1⟩
theorem cU {P:Program}{BR:Array Oper}{rest:List Oper}{o:Oper}{a:Act}{w:World}{Q:Exit->Act->World->Prop}(N:Nat)(hN:w.heap.size=N)(hg:o.guard=none)(t e:TypeId)(x:Operand)(ho:o.op=.buildSlice t 1 #[(0,x)])(c:Array Value)(hx:a.eval x=.agg c)(ie:TypeInfo)(z:Value)
  (hu:P.underlying t=some (.slice e)) (hie:P.info? e=some ie) (hz:ie.zero=some z) (hs:ie.size=c.size) (lN:0<c.size) (L6:c.size<=1000)
  (h:wpList P BR Q rest (a.put o.dst (.slice (some ⟨N,0,none⟩) 1 1)) (w.alloc (.cells c e))):wpList P BR Q (o :: rest) a w:=by
 subst hN;exact uT hg t e x ho c hx ie z hu hie hz hs lN L6 h
section
variable {w:World}{g o:Nat}{cs:List Value}{num:Nat}{par:Int}
theorem ElAt.info (h:ElAt w g o cs num par){n:Nat}(hn:n=31):n=cs.toArray.size:=by rw[hn];exact h.same
theorem ElAt.pos (h:ElAt w g o cs num par):0<cs.toArray.size:=by rw[<-h.same];omega
theorem ElAt.small (h:ElAt w g o cs num par):cs.toArray.size<=1000:=by rw[<-h.same];omega
theorem ElAt.len1 (h:ElAt w g o cs num par):cs.length=1*31:=by rw[h.len]
theorem ElAt.keep (h:ElAt w g o cs num par){w':World}(hk:w'.heap[g]?=w.heap[g]?):ElAt w' g o cs num par:=by
 refine⟨λj v hv=>?_,h.len,h.one,h.c0,h.c1⟩;have:=h.rng j v hv;unfold World.cell? at this ⊢;rw[hk];exact this
theorem ElAt.new (h:ElAt w g o cs num par)(w':World):ElAt (w'.alloc (.cells cs.toArray 134)) w'.heap.size 0 cs num par:=by
 refine⟨λj v hv=>?_,h.len,h.one,h.c0,h.c1⟩;rw[Nat.zero_add,cell_of_row _ _ j cs.toArray 134 (0,0) (heap_alloc_new w' _)];simpa using hv
end
theorem FQ (h:x.ok)(w':World):ElAt (w'.alloc (.cells x.cells.toArray 134)) w'.heap.size 0 x.cells x.num x.par:=by
 refine⟨λj v hv=>?_,h.len,h.one,rfl,rfl⟩;rw[Nat.zero_add,cell_of_row _ _ j x.cells.toArray 134 (0,0) (heap_alloc_new w' _)];simpa using hv
theorem JU (L:List PEl)(x:PEl):hO (L++[x])=hO L++x.cells:=by simp[hO]
def iN (els:List PEl)(place:Nat)(x:PEl)(i:Nat):List PEl:=if place<i then dO (els.take i) place x else els.take i
theorem Hi (x:PEl)(h:i<els.length):iN els place x (i+1)=(if i=place then iN els place x i++[x] else iN els place x i)++[els[i]]:=by
 unfold iN;have ht:=fU h;have hl:(els.take i).length=i:=by rw[List.length_take];omega
 by_cases h1:i=place
 ·subst h1;rw[aq (Nat.lt_succ_self i),aq rfl,aj (Nat.lt_irrefl i)];unfold dO;rw[ht,List.take_left' hl,List.drop_left' hl]
 ·rw[aj h1]
  by_cases h2:place<i
  ·rw[aq (by omega),aq h2];unfold dO;rw[ht,List.take_append_of_le_length (by omega),List.drop_append_of_le_length (by omega)];simp
  ·rw[aj (by omega),aj h2,ht]
theorem AV (x:PEl)(h:place<els.length):iN els place x els.length=dO els place x:=by
 unfold iN;rw[aq h,List.take_length]
theorem Hh (els:List PEl)(x:PEl):iN els els.length x els.length++[x]=dO els els.length x:=by
 unfold iN dO;rw[aj (by omega),List.take_length,List.drop_length,List.append_nil]
theorem LD (els:List PEl)(place:Nat)(x:PEl)(i:Nat):(iN els place x i).length<=els.length+1:=by
 unfold iN;split
 ·unfold dO;simp;omega
 ·rw[List.length_take];omega
def CJ (w:World)(L:List PEl)(e:Ending)(w':World):Prop:=
 ∃(a:Option Addr) (c:Nat),e=.returned (.slice a L.length c)/\w'.ownsRow w.heap.size 134 31 (.slice a L.length c) L.length (hO L)/\Below w.heap.size w w'
structure WI (an:Nat)(W wr:World)(v:Value)(L:List PEl):Prop where
 own:wr.ownsRow an 134 31 v L.length (hO L)
 below:Below an W wr
theorem WI.app {an:Nat}{W wr:World}{v:Value}{L:List PEl}(h:WI an W wr v L){w2 w3:World}{v3:Value}(hb:Below an W w2)(hz:an<=w2.heap.size)(hg:w2.grownBy w3 v.ownBlock)(ho:w3.ownsRow an 134 31 v3 (L.length+1) (hO L++x.cells)):WI an W w3 v3 (L++[x]):=by
 refine⟨?_,hb.grown hg hz (λk hk=>(h.own.lt k hk).1)⟩;rw[JU,List.length_append];exact ho
theorem FT (h:i<els.length):(els.take (i+1)).eraseIdx place=if i=place then(els.take i).eraseIdx place else(els.take i).eraseIdx place++[els[i]]:=by
 have ht:=fU h;have hl:(els.take i).length=i:=by rw[List.length_take];omega
 rw[ht]
 by_cases h1:i=place
 ·subst h1;have h3:(els.take i).eraseIdx i=els.take i:=List.eraseIdx_of_length_le (by omega);rw[aq rfl,List.eraseIdx_append_of_length_le (by omega),hl,Nat.sub_self,h3];simp
 ·rw[aj h1]
  by_cases h2:place<i
  ·rw[List.eraseIdx_append_of_lt_length (by omega)]
  ·rw[List.eraseIdx_of_length_le (by simp;omega),List.eraseIdx_of_length_le (by omega)]
end
theorem Ay (w:World)(v:Value)(els:List PEl)(place:Nat)(x:PEl)(h:PL w v els)(hx:x.ok)(hp:place<=els.length)(bC:els.length<=24):
  Calls prog 112 #[v,.int .i64 place,.agg x.cells.toArray] w λe w'=>CJ w (dO els place x) e w':=by
 obtain⟨i0,z0,hi,iz,is,ib,Kn⟩:=Tryz.infoE;obtain⟨a,c,hv⟩:=h.shape;subst hv;have HP:=ae h;have HX:=ae (FQ hx w);clear h hx;obtain⟨cx,hcx⟩:∃cx,x.cells=cx:=⟨_,rfl⟩;have HCX:=ae hcx;rw[hcx] at HX ⊢;clear hcx;have Hq:Hid (WI (w.heap.size+1) (w.alloc (.cells cx.toArray 134)) (w.alloc (.cells cx.toArray 134)) (.slice none 0 0) (iN els place x 0)):=⟨er,bd⟩;go_enter func112,ntmps112;go_wp2_with fail
 go_loopg [7,12] els.length (λgk v iv wr=>∃i:Nat,iv=.int .i64 i/\i<=els.length/\els.length - i<=gk/\Hid (WI (w.heap.size+1) (w.alloc (.cells cx.toArray 134)) wr v (iN els place x i)))
 case atStart=>exact⟨0,rfl,aZ,by omega,Hq⟩
 case round=>
  obtain⟨i,rfl,jJ,fS,HN⟩:=hrel;obtain⟨a2,c2,jC⟩:=aA HN.out.own;subst jC;have Gl:=LD els place x i;have iW:w.heap.size+1<=wr.heap.size:=by have:=HN.out.below.size;simpa using this
  have LM:=ae (HX.out.below HN.out.below (Nat.lt_succ_self _))
  by_cases aU:i<els.length
  ·have hd:decide ((i:Int)<(els.length:Int))=true:=by simp;omega
   obtain⟨g,hg,dn,he⟩:=HP.out.el aU;subst hg;have HE:=ae ((he.below (bd.alloc au (.cells cx.toArray 134)) dn).below HN.out.below (Nat.lt_succ_of_lt dn));have fy:Hid (iN els place x (i+1)=(if i=place then iN els place x i++[x] else iN els place x i)++[els[i]]):=Hi x aU;clear he;generalize els[i]=y at HE fy;obtain⟨cs,kf⟩:∃cs,y.cells=cs:=⟨_,rfl⟩;have Tj:=ae kf;rw[kf] at HE;clear kf;generalize iN els place x i=L at HN fy Gl ⊢;have AZ:Hid (ElAt (wr.alloc (.cells cs.toArray 134)) w.heap.size 0 cx x.num x.par):=LM.out.keep (Below.heap_alloc _ _ _ (by omega));have kB:=ae (HE.out.new wr)
   by_cases nD:i=place
   ·have gi:((i:Int)==(place:Int))=true:=by simp[nD]
    have fX:Hid (iN els place x (i+1)=L++[x]++[y]):=by unfold Hid;rw[fy.out,aq nD]
    clear nD fy;go_wp2_with (first | (refine wpList_load_mid rfl 134 _ rfl g (i*31) rfl cs _ HE.out.rng underlying134 rfl HE.out.size ?_) | (refine aE rfl 134 _ _ rfl _ cs.toArray 134 rfl rfl HE.out.size' HE.out.same HE.out.all ?_) | (refine wpList_load_mid rfl 134 _ rfl (w.heap.size) (0) rfl cx _ AZ.out.rng underlying134 rfl AZ.out.size ?_) | (refine cU (wr.heap.size+1) (by simp) rfl 83 134 _ rfl cx.toArray rfl i0 z0 underlying83 hi iz (AZ.out.info is) (AZ.out.pos) (AZ.out.small) ?_) | (at_builtin;refine wpList_append_own _ rfl (.tmp 20) (.tmp 22) 83 rfl (w.heap.size+1) 134 i0 z0 31 48 underlying83 hi iz is ib Kn (by decide) _ _ _ rfl ((HN.out.own.alloc _).alloc _) ⟨wr.heap.size+1,0,none⟩ 1 1 cx rfl AZ.out.len1 ?c1 AZ.out.one ?c3 ?c4 ?c5 ?_))
    case c1=>exact aW (wr.alloc _) _ (by simp) _ _ _ (by simp)
    case c3=>unfold maxLen;omega
    case c4=>omega
    case c5=>simp;omega
    intro v3 w3 bA fk _;have Wx:Hid (WI (w.heap.size+1) (w.alloc (.cells cx.toArray 134)) w3 v3 (L++[x])):=HN.out.app ((HN.out.below.alloc iW _).alloc (by simp;omega) _) (by simp;omega) fk (by rw[HCX.out];exact bA);have Gu:wr.heap.size+2<=w3.heap.size:=by have:=fk.size;simpa using this
    have jA:Hid (ElAt w3 wr.heap.size 0 cs y.num y.par):=by
     refine kB.out.keep ((fk.block wr.heap.size (by simp;omega) (λe=>?_)).trans (Below.heap_alloc _ _ _ (by simp)));have:=(HN.out.own.lt wr.heap.size e.symm).2;omega
    have hl3:(L++[x]).length<=L.length+1:=by simp
    clear bA fk HN AZ kB LM HE;obtain⟨a3,c3,yS⟩:=aA Wx.out.own;subst yS;generalize L++[x]=L3 at Wx fX hl3 ⊢;go_wp2_with (first | (refine wpList_load_mid rfl 134 _ rfl (wr.heap.size) (0) rfl cs _ jA.out.rng underlying134 rfl jA.out.size ?_) | (refine cU w3.heap.size rfl rfl 83 134 _ rfl cs.toArray rfl i0 z0 underlying83 hi iz (jA.out.info is) (jA.out.pos) (jA.out.small) ?_) | (at_builtin;refine wpList_append_own _ rfl (.tmp 24) (.tmp 26) 83 rfl (w.heap.size+1) 134 i0 z0 31 48 underlying83 hi iz is ib Kn (by decide) _ _ _ rfl (Wx.out.own.alloc _) ⟨w3.heap.size,0,none⟩ 1 1 cs rfl jA.out.len1 ?c1 jA.out.one ?c3 ?c4 ?c5 ?_))
    case c1=>exact aW w3 _ rfl _ _ _ (by simp)
    case c3=>unfold maxLen;omega
    case c4=>omega
    case c5=>simp;omega
    intro v5 w5 bR jf _
    have yu:Hid (WI (w.heap.size+1) (w.alloc (.cells cx.toArray 134)) w5 v5 (iN els place x (i+1))):=by
     rw[fX.out];exact Wx.out.app (Wx.out.below.alloc (by omega) _) (by simp;omega) jf (by rw[Tj.out];exact bR)
    clear bR jf Wx jA;go_wp2;go_roundg (els.length - (i+1))
    case measure=>omega
    case rel=>exact⟨i+1,by go_num,by omega,au,yu⟩
   ·have gi:((i:Int)==(place:Int))=false:=by rw[ff];omega
    have fX:Hid (iN els place x (i+1)=L++[y]):=by unfold Hid;rw[fy.out,aj nD]
    clear nD fy;go_wp2_with (first | (refine wpList_load_mid rfl 134 _ rfl g (i*31) rfl cs _ HE.out.rng underlying134 rfl HE.out.size ?_) | (refine aE rfl 134 _ _ rfl _ cs.toArray 134 rfl rfl HE.out.size' HE.out.same HE.out.all ?_) | (refine wpList_load_mid rfl 134 _ rfl (wr.heap.size) (0) rfl cs _ kB.out.rng underlying134 rfl kB.out.size ?_) | (refine cU (wr.heap.size+1) (by simp) rfl 83 134 _ rfl cs.toArray rfl i0 z0 underlying83 hi iz (kB.out.info is) (kB.out.pos) (kB.out.small) ?_) | (at_builtin;refine wpList_append_own _ rfl (.tmp 24) (.tmp 26) 83 rfl (w.heap.size+1) 134 i0 z0 31 48 underlying83 hi iz is ib Kn (by decide) _ _ _ rfl ((HN.out.own.alloc _).alloc _) ⟨wr.heap.size+1,0,none⟩ 1 1 cs rfl kB.out.len1 ?c1 kB.out.one ?c3 ?c4 ?c5 ?_))
    case c1=>exact aW (wr.alloc _) _ (by simp) _ _ _ (by simp)
    case c3=>unfold maxLen;omega
    case c4=>omega
    case c5=>simp;omega
    intro v5 w5 bR jf _
    have yu:Hid (WI (w.heap.size+1) (w.alloc (.cells cx.toArray 134)) w5 v5 (iN els place x (i+1))):=by
     rw[fX.out];exact HN.out.app ((HN.out.below.alloc iW _).alloc (by simp;omega) _) (by simp;omega) jf (by rw[Tj.out];exact bR)
    clear bR jf HN AZ kB LM HE;go_wp2;go_roundg (els.length - (i+1))
    case measure=>omega
    case rel=>exact⟨i+1,by go_num,by omega,au,yu⟩
  ·have hd:decide ((i:Int)<(els.length:Int))=false:=by simp;omega
   obtain rfl:i=els.length:=by omega
   have CB:Hid (∀w3,Below (w.heap.size+1) (w.alloc (.cells cx.toArray 134)) w3->Below w.heap.size w w3):=λw3 hb=>((Below.refl w.heap.size w).alloc au _).trans (hb.mono (Nat.le_succ _))
   by_cases lU:place=els.length
   ·have gp:((place:Int)==(els.length:Int))=true:=by simp[lU]
    have pX:Hid (iN els place x els.length++[x]=dO els place x):=by rw[lU];exact Hh els x
    clear lU;generalize iN els place x els.length=L at HN pX Gl ⊢;go_wp2_with (first | (refine wpList_load_mid rfl 134 _ rfl (w.heap.size) (0) rfl cx _ LM.out.rng underlying134 rfl LM.out.size ?_) | (refine cU wr.heap.size rfl rfl 83 134 _ rfl cx.toArray rfl i0 z0 underlying83 hi iz (LM.out.info is) (LM.out.pos) (LM.out.small) ?_) | (at_builtin;refine wpList_append_own _ rfl (.tmp 33) (.tmp 35) 83 rfl (w.heap.size+1) 134 i0 z0 31 48 underlying83 hi iz is ib Kn (by decide) _ _ _ rfl (HN.out.own.alloc _) ⟨wr.heap.size,0,none⟩ 1 1 cx rfl LM.out.len1 ?c1 LM.out.one ?c3 ?c4 ?c5 ?_))
    case c1=>exact aW wr _ rfl _ _ _ (by simp)
    case c3=>unfold maxLen;omega
    case c4=>omega
    case c5=>simp;omega
    intro v5 w5 bR jf _
    have yu:Hid (WI (w.heap.size+1) (w.alloc (.cells cx.toArray 134)) w5 v5 (dO els place x)):=by
     rw[<-pX.out];exact HN.out.app (HN.out.below.alloc iW _) (by simp;omega) jf (by rw[HCX.out];exact bR)
    clear bR jf HN LM;obtain⟨a5,c5,Gt⟩:=aA yu.out.own;subst Gt;go_wp2;go_ret;exact⟨a5,c5,rfl,aP yu.out.own (Nat.le_succ _),CB.out _ yu.out.below⟩
   ·have gp:((place:Int)==(els.length:Int))=false:=by rw[ff];omega
    have yu:Hid (WI (w.heap.size+1) (w.alloc (.cells cx.toArray 134)) wr (.slice a2 (dO els place x).length c2) (dO els place x)):=by
     have:=HN.out;rw[AV x (by omega)] at this;exact this
    rw[AV x (by omega)];clear lU HN LM;go_wp2;go_ret;exact⟨a2,c2,rfl,aP yu.out.own (Nat.le_succ _),CB.out _ yu.out.below⟩
theorem BZ (w:World)(v:Value)(els:List PEl)(place:Nat)(h:PL w v els)(bC:els.length<=24):
  Calls prog 176 #[v,.int .i64 place] w λe w'=>CJ w (els.eraseIdx place) e w':=by
 obtain⟨i0,z0,hi,iz,is,ib,Kn⟩:=Tryz.infoE;obtain⟨a,c,hv⟩:=h.shape;subst hv;have HP:=ae h;clear h;have Hq:Hid (WI w.heap.size w w (.slice none 0 0) ((els.take 0).eraseIdx place)):=⟨er,bd⟩;go_enter func176,ntmps176;go_wp2_with fail
 go_loopg [5,10] els.length (λgk v iv wr=>∃i:Nat,iv=.int .i64 i/\i<=els.length/\els.length - i<=gk/\Hid (WI w.heap.size w wr v ((els.take i).eraseIdx place)))
 case atStart=>exact⟨0,rfl,aZ,by omega,Hq⟩
 case round=>
  obtain⟨i,rfl,jJ,fS,HN⟩:=hrel;obtain⟨a2,c2,jC⟩:=aA HN.out.own;subst jC
  have Gl:((els.take i).eraseIdx place).length<=24:=by
   have h1:=List.length_eraseIdx_le (els.take i) place;have h2:(els.take i).length<=els.length:=List.length_take_le' _ _;omega
  have iW:=HN.out.below.size
  by_cases aU:i<els.length
  ·have hd:decide ((i:Int)<(els.length:Int))=true:=by simp;omega
   obtain⟨g,hg,dn,he⟩:=HP.out.el aU;subst hg;have HE:=ae (he.below HN.out.below dn);have fy:Hid ((els.take (i+1)).eraseIdx place=if i=place then(els.take i).eraseIdx place else(els.take i).eraseIdx place++[els[i]]):=FT aU;clear he;generalize els[i]=y at HE fy;obtain⟨cs,kf⟩:∃cs,y.cells=cs:=⟨_,rfl⟩;have Tj:=ae kf;rw[kf] at HE;clear kf;generalize (els.take i).eraseIdx place=L at HN fy Gl ⊢;have kB:=ae (HE.out.new wr)
   by_cases nD:i=place
   ·have gi:((i:Int) != (place:Int))=false:=by simp[nD]
    have yu:Hid (WI w.heap.size w (wr.alloc (.cells cs.toArray 134)) (.slice a2 L.length c2) ((els.take (i+1)).eraseIdx place)):=by
     rw[fy.out,aq nD];exact⟨HN.out.own.alloc _,HN.out.below.alloc iW _⟩
    clear nD fy;go_wp2_with (first | (refine wpList_load_mid rfl 134 _ rfl g (i*31) rfl cs _ HE.out.rng underlying134 rfl HE.out.size ?_) | (refine aE rfl 134 _ _ rfl _ cs.toArray 134 rfl rfl HE.out.size' HE.out.same HE.out.all ?_));go_roundg (els.length - (i+1))
    case measure=>omega
    case rel=>exact⟨i+1,by go_num,by omega,au,yu⟩
   ·have gi:((i:Int) != (place:Int))=true:=by rw[bne_iff_ne];omega
    have fX:Hid ((els.take (i+1)).eraseIdx place=L++[y]):=by unfold Hid;rw[fy.out,aj nD]
    clear nD fy;go_wp2_with (first | (refine wpList_load_mid rfl 134 _ rfl g (i*31) rfl cs _ HE.out.rng underlying134 rfl HE.out.size ?_) | (refine aE rfl 134 _ _ rfl _ cs.toArray 134 rfl rfl HE.out.size' HE.out.same HE.out.all ?_) | (refine wpList_load_mid rfl 134 _ rfl (wr.heap.size) (0) rfl cs _ kB.out.rng underlying134 rfl kB.out.size ?_) | (refine cU (wr.heap.size+1) (by simp) rfl 83 134 _ rfl cs.toArray rfl i0 z0 underlying83 hi iz (kB.out.info is) (kB.out.pos) (kB.out.small) ?_) | (at_builtin;refine wpList_append_own _ rfl (.tmp 18) (.tmp 20) 83 rfl (w.heap.size) 134 i0 z0 31 48 underlying83 hi iz is ib Kn (by decide) _ _ _ rfl ((HN.out.own.alloc _).alloc _) ⟨wr.heap.size+1,0,none⟩ 1 1 cs rfl kB.out.len1 ?c1 kB.out.one ?c3 ?c4 ?c5 ?_))
    case c1=>exact aW (wr.alloc _) _ (by simp) _ _ _ (by simp)
    case c3=>unfold maxLen;omega
    case c4=>omega
    case c5=>simp;omega
    intro v5 w5 bR jf _
    have yu:Hid (WI w.heap.size w w5 v5 ((els.take (i+1)).eraseIdx place)):=by
     rw[fX.out];exact HN.out.app ((HN.out.below.alloc iW _).alloc (by simp;omega) _) (by simp;omega) jf (by rw[Tj.out];exact bR)
    clear bR jf HN kB HE;go_wp2;go_roundg (els.length - (i+1))
    case measure=>omega
    case rel=>exact⟨i+1,by go_num,by omega,au,yu⟩
  ·have hd:decide ((i:Int)<(els.length:Int))=false:=by simp;omega
   obtain rfl:i=els.length:=by omega
   rw[List.take_length] at HN ⊢;go_wp2;go_ret;exact⟨a2,c2,rfl,HN.out.own,HN.out.below⟩
section
variable {e x:PEl}{els:List PEl}{i:Nat}
noncomputable def dJ (T:aJ)(f n:Int):Bool:=decide (aY T f<0)||bZ T (aY T f) n
def kn (e:PEl):Int:=match (e.rest[0]?:Option Value) with | some (.int .u8 k)=>k | _=>0
def eE (e:PEl)(i:Nat):Bool:=match (e.rest[1+i]?:Option Value) with | some (.bool b)=>b | _=>false
def ju (e:PEl):Int:=match (e.rest[27]?:Option Value) with | some (.int .u8 k)=>k | _=>0
structure Shp (e:PEl):Prop where
 kind:∃k,e.rest[0]?=some (.int .u8 k)
 cls:∀i,i<26->∃b,e.rest[1+i]?=some (.bool b)
 name:∃k,e.rest[27]?=some (.int .u8 k)
 shown:∃b,e.rest[28]?=some (.bool b)
theorem Shp.kd (h:Shp e):e.cells[2]?=some (.int .u8 (kn e)):=by
 obtain⟨k,hk⟩:=h.kind;unfold kn PEl.cells;rw[hk];exact hk
theorem Shp.cl (h:Shp e)(hi:i<26):e.cells[3+i]?=some (.bool (eE e i)):=by
 obtain⟨b,hb⟩:=h.cls i hi;unfold eE PEl.cells;rw[hb,show 3+i=(1+i)+1+1 from by omega,List.getElem?_cons_succ,List.getElem?_cons_succ];exact hb
theorem Shp.nm (h:Shp e):e.cells[29]?=some (.int .u8 (ju e)):=by
 obtain⟨k,hk⟩:=h.name;unfold ju PEl.cells;rw[hk];exact hk
def fP (e:PEl):Bool:=match (e.rest[28]?:Option Value) with | some (.bool b)=>b | _=>false
theorem Shp.sh (h:Shp e):e.cells[30]?=some (.bool (fP e)):=by
 obtain⟨k,hk⟩:=h.shown;unfold fP PEl.cells;rw[hk];exact hk
structure Mk where
 kd:Int
 cl:Nat->Bool
 nm:Int
def Hk (x:PEl)(m:Mk):Prop:=kn x=m.kd/\(∀i,i<26->eE x i=m.cl i)/\ju x=m.nm/\fP x=m.cl 26
def Ms (els:List PEl)(M:Nat->Mk):Prop:=∀x∈els,Hk x (M x.num)
def bM (M:Nat->Mk)(k:Nat)(m:Mk):Nat->Mk:=λj=>if j=k then m else M j
def d8 (kind:ByteArray):Mk:=⟨bt kind 0,λ_=>false,0⟩
def kj (m:Mk)(s:ByteArray)(on:Bool):Mk:=⟨m.kd,λi=>if i+97=bt s 0 then on else m.cl i,m.nm⟩
def fM (m:Mk)(s:ByteArray):Mk:=⟨m.kd,m.cl,if s.size=0 then 0 else bt s 0⟩
def io (m:Mk)(on:Bool):Mk:=⟨m.kd,λi=>if i=26 then on else m.cl i,m.nm⟩
def MkO (els:List PEl)(M:Nat->Mk):Prop:=Ms els M/\∀x∈els,Shp x
theorem MkO.sub {bP:List PEl}{M:Nat->Mk}(h:MkO els M)(hs:∀x∈bP,x∈els):MkO bP M:=⟨λx hx=>h.1 x (hs x hx),λx hx=>h.2 x (hs x hx)⟩
theorem MkO.ext {M M':Nat->Mk}(h:MkO els M)(hm:∀x∈els,M x.num=M' x.num):MkO els M':=⟨λx hx=>by rw[<-hm x hx];exact h.1 x hx,h.2⟩
theorem MkO.more {M:Nat->Mk}(h:MkO els M){m:Mk}(place:Nat)(hx:Shp x)(hm:Hk x m)(hn:∀e∈els,e.num≠x.num):MkO (dO els place x) (bM M x.num m):=by
 refine⟨λe he=>?_,λe he=>?_⟩
 ·unfold bM;rcases fL.1 he with rfl | he
  ·rw[aq rfl];exact hm
  ·rw[aj (hn e he)];exact h.1 e he
 ·rcases fL.1 he with rfl | he
  ·exact hx
  ·exact h.2 e he
def dW (els:List PEl)(e l:Int):Bool:=match dk els e with | some x=>kn x==l | none=>false
def ei (els:List PEl)(e l:Int):Bool:=match dk els e with | some x=>if 97<=l/\l<=122 then eE x (l - 97).toNat else false | none=>false
def gG (els:List PEl)(e l:Int):Bool:=match dk els e with | some x=>ju x==l | none=>false
def bQ (els:List PEl):Nat->Int->List Int
 | 0,_=>[]
 | k+1,e=>if parP els e=-1 then[] else parP els e :: bQ els k (parP els e)
def eY (els:List PEl)(i:Nat)(par:Int):List Int:=(((els.take i).filter λy=>decide (y.par=par)).map λy=>(y.num:Int)).reverse
def mX (els:List PEl)(e:Int):Nat:=els.findIdx λy=>decide ((y.num:Int)=e)
def cB (els:List PEl)(e:Int):List Int:=match dk els e with | some x=>eY els (mX els e) x.par | none=>[]
def ko (els:List PEl)(e:Int):Bool:=match dk els e with | some x=>(els.drop (mX els e+1)).all λy=>decide (¬y.par=x.par) | none=>false
def iQ (els:List PEl)(e:Int):Bool:=(els.all λy=>decide (¬y.par=e))&&(dk els e).isSome
theorem qC (hn:(els.map PEl.num).Nodup)(hx:els[i]?=some x):mX els x.num=i:=by
 obtain⟨hi,he⟩:=dY.1 hx;unfold mX;rw[List.findIdx_eq hi];refine⟨by rw[he];simp,λj hj=>?_⟩;rw[gU];intro h;refine List.pairwise_iff_getElem.1 hn j i (by simp;omega) (by simpa using hi) hj ?_;simp only[List.getElem_map];rw[he];omega
def m9 (place step start:Int):Bool:=if step<=0∨place<start then place==start else(place - start) % step==0
def dL (els:List PEl)(p:PPt)(e:Int):Bool:=
 if p.kd=1 then dW els e p.lt else if p.kd=2 then ei els e p.lt else if p.kd=3 then gG els e p.lt
 else if p.kd=4 then decide (((cB els e).length:Int)+1=1) else if p.kd=5 then ko els e else if p.kd=6 then iQ els e
 else if p.kd=7 then m9 (((cB els e).length:Int)+1) p.st p.sr else false
def hJ (els:List PEl)(c:d9)(e:Int):Bool:=(c.ty==0||dW els e c.ty)&&c.ps.all λp=>dL els p e != p.nt
def dK (els:List PEl)(sg e:Int):List Int:=
 if sg=32 then bQ els els.length e else if sg=62 then(bQ els els.length e).take 1 else if sg=126 then cB els e else if sg=43 then(cB els e).take 1 else[]
def dS (els:List PEl):List d9->Int->Bool
 | [],_=>false
 | [c],e=>hJ els c e
 | c :: d :: r,e=>hJ els c e&&(dK els c.sg e).any (dS els (d :: r))
def tB (els:List PEl)(cs:List d9)(e:Int):Bool:=dS els cs.reverse e
structure Clm where
 th:Bool
 im:Bool
 ly:Int
 wt:Int
 kd:Int
 nu:Int
 va:Int
def Clm.cells (c:Clm):List Value:=[.bool c.th,.bool c.im,.int .i64 c.ly,.int .i64 c.wt,.int .i64 c.kd,.int .i64 c.nu,.int .u8 c.va]
def Clm.none:Clm:=⟨false,false,0,0,0,0,0⟩
def iO (c d:Clm):Bool:=
 if d.th=false then true else if c.im≠d.im then c.im else if c.ly≠d.ly then decide (c.ly<d.ly)==c.im else decide (d.wt<=c.wt)
def bH (p:Int):Option Nat:=if 65<=p/\p<71 then some (p - 65).toNat else if 88<=p/\p<91 then some (6+(p - 88).toNat) else none
theorem l9 {p:Int}{k:Nat}(h:bH p=some k):k<9:=by
 unfold bH at h;split at h
 ·injection h with h;omega
 ·split at h
  ·injection h with h;omega
  ·cases h
def mr (ly wt:Int)(d:PDc):Clm:=⟨true,d.im,ly,wt,d.kd,d.nu,d.va⟩
def fb (ly wt:Int)(W:List Clm)(d:PDc):List Clm:=match bH d.pr with | some k=>if iO (mr ly wt d) (W.getD k Clm.none) then W.set k (mr ly wt d) else W | none=>W
def FE (W:List Clm)(r:dF)(wt:Int):List Clm:=r.ds.foldl (fb r.ly wt) W
theorem AO (ly wt:Int)(W:List Clm)(d:PDc):(fb ly wt W d).length=W.length:=by
 unfold fb;split
 ·split
  ·rw[List.length_set]
  ·rfl
 ·rfl
def gN (els:List PEl)(e:Int)(a:Int × Bool)(cs:List d9):Int × Bool:=if tB els cs e then(max a.1 ((zC cs:Nat):Int),true) else a
def ey (els:List PEl)(e:Int)(ss:List (List d9)):Int × Bool:=ss.foldl (gN els e) (0,false)
def lF (els:List PEl)(e:Int)(W:List Clm)(r:dF):List Clm:=if(ey els e r.ss).2 then FE W r (ey els e r.ss).1 else W
def bE (els:List PEl)(rs:List dF)(e:Int):List Clm:=rs.foldl (lF els e) (List.replicate 9 Clm.none)
def eC:List Int:=[1,2,3,4,5,6,0,0,0]
def mK (p:Nat):Bool:=decide (p<3∨6<=p)
def bV (W:List Clm)(p:Nat):Option Nat:=if(W.getD p Clm.none).kd=5 then bH (W.getD p Clm.none).va else Option.none
def js (W:List Clm)(start:Nat):Nat->Option Nat->Bool
 | 0,_=>false
 | k+1,q=>match q with | Option.none=>false | some p=>if p=start then true else js W start k (bV W p)
def cj (W:List Clm)(p:Nat)(akc:List Int):Int:=
 if(W.getD p Clm.none).kd=1 then(W.getD p Clm.none).nu else if(W.getD p Clm.none).kd=2 then akc.getD p 0 else if(W.getD p Clm.none).kd=3 then eC.getD p 0 else if mK p then akc.getD p 0 else eC.getD p 0
def dN (W:List Clm)(akc:List Int):Nat->Nat->Int
 | 0,p=>akc.getD p 0
 | k+1,p=>if js W p 3 (bV W p) then akc.getD p 0 else match bV W p with | Option.none=>cj W p akc | some q=>dN W akc k q
def L9 (els:List PEl)(rs:List dF)(e:Int)(akc:List Int):List Int:=(List.range 9).map λp=>dN (bE els rs e) akc 9 p
end
section
variable {T:aJ}{b made:Nat}{els:List PEl}{kind:ByteArray}{v:Value}{vS:Value × Value}{w w':World}
def Mw (w:World)(s:ByteArray)(e:Ending)(w':World):Prop:=∃c:Int,e=.returned (.tuple #[.int .u8 c,.bool (aG s)])/\Drew w w'/\(aG s=true->c=bt s 0)/\(s.size=0->c=0)
theorem sd (w:World)(s:ByteArray):Calls prog 73 #[.string s] w λe w'=>Mw w s e w':=by
 by_cases h1:s.size=1
 ·have g1:((s.size:Int) != 1)=false:=by simp[h1]
  have h0:0<s.size:=by omega
  have hb:(bt s 0:Int)=(s[0].toNat:Int):=by rw[bN s 0 h0]
  have LL:=ae hb.symm
  by_cases h2:(97:Int)<=bt s 0
  ·by_cases h3:(bt s 0:Int)<=122
   ·have HR:Hid (aG s=true):=by unfold Hid aG gw;simp only[h1,decide_true,Bool.true_and,bF];omega
    rw[hb] at h2 h3;have iR:decide ((97:Int)<=(s[0].toNat:Int))=true:=by simpa using h2
    have yw:decide ((s[0].toNat:Int)<=122)=true:=by simpa using h3
    clear hb h1;go_enter func73,ntmps73;go_upto_region 3 with fail;go_quiet (fail);go_wp2;go_ret2;unfold Mw;rw[HR.out];exact⟨_,rfl,⟨_,rfl⟩,λ_=>LL.out,λh=>by omega⟩
   ·have HR:Hid (aG s=false):=by unfold Hid aG gw;simp only[h1,decide_true,Bool.true_and,gU];omega
    rw[hb] at h2 h3;have iR:decide ((97:Int)<=(s[0].toNat:Int))=true:=by simpa using h2
    have yw:decide ((s[0].toNat:Int)<=122)=false:=by simpa using h3
    clear hb h1;go_enter func73,ntmps73;go_upto_region 3 with fail;go_quiet (fail);go_wp2;go_ret2;unfold Mw;rw[HR.out];exact⟨_,rfl,⟨_,rfl⟩,λ_=>LL.out,λh=>by omega⟩
  ·have HR:Hid (aG s=false):=by unfold Hid aG gw;simp only[h1,decide_true,Bool.true_and,gU];omega
   rw[hb] at h2;have iR:decide ((97:Int)<=(s[0].toNat:Int))=false:=by simpa using h2
   clear hb h1;go_enter func73,ntmps73;go_upto_region 3 with fail;go_quiet (fail);go_wp2;go_ret2;unfold Mw;rw[HR.out];exact⟨_,rfl,⟨_,rfl⟩,λ_=>LL.out,λh=>by omega⟩
 ·have g1:((s.size:Int) != 1)=true:=by rw[bne_iff_ne];omega
  have HR:Hid (aG s=false):=by unfold Hid aG;simp only[h1,decide_false,Bool.false_and]
  clear h1;go_enter func73,ntmps73;go_wp2;go_ret2;unfold Mw;rw[HR.out];exact⟨0,rfl,⟨0,rfl⟩,λh=>(by cases h),λ_=>rfl⟩
abbrev fB (c:Int):List Value:=[.int .u8 c,.bool false,.bool false,.bool false,.bool false,.bool false,.bool false,.bool false,.bool false,.bool false,.bool false,.bool false,.bool false,.bool false,.bool false,.bool false,.bool false,.bool false,.bool false,.bool false,.bool false,.bool false,.bool false,.bool false,.bool false,.bool false,.bool false,.int .u8 0,.bool false]
theorem GB (c:Int):fB c=.int .u8 c :: (List.replicate 26 (Value.bool false)++[.int .u8 0,.bool false]):=rfl
theorem uk (c:Int){i:Nat}(hi:i<26):(fB c)[1+i]?=some (.bool false):=by
 rw[GB,Nat.add_comm,List.getElem?_cons_succ,List.getElem?_append_left (by simpa using hi),List.getElem?_replicate,aq hi]
theorem OY (n:Nat)(p c:Int):PEl.ok ⟨n,p,fB c⟩:=by
 refine⟨rfl,λu hu=>?_⟩;simp only[List.mem_cons,List.not_mem_nil,or_false] at hu;rcases hu with rfl | hu
 ·rfl
 ·have:u=.bool false∨u=.int .u8 0∨u=.bool false:=by simpa using hu
  rcases this with rfl | rfl | rfl<;>rfl
theorem IC (n:Nat)(p c:Int):Shp ⟨n,p,fB c⟩:=⟨⟨c,rfl⟩,λ_ hi=>⟨false,uk c hi⟩,⟨0,rfl⟩,⟨false,rfl⟩⟩
theorem OX (n:Nat)(p:Int){c:Int}(hc:c=bt kind 0):Hk ⟨n,p,fB c⟩ (d8 kind):=by
 refine⟨hc,λi hi=>?_,rfl,rfl⟩;unfold eE;show(match (fB c)[1+i]? with | some (.bool b)=>b | _=>false)=_;rw[uk c hi];rfl
abbrev tf (vS:Value × Value)(v:Value)(made:Nat):Obj:=.cells #[vS.1,v,.int .i64 made,vS.2] 90 (0,0)
structure PB3 (w:World)(b:Nat)(vS:Value × Value)(v:Value)(els:List PEl)(T:aJ)(made:Nat):Prop where
 doc:w.heap[b]?=some (tf vS v made)
 pl:PL w v els
 pt:PT els T
 few:els.length<=24
theorem PB3.c1 (h:PB3 w b vS v els T made):w.cell? ⟨b,1,none⟩=some v:=aa h.doc rfl
theorem PB3.c2 (h:PB3 w b vS v els T made):w.cell? ⟨b,2,none⟩=some (.int .i64 made):=aa h.doc rfl
theorem PB3.below (h:PB3 w b vS v els T made)(hB:Below w.heap.size w w'):PB3 w' b vS v els T made:=
 ⟨(hB.block b (bx.1 h.doc).1).trans h.doc,⟨aN h.pl.row hB,h.pl.ok⟩,h.pt,h.few⟩
theorem PB3.set (h:PB3 w b vS v els T made)(hB:Below w.heap.size w w'){v':Value}{bP:List PEl}{T':aJ}{an:Nat}(ho:w'.ownsRow an 134 31 v' bP.length (hO bP))(qA:∀e∈bP,e.ok)(ht:PT bP T')(hf:bP.length<=24):PB3 (w'.setCell ⟨b,1,none⟩ v') b vS v' bP T' made:=by
 have hb':=(hB.block b (bx.1 h.doc).1).trans h.doc;refine⟨?_,⟨bj (aP ho aZ) (aB ho hb' (by decide)) _,qA⟩,ht,hf⟩;rw[aF hb'];rfl
theorem PB3.count (h:PB3 w b vS v els T made):PB3 (w.setCell ⟨b,2,none⟩ (.int .i64 ((made:Int)+1))) b vS v els T (made+1):=by
 refine⟨?_,⟨bj h.pl.row (aB h.pl.row h.doc (by decide)) _,h.pl.ok⟩,h.pt,h.few⟩;rw[aF h.doc];rfl
def vF (w:World)(b:Nat)(vS:Value × Value)(v:Value)(els:List PEl)(T:aJ)(made:Nat)(par at':Int)(kind:ByteArray)(e:Ending)(w':World):Prop:=
 ∃y T' made' n v' bP,e=.returned (.tuple #[.int .i64 n,.int .i64 y])/\TIns T made par at' kind y T' made' n/\PB3 w' b vS v' bP T' made'/\Fr w w' (λk=>k=b)/\(∀j,v'.ownBlock=some j->v.ownBlock=some j∨w.heap.size<=j)/\∀M,MkO els M->MkO bP (if y=0 then bM M made (d8 kind) else M)
theorem OI {par at':Int}(h:bw T par=none):jN T par at' kind=5:=by unfold jN;rw[h]
theorem IF (h:∀e∈els,e.ok){x:PEl}(hx:x.ok)(place:Nat):∀e∈dO els place x,e.ok:=λe he=>(fL.1 he).elim (λh1=>h1▸hx) (h e)
theorem E5 (els:List PEl)(place:Nat)(x:PEl):(dO els place x).length=els.length+1:=by
 unfold dO;simp;omega
theorem Pw (w:World)(b:Nat)(vS:Value × Value)(v:Value)(els:List PEl)(T:aJ)(made:Nat)(par at':Int)(kind:ByteArray)(h:PB3 w b vS v els T made)(hw:TW T made)(mW:made<=4611686018427387904):
  Calls prog 65 #[.pointer (some ⟨b,1,none⟩),.int .i64 par,.int .i64 at',.string kind] w λe w'=>vF w b vS v els T made par at' kind e w':=by
 have HB:=ae h;have HW:=ae hw;have bC:=h.few;have hTl:=h.pt.len hw;have HTL:=ae hTl;clear h hw hTl
 have nH:Hid (∀(y:Int) (w':World),Below w.heap.size w w'->y≠0->jN T par at' kind=y->vF w b vS v els T made par at' kind (.returned (.tuple #[.int .i64 0,.int .i64 y])) w'):=λy w' hb hy he=>
  ⟨y,T,made,0,v,els,rfl,⟨he.symm,af ⟨hy,rfl,rfl,rfl⟩⟩,HB.out.below hb,(Fr.refl w _).below hb,λj hj=>af hj,λM hM=>by rw[aj hy];exact hM⟩
 go_enter func65,ntmps65;go_wp2_with fail;refine(dP w b v els par HB.out.c1 HB.out.pl bC).mono ?_;rintro e w1 ⟨cq,⟨hf,rfl⟩ | ⟨ip,xp,_,hf,rfl⟩⟩
 ·have HE:=nH.out 5 w1 cq (by decide) (OI (HB.out.pt.find_none hf));clear hf;go_wp2;go_ret2;exact HE
 ·obtain⟨Oc,Od,eZ⟩:=HB.out.pt.find_some HW.out hf;have HT:=kK Oc Od eZ;clear hf Oc Od eZ;have oR:=(HB.out.below cq).c1;go_wp2_with fail;refine(xA w1 v els par at' (HB.out.below cq).pl bC).mono ?_;rintro e w2 ⟨dq,⟨place,rfl,lU,p8⟩ | ⟨n,rfl,kQ⟩⟩
  ·have Vn:=cq.trans (dq.mono cq.size);have HK:=ae p8;clear cq dq oR p8;go_wp2_with fail;refine(sd w2 kind).mono ?_;rintro e w3 ⟨c,rfl,qX,BD,_⟩;have HCB:=ae BD;clear BD;have fj:=Vn.trans (qX.below.mono Vn.size);clear Vn qX
   have AY:Hid (¬(at'<0∨((aO els par).length:Int)<at')):=by
    have h1:=HK.out
    have h2:(aO (els.take place) par).length<=(aO els par).length:=by
     have h3:aO els par=aO (els.take place) par++aO (els.drop place) par:=by rw[<-eF,List.take_append_drop]
     rw[h3,List.length_append];omega
    intro h3;omega
   cases hl:aG kind with
   | false=>
    have HE:=nH.out 4 w3 fj (by decide) (by unfold jN;rw[HT.out.1];show(if _ then _ else _)=_;rw[aj AY.out,aq hl]);clear hl;go_wp2;go_ret2;exact HE
   | true=>
    have oR:=(HB.out.below fj).c1;have yK:=(HB.out.below fj).c2;obtain⟨av,cv,Kj⟩:=HB.out.pl.shape;subst Kj
    by_cases RZ:24<=els.length
    ·have g24:decide ((24:Int)<=(els.length:Int))=true:=by simp;omega
     have HE:=nH.out 9 w3 fj (by decide) (by unfold jN;rw[HT.out.1];show(if _ then _ else _)=_;rw[aj AY.out,aj (by rw[hl];decide),aq (by rw[<-HTL.out];exact RZ)]);clear hl RZ;go_wp2;go_ret2;exact HE
    ·have g24:decide ((24:Int)<=(els.length:Int))=false:=by simp;omega
     have LQ:Hid (jN T par at' kind=0):=by unfold Hid jN;rw[HT.out.1];show(if _ then _ else _)=_;rw[aj AY.out,aj (by rw[hl];decide),aj (by rw[<-HTL.out];exact RZ)]
     have H24:Hid (els.length<24):=by unfold Hid;omega
     have Qu:Hid (∀M,MkO els M->MkO (dO els place ⟨made,par,fB c⟩) (bM M made (d8 kind))):=λM hM=>hM.more (x:=⟨made,par,fB c⟩) place (IC _ _ _) (OX _ _ (HCB.out hl)) (λe he=>by
      obtain⟨l,QJ⟩:=HB.out.pt.to' e he;have:e.num<made:=HW.out.lt _ QJ;show e.num≠made;omega)
     have ez:∀k,w3.frozen? ⟨b,k,none⟩=false:=λ_=>ax (HB.out.below fj).doc;have zi:=ae ((HB.out.below fj).count);clear hl RZ;go_upto_region 14 with fail;have Wk:Hid (Fr w (w3.setCell ⟨b,2,none⟩ (.int .i64 ((made:Int)+1))) (λk=>k=b)):=((Fr.refl w (λk=>k=b)).below fj).set (p:=⟨b,2,none⟩) (af rfl) _;obtain⟨W4,Dq⟩:∃W4,W4=w3.setCell ⟨b,2,none⟩ (.int .i64 ((made:Int)+1)):=⟨_,rfl⟩;rw[<-Dq] at zi Wk ⊢;clear Dq oR yK ez fj;have oR:=zi.out.c1;go_wp2_with fail;have UY:Hid (PEl.ok ⟨made,par,fB c⟩):=OY _ _ _;refine(Ay W4 _ els place ⟨made,par,fB c⟩ zi.out.pl UY.out lU bC).mono ?_;generalize fB c=rst at UY Qu;rintro e w5 ⟨a5,c5,rfl,bR,wN⟩
     have HPT:Hid (PT (dO els place ⟨made,par,rst⟩) (lH T xp.num (aO (els.take place) par).length made)):=by
      have hp:=HT.out.2.2;have:=HB.out.pt.ins HW.out (p:=xp.num) (k:=(aO (els.take place) par).length) (place:=place) ⟨_,HT.out.2.1⟩ rst (by rw[hp]);rw[<-hp] at this;exact this
     have uU:Hid (PB3 (w5.setCell ⟨b,1,none⟩ (.slice a5 (dO els place ⟨made,par,rst⟩).length c5)) b vS (.slice a5 (dO els place ⟨made,par,rst⟩).length c5) (dO els place ⟨made,par,rst⟩) (lH T xp.num (aO (els.take place) par).length made) (made+1)):=
      zi.out.set wN bR (IF zi.out.pl.ok UY.out place) HPT.out (by rw[E5];have:=H24.out;omega)
     have e1:=(zi.out.below wN).c1;have ez:∀k,w5.frozen? ⟨b,k,none⟩=false:=λ_=>ax (zi.out.below wN).doc
     have HE:Hid (vF w b vS (.slice av els.length cv) els T made par at' kind (.returned (.tuple #[.int .i64 made,.int .i64 0])) (w5.setCell ⟨b,1,none⟩ (.slice a5 (dO els place ⟨made,par,rst⟩).length c5))):=by
      refine⟨0,_,made+1,made,_,_,rfl,⟨LQ.out.symm,ai ⟨rfl,rfl,rfl,xp.num,(aO (els.take place) par).length,HT.out.2.2,HK.out.symm,⟨_,HT.out.2.1,?_⟩,rfl⟩⟩,uU.out,(Wk.out.below wN).set (p:=⟨b,1,none⟩) (af rfl) _,λj hj=>ai ?_,λM hM=>by rw[aq rfl];exact Qu.out M hM⟩
      ·have h3:aO els par=aO (els.take place) par++aO (els.drop place) par:=by rw[<-eF,List.take_append_drop]
       rw[h3,List.length_append];omega
      ·have:=(bR.lt j hj).1;have:=Wk.out.size;omega
     clear bR wN oR;generalize (dO els place ⟨made,par,rst⟩).length=n5 at HE uU ⊢;go_wp2;go_ret2;exact HE.out
  ·have HE:=nH.out 8 w2 (cq.trans (dq.mono cq.size)) (by decide) (by unfold jN;rw[HT.out.1];show(if _ then _ else _)=_;rw[aq kQ]);clear kQ cq dq oR;go_wp2;go_ret2;exact HE
end
section
variable {T:aJ}{els:List PEl}{made:Nat}
theorem nf (h:PT els T)(hw:TW T made){x:PEl}(hx:x∈els){a:Int}(ha:0<=a):(∃k,k<els.length/\upP els k x.num=a)↔dD T a x.num:=by
 obtain⟨l,hl⟩:=h.to' x hx;rw[hw.short ha ⟨l,hl⟩,h.len hw];constructor
 ·rintro⟨k,h1,h2⟩;exact⟨k,h1,by rw[<-h.upP hw];exact h2⟩
 ·rintro⟨k,h1,h2⟩;exact⟨k,h1,by rw[h.upP hw];exact h2⟩
noncomputable def oy (T:aJ)(a:Int)(els:List PEl):List PEl:=els.filter λe=>!bZ T a e.num
theorem PR {i:Nat}(T:aJ)(a:Int)(h:i<els.length):oy T a (els.take (i+1))=if bZ T a els[i].num=true then oy T a (els.take i) else oy T a (els.take i)++[els[i]]:=by
 unfold oy;rw[fU h,List.filter_append];cases hu:bZ T a els[i].num<;>simp[hu]
theorem ST (T:aJ)(a:Int)(els:List PEl):(oy T a els).length<=els.length:=List.length_filter_le _ _
theorem TW.par_neg (h:TW T made){a:Nat}{l:List Nat}(ha:(a,l)∈T):aY T a<0↔a=0:=by
 constructor
 ·intro h1
  by_cases h0:a=0
  ·exact h0
  ·obtain⟨q,_,_,hq⟩:=h.up ha h0;omega
 ·rintro rfl;have:=h.root_par;show aY T ((0:Nat):Int)<0;have e:aY T ((0:Nat):Int)=aY T 0:=rfl;omega
def vJ (w:World)(b:Nat)(vS:Value × Value)(v:Value)(els:List PEl)(T:aJ)(made:Nat)(n:Int)(e:Ending)(w':World):Prop:=
 ∃y T' v' bP,e=.returned (.int .i64 y)/\TRem T n y T'/\PB3 w' b vS v' bP T' made/\Fr w w' (λk=>k=b)/\(∀j,v'.ownBlock=some j->v.ownBlock=some j∨w.heap.size<=j)/\∀M,MkO els M->MkO bP M
theorem PF (w:World)(b:Nat)(vS:Value × Value)(v:Value)(els:List PEl)(T:aJ)(made:Nat)(n:Int)(h:PB3 w b vS v els T made)(hw:TW T made):
  Calls prog 155 #[.pointer (some ⟨b,1,none⟩),.int .i64 n] w λe w'=>vJ w b vS v els T made n e w':=by
 obtain⟨i0,z0,hi,iz,is,ib,Kn⟩:=Tryz.infoE;have HB:=ae h;have HW:=ae hw;have bC:=h.few;clear h hw
 have nH:Hid (∀(y:Int) (w':World),Below w.heap.size w w'->y≠0->kT T n=y->vJ w b vS v els T made n (.returned (.int .i64 y)) w'):=λy w' hb hy he=>
  ⟨y,T,v,els,rfl,⟨he.symm,af ⟨hy,rfl⟩⟩,HB.out.below hb,(Fr.refl w _).below hb,λj hj=>af hj,λM hM=>hM⟩
 go_enter func155,ntmps155;go_wp2_with fail;refine(dP w b v els n HB.out.c1 HB.out.pl bC).mono ?_;rintro e w1 ⟨cq,⟨hf,rfl⟩ | ⟨ip,xp,_,hf,rfl⟩⟩
 ·have HE:=nH.out 5 w1 cq (by decide) (by unfold kT;rw[HB.out.pt.find_none hf]);clear hf;go_wp2;go_ret;exact HE
 ·obtain⟨Oc,Od,eZ⟩:=HB.out.pt.find_some HW.out hf;have HT:=kK Oc Od eZ;clear hf Oc Od eZ
  by_cases h0:n=0
  ·have g0:(n==0)=true:=by simp[h0]
   have HE:=nH.out 6 w1 cq (by decide) (by
    unfold kT;rw[HT.out.1];show(if _ then _ else _)=_;have h1:=HT.out.2.2;rw[aq (by rw[h1];exact(HW.out.par_neg HT.out.2.1).2 (by omega))])
   clear h0;go_wp2;go_ret;exact HE
  ·have g0:(n==0)=false:=by simp[h0]
   have H0:Hid (xp.num≠0):=by have h1:=HT.out.2.2;unfold Hid;omega
   have LQ:Hid (kT T n=0):=by
    unfold Hid kT;rw[HT.out.1];show(if _ then _ else _)=_;have h1:=HT.out.2.2;rw[aj (by rw[h1];exact λhx=>H0.out ((HW.out.par_neg HT.out.2.1).1 hx))]
   clear h0;have eg:=ae (HB.out.below cq);have CB:=ae cq;have oR:=eg.out.c1;have jF:=(bx.1 eg.out.doc).1;obtain⟨a,c,hv⟩:=HB.out.pl.shape;subst hv;have Hq:Hid (WI w1.heap.size w1 w1 (.slice none 0 0) (oy T n (els.take 0))):=⟨er,bd⟩;clear cq;go_wp2_with fail
   go_loopg [7,25] els.length (λgk v iv wr=>∃i:Nat,iv=.int .i64 i/\i<=els.length/\els.length - i<=gk/\Hid (WI w1.heap.size w1 wr v (oy T n (els.take i))))
   case atStart=>exact⟨0,rfl,aZ,by omega,Hq⟩
   case round=>
    obtain⟨i,rfl,jJ,fS,HN⟩:=hrel;obtain⟨a2,c2,jC⟩:=aA HN.out.own;subst jC
    have Gl:(oy T n (els.take i)).length<=24:=by
     have h1:=ST T n (els.take i);have h2:(els.take i).length<=els.length:=List.length_take_le' _ _;omega
    have iW:=HN.out.below.size
    by_cases aU:i<els.length
    ·have hd:decide ((i:Int)<(els.length:Int))=true:=by simp;omega
     obtain⟨g,hg,dn,he⟩:=eg.out.pl.el aU;subst hg;have HE:=ae (he.below HN.out.below dn);have fy:=ae (PR T n aU)
     have HUN:Hid ((∃k,k<els.length/\upP els k els[i].num=n)↔bZ T n els[i].num=true):=by
      unfold Hid;rw[bp];exact nf HB.out.pt HW.out (bK aU) (a:=n) (by have:=HT.out.2.2;omega)
     clear he;generalize els[i]=y at HE fy HUN;obtain⟨cs,kf⟩:∃cs,y.cells=cs:=⟨_,rfl⟩;have Tj:=ae kf;rw[kf] at HE;clear kf;have c0:cs[0]?=some (.int .i64 y.num):=HE.out.c0;generalize oy T n (els.take i)=L at HN fy Gl ⊢;have kB:=ae (HE.out.new wr);have eD:Hid (PB3 (wr.alloc (.cells cs.toArray 134)) b vS (.slice (some ⟨g,0,none⟩) els.length c) els T made):=eg.out.below (HN.out.below.alloc iW _);go_wp2_with (first | (refine wpList_load_mid rfl 134 _ rfl g (i*31) rfl cs _ HE.out.rng underlying134 rfl HE.out.size ?_) | (refine aE rfl 134 _ _ rfl _ cs.toArray 134 rfl rfl HE.out.size' HE.out.same HE.out.all ?_));refine(mb (wr.alloc (.cells cs.toArray 134)) b _ els y.num n eD.out.c1 eD.out.pl bC).mono ?_;rintro e w3 ⟨fj,r,rfl,hr⟩;have Gu:wr.heap.size+1<=w3.heap.size:=by have:=fj.size;simpa using this
     have iG:Hid (Below (wr.heap.size+1) (wr.alloc (.cells cs.toArray 134)) w3):=by simpa[Hid] using fj
     have og:Hid (WI w1.heap.size w1 w3 (.slice a2 L.length c2) L):=⟨aN (HN.out.own.alloc _) fj,(HN.out.below.alloc iW _).trans (fj.mono (by simp;omega))⟩;have jA:Hid (ElAt w3 wr.heap.size 0 cs y.num y.par):=kB.out.below iG.out (by omega);have HR:=ae (hr.trans HUN.out);clear fj hr HN kB HE iG eD c0;cases r with
     | true=>
      have yu:Hid (WI w1.heap.size w1 w3 (.slice a2 L.length c2) (oy T n (els.take (i+1)))):=by
       rw[fy.out,aq (HR.out.1 rfl)];exact og.out
      clear fy HR;go_wp2;go_roundg (els.length - (i+1))
      case measure=>omega
      case rel=>exact⟨i+1,by go_num,by omega,au,yu⟩
     | false=>
      have fX:Hid (oy T n (els.take (i+1))=L++[y]):=by
       unfold Hid;rw[fy.out,aj (λhx=>by have:=HR.out.2 hx;cases this)]
      clear fy HR;go_wp2_with (first | (refine wpList_load_mid rfl 134 _ rfl (wr.heap.size) (0) rfl cs _ jA.out.rng underlying134 rfl jA.out.size ?_) | (refine cU w3.heap.size rfl rfl 83 134 _ rfl cs.toArray rfl i0 z0 underlying83 hi iz (jA.out.info is) (jA.out.pos) (jA.out.small) ?_) | (at_builtin;refine wpList_append_own _ rfl (.tmp 35) (.tmp 37) 83 rfl (w1.heap.size) 134 i0 z0 31 48 underlying83 hi iz is ib Kn (by decide) _ _ _ rfl (og.out.own.alloc _) ⟨w3.heap.size,0,none⟩ 1 1 cs rfl jA.out.len1 ?c1 jA.out.one ?c3 ?c4 ?c5 ?_))
      case c1=>exact aW w3 _ rfl _ _ _ (by simp)
      case c3=>unfold maxLen;omega
      case c4=>omega
      case c5=>simp;omega
      intro v5 w5 bR jf _
      have yu:Hid (WI w1.heap.size w1 w5 v5 (oy T n (els.take (i+1)))):=by
       rw[fX.out];exact og.out.app (og.out.below.alloc (by omega) _) (by simp;omega) jf (by rw[Tj.out];exact bR)
      clear bR jf og jA;go_wp2;go_roundg (els.length - (i+1))
      case measure=>omega
      case rel=>exact⟨i+1,by go_num,by omega,au,yu⟩
    ·have hd:decide ((i:Int)<(els.length:Int))=false:=by simp;omega
     obtain rfl:i=els.length:=by omega
     rw[List.take_length] at HN Gl ⊢
     have HPT:Hid (PT (oy T n els) (j8 T xp.num)):=by
      have h1:=HT.out.2.2;have:=HB.out.pt.rem HW.out HT.out.2.1 H0.out;rw[<-h1] at this;exact this
     have uU:Hid (PB3 (wr.setCell ⟨b,1,none⟩ (.slice a2 (oy T n els).length c2)) b vS (.slice a2 (oy T n els).length c2) (oy T n els) (j8 T xp.num) made):=
      eg.out.set HN.out.below HN.out.own (λe he=>HB.out.pl.ok e (dA.1 he).1) HPT.out Gl
     have e1:=(eg.out.below HN.out.below).c1;have ez:∀k,wr.frozen? ⟨b,k,none⟩=false:=λ_=>ax (eg.out.below HN.out.below).doc
     have HE:Hid (vJ w b vS (.slice a els.length c) els T made n (.returned (.int .i64 0)) (wr.setCell ⟨b,1,none⟩ (.slice a2 (oy T n els).length c2))):=by
      refine⟨0,_,_,_,rfl,⟨LQ.out.symm,ai ⟨rfl,xp.num,HT.out.2.2,H0.out,⟨_,HT.out.2.1⟩,rfl⟩⟩,uU.out,?_,λj hj=>ai ?_,λM hM=>hM.sub (λx hx=>(dA.1 hx).1)⟩
      ·exact(((Fr.refl w (λk=>k=b)).below CB.out).below HN.out.below).set (p:=⟨b,1,none⟩) (af rfl) _
      ·have:=(HN.out.own.lt j hj).1;have:=CB.out.size;omega
     clear oR;generalize (oy T n els).length=n5 at HE uU Gl ⊢;go_wp2;go_ret;exact HE.out
end
section
variable {T:aJ}{at' m n:Int}
def vG (w:World)(b:Nat)(vS:Value × Value)(v:Value)(els:List PEl)(T:aJ)(made:Nat)(n m at':Int)(e:Ending)(w':World):Prop:=
 ∃y T' v' bP,e=.returned (.int .i64 y)/\TMov T n m at' y T'/\PB3 w' b vS v' bP T' made/\Fr w w' (λk=>k=b)/\(∀j,v'.ownBlock=some j->v.ownBlock=some j∨w.heap.size<=j)/\∀M,MkO els M->MkO bP M
theorem DX (h:bw T n=none∨bw T m=none):jg T n m at'=5:=by
 unfold jg;rcases h with h | h
 ·rw[h]
 ·rw[h];cases bw T n<;>rfl
theorem OU {l l':List Nat}(h:bw T n=some l')(h2:bw T m=some l):jg T n m at'=if aY T n<0 then 6 else if bZ T n m=true then 7 else if at'<0∨((aw n l).length:Int)<at' then 8 else 0:=by
 unfold jg;rw[h,h2]
theorem JP {els:List PEl}{i:Nat}:(els.eraseIdx i).length<=els.length:=List.length_eraseIdx_le _ _
theorem PA (w:World)(b:Nat)(vS:Value × Value)(v:Value)(els:List PEl)(T:aJ)(made:Nat)(n m at':Int)(h:PB3 w b vS v els T made)(hw:TW T made):
  Calls prog 156 #[.pointer (some ⟨b,1,none⟩),.int .i64 n,.int .i64 m,.int .i64 at'] w λe w'=>vG w b vS v els T made n m at' e w':=by
 have HB:Hid (PB3 w b vS v els T made):=h;have HW:Hid (TW T made):=hw;have bC:=h.few;clear h hw
 have nH:Hid (∀(y:Int) (w':World),Below w.heap.size w w'->y≠0->jg T n m at'=y->vG w b vS v els T made n m at' (.returned (.int .i64 y)) w'):=λy w' hb hy he=>
  ⟨y,T,v,els,rfl,⟨he.symm,af ⟨hy,rfl⟩⟩,HB.out.below hb,(Fr.refl w _).below hb,λj hj=>af hj,λM hM=>hM⟩
 go_enter func156,ntmps156;go_wp2_with fail;refine(dP w b v els n HB.out.c1 HB.out.pl bC).mono ?_;rintro e w1 ⟨cq,⟨hf,rfl⟩ | ⟨ip,xp,oo,hf,rfl⟩⟩
 ·have HE:=nH.out 5 w1 cq (by decide) (DX (af (HB.out.pt.find_none hf)));clear hf;go_wp2;go_ret;exact HE
 ·obtain⟨Oc,Od,eZ⟩:=HB.out.pt.find_some HW.out hf;have HT:Hid (bw T n=some (aO els n)/\(xp.num,aO els n)∈T/\n=xp.num):=⟨Oc,Od,eZ⟩;have Jl:Hid (els[ip]?=some xp):=oo;have nD:ip<els.length:=(dY.1 oo).1;clear hf Oc Od eZ oo;have oR:=(HB.out.below cq).c1;go_wp2_with fail;refine(dP w1 b v els m oR (HB.out.below cq).pl bC).mono ?_;rintro e w2 ⟨hB2',⟨hf,rfl⟩ | ⟨iq,xq,_,hf,rfl⟩⟩
  ·have dq:Below w.heap.size w w2:=cq.trans (hB2'.mono cq.size);have HE:=nH.out 5 w2 dq (by decide) (DX (ai (HB.out.pt.find_none hf)));clear hf hB2' cq oR;go_wp2;go_ret;exact HE
  ·have dq:Below w.heap.size w w2:=cq.trans (hB2'.mono cq.size);clear cq hB2' oR;obtain⟨Oc,Od,eZ⟩:=HB.out.pt.find_some HW.out hf;have hxq:=(dI hf).1;have HQ:Hid (bw T m=some (aO els m)/\(xq.num,aO els m)∈T/\m=xq.num/\xq∈els):=⟨Oc,Od,eZ,hxq⟩;clear hf Oc Od eZ hxq;have LU:Hid (jg T n m at'=if aY T n<0 then 6 else if bZ T n m=true then 7 else if at'<0∨((aw n (aO els m)).length:Int)<at' then 8 else 0):=OU HT.out.1 HQ.out.1
   by_cases h0:n=0
   ·have g0:(n==0)=true:=by simp[h0]
    have HE:=nH.out 6 w2 dq (by decide) (by
     have h1:=HT.out.2.2;rw[LU.out,aq (by rw[h1];exact(HW.out.par_neg HT.out.2.1).2 (by omega))])
    clear h0;go_wp2;go_ret;exact HE
   ·have g0:(n==0)=false:=by simp[h0]
    have H0:Hid (xp.num≠0):=by have h1:=HT.out.2.2;unfold Hid;omega
    have HPN:Hid (0<=aY T n):=by
     have h1:=HT.out.2.2;unfold Hid;rw[h1];exact Int.not_lt.1 λhx=>H0.out ((HW.out.par_neg HT.out.2.1).1 hx)
    clear h0;have oR:=(HB.out.below dq).c1
    have HUN:Hid ((∃k,k<els.length/\upP els k m=n)↔bZ T n m=true):=by
     unfold Hid;have h1:=HQ.out.2.2.1;rw[bp,h1];exact nf HB.out.pt HW.out HQ.out.2.2.2 (a:=n) (by have:=HT.out.2.2;omega)
    go_wp2_with fail;refine(mb w2 b v els m n oR (HB.out.below dq).pl bC).mono ?_;rintro e w3 ⟨ZA,r,rfl,hr⟩;have fj:Below w.heap.size w w3:=dq.trans (ZA.mono dq.size);have HR:Hid (r=true↔bZ T n m=true):=hr.trans HUN.out;clear dq ZA hr oR;cases r with
    | true=>
     have HE:=nH.out 7 w3 fj (by decide) (by rw[LU.out,aj (Int.not_lt.2 HPN.out),aq (HR.out.1 rfl)]);go_wp2;go_ret;exact HE
    | false=>
     have UN:Hid (¬bZ T n m=true):=λhx=>by have:=HR.out.2 hx;cases this
     clear HR;have oR:=(HB.out.below fj).c1;have iG:Hid (PB3 w3 b vS v els T made):=HB.out.below fj;go_wp2_with fail;refine(BZ w3 v els ip iG.out.pl bC).mono ?_;rintro e w4 ⟨a4,c4,rfl,Pj,ZB⟩;have WF:Below w.heap.size w w4:=fj.trans (ZB.mono fj.size);have Wh:Hid (els.eraseIdx ip=els.filter λx=>decide (x.num≠xp.num)):=HB.out.pt.without Jl.out
     have UH:Hid (aO (els.eraseIdx ip) m=aw n (aO els m)):=by
      unfold Hid;rw[Wh.out,rQ,HT.out.2.2]
     have A5:Hid (PL w4 (.slice a4 (els.eraseIdx ip).length c4) (els.eraseIdx ip)):=⟨aP Pj aZ,λe he=>HB.out.pl.ok e (List.mem_of_mem_eraseIdx he)⟩;have ft:(els.eraseIdx ip).length<=24:=Nat.le_trans JP bC;clear fj ZB Pj oR iG;generalize els.eraseIdx ip=R at Wh UH A5 ft ⊢;go_wp2_with fail;refine(xA w4 _ R m at' A5.out ft).mono ?_;rintro e w5 ⟨N9,⟨place,rfl,lU,p8⟩ | ⟨n',rfl,kQ⟩⟩
     ·have wN:Below w.heap.size w w5:=WF.trans (N9.mono WF.size);have UR:Hid (PL w5 (.slice a4 R.length c4) R):=⟨aN A5.out.row N9,A5.out.ok⟩;have HK:Hid (((aO (R.take place) m).length:Int)=at'):=p8;have ql:Hid (PB3 w5 b vS v els T made):=HB.out.below wN;obtain⟨av,cv,Kj⟩:=HB.out.pl.shape;subst Kj;obtain⟨g,hg,dn,he⟩:=ql.out.pl.el nD;have om:els[ip]=xp:=(dY.1 Jl.out).2;rw[om] at he;subst hg;have Wf:Hid (ElAt w5 g (ip*31) xp.cells xp.num xp.par):=he;have Wk:Hid (Fr w w5 (λk=>k=b)):=(Fr.refl w _).below wN;have oR:=ql.out.c1;clear WF N9 p8 he om A5 wN;have jJ:(ip:Int)<(els.length:Int):=by omega
      go_upto_region 16 with(first | (refine wpList_load_mid rfl 134 _ rfl g (ip*31) rfl xp.cells _ Wf.out.rng underlying134 rfl Wf.out.size ?_) | (refine aE rfl 134 _ _ rfl _ xp.cells.toArray 134 rfl rfl Wf.out.size' Wf.out.same Wf.out.all ?_))
      go_upto_region 17 with fail;have HYO:Hid (PEl.ok ⟨xp.num,m,xp.rest⟩):=HB.out.pl.ok xp (List.mem_of_getElem? Jl.out);have OB:xp.cells.set 1 (.int .i64 m)=(PEl.mk xp.num m xp.rest).cells:=rfl;rw[OB];clear OB
      have HYM:Hid (∀k,(aO (R.take place) m).length=k->PT (dO R place ⟨xp.num,m,xp.rest⟩) (lI T xp.num xq.num k)):=λk hk=>by
       have h1:=HQ.out.2.2.1;have:=HB.out.pt.mov HW.out (p:=xq.num) (k:=k) (place:=place) HT.out.2.1 H0.out xp.rest (by rw[<-Wh.out,<-h1];exact hk);rw[<-Wh.out,<-h1] at this;exact this
      have WQ:=E5 R place ⟨xp.num,m,xp.rest⟩
      have HRL:Hid (R.length+1<=els.length):=by
       unfold Hid;have h1:=HT.out.2.1
       have h2:R.length<els.length:=by
        rw[Wh.out]
        have h3:(els.filter λx=>decide (x.num≠xp.num)).length+1<=els.length:=by
         have h4:=List.length_eraseIdx_of_lt nD;rw[HB.out.pt.without Jl.out] at h4;omega
        omega
       omega
      have Qu:Hid (∀M,MkO els M->MkO (dO R place ⟨xp.num,m,xp.rest⟩) M):=λM hM=>by
       have Fl:xp∈els:=List.mem_of_getElem? Jl.out
       have hR:∀e∈R,e∈els/\e.num≠xp.num:=λe he=>by
        rw[Wh.out,dA,bF] at he;exact he
       have h1:=(hM.sub (λe he=>(hR e he).1):MkO R M).more (x:=⟨xp.num,m,xp.rest⟩) (m:=M xp.num) place ⟨(hM.2 xp Fl).kind,(hM.2 xp Fl).cls,(hM.2 xp Fl).name,(hM.2 xp Fl).shown⟩ (hM.1 xp Fl) (λe he=>(hR e he).2);refine h1.ext (λe _=>?_);unfold bM;split
       ·rename_i h2;rw[h2]
       ·rfl
      generalize PEl.mk xp.num m xp.rest=yp at HYO HYM Qu WQ ⊢;have HE6:Hid (ElAt (w5.alloc (.cells yp.cells.toArray 134)) w5.heap.size 0 yp.cells yp.num yp.par):=FQ HYO.out w5;have uU:Hid (PB3 (w5.alloc (.cells yp.cells.toArray 134)) b vS (.slice (some ⟨g,0,none⟩) els.length cv) els T made):=ql.out.below (bd.alloc au _);have QY:Hid (PL (w5.alloc (.cells yp.cells.toArray 134)) (.slice a4 R.length c4) R):=⟨UR.out.row.alloc _,UR.out.ok⟩;have UE:Hid (Fr w (w5.alloc (.cells yp.cells.toArray 134)) (λk=>k=b)):=Wk.out.alloc _;obtain⟨W6,Dr⟩:∃W6,W6=w5.alloc (.cells yp.cells.toArray 134):=⟨_,rfl⟩;rw[<-Dr] at HE6 uU QY UE ⊢;clear Dr oR Wf ql UR Wk;have oR:=uU.out.c1;go_wp2_with (first | (refine wpList_load_mid rfl 134 _ rfl w5.heap.size 0 rfl yp.cells _ HE6.out.rng underlying134 rfl HE6.out.size ?_));refine(Ay W6 _ R place yp QY.out HYO.out lU ft).mono ?_;rintro e w7 ⟨a7,c7,rfl,BS,hB7⟩
      have HB8:Hid (PB3 (w7.setCell ⟨b,1,none⟩ (.slice a7 (dO R place yp).length c7)) b vS (.slice a7 (dO R place yp).length c7) (dO R place yp) (lI T xp.num xq.num (aO (R.take place) m).length) made):=
       uU.out.set hB7 BS (IF QY.out.ok HYO.out place) (HYM.out _ rfl) (by rw[WQ];have:=HRL.out;omega)
      have e1:w7.cell? ⟨b,1,none⟩=some (.slice (some ⟨g,0,none⟩) els.length cv):=(uU.out.below hB7).c1;have ez:∀k,w7.frozen? ⟨b,k,none⟩=false:=λ_=>ax (uU.out.below hB7).doc
      have AY:Hid (¬(at'<0∨((aw n (aO els m)).length:Int)<at')):=by
       have h1:=HK.out
       have h2:(aO (R.take place) m).length<=(aO R m).length:=by
        have h3:aO R m=aO (R.take place) m++aO (R.drop place) m:=by rw[<-eF,List.take_append_drop]
        rw[h3,List.length_append];omega
       rw[UH.out] at h2;intro h3;omega
      have HE:Hid (vG w b vS (.slice (some ⟨g,0,none⟩) els.length cv) els T made n m at' (.returned (.int .i64 0)) (w7.setCell ⟨b,1,none⟩ (.slice a7 (dO R place yp).length c7))):=by
       refine⟨0,_,_,_,rfl,⟨?_,ai ⟨rfl,xp.num,xq.num,(aO (R.take place) m).length,HT.out.2.2,HQ.out.2.2.1,HK.out.symm,H0.out,⟨_,HT.out.2.1⟩,⟨_,HQ.out.2.1,?_⟩,?_,rfl⟩⟩,HB8.out,(UE.out.below hB7).set (p:=⟨b,1,none⟩) (af rfl) _,λj hj=>ai ?_,Qu.out⟩
       ·rw[LU.out,aj (Int.not_lt.2 HPN.out),aj UN.out,aj AY.out]
       ·have h1:=AY.out;have h2:=HK.out;rw[<-HT.out.2.2];omega
       ·have h1:=UN.out;rw[bp,HT.out.2.2,HQ.out.2.2.1] at h1;exact h1
       ·have:=(BS.lt j hj).1;have:=UE.out.size;omega
      clear BS hB7 oR;generalize (dO R place yp).length=n7 at HE HB8 WQ ⊢;clear WQ;go_wp2;go_ret;exact HE.out
     ·have HE:=nH.out 8 w5 (WF.trans (N9.mono WF.size)) (by decide) (by rw[LU.out,aj (Int.not_lt.2 HPN.out),aj UN.out,aq (by rw[<-UH.out];exact kQ)]);clear kQ WF N9;go_wp2;go_ret;exact HE
end
def Mv (w:World)(els:List PEl)(n:Int)(e:Ending)(w':World):Prop:=
 Below w.heap.size w w'/\((dk els n=none/\e=.returned (.tuple #[.slice none 0 0,.int .i64 5]))∨((∃x,dk els n=some x)/\∃(a:Option Addr) (c:Nat),e=.returned (.tuple #[.slice a (aO els n).length c,.int .i64 0])/\w'.ownsRow w.heap.size 3 1 (.slice a (aO els n).length c) (aO els n).length (bh (aO els n))))
theorem KO (w:World)(b:Nat)(v:Value)(els:List PEl)(n:Int)(hb:w.cell? ⟨b,1,none⟩=some v)(h:PL w v els)(bC:els.length<=24):
  Calls prog 138 #[.pointer (some ⟨b,1,none⟩),.int .i64 n] w λe w'=>Mv w els n e w':=by
 obtain⟨i0,hi,gx,gA,gB⟩:=info_parts Tryz.info3;obtain⟨a,c,hv⟩:=h.shape;subst hv;have HP:=ae h;have jF:b<w.heap.size:=World.block_lt_of_cell? w _ hb;clear h;go_enter func138,ntmps138;go_wp2_with fail;refine(dP w b _ els n hb HP.out bC).mono ?_;rintro e w1 ⟨cq,⟨hf,rfl⟩ | ⟨ip,xp,_,hf,rfl⟩⟩
 ·have HF:=ae hf;clear hf;go_wp2;go_ret2;exact⟨cq,af ⟨HF.out,rfl⟩⟩
 ·have HF:Hid (∃x,dk els n=some x):=⟨xp,hf⟩;clear hf;have oR:w1.cell? ⟨b,1,none⟩=some (.slice a els.length c):=(cq.cell (p:=⟨b,1,none⟩) jF).trans hb;have eg:=ae cq;clear hb cq;go_wp2_with fail
  go_loopg [8,24] els.length (λgk v iv wr=>∃i:Nat,iv=.int .i64 i/\i<=els.length/\els.length - i<=gk/\Hid (wr.ownsRow w.heap.size 3 1 v (aO (els.take i) n).length (bh (aO (els.take i) n))/\Below w.heap.size w wr))
  case atStart=>exact⟨0,rfl,aZ,by omega,er,eg.out⟩
  case round=>
   obtain⟨i,rfl,jJ,fS,HN⟩:=hrel;obtain⟨a2,c2,jC⟩:=aA HN.out.1;subst jC
   have p8:(aO (els.take i) n).length<=24:=by
    have:=DP (els.take i) n;have:(els.take i).length<=els.length:=List.length_take_le' _ _;omega
   have iW:=HN.out.2.size
   by_cases aU:i<els.length
   ·have hd:decide ((i:Int)<(els.length:Int))=true:=by simp;omega
    obtain⟨g,hg,dn,he⟩:=HP.out.el aU;subst hg;have Ft:=ae (Aa aU n);have HE:=ae (he.below HN.out.2 dn);clear he;generalize els[i]=x at HE Ft;generalize x.cells=cs at HE;have c0:cs[0]?=some (.int .i64 x.num):=HE.out.c0;have c1:cs[1]?=some (.int .i64 x.par):=HE.out.c1;generalize aO (els.take i) n=L at HN Ft p8 ⊢
    by_cases eZ:x.par=n
    ·have gp:(x.par==n)=true:=by simp[eZ]
     have Fu:Hid (aO (els.take (i+1)) n=L++[x.num]):=by unfold Hid;rw[Ft.out,aq eZ]
     clear eZ Ft;go_wp2_with (first | (refine wpList_load_mid rfl 134 _ rfl g (i*31) rfl cs _ HE.out.rng underlying134 rfl HE.out.size ?_) | (refine aE rfl 134 _ _ rfl _ cs.toArray 134 rfl rfl HE.out.size' HE.out.same HE.out.all ?_) | (at_builtin;refine wpList_append_own _ rfl (.tmp 32) (.tmp 35) 40 rfl w.heap.size 3 i0 (.int .i64 0) 1 8 underlying40 hi gx gA gB rfl (by decide) _ _ _ rfl ((HN.out.1.alloc _).alloc _) ⟨wr.heap.size+1,0,none⟩ 1 1 [.int .i64 (x.num:Int)] rfl rfl ?c1 ?c2 ?c3 ?c4 ?c5 ?_))
     case c1=>exact aW (wr.alloc _) _ (by simp) _ _ _ rfl
     case c2=>exact rY x.num
     case c3=>unfold maxLen;omega
     case c4=>omega
     case c5=>simp;omega
     intro v5 w5 bR jf _
     have tX:Hid (w5.ownsRow w.heap.size 3 1 v5 (aO (els.take (i+1)) n).length (bh (aO (els.take (i+1)) n))/\Below w.heap.size w w5):=by
      rw[Fu.out];exact⟨by simpa[bh] using bR,((HN.out.2.alloc iW _).alloc (by simp;omega) _).grown jf (by simp;omega) (λk hk=>(HN.out.1.lt k hk).1)⟩
     clear bR jf HN HE c0 c1;go_wp2;go_roundg (els.length - (i+1))
     case measure=>omega
     case rel=>exact⟨i+1,by go_num,by omega,au,tX⟩
    ·have gp:(x.par==n)=false:=by simp[eZ]
     have tX:Hid ((wr.alloc (.cells cs.toArray 134)).ownsRow w.heap.size 3 1 (.slice a2 L.length c2) (aO (els.take (i+1)) n).length (bh (aO (els.take (i+1)) n))/\Below w.heap.size w (wr.alloc (.cells cs.toArray 134))):=by
      rw[Ft.out,aj eZ,List.append_nil];exact⟨HN.out.1.alloc _,HN.out.2.alloc iW _⟩
     clear eZ Ft;go_wp2_with (first | (refine wpList_load_mid rfl 134 _ rfl g (i*31) rfl cs _ HE.out.rng underlying134 rfl HE.out.size ?_) | (refine aE rfl 134 _ _ rfl _ cs.toArray 134 rfl rfl HE.out.size' HE.out.same HE.out.all ?_));go_roundg (els.length - (i+1))
     case measure=>omega
     case rel=>exact⟨i+1,by go_num,by omega,au,tX⟩
   ·have hd:decide ((i:Int)<(els.length:Int))=false:=by simp;omega
    obtain rfl:i=els.length:=by omega
    rw[List.take_length] at HN p8 ⊢;go_wp2;go_ret2;exact⟨HN.out.2,ai ⟨HF.out,a2,c2,rfl,HN.out.1⟩⟩
def zl (w:World)(s:ByteArray)(e:Ending)(w':World):Prop:=
 Below w.heap.size w w'/\((aG s=false/\e=.returned (.tuple #[.agg #[.slice none 0 0,.int .i64 0],.int .i64 4]))∨(aG s=true/\∃(g:Nat) (x:PEl),e=.returned (.tuple #[.agg #[.slice (some ⟨g,0,none⟩) 1 1,.int .i64 1],.int .i64 0])/\x.num=0/\x.par=-1/\(∀M,MkO [x] (bM M 0 (d8 s)))/\PL w' (.slice (some ⟨g,0,none⟩) 1 1) [x]/\w.heap.size<=g))
theorem PD (w:World)(s:ByteArray):
  Calls prog 43 #[.string s] w λe w'=>zl w s e w':=by
 obtain⟨i0,z0,hi,iz,is,ib,Kn⟩:=Tryz.infoE;go_enter func43,ntmps43;go_wp2_with fail;refine(sd _ s).mono ?_;rintro e w1 ⟨c,rfl,qX,BD,_⟩;have HCB:=ae BD;clear BD;have cq:Below w.heap.size w w1:=(bd.alloc au _).trans (qX.below.mono (by simp));have gK:w.heap.size<w1.heap.size:=by have:=qX.below.size;simp at this;omega
 have mU:w1.heap[w.heap.size]?=some (.cells #[.slice none 0 0,.int .i64 0] 85):=(qX.below.block w.heap.size (by simp)).trans (heap_alloc_new w _);have q0:w1.cell? ⟨w.heap.size,0,none⟩=some (.slice none 0 0):=aa mU rfl;have q1:w1.cell? ⟨w.heap.size,1,none⟩=some (.int .i64 0):=aa mU rfl;have qz:∀k,w1.frozen? ⟨w.heap.size,k,none⟩=false:=λ_=>ax mU;have qT:=ae mU;clear qX mU;cases hl:aG s with
 | false=>
  have HL:=ae hl;clear hl;go_wp2_with fail;exact bodyPost_ret (v:=.tuple #[.agg #[.slice none 0 0,.int .i64 0],.int .i64 4]) (by simp[results,Tryz.results43,go_sem,q0,q1]) rfl ⟨(cq.setCell au _).setCell au _,af ⟨HL.out,rfl⟩⟩
 | true=>
  have HL:=ae hl;clear hl;have HXO:=OY 0 (-1) c;have Qu:Hid (∀M,MkO [PEl.mk 0 (-1) (fB c)] (bM M 0 (d8 s))):=λM=>(show MkO [] M from⟨λ_ h=>(by cases h),λ_ h=>(by cases h)⟩).more (x:=PEl.mk 0 (-1) (fB c)) 0 (IC _ _ _) (OX _ _ (HCB.out HL.out)) (λ_ h=>by cases h);have HE:=ae (FQ HXO w1);go_upto_region 5 with(refine aE rfl 134 _ _ rfl _ (PEl.mk 0 (-1) (fB c)).cells.toArray 134 rfl rfl HE.out.size' HE.out.same HE.out.all ?_)
  have Ba:Hid (∃x:PEl,x.num=0/\x.par=-1/\(∀M,MkO [x] (bM M 0 (d8 s)))/\x.ok/\x.cells=(PEl.mk 0 (-1) (fB c)).cells):=⟨_,rfl,rfl,Qu.out,HXO,rfl⟩;clear HXO Qu;generalize (PEl.mk 0 (-1) (fB c)).cells=cs at HE Ba ⊢;go_wp2_with (first | (refine wpList_load_mid rfl 134 _ rfl w1.heap.size 0 rfl cs _ HE.out.rng underlying134 rfl HE.out.size ?_) | (refine cU (w1.heap.size+1) (by simp) rfl 83 134 _ rfl cs.toArray rfl i0 z0 underlying83 hi iz (HE.out.info is) HE.out.pos HE.out.small ?_));obtain⟨W2,Ie⟩:∃W2,W2=(w1.setCell ⟨w.heap.size,0,none⟩ (.slice (some ⟨w1.heap.size+1,0,none⟩) 1 1)).setCell ⟨w.heap.size,1,none⟩ (.int .i64 1):=⟨_,rfl⟩;rw[<-Ie];have lT:(w1.setCell ⟨w.heap.size,0,none⟩ (.slice (some ⟨w1.heap.size+1,0,none⟩) 1 1)).heap[w.heap.size]?=some (.cells #[.slice (some ⟨w1.heap.size+1,0,none⟩) 1 1,.int .i64 0] 85 (0,0)):=by rw[aF qT.out];rfl
  have LY:W2.heap[w.heap.size]?=some (.cells #[.slice (some ⟨w1.heap.size+1,0,none⟩) 1 1,.int .i64 1] 85 (0,0)):=by rw[Ie,aF lT];rfl
  have hzz:W2.heap.size=w1.heap.size:=by rw[Ie];simp
  have hBW:Below w.heap.size w W2:=by rw[Ie];exact(cq.setCell au _).setCell au _
  clear Ie lT;have yI:((W2.alloc (.cells cs.toArray 134)).alloc (.cells cs.toArray 134)).heap[w.heap.size]?=some (.cells #[.slice (some ⟨w1.heap.size+1,0,none⟩) 1 1,.int .i64 1] 85 (0,0)):=(Below.heap_alloc _ _ _ (by simp;omega)).trans ((Below.heap_alloc _ _ _ (by omega)).trans LY);have f0:((W2.alloc (.cells cs.toArray 134)).alloc (.cells cs.toArray 134)).cell? ⟨w.heap.size,0,none⟩=some (.slice (some ⟨w1.heap.size+1,0,none⟩) 1 1):=aa yI rfl;have f1:((W2.alloc (.cells cs.toArray 134)).alloc (.cells cs.toArray 134)).cell? ⟨w.heap.size,1,none⟩=some (.int .i64 1):=aa yI rfl
  have pX:Hid (zl w s (.returned (.tuple #[.agg #[.slice (some ⟨w1.heap.size+1,0,none⟩) 1 1,.int .i64 1],.int .i64 0])) ((W2.alloc (.cells cs.toArray 134)).alloc (.cells cs.toArray 134))):=by
   have hz:=hBW.size;refine⟨(hBW.alloc hz _).alloc (by simp;omega) _,ai ⟨HL.out,w1.heap.size+1,?_⟩⟩;obtain⟨x,h1,h2,Fi,h3,h4⟩:=Ba.out;refine⟨x,rfl,h1,h2,Fi,⟨?_,?_⟩,by omega⟩
   ·have e1:(W2.alloc (.cells cs.toArray 134)).heap.size=w1.heap.size+1:=by simp[hzz]
    have bX:=HE.out.len;have ue:hO [x]=cs:=by simp[hO,h4]
    rw[ue];refine⟨by rw[bX];rfl,ai ⟨w1.heap.size+1,1,cs.toArray,rfl,aZ,?_,au,by unfold maxLen;omega,by simp[bX],?_⟩⟩
    ·rw[<-e1];exact heap_alloc_new _ _
    ·have:cs.take 31=cs:=List.take_of_length_le (by omega);simpa using this
   ·intro e he;rw[fg] at he;rw[he];exact h3
  generalize (W2.alloc (.cells cs.toArray 134)).alloc (.cells cs.toArray 134)=W5 at f0 f1 pX ⊢;exact bodyPost_ret (v:=.tuple #[.agg #[.slice (some ⟨w1.heap.size+1,0,none⟩) 1 1,.int .i64 1],.int .i64 0]) (by simp[results,Tryz.results43,go_sem,f0,f1]) rfl pX.out
section
variable {i:Nat}{x:PEl}
structure Vw where
 ty:Int->Int->Bool
 cl:Int->Int->Bool
 nm:Int->Int->Bool
 ab:Int->List Int
 ah:Int->List Int
 la:Int->Bool
 em:Int->Bool
def pC (v:Vw)(p:PPt)(e:Int):Bool:=
 if p.kd=1 then v.ty e p.lt else if p.kd=2 then v.cl e p.lt else if p.kd=3 then v.nm e p.lt
 else if p.kd=4 then decide (((v.ah e).length:Int)+1=1) else if p.kd=5 then v.la e else if p.kd=6 then v.em e
 else if p.kd=7 then m9 (((v.ah e).length:Int)+1) p.st p.sr else false
def lP (v:Vw)(c:d9)(e:Int):Bool:=(c.ty==0||v.ty e c.ty)&&c.ps.all λp=>pC v p e != p.nt
def fh (v:Vw)(sg e:Int):List Int:=if sg=32 then v.ab e else if sg=62 then(v.ab e).take 1 else if sg=126 then v.ah e else if sg=43 then(v.ah e).take 1 else[]
def kC (v:Vw):List d9->Int->Bool
 | [],_=>false
 | [c],e=>lP v c e
 | c :: d :: r,e=>lP v c e&&(fh v c.sg e).any (kC v (d :: r))
def qG (v:Vw)(cs:List d9)(e:Int):Bool:=kC v cs.reverse e
def jq (v:Vw)(e:Int)(a:Int × Bool)(cs:List d9):Int × Bool:=if qG v cs e then(max a.1 ((zC cs:Nat):Int),true) else a
def fq (v:Vw)(e:Int)(ss:List (List d9)):Int × Bool:=ss.foldl (jq v e) (0,false)
def gM (v:Vw)(e:Int)(W:List Clm)(r:dF):List Clm:=if(fq v e r.ss).2 then FE W r (fq v e r.ss).1 else W
def fi (v:Vw)(rs:List dF)(e:Int):List Clm:=rs.foldl (gM v e) (List.replicate 9 Clm.none)
def GD (v:Vw)(rs:List dF)(e:Int)(akc:List Int):List Int:=(List.range 9).map λp=>dN (fi v rs e) akc 9 p
def dM (v:Vw)(rs:List dF)(e:Int):List Int:=GD v rs e ((v.ab e).foldr (λx akc=>GD v rs x akc) eC)
def nA (els:List PEl):Vw:=⟨dW els,ei els,gG els,bQ els els.length,cB els,ko els,iQ els⟩
theorem wu (els:List PEl):∀(cs:List d9) (e:Int),dS els cs e=kC (nA els) cs e
 | [],_=>rfl
 | [_],_=>rfl
 | c :: d :: r,e=>by
  have ih:dS els (d :: r)=kC (nA els) (d :: r):=funext λx=>wu els (d :: r) x;show(hJ els c e&&(dK els c.sg e).any (dS els (d :: r)))=(lP (nA els) c e&&(fh (nA els) c.sg e).any (kC (nA els) (d :: r)));rw[ih];rfl
theorem Gz (els:List PEl)(cs:List d9)(e:Int):tB els cs e=qG (nA els) cs e:=wu els _ e
theorem He (els:List PEl)(e:Int):ey els e=fq (nA els) e:=by
 have:gN els e=jq (nA els) e:=by
  funext a cs;unfold gN jq;rw[Gz]
 funext ss;unfold ey fq;rw[this]
theorem Cj (els:List PEl)(rs:List dF)(e:Int):bE els rs e=fi (nA els) rs e:=by
 have:lF els e=gM (nA els) e:=by
  funext W r;unfold lF gM;rw[He]
 unfold bE fi;rw[this]
theorem SC (els:List PEl)(rs:List dF):L9 els rs=GD (nA els) rs:=by
 funext e akc;unfold L9 GD;rw[Cj]
def ec (T:aJ)(p:Int):List Nat:=(bw T p).getD []
def fJ (T:aJ)(M:Nat->Mk)(e l:Int):Bool:=(bw T e).isSome&&(M e.toNat).kd==l
def eN (T:aJ)(M:Nat->Mk)(e l:Int):Bool:=(bw T e).isSome&&(decide (97<=l/\l<=122)&&(M e.toNat).cl (l - 97).toNat)
def fI (T:aJ)(M:Nat->Mk)(e l:Int):Bool:=(bw T e).isSome&&(M e.toNat).nm==l
def aX (T:aJ):Nat->Int->List Int
 | 0,_=>[]
 | k+1,e=>if aY T e=-1 then[] else aY T e :: aX T k (aY T e)
def dG (T:aJ)(e:Int):List Int:=if(bw T e).isSome then(((ec T (aY T e)).takeWhile λ(k:Nat)=>decide (¬(k:Int)=e)).map λ(k:Nat)=>(k:Int)).reverse else[]
def qe (T:aJ)(e:Int):Bool:=(bw T e).isSome&&decide (((ec T (aY T e)).dropWhile λ(k:Nat)=>decide (¬(k:Int)=e)).length<=1)
def mm (T:aJ)(e:Int):Bool:=(bw T e).isSome&&(ec T e).isEmpty
def bg (T:aJ)(M:Nat->Mk):Vw:=⟨fJ T M,eN T M,fI T M,aX T T.length,dG T,qe T,mm T⟩
section
variable {els:List PEl}{T:aJ}{made:Nat}{M:Nat->Mk}
theorem jH (h:PT els T)(hw:TW T made)(e:Int):(dk els e).isSome=(bw T e).isSome:=by
 cases hf:dk els e with
 | none=>rw[h.find_none hf];rfl
 | some x=>rw[(h.find_some hw hf).1];rfl
theorem vY (h:PT els T)(hw:TW T made):∀k e,bQ els k e=aX T k e
 | 0,_=>rfl
 | k+1,e=>by
  have e1:=h.parP hw e;show(if parP els e=-1 then[] else parP els e :: bQ els k (parP els e))=(if aY T e=-1 then[] else aY T e :: aX T k (aY T e));rw[e1,vY h hw k]
theorem x8 (hx:els[i]?=some x):els=els.take i++x :: els.drop (i+1):=by
 obtain⟨hi,he⟩:=dY.1 hx;rw[<-he,<-List.drop_eq_getElem_cons hi,List.take_append_drop]
theorem Gv (hx:els[i]?=some x):aO els x.par=aO (els.take i) x.par++x.num :: aO (els.drop (i+1)) x.par:=by
 conv=>lhs;rw[x8 hx]
 rw[eF,show x :: els.drop (i+1)=[x]++els.drop (i+1) from rfl,eF,pL,aq rfl];rfl
theorem Kz (hn:(els.map PEl.num).Nodup)(hx:els[i]?=some x):∀k∈aO (els.take i) x.par,k≠x.num:=by
 intro k hk e;rw[fK] at hk;obtain⟨y,hy,_,h2⟩:=hk;have hs:=x8 hx;rw[hs,List.map_append,List.nodup_append] at hn;exact hn.2.2 y.num (bm.2 ⟨y,hy,rfl⟩) x.num (by simp) (by rw[h2,e])
theorem lJ (hn:(els.map PEl.num).Nodup)(hx:els[i]?=some x):(aO els x.par).takeWhile (λ(k:Nat)=>decide (¬(k:Int)=(x.num:Int)))=aO (els.take i) x.par/\(aO els x.par).dropWhile (λ(k:Nat)=>decide (¬(k:Int)=(x.num:Int)))=x.num :: aO (els.drop (i+1)) x.par:=by
 have hna:=Kz hn hx
 have h1:∀k∈aO (els.take i) x.par,decide (¬(k:Int)=(x.num:Int))=true:=λk hk=>by
  have:=hna k hk;rw[bF];omega
 rw[Gv hx];constructor
 ·rw[List.takeWhile_append_of_pos h1];simp
 ·rw[List.dropWhile_append_of_pos h1];simp
theorem AB (h:PT els T)(hw:TW T made){y:PEl}(hx:x∈els)(hy:y∈els)(h1:x.par=-1)(h2:y.par=-1):x=y:=by
 have z:∀z∈els,z.par=-1->z.num=0:=λz hz hp=>by
  by_cases h0:z.num=0
  ·exact h0
  ·obtain⟨l,hl⟩:=h.to' z hz;obtain⟨q,hq,_,kA⟩:=hw.up hl h0;have:=h.par hw hz;rw[hp,kA] at this;omega
 exact BU h.nums hx hy (by rw[z x hx h1,z y hy h2])
theorem qD (h:PT els T)(hw:TW T made)(hx:x∈els)(hp:x.par≠-1):ec T (aY T x.num)=aO els x.par:=by
 rw[<-h.par hw hx];have h2:=h.par hw hx;rcases cP T x.num with⟨h1,_⟩ | ⟨e,he,_,h1⟩
 ·rw[h1] at h2;exact absurd h2 hp
 ·rw[h2,h1];unfold ec;rw[dZ hw.nums (k:=e.1) (l:=e.2) he];show e.2=_;exact h.kids e.1 e.2 he
theorem D1 (h:PT els T)(hw:TW T made)(hx:x∈els)(hp:x.par=-1):ec T (aY T x.num)=[]:=by
 rw[<-h.par hw hx,hp];unfold ec;cases ht:bw T (-1) with
 | none=>rfl
 | some l=>
  obtain⟨k,hk,_⟩:=gj ht;omega
theorem Aj (hx:els[i]?=some x):x∈els:=List.mem_of_getElem? hx
theorem xP (h:PT els T)(hw:TW T made)(hx:els[i]?=some x)(hp:x.par=-1):aO (els.take i) x.par=[]/\aO (els.drop (i+1)) x.par=[]:=by
 have hd:(els.map PEl.num).Nodup:=h.nums;have hs:=x8 hx;constructor
 ·rw[List.eq_nil_iff_forall_not_mem];intro k hk;rw[fK] at hk;obtain⟨y,hy,h1,_⟩:=hk;have:=AB h hw (Aj hx) (List.mem_of_mem_take hy) hp (h1.trans hp);subst this;rw[hs,List.map_append,List.nodup_append] at hd;exact hd.2.2 x.num (bm.2 ⟨x,hy,rfl⟩) x.num (by simp) rfl
 ·rw[List.eq_nil_iff_forall_not_mem];intro k hk;rw[fK] at hk;obtain⟨y,hy,h1,_⟩:=hk;have:=AB h hw (Aj hx) (List.mem_of_mem_drop hy) hp (h1.trans hp);subst this;rw[hs,List.map_append,List.nodup_append] at hd;have h3:=hd.2.1;rw[List.map_cons,List.nodup_cons] at h3;exact h3.1 (bm.2 ⟨x,hy,rfl⟩)
theorem DN {e:Int}(hn:(els.map PEl.num).Nodup)(hf:dk els e=some x):els[mX els e]?=some x:=by
 obtain⟨hm,he⟩:=dI hf;obtain⟨i,hi,hx⟩:=List.getElem_of_mem hm;have h1:els[i]?=some x:=by rw[bO hi,hx]
 have h2:=qC hn h1;rw[he] at h2;rw[h2];exact h1
theorem MI (h:PT els T)(hw:TW T made)(e:Int):cB els e=dG T e:=by
 unfold cB dG;cases hf:dk els e with
 | none=>rw[h.find_none hf];rfl
 | some x=>
  have hi:=DN h.nums hf;obtain⟨hm,rfl⟩:=dI hf;rw[(h.find_some hw hf).1];show eY els (mX els x.num) x.par=(((ec T (aY T x.num)).takeWhile λ(k:Nat)=>decide (¬(k:Int)=(x.num:Int))).map λ(k:Nat)=>(k:Int)).reverse
  have e1:eY els (mX els x.num) x.par=((aO (els.take (mX els x.num)) x.par).map λ(k:Nat)=>(k:Int)).reverse:=by
   unfold eY aO;rw[List.map_map];rfl
  rw[e1]
  by_cases hp:x.par=-1
  ·rw[D1 h hw hm hp,(xP h hw hi hp).1];rfl
  ·rw[qD h hw hm hp,(lJ h.nums hi).1]
theorem Sx (h:PT els T)(hw:TW T made)(e:Int):ko els e=qe T e:=by
 unfold ko qe;cases hf:dk els e with
 | none=>rw[h.find_none hf];rfl
 | some x=>
  have hi:=DN h.nums hf;obtain⟨hm,rfl⟩:=dI hf;rw[(h.find_some hw hf).1];show((els.drop (mX els x.num+1)).all λy=>decide (¬y.par=x.par))=(true&&decide (((ec T (aY T x.num)).dropWhile λ(k:Nat)=>decide (¬(k:Int)=(x.num:Int))).length<=1))
  have e1:((els.drop (mX els x.num+1)).all λy=>decide (¬y.par=x.par))=decide (aO (els.drop (mX els x.num+1)) x.par=[]):=by
   rw[Bool.eq_iff_iff,List.all_eq_true,bF];constructor
   ·intro h1;rw[List.eq_nil_iff_forall_not_mem];intro k hk;rw[fK] at hk;obtain⟨y,hy,h2,_⟩:=hk;have:=h1 y hy;rw[bF] at this;exact this h2
   ·intro h1 y hy;rw[bF];intro h2;have:y.num∈aO (els.drop (mX els x.num+1)) x.par:=fK.2 ⟨y,hy,h2,rfl⟩;rw[h1] at this;cases this
  rw[e1,Bool.true_and]
  by_cases hp:x.par=-1
  ·rw[D1 h hw hm hp,(xP h hw hi hp).2];rfl
  ·rw[qD h hw hm hp,(lJ h.nums hi).2];cases aO (els.drop (mX els x.num+1)) x.par<;>simp
theorem NV (h:PT els T)(hw:TW T made)(e:Int):iQ els e=mm T e:=by
 unfold iQ mm;rw[jH h hw,Bool.and_comm];cases ht:bw T e with
 | none=>rfl
 | some l=>
  show(true&&_)=(true&&_);rw[Bool.true_and,Bool.true_and]
  have hk:ec T e=aO els e:=by
   unfold ec;rw[ht];obtain⟨k,rfl,hk⟩:=gj ht;exact h.kids k l hk
  rw[hk,Bool.eq_iff_iff,List.all_eq_true,List.isEmpty_iff];constructor
  ·intro h1;rw[List.eq_nil_iff_forall_not_mem];intro k hk;rw[fK] at hk;obtain⟨y,hy,h2,_⟩:=hk;have:=h1 y hy;rw[bF] at this;exact this h2
  ·intro h1 y hy;rw[bF];intro h2;have:y.num∈aO els e:=fK.2 ⟨y,hy,h2,rfl⟩;rw[h1] at this;cases this
theorem Tg (h:PT els T)(hw:TW T made)(hM:Ms els M):nA els=bg T M:=by
 have e1:dW els=fJ T M:=by
  funext e l;unfold dW fJ;rw[<-jH h hw];cases hf:dk els e with
  | none=>rfl
  | some x=>
   obtain⟨hm,rfl⟩:=dI hf;show(kn x==l)=(true&&((M x.num).kd==l));rw[(hM x hm).1,Bool.true_and]
 have e2:ei els=eN T M:=by
  funext e l;unfold ei eN;rw[<-jH h hw];cases hf:dk els e with
  | none=>rfl
  | some x=>
   obtain⟨hm,rfl⟩:=dI hf;show(if 97<=l/\l<=122 then eE x (l - 97).toNat else false)=(true&&(decide (97<=l/\l<=122)&&(M x.num).cl (l - 97).toNat))
   by_cases hl:97<=l/\l<=122
   ·rw[aq hl,decide_eq_true hl,(hM x hm).2.1 _ (by omega)];rfl
   ·rw[aj hl,decide_eq_false hl];rfl
 have e3:gG els=fI T M:=by
  funext e l;unfold gG fI;rw[<-jH h hw];cases hf:dk els e with
  | none=>rfl
  | some x=>
   obtain⟨hm,rfl⟩:=dI hf;show(ju x==l)=(true&&((M x.num).nm==l));rw[(hM x hm).2.2.1,Bool.true_and]
 unfold nA bg;rw[e1,e2,e3,h.len hw,funext (vY h hw T.length),funext (MI h hw),funext (Sx h hw),funext (NV h hw)]
end
end
end Go.Proofs.YtblfffbmklkhmaaGreat
