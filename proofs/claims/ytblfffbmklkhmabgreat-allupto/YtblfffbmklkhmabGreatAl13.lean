/- Own work. -/
import Derived.Test.YtblfffbmklkhmabGreatAl12
set_option maxRecDepth 100000
set_option maxHeartbeats 40000000
namespace Go.Proofs.YtblfffbmklkhmabGreat
open Go.RowKit Go.Proofs.Tryz
section
variable {T:aU}{a b:REl}{k:Nat}{l:List Nat}
section
variable {aa:List REl}{ae:Nat}{M:Nat->Mk}
theorem zN (hw:TW T ae)(a:Nat):∀(j:Nat) {k:Nat} {l:List Nat},(k,l)∈T->io T (j+1) k<0->((a:Int)∈bh T j k↔0<=bi T k/\dM T a (bi T k))
 | 0,k,l,hk,hj=>by
  have h1:bi T k<0:=hj;constructor
  ·intro h;cases h
  ·intro h;omega
 | j+1,k,l,hk,hj=>by
  show(a:Int)∈(if bi T k=-1 then[] else bi T k :: bh T j (bi T k))↔_;rcases db T k with⟨h1,_⟩ | ⟨q,hq,h1,h2⟩
  ·rw[h1,aE rfl];constructor
   ·intro h;cases h
   ·intro h;omega
  ·have hm:=iI.1 h1;rw[h2,aA (by omega),List.mem_cons]
   have ih:=zN hw a j (k:=q.1) (l:=q.2) hq (by
    have:io T (j+1+1) k=io T (j+1) (bi T k):=rfl;rw[this,h2] at hj;exact hj)
   rw[ih];constructor
   ·rintro(h3 | ⟨h3,h4⟩)
    ·refine⟨by omega,?_⟩;rw[<-h3];exact iJ T a
    ·refine⟨by omega,?_⟩;rcases db T q.1 with⟨h5,_⟩ | ⟨q2,zj,h5,h6⟩
     ·omega
     ·rw[h6] at h4;exact(hw.under_kid zj (iI.1 h5) a).2 (az h4)
   ·rintro⟨_,h4⟩;rcases db T q.1 with⟨h5,_⟩ | ⟨q2,zj,h5,h6⟩
    ·left;obtain⟨_,t,ht⟩:=h4;cases t with
     | zero=>exact ht.symm
     | succ t=>
      have h7:io T t (bi T q.1)=a:=ht;have h8:=mB T (n:=bi T q.1) (by omega) t;omega
    ·rcases(hw.under_kid zj (iI.1 h5) a).1 h4 with h7 | h7
     ·left;omega
     ·right;rw[h6];exact⟨by omega,h7⟩
theorem mG (hw:TW T ae)(a:Nat)(hk:(k,l)∈T):(a:Int)∈bh T T.length k↔0<=bi T k/\dM T a (bi T k):=zN hw a T.length hk (hw.up_end hk (by omega))
theorem za (a:Nat)(hk:(k,l)∈T):(a:Int)∈(bh T T.length k).take 1↔bi T k=a:=by
 obtain⟨n,hn⟩:∃n,T.length=n+1:=by
  have:=List.length_pos_of_mem hk;exact⟨T.length - 1,by omega⟩
 rw[hn];show(a:Int)∈(if bi T k=-1 then[] else bi T k :: bh T n (bi T k)).take 1↔_
 by_cases h:bi T k=-1
 ·rw[aE h,h];constructor
  ·intro h;cases h
  ·intro h;omega
 ·rw[aA h,List.take_succ_cons,List.take_zero,ft];exact⟨λh=>h.symm,λh=>h.symm⟩
theorem Nl (hk:(k,l)∈T):∀x∈bh T T.length k,∃j lj,x=((j:Nat):Int)/\(j,lj)∈T:=by
 have nY:∀(n:Nat) {k:Nat} {l:List Nat},(k,l)∈T->∀x∈bh T n k,∃j lj,x=((j:Nat):Int)/\(j,lj)∈T:=λn=>by
  induction n with
  | zero=>intro k l _ x hx;cases hx
  | succ n ih=>
   intro k l hk x hx;have Ed:x∈(if bi T k=-1 then[] else bi T k :: bh T n (bi T k)):=hx;rcases db T k with⟨h1,_⟩ | ⟨q,hq,h1,h2⟩
   ·rw[h1,aE rfl] at Ed;cases Ed
   ·rw[h2,aA (by omega)] at Ed;rcases List.mem_cons.1 Ed with rfl | h3
    ·exact⟨q.1,q.2,rfl,hq⟩
    ·exact ih (k:=q.1) (l:=q.2) hq x h3
 exact nY T.length hk
theorem ue (hw:TW T ae){q:Nat × List Nat}(hq:q∈T){j:Nat}(hj:q.2[j]?=some k)(hk:(k,l)∈T):dO T k=((q.2.take j).map λ(x:Nat)=>(x:Int)).reverse:=by
 unfold dO;rw[eg hw.nums hk,Option.isSome_some,aE rfl,hw.parent hq (List.mem_of_getElem? hj)];unfold ep;rw[eg hw.nums hq];show(((q.2.takeWhile λ(x:Nat)=>decide (¬(x:Int)=(k:Int))).map λ(x:Nat)=>(x:Int)).reverse)=_;rw[(FC (hw.kdup q hq) hj).1]
theorem uQ (hw:TW T ae):dO T (0:Nat)=[]:=by
 unfold dO;have h0:bi T ((0:Nat):Int)=-1:=hw.root_par;rw[h0];unfold ep;rw[Es];split<;>rfl
theorem H2 (hw:TW (aW aa) ae)(ha:a∈aa)(hb:b∈aa):
  ((bn aa b.num<0∨bn aa b.num≠bn aa a.num)->∀n,(a.num:Int) ∉ (dO (aW aa) b.num).take n)/\
  (¬(bn aa b.num<0∨bn aa b.num≠bn aa a.num)->1<=(dg aa a.num).1/\(dg aa b.num).1=(dO (aW aa) b.num).length+1/\∀n,(a.num:Int)∈(dO (aW aa) b.num).take n↔(dg aa a.num).1<(dg aa b.num).1/\(dg aa b.num).1<=(dg aa a.num).1+n):=by
 have IU:=jR hb;have hka:=jR ha;rw[<-ea,<-ea]
 by_cases lW:b.num=0
 ·have FW:bi (aW aa) b.num=-1:=by rw[lW];exact hw.root_par
  have KH:dO (aW aa) b.num=[]:=by rw[lW];exact uQ hw
  rw[FW,KH];exact⟨λ_ n h=>by simp at h,λh=>absurd (ax (by decide)) h⟩
 ·obtain⟨q,hq,Ph,hqp⟩:=hw.up IU lW;rw[hqp];obtain⟨jb,hjb,hjbe⟩:=List.getElem_of_mem Ph;have ad6:q.2[jb]?=some b.num:=by rw[bW hjb,hjbe]
  have UN:=hw.kdup q hq;have aaw:=ue hw hq ad6 IU
  have aer:(dg aa b.num).1=jb+1:=by
   have h1:=(uf hw hb).1;rw[aaw,List.length_reverse,List.length_map,List.length_take] at h1;omega
  rw[aaw];refine⟨λfG n h=>?_,λheq=>?_⟩
  ·have h2:=List.mem_of_mem_take h;rw[List.mem_reverse,bx] at h2;obtain⟨x,hx,oM⟩:=h2;have UW:x=a.num:=by omega
   subst UW;rcases fG with h3 | h3
   ·omega
   ·exact h3 (hw.parent hq (List.mem_of_mem_take hx)).symm
  ·have hpa:(q.1:Int)=bi (aW aa) a.num:=by
    rcases Int.lt_trichotomy (q.1:Int) (bi (aW aa) a.num) with h | h | h
    ·exact absurd (az (by omega)) heq
    ·exact h
    ·exact absurd (az (by omega)) heq
   have haq:a.num∈q.2:=by
    rcases db (aW aa) a.num with⟨h1,_⟩ | ⟨q2,zj,h1,h2⟩
    ·omega
    ·have:q2=q:=qe hw.nums zj hq (by omega);rw[this] at h1;exact iI.1 h1
   obtain⟨ja,XK,SY⟩:=List.getElem_of_mem haq;have ad5:q.2[ja]?=some a.num:=by rw[bW XK,SY]
   have aeq:(dg aa a.num).1=ja+1:=by
    have h1:=(uf hw ha).1;have h2:=ue hw hq ad5 hka;rw[h2,List.length_reverse,List.length_map,List.length_take] at h1;omega
   rw[aeq,aer];refine⟨by omega,by rw[List.length_reverse,List.length_map,List.length_take];omega,λn=>?_⟩;rw[<-List.map_reverse,<-List.map_take,bx];constructor
   ·rintro⟨x,hx,oM⟩;have UW:x=a.num:=by omega
    subst UW;obtain⟨t,ht,hte⟩:=List.getElem_of_mem hx;rw[List.length_take,List.length_reverse,List.length_take] at ht;rw[List.getElem_take,List.getElem_reverse,List.getElem_take] at hte;have h5:q.2[(q.2.take jb).length - 1 - t]?=some a.num:=by rw[bW (by rw[List.length_take];omega),hte]
    have h6:ja=(q.2.take jb).length - 1 - t:=by
     rcases Nat.lt_trichotomy ja ((q.2.take jb).length - 1 - t) with h7 | h7 | h7
     ·obtain⟨g1,g2⟩:=ee.1 h5;exact absurd (SY.trans g2.symm) (List.pairwise_iff_getElem.1 UN _ _ XK g1 h7)
     ·exact h7
     ·obtain⟨g1,g2⟩:=ee.1 h5;exact absurd (g2.trans SY.symm) (List.pairwise_iff_getElem.1 UN _ _ g1 XK h7)
    rw[List.length_take] at h6;omega
   ·rintro⟨h5,h6⟩;refine⟨a.num,?_,rfl⟩;have hl:(q.2.take jb).length=jb:=by rw[List.length_take];omega
    have ht:jb - 1 - ja<((q.2.take jb).reverse.take n).length:=by rw[List.length_take,List.length_reverse,hl];omega
    have h8:((q.2.take jb).reverse.take n)[jb - 1 - ja]'ht=a.num:=by
     rw[List.getElem_take,List.getElem_reverse,List.getElem_take];rw[<-SY]
     congr 1
     omega
    rw[<-h8];exact bN ht
theorem yz (hw:TW (aW aa) ae)(ha:a∈aa)(hb:b∈aa){sg:Nat}(hs:jf sg=true):dA aa a.num sg b.num=true↔(a.num:Int)∈fx (bp (aW aa) M) (sg:Int) b.num:=by
 have hs4:sg=32∨sg=62∨sg=43∨sg=126:=by simpa[jf] using hs
 have IU:=jR hb;obtain⟨s1,s2⟩:=H2 hw ha hb;rcases hs4 with rfl | rfl | rfl | rfl
 ·unfold dA fx;rw[aA (by decide),aE rfl,aE (by decide)];show _↔(a.num:Int)∈bh (aW aa) (aW aa).length b.num;rw[mG hw a.num IU,Bool.and_eq_true,bO,<-ea,<-lD,bC]
 ·unfold dA fx;rw[aE rfl,aA (by decide),aE (by decide)];show _↔(a.num:Int)∈(bh (aW aa) (aW aa).length b.num).take 1;rw[za a.num IU,bO,<-ea]
 ·have e1:fx (bp (aW aa) M) ((43:Nat):Int) b.num=(dO (aW aa) b.num).take 1:=rfl;rw[e1];unfold dA;rw[aA (by decide),aA (by decide)]
  by_cases hc:bn aa b.num<0∨bn aa b.num≠bn aa a.num
  ·rw[aE hc];exact⟨λh=>(by cases h),λh=>absurd h (s1 hc 1)⟩
  ·rw[aA hc,(s2 hc).2.2 1];simp;omega
 ·have e1:fx (bp (aW aa) M) ((126:Nat):Int) b.num=(dO (aW aa) b.num):=rfl;rw[e1];unfold dA;rw[aA (by decide),aA (by decide)]
  by_cases hc:bn aa b.num<0∨bn aa b.num≠bn aa a.num
  ·rw[aE hc];have h1:=s1 hc (dO (aW aa) b.num).length;rw[List.take_length] at h1;exact⟨λh=>(by cases h),λh=>absurd h h1⟩
  ·rw[aA hc];obtain⟨h1,h2,h3⟩:=s2 hc;have h4:=h3 (dO (aW aa) b.num).length;rw[List.take_length] at h4;rw[h4];simp;omega
theorem L6 (hw:TW (aW aa) ae)(hb:b∈aa)(sg:Int):∀x∈fx (bp (aW aa) M) sg b.num,∃a∈aa,(a.num:Int)=x:=by
 have IU:=jR hb
 have ab:∀x∈(bp (aW aa) M).ab b.num,∃a∈aa,(a.num:Int)=x:=λx hx=>by
  obtain⟨j,lj,rfl,hj⟩:=Nl IU x hx;obtain⟨y,hy,h1,_⟩:=xP hj;exact⟨y,hy,by omega⟩
 have ah:∀x∈(bp (aW aa) M).ah b.num,∃a∈aa,(a.num:Int)=x:=λx hx=>by
  have Ed:x∈dO (aW aa) b.num:=hx
  by_cases lW:b.num=0
  ·rw[lW,uQ hw] at Ed;cases Ed
  ·obtain⟨q,hq,Ph,hqp⟩:=hw.up IU lW;obtain⟨jb,hjb,hjbe⟩:=List.getElem_of_mem Ph;rw[ue hw hq (by rw[bW hjb,hjbe]) IU,List.mem_reverse,bx] at Ed;obtain⟨y,hy,rfl⟩:=Ed;obtain⟨ly,UK⟩:=hw.kin q hq y (List.mem_of_mem_take hy);obtain⟨z,hz,h1,_⟩:=xP UK;exact⟨z,hz,by omega⟩
 intro x hx;unfold fx at hx;split at hx
 ·exact ab x hx
 ·split at hx
  ·exact ab x (List.mem_of_mem_take hx)
  ·split at hx
   ·exact ah x hx
   ·split at hx
    ·exact ah x (List.mem_of_mem_take hx)
    ·cases hx
end
end
section
variable {cs:List eb}{i:Nat}{uO:List RComp}{ss:List (List eb)}{y:REl}
def Rel2 {α β:Type}(R:α->β->Prop)(l:List α)(m:List β):Prop:=l.length=m.length/\∀(i:Nat) (a:α) (b:β),l[i]?=some a->m[i]?=some b->R a b
theorem Rel2.at' {α β:Type}{R:α->β->Prop}{l:List α}{m:List β}(h:Rel2 R l m)(hi:i<l.length):R l[i] (m[i]'(by rw[<-h.1];exact hi)):=h.2 i _ _ (bW hi) (bW _)
def YH (rc:RComp)(c:eb):Prop:=(rc.sg:Int)=c.sg/\∃(s:ByteArray) (p q:Nat),s.size<=400/\p<q/\q<=s.size/\rc.tx=s.extract p q/\fp s p q c.ty c.ps
structure Gh (uO:List RComp)(cs:List eb):Prop where
 rel:Rel2 YH uO cs
 pos:0<uO.length
 few:uO.length<=400
 sg:∀(i:Nat) (rc:RComp),0<i->uO[i]?=some rc->jf rc.sg=true
section
variable {aa:List REl}{ae:Nat}{M:Nat->Mk}
theorem Ba {on:List Bool}{sg:Nat}{b:Int}:∀n,fM aa on sg b n=true↔∃a,a<n/\(on[a]?).getD false=true/\dA aa (Jf aa a) sg b=true
 | 0=>by
  constructor
  ·intro h;cases h
  ·rintro⟨a,h,_⟩;omega
 | n+1=>by
  unfold fM;rw[Bool.or_eq_true,Bool.and_eq_true,Ba n];constructor
  ·rintro(⟨a,h1,h2⟩ | h)
   ·exact⟨a,by omega,h2⟩
   ·exact⟨n,by omega,h⟩
  ·rintro⟨a,h1,h2⟩
   by_cases e:a=n
   ·rw[e] at h2;exact az h2
   ·exact ax ⟨a,by omega,h2⟩
theorem Dn (v:Vw)(x:eb){L:List eb}(h:L≠[])(e:Int):kM v (x :: L) e=(me v x e&&(fx v x.sg e).any (kM v L)):=by
 cases L with
 | nil=>exact absurd rfl h
 | cons d r=>rfl
theorem QR {c:Nat}(h:c<cs.length):(cs.take (c+1)).reverse=cs[c] :: (cs.take c).reverse:=by
 rw[gj h,List.reverse_append];rfl
theorem wS (hw:TW (aW aa) ae)(hm:RM aa M)(h:Gh uO cs):∀c,c<uO.length->∀{i:Nat} {y:REl},aa[i]?=some y->(kF aa uO (c+1))[i]?=some (kM (bp (aW aa) M) ((cs.take (c+1)).reverse) y.num)
 | c,hc,i,y,hy=>by
  have kr:c<cs.length:=by rw[<-h.rel.1];exact hc
  have hmy:=List.mem_of_getElem? hy;obtain⟨hsg,s,p,q,hs,kK,hq,Pp,DZ⟩:=h.rel.at' hc;have O1:=(Ae hw hm hmy hs hq kK DZ cs[c].sg).1;unfold kF;rw[List.getElem?_map,hy,bW hc,QR kr];show some (gU aa y 400 uO[c].tx&&(decide (c=0)||fM aa (kF aa uO c) uO[c].sg y.num aa.length))=_;rw[Pp,O1]
  congr 1
  show(me (bp (aW aa) M) cs[c] y.num&&_)=_;cases c with
  | zero=>
   rw[List.take_zero];show(me (bp (aW aa) M) cs[0] y.num&&(true||_))=me (bp (aW aa) M) cs[0] y.num;rw[Bool.true_or,Bool.and_true]
  | succ c=>
   have fG:(cs.take (c+1)).reverse≠[]:=by
    intro e;have:(cs.take (c+1)).reverse.length=0:=by rw[e];rfl
    rw[List.length_reverse,List.length_take] at this;omega
   rw[Dn _ _ fG]
   congr 1
   show(false||_)=_;rw[Bool.false_or,Bool.eq_iff_iff,Ba,List.any_eq_true];have hss:=h.sg (c+1) uO[c+1] (by omega) (bW hc);constructor
   ·rintro⟨a,ha,h1,h2⟩;rw[xO ha] at h2;have hae:=bW ha;rw[wS hw hm h c (by omega) hae] at h1;refine⟨(aa[a].num:Int),?_,h1⟩;rw[<-hsg];exact(yz hw (bN ha) hmy hss).1 h2
   ·rintro⟨x,hx,h1⟩;obtain⟨a,ha,hax⟩:=L6 hw hmy _ x hx;obtain⟨ia,hia,hiae⟩:=List.getElem_of_mem ha;have hae:aa[ia]?=some a:=by rw[bW hia,hiae]
    refine⟨ia,hia,?_,?_⟩
    ·rw[wS hw hm h c (by omega) hae,hax];exact h1
    ·rw[xO hia,hiae];refine(yz (M:=M) hw ha hmy hss).2 ?_;rw[hax,hsg];exact hx
theorem Px (hw:TW (aW aa) ae)(hm:RM aa M)(h:Gh uO cs)(hy:aa[i]?=some y):(kF aa uO uO.length)[i]?=some (q9 (bp (aW aa) M) cs y.num):=by
 have hp:=h.pos;have h1:=wS hw hm h (uO.length - 1) (by omega) hy;rw[show uO.length - 1+1=uO.length from by omega] at h1;rw[h1];unfold q9;rw[List.take_of_length_le (by have:=h.rel.1;omega)]
theorem WX {aa:List REl}{ae:Nat}{M:Nat->Mk}(hw:TW (aW aa) ae)(hm:RM aa M)(h:Gh uO cs):Iw uO:=by
 refine⟨h.pos,h.few,λx hx=>?_⟩;obtain⟨i,hi,rfl⟩:=List.getElem_of_mem hx;obtain⟨_,s,p,q,hs,kK,hq,Pp,DZ⟩:=h.rel.at' hi;obtain⟨l,hl⟩:=hw.root;obtain⟨y,hy,_,_⟩:=xP hl;rw[Pp];exact(Ae hw hm hy hs hq kK DZ 0).2
theorem Fz {s:ByteArray}{q:Nat}(hq:q<=s.size):∀{xs:List Nat} {i:Nat} (f:Nat),yX s i q xs->q - i<=f->Mn f (s.extract i q)=xs.sum
 | [],i,f,h,hf=>by
  simp only[yX] at h;subst h;have hz:(s.extract i i).size=0:=by rw[dP hq];omega
  cases f with
  | zero=>rfl
  | succ f=>unfold Mn;rw[aE hz];rfl
 | x :: xs,i,f,⟨h1,h2,h3⟩,hf=>by
  have hp:=m6 s i;have qU:=IE h3;obtain⟨c1,c2,c3⟩:=rV (s:=s) (i:=i) (j:=i+cB s i) (q:=q) h1 hq rfl;have hz:(s.extract i q).size=q - i:=dP hq;cases f with
  | zero=>omega
  | succ f=>
   have e1:=(BI (s:=s) (i:=i) (q:=i+cB s i) aF (by omega)).2;have e2:=Fz hq f h3 (by omega);unfold Mn;rw[aA (by omega),c1,c2,c3,e2,e1,List.sum_cons,h2]
theorem QY (h:Rel2 YH uO cs):kT uO=qS cs:=by
 unfold kT qS
 congr 1
 apply List.ext_getElem?;intro i;rw[List.getElem?_map,List.getElem?_map]
 by_cases hi:i<uO.length
 ·obtain⟨_,s,p,q,hs,kK,hq,Pp,DZ⟩:=h.at' hi;rw[bW hi,bW (by rw[<-h.1];exact hi)];obtain⟨xs,XN,Ar,_,_⟩:=zW DZ kK;show some (Mn 400 uO[i].tx)=some (cw _ _);rw[Pp,Fz hq 400 XN (by omega),Ar]
 ·rw[List.getElem?_eq_none (by omega),List.getElem?_eq_none (by have:=h.1;omega)];rfl
theorem yL (v:Vw)(e:Int){k:Nat}(h:k<ss.length):fE v e (ss.take (k+1))=jy v e (fE v e (ss.take k)) ss[k]:=by
 unfold fE;rw[gj h,List.foldl_append];rfl
theorem uk (v:Vw)(e:Int)(ss:List (List eb)):∀k,0<=(fE v e (ss.take k)).1/\((fE v e (ss.take k)).2=false->(fE v e (ss.take k)).1=0)
 | 0=>⟨by rw[List.take_zero];exact Int.le_refl _,λ_=>by rw[List.take_zero];rfl⟩
 | k+1=>by
  obtain⟨h1,h2⟩:=uk v e ss k
  by_cases hk:k<ss.length
  ·rw[yL v e hk];unfold jy;split
   ·exact⟨by show 0<=max _ _;omega,λh=>by cases h⟩
   ·exact⟨h1,h2⟩
  ·rw[List.take_of_length_le (by omega)] at h1 h2 ⊢;exact⟨h1,h2⟩
theorem xv (hw:TW (aW aa) ae)(hm:RM aa M){sels:List (List RComp)}(h:Rel2 Gh sels ss)(hy:aa[i]?=some y):∀k,k<=sels.length->(cq aa sels k)[i]?=some (if(fE (bp (aW aa) M) y.num (ss.take k)).2=true then(fE (bp (aW aa) M) y.num (ss.take k)).1 else -1)
 | 0,_=>by
  have hi:=(ee.1 hy).1;unfold cq;rw[List.getElem?_replicate,aE hi,List.take_zero];rfl
 | k+1,hk=>by
  have hi:=(ee.1 hy).1;have te:k<ss.length:=by rw[<-h.1];omega
  have hr:=h.at' (i:=k) (by omega);have ih:=xv hw hm h hy k (by omega);have hp:=uk (bp (aW aa) M) y.num ss k;have hmt:=Px hw hm hr hy;unfold cq;rw[List.getElem?_map,List.getElem?_range hi,bW (by omega:k<sels.length),yL _ _ te];show some (if(kF aa sels[k] sels[k].length)[i]?.getD false=true/\(cq aa sels k)[i]?.getD 0<(kT sels[k]:Int) then(kT sels[k]:Int) else(cq aa sels k)[i]?.getD 0)=_;rw[ih,hmt,QY hr.rel];simp only[Option.getD_some];unfold jy;generalize fE (bp (aW aa) M) y.num (ss.take k)=a at hp ⊢
  congr 1
  by_cases Pb:q9 (bp (aW aa) M) ss[k] y.num=true
  ·rw[aE Pb];show _=max a.1 ((qS ss[k]:Nat):Int)
   by_cases ha:a.2=true
   ·rw[aE ha]
    by_cases bc:a.1<((qS ss[k]:Nat):Int)
    ·rw[aE ⟨Pb,bc⟩];omega
    ·rw[aA (λh=>bc h.2)];omega
   ·have Wm:a.2=false:=by simpa using ha
    have h0:=hp.2 Wm;rw[aA ha,aE ⟨Pb,by omega⟩,h0];omega
  ·rw[aA Pb,aA (λh=>Pb h.1)]
end
end
section
variable {C:Clm}{R:Nat->ByteArray × Cl}{Rr:List eI}{W:List Clm}{d:PDc}{ds:List PDc}{i k:Nat}{ly n wt:Int}{rd:ei}{rs:List dx}{y:REl}
def ValRel (t:ByteArray)(kd nu va:Int):Prop:=
 (t.size=1/\bt t 0=105/\kd=2)∨(t.size=1/\bt t 0=114/\kd=3)∨(t.size=1/\bt t 0=117/\kd=4)∨
 (t.size=2/\bt t 0=36/\kd=5/\va=bt t 1/\tR (bt t 1)=true)∨
 (kd=1/\0<t.size/\t.size<=3/\(∀k,k<t.size->iS (bt t k)=true)/\nu=(kB t t.size:Nat))
theorem ValRel.pos {t:ByteArray}{kd nu va:Int}(h:ValRel t kd nu va):0<t.size:=by
 rcases h with h | h | h | h | h<;>omega
structure Gg (rd:ei)(d:PDc):Prop where
 pr:(rd.pr:Int)=d.pr
 isp:xD rd.pr=true
 im:rd.must=d.im
 val:ValRel rd.val d.kd d.nu d.va
structure y9 (r:eI)(p:dx):Prop where
 ly:r.ly=p.ly
 sels:Rel2 Gh r.sels p.ss
 dl:Rel2 Gg r.dl p.ds
 fs:r.sels.length<=400
 fd:r.dl.length<=400
theorem ri (c:Nat):fw c=bP (c:Int):=by
 unfold fw bP
 by_cases h1:65<=c/\c<=70
 ·rw[aE h1,aE (by omega)]
  congr 1
  omega
 ·have tc:¬(65<=(c:Int)/\(c:Int)<71):=by omega
  rw[aA h1,aA tc]
  by_cases h2:88<=c/\c<=90
  ·have GJ:88<=(c:Int)/\(c:Int)<91:=by omega
   rw[aE h2,aE GJ]
   congr 1
   omega
  ·have GJ:¬(88<=(c:Int)/\(c:Int)<91):=by omega
   rw[aA h2,aA GJ]
theorem AU {c:Nat}(h:xD c=true):∃q,fw c=some q/\q<9:=by
 unfold xD tR at h;rw[Bool.or_eq_true,bO,bO] at h;unfold fw;rcases h with h | h
 ·rw[aE h];exact⟨_,rfl,by omega⟩
 ·rw[aA (by omega),aE h];exact⟨_,rfl,by omega⟩
def J8 (n:Int)(o:ByteArray × Cl)(c:Clm):Prop:=
 (o.1.size=0/\c=Clm.none)∨(c.th=true/\ValRel o.1 c.kd c.nu c.va/\o.2.d.must=c.im/\o.2.ly=c.ly/\o.2.hv=c.wt/\o.2.no<=n)
def RowRel (n:Int)(R:Nat->ByteArray × Cl)(W:List Clm):Prop:=W.length=9/\∀q,q<9->J8 n (R q) (W.getD q Clm.none)
theorem RowRel.mono {m:Int}(h:RowRel n R W)(hn:n<=m):RowRel m R W:=by
 refine⟨h.1,λq hq=>?_⟩;rcases h.2 q hq with h1 | ⟨h1,h2,h3,h4,h5,h6⟩
 ·exact ax h1
 ·exact az ⟨h1,h2,h3,h4,h5,by omega⟩
theorem BV {j:Nat}(h:i≠j):(W.set i C).getD j Clm.none=W.getD j Clm.none:=by
 rw[List.getD_eq_getElem?_getD,List.getD_eq_getElem?_getD,List.getElem?_set_ne h]
theorem BU (h:i<W.length):(W.set i C).getD i Clm.none=C:=by
 rw[List.getD_eq_getElem?_getD,List.getElem?_set_self h];rfl
theorem Ih {o:ByteArray × Cl}{c:Clm}(h:J8 n o c)(hd:Gg rd d)(ly wt no:Int)(ol:n<no):(o.1.size=0∨yN {d:=rd,ly:=ly,hv:=wt,no:=no} o.2=true)↔iW (mL ly wt d) c=true:=by
 rcases h with⟨h1,rfl⟩ | ⟨h1,h2,h3,h4,h5,h6⟩
 ·constructor
  ·intro _;rfl
  ·intro _;exact ax h1
 ·have hp:=h2.pos;have hz:¬o.1.size=0:=by omega
  have hth:¬c.th=false:=by rw[h1];simp
  unfold iW yN nV;rw[aA hth];show _↔(if d.im≠c.im then d.im else if ly≠c.ly then decide (ly<c.ly)==d.im else decide (c.wt<=wt))=true;have e1:rd.must=d.im:=hd.im;show(o.1.size=0∨(if rd.must≠o.2.d.must then rd.must else if ly≠o.2.ly then(if rd.must=true then decide (ly<o.2.ly) else decide (o.2.ly<ly)) else if wt≠o.2.hv then decide (o.2.hv<wt) else decide (o.2.no<no))=true)↔_;rw[e1,h3,h4,h5]
  by_cases k1:d.im≠c.im
  ·rw[aE k1,aE k1];exact⟨λh=>h.resolve_left hz,az⟩
  rw[aA k1,aA k1]
  by_cases k2:ly≠c.ly
  ·rw[aE k2,aE k2];constructor
   ·intro h;have h:=h.resolve_left hz;cases hi:d.im with
    | true=>rw[hi,aE rfl] at h;rw[h];rfl
    | false=>
     rw[hi,aA (by simp),bO] at h;rw[decide_eq_false (by omega)];rfl
   ·intro h;right;cases hi:d.im with
    | true=>
     rw[hi] at h;rw[aE rfl];simpa using h
    | false=>
     rw[hi] at h;rw[aA (by simp),bO];have:¬ly<c.ly:=by simpa using h
     omega
  rw[aA k2,aA k2]
  by_cases k3:wt≠c.wt
  ·rw[aE k3,bO,bO];constructor
   ·intro h;have h:=h.resolve_left hz;omega
   ·intro h;right;omega
  ·rw[aA k3,bO,bO];constructor
   ·intro _;omega
   ·intro _;right;omega
theorem QC (h:RowRel n R W)(hd:Gg rd d){no:Int}(hwt:0<=wt)(ol:n<no){p:Nat}(hp:fw rd.pr=some p):RowRel no (λq=>if q=p then uj wt ⟨rd,ly,0,no⟩ (R q) else R q) (fl ly wt W d):=by
 have ml:bP d.pr=some p:=by rw[<-hd.pr,<-ri,hp]
 have Pe:=ms ml;have h9:=h.1;unfold fl;rw[ml];show RowRel no _ (if iW (mL ly wt d) (W.getD p Clm.none)=true then W.set p (mL ly wt d) else W);have hwb:=Ih (h.2 p Pe) hd ly wt no ol;have hm:=h.mono (Int.le_of_lt ol)
 by_cases hb:iW (mL ly wt d) (W.getD p Clm.none)=true
 ·rw[aE hb];refine⟨by rw[List.length_set];exact h9,λq hq=>?_⟩
  by_cases e:q=p
  ·subst e;rw[BU (by omega)];show J8 no (if q=q then _ else _) _;rw[aE rfl];unfold uj;rw[aA (by omega),aE (hwb.2 hb)];exact az ⟨rfl,hd.val,hd.im,rfl,rfl,Int.le_refl _⟩
  ·rw[BV (λh=>e h.symm)];show J8 no (if q=p then _ else _) _;rw[aA e];exact hm.2 q hq
 ·rw[aA hb];refine⟨h9,λq hq=>?_⟩;show J8 no (if q=p then _ else _) _
  by_cases e:q=p
  ·subst e;rw[aE rfl];unfold uj;rw[aA (by omega),aA (λh=>hb (hwb.1 h))];exact hm.2 q hq
  ·rw[aA e];exact hm.2 q hq
section
variable {aa:List REl}{ae:Nat}{M:Nat->Mk}
theorem Kz (h:k<ds.length)(ly wt:Int)(W:List Clm):(ds.take (k+1)).foldl (fl ly wt) W=fl ly wt ((ds.take k).foldl (fl ly wt) W) ds[k]:=by
 rw[gj h,List.foldl_append];rfl
theorem wY {n:Nat}{hv:Nat->Int}{dl:List ei}{ds:List PDc}(hd:Rel2 Gg dl ds)(bT:dl.length<=400){ly:Int}{n0:Nat}{S:qr}{i:Nat}(hi:i<n){m:Bool}{wt:Int}(hwt:0<=wt)(hm:(m=true/\hv i=wt)∨(m=false/\hv i<0)){W:List Clm}(h:RowRel (n0:Int) (S i) W):∀k,k<=dl.length->RowRel ((n0+k:Nat):Int) (pY n hv ly dl n0 S k i) (if m=true then(ds.take k).foldl (fl ly wt) W else W)
 | 0,_=>by
  have e:(if m=true then(ds.take 0).foldl (fl ly wt) W else W)=W:=by
   split
   ·rw[List.take_zero];rfl
   ·rfl
  rw[e]
  exact h
 | k+1,hk=>by
  have Ww:k<ds.length:=by rw[<-hd.1];omega
  have hrd:=hd.at' (i:=k) (by omega)
  have ih:=wY (ly:=ly) hd bT hi hwt hm h k (by omega)
  obtain⟨p,hp,Pe⟩:=AU hrd.isp
  have e1:pY n hv ly dl n0 S (k+1) i=λq=>if q=p then uj (hv i) ⟨dl[k],ly,0,((n0+k+1:Nat):Int)⟩ (pY n hv ly dl n0 S k i q) else pY n hv ly dl n0 S k i q:=by
   funext q
   show(match dl[k]? with | none=>pY n hv ly dl n0 S k | some x=>ic (pY n hv ly dl n0 S k) ⟨x,ly,0,((n0+k+1:Nat):Int)⟩ hv (Lz x.pr) n) i q=_
   rw[bW (by omega:k<dl.length)]
   show ic _ _ _ (Lz dl[k].pr) n i q=_
   unfold Lz ic
   rw[hp]
   show(if i<n/\q=p then _ else _)=_
   by_cases e:q=p
   ·rw[aE ⟨hi,e⟩,aE e]
   ·rw[aA (λh=>e h.2),aA e]
  rw[e1]
  rcases hm with⟨yT,CN⟩ | ⟨yT,CN⟩
  ·rw[aE yT] at ih ⊢
   rw[Kz Ww,CN]
   exact QC ih hrd hwt (by omega) hp
  ·rw[aA (by rw[yT];simp)] at ih ⊢
   refine(⟨ih.1,λq hq=>?_⟩:RowRel _ _ _)
   have h2:=(ih.mono (m:=((n0+(k+1):Nat):Int)) (by omega)).2 q hq
   show J8 _ (if q=p then _ else _) _
   by_cases e:q=p
   ·rw[aE e]
    unfold uj
    rw[aE CN]
    exact h2
   ·rw[aA e]
    exact h2
theorem LQ:RowRel 0 (λ_=>(⟨#[]⟩,pc)) (List.replicate 9 Clm.none):=by
 refine⟨by simp,λq hq=>ax ⟨rfl,?_⟩⟩;rw[List.getD_eq_getElem?_getD,List.getElem?_replicate,aE hq];rfl
theorem Q2 (v:Vw)(e:Int)(h:k<rs.length)(W:List Clm):(rs.take (k+1)).foldl (gZ v e) W=gZ v e ((rs.take k).foldl (gZ v e) W) rs[k]:=by
 rw[gj h,List.foldl_append];rfl
theorem yj (hw:TW (aW aa) ae)(hm:RM aa M)(h:Rel2 y9 Rr rs)(hy:aa[i]?=some y):∀k,k<=Rr.length->RowRel ((lY Rr k:Nat):Int) (sV aa Rr k i) ((rs.take k).foldl (gZ (bp (aW aa) M) y.num) (List.replicate 9 Clm.none))
 | 0,_=>by
  rw[List.take_zero];exact LQ
 | k+1,hk=>by
  have hi:=(ee.1 hy).1;have hkr:k<rs.length:=by rw[<-h.1];omega
  have hr:=h.at' (i:=k) (by omega);have ih:=yj hw hm h hy k (by omega);have XH:=xv hw hm hr.sels hy Rr[k].sels.length aF;rw[List.take_of_length_le (by have:=hr.sels.1;omega)] at XH;have hwp:=uk (bp (aW aa) M) y.num rs[k].ss rs[k].ss.length;rw[List.take_length] at hwp
  have e1:sV aa Rr (k+1)=pY aa.length (λi=>(cq aa Rr[k].sels Rr[k].sels.length)[i]?.getD 0) Rr[k].ly Rr[k].dl (lY Rr k) (sV aa Rr k) Rr[k].dl.length:=by
   show(match Rr[k]? with | none=>_ | some x=>_)=_;rw[bW (by omega:k<Rr.length)]
  have e2:lY Rr (k+1)=lY Rr k+Rr[k].dl.length:=by
   show lY Rr k+(Rr[k]?.map λx=>x.dl.length).getD 0=_;rw[bW (by omega:k<Rr.length)];rfl
  rw[e1,e2,Q2 _ _ hkr]
  have hd:=wY (n:=aa.length) (hv:=λi=>(cq aa Rr[k].sels Rr[k].sels.length)[i]?.getD 0) hr.dl hr.fd (ly:=Rr[k].ly) (n0:=lY Rr k) (S:=sV aa Rr k) hi (m:=(fE (bp (aW aa) M) y.num rs[k].ss).2) (wt:=(fE (bp (aW aa) M) y.num rs[k].ss).1) hwp.1 (by
   show((fE (bp (aW aa) M) y.num rs[k].ss).2=true/\(cq aa Rr[k].sels Rr[k].sels.length)[i]?.getD 0=_)∨((fE (bp (aW aa) M) y.num rs[k].ss).2=false/\(cq aa Rr[k].sels Rr[k].sels.length)[i]?.getD 0<0);rw[XH];cases hb:(fE (bp (aW aa) M) y.num rs[k].ss).2 with
   | true=>left;exact⟨rfl,by rw[aE rfl];rfl⟩
   | false=>right;exact⟨rfl,by rw[aA (by simp)];show(-1:Int)<0;decide⟩) ih Rr[k].dl.length aF
  rw[show rs[k].ds.take Rr[k].dl.length=rs[k].ds from List.take_of_length_le (by have:=hr.dl.1;omega),hr.ly] at hd;rw[hr.ly];exact hd
theorem H8 (hw:TW (aW aa) ae)(hm:RM aa M)(h:Rel2 y9 Rr rs)(hy:aa[i]?=some y){q:Nat}(hq:q<9):((Me aa Rr i q).size=0/\(fy (bp (aW aa) M) rs y.num).getD q Clm.none=Clm.none)∨ValRel (Me aa Rr i q) ((fy (bp (aW aa) M) rs y.num).getD q Clm.none).kd ((fy (bp (aW aa) M) rs y.num).getD q Clm.none).nu ((fy (bp (aW aa) M) rs y.num).getD q Clm.none).va:=by
 have h1:=(yj hw hm h hy Rr.length aF).2 q hq;rw[List.take_of_length_le (by have:=h.1;omega)] at h1;rcases h1 with h1 | ⟨_,h1,_⟩
 ·exact ax h1
 ·exact az h1
end
end
section
variable {C:Nat->Int}{Tb:Nat->Nat->ByteArray}{ai:List Int}{i p:Nat}{nx:Nat->Option Nat}{rs:List dx}{y:REl}
def RelV (t:ByteArray)(c:Clm):Prop:=(t.size=0/\c=Clm.none)∨ValRel t c.kd c.nu c.va
theorem VT {c:Nat}(h:tR c=true):88<=c/\c<=90:=by simpa[tR] using h
theorem RelV.ok {t:ByteArray}{c:Clm}(h:RelV t c):qA t/\qN t:=by
 rcases h with⟨h,_⟩ | h
 ·refine⟨⟨by omega,λh1=>by omega⟩,⟨λh1=>by omega,λh1=>?_⟩⟩;rw[tB t 0 (by omega)] at h1;cases h1
 ·rcases h with⟨h1,h2,_⟩ | ⟨h1,h2,_⟩ | ⟨h1,h2,_⟩ | ⟨h1,h2,_,_,h5⟩ | ⟨_,h1,h2,h3,_⟩
  ·exact⟨⟨by omega,λ_ h=>by omega⟩,⟨λ_ _ h=>by omega,λh=>by omega⟩⟩
  ·exact⟨⟨by omega,λ_ h=>by omega⟩,⟨λ_ _ _ h=>by omega,λh=>by omega⟩⟩
  ·exact⟨⟨by omega,λ_ h=>by omega⟩,⟨λ_ _ _ _ h=>by omega,λh=>h1⟩⟩
  ·have hb:=VT h5;refine⟨⟨by omega,λ_ _=>⟨by omega,bt t 1 - 82,?_,by omega,by omega⟩⟩,⟨λ_ h=>by omega,λh=>by omega⟩⟩;unfold fw;rw[aA (by omega),aE hb]
  ·have hd:=yY (h3 0 h1);exact⟨⟨by omega,λ_ h=>by omega⟩,⟨λ_ _ _ _ _=>⟨h2,λk hk=>yY (h3 k hk)⟩,λh=>by omega⟩⟩
section
variable {W:Nat->ByteArray}{Wc:List Clm}
theorem xN (h:RelV (W p) (Wc.getD p Clm.none)):fa (W p)=co Wc p:=by
 unfold fa co;rcases h with⟨h,hc⟩ | h
 ·rw[aE h,hc];rfl
 ·have hp:=h.pos;rw[aA (by omega)];rcases h with⟨h1,h2,h3⟩ | ⟨h1,h2,h3⟩ | ⟨h1,h2,h3⟩ | ⟨h1,h2,h3,h4,h5⟩ | ⟨h3,h1,h2,h4,_⟩
  ·rw[aA (by omega),h3];rfl
  ·rw[aA (by omega),h3];rfl
  ·rw[aA (by omega),h3];rfl
  ·rw[aE h2,h3,aE rfl,h4,ri]
  ·have hd:=yY (h4 0 h1);rw[aA (by omega),h3];rfl
theorem Dk (h:∀q,q<9->RelV (W q) (Wc.getD q Clm.none))(v:Nat):∀(n a:Nat),a<9->cg W v n a=jA Wc v n (co Wc a)
 | 0,_,_=>rfl
 | n+1,a,ha=>by
  have hn:=xN (h a ha);unfold cg;rw[hn];cases hq:co Wc a with
  | none=>rfl
  | some q=>
   have KX:q<9:=by
    rw[<-hn] at hq;exact(nG (h a ha).ok.1 hq).2
   show(if q=v then true else cg W v n q)=(if q=v then true else jA Wc v n (co Wc q));rw[Dk h v n q KX]
def bk (nx:Nat->Option Nat)(v:Nat):Nat->Option Nat->Bool
 | 0,_=>false
 | _+1,none=>false
 | k+1,some p=>if p=v then true else bk nx v k (nx p)
theorem Nt (v:Nat):∀(k:Nat) (q:Option Nat),jA Wc v k q=bk (co Wc) v k q
 | 0,_=>rfl
 | k+1,none=>rfl
 | k+1,some p=>by
  show(if p=v then true else jA Wc v k (co Wc p))=(if p=v then true else bk (co Wc) v k (co Wc p));rw[Nt v k]
theorem Nu {v:Nat}(hv:∀a q,nx a=some q->q≠v):∀(k a:Nat),bk nx v k (nx a)=false
 | 0,_=>rfl
 | k+1,a=>by
  cases h:nx a with
  | none=>rfl
  | some q=>
   show(if q=v then true else bk nx v k (nx q))=false;rw[aA (hv a q h),Nu hv k q]
theorem Sn (nx:Nat->Option Nat)(v k p:Nat):bk nx v (k+1) (some p)=if p=v then true else bk nx v k (nx p):=rfl
theorem Sm (nx:Nat->Option Nat)(v k:Nat):bk nx v k none=false:=by cases k<;>rfl
theorem Sl (h:∀a q,nx a=some q->q=6∨q=7∨q=8)(v a:Nat)(hva:v=a):bk nx v 9 (nx a)=bk nx v 3 (nx a):=by
 subst hva
 by_cases hv:v=6∨v=7∨v=8
 ·have h6:nx 6=none∨nx 6=some 6∨nx 6=some 7∨nx 6=some 8:=by
   cases e:nx 6 with
   | none=>exact ax rfl
   | some q=>rcases h 6 q e with rfl | rfl | rfl<;>simp
  have h7:nx 7=none∨nx 7=some 6∨nx 7=some 7∨nx 7=some 8:=by
   cases e:nx 7 with
   | none=>exact ax rfl
   | some q=>rcases h 7 q e with rfl | rfl | rfl<;>simp
  have h8:nx 8=none∨nx 8=some 6∨nx 8=some 7∨nx 8=some 8:=by
   cases e:nx 8 with
   | none=>exact ax rfl
   | some q=>rcases h 8 q e with rfl | rfl | rfl<;>simp
  rcases hv with rfl | rfl | rfl<;>rcases h6 with e6 | e6 | e6 | e6<;>rcases h7 with e7 | e7 | e7 | e7<;>rcases h8 with e8 | e8 | e8 | e8 <;>
   simp only[e6,e7,e8,Sn,Sm,bk]<;>rfl
 ·rw[Nu (λa q hq e=>hv (by rw[<-e];exact h a q hq)),Nu (λa q hq e=>hv (by rw[<-e];exact h a q hq))]
theorem Tn (h:∀q,q<9->RelV (W q) (Wc.getD q Clm.none))(hl:Wc.length=9):∀a q,co Wc a=some q->q=6∨q=7∨q=8:=λa q hq=>by
 by_cases ha:a<9
 ·rw[<-xN (h a ha)] at hq;have:=nG (h a ha).ok.1 hq;omega
 ·unfold co at hq;rw[List.getD_eq_getElem?_getD,List.getElem?_eq_none (by omega)] at hq;have h0:(none.getD Clm.none:Clm).kd=0:=rfl;rw[aA (by rw[h0];decide)] at hq;cases hq
theorem wQ (h:∀q,q<9->RelV (W q) (Wc.getD q Clm.none))(hl:Wc.length=9)(hp:p<9):cg W p 9 p=jA Wc p 3 (co Wc p):=by
 rw[Dk h p 9 p hp,Nt,Nt];exact Sl (Tn h hl) p p rfl
theorem sf (hp:p<9):eT p=eL.getD p 0:=by
 have:p=0∨p=1∨p=2∨p=3∨p=4∨p=5∨p=6∨p=7∨p=8:=by omega
 rcases this with rfl | rfl | rfl | rfl | rfl | rfl | rfl | rfl | rfl<;>rfl
theorem Ad:jr p=m8 p:=by
 unfold jr m8;rw[Bool.eq_iff_iff,Bool.or_eq_true,bO,bO,bO];omega
theorem Bl (h:∀q,q<9->RelV (W q) (Wc.getD q Clm.none))(hl:Wc.length=9)(hc:∀q,q<9->C q=ai.getD q 0):∀(f a b p:Nat),p<9->wF W f p->f<a->f<b->du W C a p=dV Wc ai b p
 | f,a,b,p,hp,ht,ha,hb=>by
  obtain⟨a,rfl⟩:∃a',a=a'+1:=⟨a - 1,by omega⟩;obtain⟨b,rfl⟩:∃b',b=b'+1:=⟨b - 1,by omega⟩;have ze:=wQ h hl hp;have qb:=xN (h p hp);unfold du;show _=(if jA Wc p 3 (co Wc p)=true then ai.getD p 0 else match co Wc p with | none=>cF Wc p ai | some q=>dV Wc ai b q);rw[<-ze];rcases h p hp with⟨h0,oL⟩ | hv
  ·
   have hn:co Wc p=none:=by rw[<-qb];unfold fa;rw[aE h0]
   have lW:cg W p 9 p=false:=by unfold cg;rw[qb,hn]
   have hR:(if cg W p 9 p=true then ai.getD p 0 else match co Wc p with | none=>cF Wc p ai | some q=>dV Wc ai b q)=cF Wc p ai:=by rw[lW,hn];rfl
   rw[hR,aE (ax h0)];unfold cF;rw[oL,Ad,hc p hp,sf hp];rfl
  ·have mb:=hv.pos;rcases hv with⟨h1,h2,h3⟩ | ⟨h1,h2,h3⟩ | ⟨h1,h2,h3⟩ | ⟨h1,h2,h3,h4,h5⟩ | ⟨h3,h1,h2,h4,h5⟩
   ·have hn:co Wc p=none:=by unfold co;rw[h3];rfl
    have lW:cg W p 9 p=false:=by unfold cg;rw[qb,hn]
    have hR:(if cg W p 9 p=true then ai.getD p 0 else match co Wc p with | none=>cF Wc p ai | some q=>dV Wc ai b q)=cF Wc p ai:=by rw[lW,hn];rfl
    rw[hR,aA (by omega),aE h2];unfold cF;rw[h3,hc p hp];rfl
   ·have hn:co Wc p=none:=by unfold co;rw[h3];rfl
    have lW:cg W p 9 p=false:=by unfold cg;rw[qb,hn]
    have hR:(if cg W p 9 p=true then ai.getD p 0 else match co Wc p with | none=>cF Wc p ai | some q=>dV Wc ai b q)=cF Wc p ai:=by rw[lW,hn];rfl
    rw[hR,aA (by omega),aA (by omega),aE h2];unfold cF;rw[h3,sf hp];rfl
   ·have hn:co Wc p=none:=by unfold co;rw[h3];rfl
    have lW:cg W p 9 p=false:=by unfold cg;rw[qb,hn]
    have hR:(if cg W p 9 p=true then ai.getD p 0 else match co Wc p with | none=>cF Wc p ai | some q=>dV Wc ai b q)=cF Wc p ai:=by rw[lW,hn];rfl
    rw[hR,aE (az h2)];unfold cF;rw[h3,Ad,hc p hp,sf hp];rfl
   ·rw[aA (by omega),aA (by omega),aA (by omega),aE h2];cases lW:cg W p 9 p with
    | true=>rw[aE rfl,aE rfl];exact hc p hp
    | false=>
     rw[aA (by simp),aA (by simp)];have hvb:=VT h5;have hnv:fa (W p)=fw (bt (W p) 1):=by unfold fa;rw[aA (by omega),aE h2]
     obtain⟨q,hq,KX⟩:∃q,fw (bt (W p) 1)=some q/\q<9:=by
      unfold fw;rw[aA (by omega),aE hvb];exact⟨_,rfl,by omega⟩
     rw[<-qb,hnv,hq];show du W C a q=dV Wc ai b q;cases f with
     | zero=>
      rcases ht with ht | ht
      ·rw[hnv,hq] at ht;cases ht
      ·rw[lW] at ht;cases ht
     | succ f=>
      rcases ht with ht | ht | ⟨q',Ap,ht⟩
      ·rw[hnv,hq] at ht;cases ht
      ·rw[lW] at ht;cases ht
      ·rw[hnv,hq] at Ap;injection Ap with Ap
       subst Ap;exact Bl h hl hc f a b q KX ht (by omega) (by omega)
   ·have hd:=yY (h4 0 h1);have hn:co Wc p=none:=by unfold co;rw[h3];rfl
    have lW:cg W p 9 p=false:=by unfold cg;rw[qb,hn]
    have hR:(if cg W p 9 p=true then ai.getD p 0 else match co Wc p with | none=>cF Wc p ai | some q=>dV Wc ai b q)=cF Wc p ai:=by rw[lW,hn];rfl
    rw[hR,aA (by omega),aA (by omega),aA (by omega),aA (by omega)];unfold cF;rw[h3,aE rfl,h5]
end
section
variable {aa:List REl}{ae:Nat}{M:Nat->Mk}
theorem Ei (hn:(aa.map REl.num).Nodup)(hy:aa[i]?=some y):∀k,iT aa y.num k=if i<k then some i else none
 | 0=>by rw[aA (by omega)];rfl
 | k+1=>by
  unfold iT
  by_cases h:(aa[k]?.map λe=>(e.num:Int))=some (y.num:Int)
  ·rw[aE h]
   have h2:k=i:=by
    cases hk:aa[k]? with
    | none=>rw[hk] at h;cases h
    | some z=>
     rw[hk] at h;have h':(z.num:Int)=(y.num:Int):=Option.some.inj h;obtain⟨qa,e1⟩:=ee.1 hk;obtain⟨XI,e2⟩:=ee.1 hy;have e3:(aa.map REl.num)[k]'(by simpa using qa)=(aa.map REl.num)[i]'(by simpa using XI):=by simp only[List.getElem_map];rw[e1,e2];omega
     rcases Nat.lt_trichotomy k i with h3 | h3 | h3
     ·exact absurd e3 (List.pairwise_iff_getElem.1 hn k i _ _ h3)
     ·exact h3
     ·exact absurd e3.symm (List.pairwise_iff_getElem.1 hn i k _ _ h3)
   rw[aE (by omega),h2]
  ·rw[aA h,Ei hn hy k];have h2:k≠i:=λe=>h (by rw[e,hy];rfl)
   by_cases h3:i<k
   ·rw[aE h3,aE (by omega)]
   ·rw[aA h3,aA (by omega)]
theorem Q1 (v:Vw)(rs:List dx)(e:Int):(fy v rs e).length=9:=by
 unfold fy
 have nY:∀(rs:List dx) (W:List Clm),(rs.foldl (gZ v e) W).length=W.length:=λrs=>by
  induction rs with
  | nil=>intro W;rfl
  | cons r rs ih=>
   intro W;rw[List.foldl_cons,ih];unfold gZ;split
   ·unfold Gj;generalize r.ds=ds
    induction ds generalizing W with
    | nil=>rfl
    | cons d ds Tg=>rw[List.foldl_cons,Tg,Bc]
   ·rfl
 rw[nY,List.length_replicate]
theorem PR (v:Vw)(rs:List dx)(e:Int)(ai:List Int){q:Nat}(hq:q<9):(Hd v rs e ai).getD q 0=dV (fy v rs e) ai 9 q:=by
 unfold Hd;rw[List.getD_eq_getElem?_getD,List.getElem?_map,List.getElem?_range hq];rfl
def TabR (aa:List REl)(M:Nat->Mk)(rs:List dx)(Tb:Nat->Nat->ByteArray):Prop:=∀(i:Nat) (y:REl),aa[i]?=some y->∀q,q<9->RelV (Tb i q) ((fy (bp (aW aa) M) rs y.num).getD q Clm.none)
theorem Mg (hw:TW (aW aa) ae)(hm:RM aa M){Rr:List eI}(h:Rel2 y9 Rr rs):TabR aa M rs (Me aa Rr):=λ_ _ hy _ hq=>H8 hw hm h hy hq
theorem TabR.ok (h:TabR aa M rs Tb):∀i p,i<aa.length->p<9->qA (Tb i p)/\qN (Tb i p):=λi p hi hp=>(h i aa[i] (bW hi) p hp).ok
theorem Cg (hw:TW (aW aa) ae)(h:TabR aa M rs Tb)(hy:aa[i]?=some y)(hc:∀q,q<9->C q=ai.getD q 0)(hp:p<9):du (ES Tb (iT aa y.num aa.length)) C 4 p=(Hd (bp (aW aa) M) rs y.num ai).getD p 0:=by
 have hn:(aa.map REl.num).Nodup:=by have:=hw.nums;rw[mU] at this;exact this
 have hi:=(ee.1 hy).1
 have eo:ES Tb (iT aa y.num aa.length)=Tb i:=by
  funext q;rw[Ei hn hy,aE hi];rfl
 have hrel:=h i y hy;rw[eo,PR _ _ _ _ hp];exact Bl hrel (Q1 _ _ _) hc 3 4 9 p hp (JD (λi hi=>(hrel i hi).ok.1) hp) (by omega) (by omega)
theorem yA (hw:TW (aW aa) ae)(h:TabR aa M rs Tb):∀(f:Nat) {y:REl},y∈aa->wi aa f y.num->∀p,p<9->kS aa Tb f y.num p=(dU (bp (aW aa) M) rs y.num).getD p 0
 | f,y,hy,hd,p,hp=>by
  obtain⟨i,hi,hiy⟩:=List.getElem_of_mem hy;have hy':aa[i]?=some y:=by rw[bW hi,hiy]
  rw[yB hw (jR hy)];rcases n8 hw (jR hy) with ha | ⟨q,hq,Ph,ha⟩
  ·
   have fi:bn aa y.num<0:=by
    rw[<-ea];rcases db (aW aa) y.num with⟨h1,_⟩ | ⟨q,hq,h1,h2⟩
    ·omega
    ·exfalso;have h3:(q.1:Int)∈bh (aW aa) (aW aa).length y.num:=(mG hw q.1 (jR hy)).2 ⟨by omega,by rw[h2];exact iJ _ _⟩;rw[ha] at h3;cases h3
   rw[ha];show _=(Hd _ rs y.num eL).getD p 0;have IR:∀q,q<9->eT q=eL.getD q 0:=λq hq=>sf hq;cases f with
   | zero=>exact Cg hw h hy' IR hp
   | succ f=>
    unfold kS;rw[aE fi];exact Cg hw h hy' IR hp
  ·have fi:bn aa y.num=q.1:=by rw[<-ea];exact hw.parent hq Ph
   rw[ha];obtain⟨z,hz,gA,_⟩:=xP (k:=q.1) (l:=q.2) hq;cases f with
   | zero=>
    have:bn aa y.num<0:=hd;omega
   | succ f=>
    have hdz:wi aa f z.num:=by
     rcases hd with hd | hd
     ·omega
     ·rw[fi,<-gA] at hd;exact hd
    unfold kS;rw[aA (by omega),fi,<-gA];refine Cg hw h hy' (λq' Ap=>?_) hp;exact yA hw h f hz hdz q' Ap
theorem Aa {aa:List REl}:∀(f:Nat) (n:Int),io (aW aa) (f+1) n<0->wi aa f n
 | 0,n,h=>by
  have h1:bi (aW aa) n<0:=h;rw[ea] at h1;exact h1
 | f+1,n,h=>by
  right;have h1:io (aW aa) (f+1) (bi (aW aa) n)<0:=h;rw[ea] at h1;exact Aa f _ h1
end
end
section
variable {cs:List eb}{d:PDc}{dl:List ei}{i i0 j l q:Nat}{ly:Int}{aV:List (Nat × Nat)}{ss:List (List (Nat × Nat))}
section
variable {s:ByteArray}
theorem IG {i:Nat}{t:ByteArray}:∀n,(∀k,k<n->bt t k=bt s (i+k)/\48<=bt s (i+k))->((kB t n:Nat):Int)=Cf s i n
 | 0,_=>rfl
 | n+1,h=>by
  have ih:=IG (i:=i) (t:=t) n (λk hk=>h k (by omega))
  obtain⟨h1,h2⟩:=h n (by omega)
  show((kB t n*10+(bt t n - 48):Nat):Int)=Cf s i n*10+((bt s (i+n):Int) - 48)
  rw[<-ih,h1]
  omega
theorem T4 {kd nu va:Int}(h:Dg s i j kd nu va)(hj:j<=s.size):ValRel (s.extract i j) kd nu va/\∀k,i<=k->k<j->bt s k≠33/\bt s k≠59/\bt s k≠125:=by
 have hz:(s.extract i j).size=j - i:=dP hj;rcases h with⟨h1,h2,_,_,h5⟩ | ⟨h1,h2,_,_,h5⟩ | ⟨h1,h2,_,_,h5⟩ | ⟨h1,h2,_,h4,h5,h6⟩ | ⟨h1,h2,_,h4,h5,h6,_⟩
 ·have h0:bt (s.extract i j) 0=bt s i:=by rw[bj hj (by omega)];rfl
  refine⟨ax ⟨by omega,by omega,h2⟩,λk k1 k2=>?_⟩;rw[show k=i from by omega];omega
 ·have h0:bt (s.extract i j) 0=bt s i:=by rw[bj hj (by omega)];rfl
  refine⟨az (ax ⟨by omega,by omega,h2⟩),λk k1 k2=>?_⟩;rw[show k=i from by omega];omega
 ·have h0:bt (s.extract i j) 0=bt s i:=by rw[bj hj (by omega)];rfl
  refine⟨az (az (ax ⟨by omega,by omega,h2⟩)),λk k1 k2=>?_⟩;rw[show k=i from by omega];omega
 ·have h0:bt (s.extract i j) 0=bt s i:=by rw[bj hj (by omega)];rfl
  have tc:bt (s.extract i j) 1=bt s (i+1):=by rw[bj hj (by omega)]
  have hv:=VT h5;refine⟨az (az (az (ax ⟨by omega,by omega,h2,by rw[tc];exact h4,by rw[tc];exact h5⟩))),λk k1 k2=>?_⟩
  by_cases e:k=i
  ·rw[e];omega
  ·rw[show k=i+1 from by omega];omega
 ·have hb:∀k,k<j - i->bt (s.extract i j) k=bt s (i+k):=λk hk=>bj hj (by omega);refine⟨az (az (az (az ⟨h1,by omega,by omega,λk hk=>?_,?_⟩))),λk k1 k2=>?_⟩
  ·rw[hb k (by omega)];exact h6 (i+k) (by omega) (by omega)
  ·rw[h2,hz];exact(IG (j - i) (λk hk=>⟨hb k hk,(yY (h6 (i+k) (by omega) (by omega))).1⟩)).symm
  ·have:=yY (h6 k k1 k2);omega
theorem pg (h:mD s i j d)(hj:j<=s.size):(∀k,i<=k->k<j->bt s k≠59/\bt s k≠125)/\i+2<j/\∀{a b:Nat},a<=i->j<=b->b<=s.size->Gg (mH (s.extract a b) (i - a) (j - a)) d:=by
 obtain⟨h1,h2,h3,k,h4,h5,h6⟩:=h;have hkj:k<=j:=by rcases h6 with h6 | h6<;>omega
 obtain⟨v1,v2⟩:=T4 h4 (by omega)
 have hp:bt s i≠59/\bt s i≠125:=by
  unfold xD tR at h1;rw[Bool.or_eq_true,bO,bO] at h1;omega
 refine⟨λx x1 x2=>?_,by omega,λ{a b} ha hb GK=>?_⟩
 ·by_cases e0:x=i
  ·rw[e0];exact hp
  ·by_cases e1:x=i+1
   ·rw[e1];omega
   ·by_cases e2:x<k
    ·exact(v2 x (by omega) e2).2
    ·have e3:x=k:=by rcases h6 with h6 | h6<;>omega
     rcases h6 with h6 | h6
     ·rw[e3];omega
     ·omega
 ·have il:(s.extract a b).size=b - a:=dP GK
  have jZ:(s.extract a b).extract (i - a+2) (j - a)=s.extract (i+2) j:=by
   apply ByteArray.ext;simp only[ByteArray.data_extract,Array.extract_extract]
   congr 1<;>omega
  have nX:(s.extract (i+2) j).size=j - (i+2):=dP hj;have hpr:bt (s.extract a b) (i - a)=bt s i:=by rw[bj GK (by omega),show a+(i - a)=i from by omega]
  have hl:bt (s.extract (i+2) j) ((s.extract (i+2) j).size - 1)=bt s (j - 1):=by rw[nX,bj hj (by omega)];congr 1;omega
  unfold mH;rw[jZ,hl,hpr];rcases h6 with⟨g1,g2,g3⟩ | ⟨g1,g2,g3⟩
  ·have e1:j - 1=k:=by omega
   rw[e1,aE g2]
   have hv:(s.extract (i+2) j).extract 0 ((s.extract (i+2) j).size - 1)=s.extract (i+2) k:=by
    rw[nX];apply ByteArray.ext;simp only[ByteArray.data_extract,Array.extract_extract]
    congr 1<;>omega
   exact⟨h2.symm,h1,g1.symm,by rw[hv];exact v1⟩
  ·have e1:bt s (j - 1)≠33:=by
    have:=(v2 (j - 1) (by omega) (by omega)).1;exact this
   rw[aA e1];exact⟨h2.symm,h1,g1.symm,by rw[g3];exact v1⟩
theorem sP {α β:Type}{R:α->β->Prop}:Rel2 R [] []:=⟨rfl,λi a b h=>by simp at h⟩
theorem nN {α β:Type}{R:α->β->Prop}{a:α}{b:β}{l:List α}{m:List β}(h:R a b)(hr:Rel2 R l m):Rel2 R (a :: l) (b :: m):=by
 refine⟨by simp[hr.1],λi x y hx hy=>?_⟩;cases i with
 | zero=>
  have h1:a=x:=by simpa using hx
  have h2:b=y:=by simpa using hy
  rw[<-h1,<-h2];exact h
 | succ i=>exact hr.2 i x y (by simpa using hx) (by simpa using hy)
theorem z9 {a b:Nat}(hb:b<=s.size)(hd:mD s l b d)(UJ:a<=l):∀{pre:List PDc} {i:Nat} {dl:List ei} {jj:Nat},a<=i->DcPre s i l pre->(s.extract a b).size<=jj->DeclsPre (s.extract a b) (i - a) jj dl->Rel2 Gg dl (pre++[d])
 | [],i,dl,jj,hai,h,Wv,hp=>by
  simp only[DcPre] at h;subst h;obtain⟨n1,n2,n3⟩:=pg hd hb;have il:(s.extract a b).size=b - a:=dP hb;cases dl with
  | nil=>
   simp only[DeclsPre] at hp;omega
  | cons x r=>
   obtain⟨p1,e,p2,p3,p4⟩:=hp;obtain⟨u1,u2,u3,u4⟩:=p2
   have he:e=b - a:=by
    by_cases h:e<b - a
    ·have KF:=u4 (by omega);rw[bj hb (by omega)] at KF;exact absurd KF (n1 (a+e) (by omega) (by omega)).1
    ·omega
   subst he
   have hr:r=[]:=by
    cases r with
    | nil=>rfl
    | cons y r'=>
     obtain⟨q1,_⟩:=p4;omega
   rw[hr,p3];exact nN (n3 hai aF hb) sP
 | d' :: pre,i,dl,jj,hai,⟨l',g1,g2,g3,g4⟩,Wv,hp=>by
  have il:(s.extract a b).size=b - a:=dP hb
  have GX:l'+1<=l:=by
   have nY:∀{pre:List PDc} {i j:Nat},DcPre s i j pre->i<=j:=λ{pre}=>by
    induction pre with
    | nil=>intro i j h;simp only[DcPre] at h;omega
    | cons x pre ih=>rintro i j ⟨l,_,h2,_,h4⟩;have:=ih h4;omega
   exact nY g4
  have hdb:=(pg hd hb).2.1;obtain⟨n1,n2,n3⟩:=pg g1 (by omega);cases dl with
  | nil=>
   simp only[DeclsPre] at hp;omega
  | cons x r=>
   obtain⟨p1,e,p2,p3,p4⟩:=hp;obtain⟨u1,u2,u3,u4⟩:=p2
   have he:e=l' - a:=by
    by_cases h:e<l' - a
    ·have KF:=u4 (by omega);rw[bj hb (by omega)] at KF;exact absurd KF (n1 (a+e) (by omega) (by omega)).1
    ·by_cases h2:l' - a<e
     ·have KF:=u3 (l' - a) (by omega) h2;rw[bj hb (by omega),show a+(l' - a)=l' from by omega] at KF;exact absurd g3 KF
     ·omega
   subst he;rw[p3];refine nN (n3 hai (by omega) hb) ?_;rw[show l' - a+1=l'+1 - a from by omega] at p4;exact z9 hb hd UJ (by omega) g4 Wv p4
theorem Sq {ds:List PDc}(h:CV s q j ds)(hj:j<=s.size)(hd:rE (s.extract (q+1) (j - 1)) dl):Rel2 Gg dl ds/\(∀k,q+1<=k->k<j - 1->bt s k≠125)/\bt s (j - 1)=125/\q+1<j:=by
 obtain⟨h1,h2⟩:=h;rcases h2 with⟨h2,rfl,rfl⟩ | ⟨h2,k,⟨pre,l,d,rfl,g2,g3,g4,g5⟩,hk,rfl⟩
 ·have hz:(s.extract (q+1) (q+2 - 1)).size=0:=by rw[dP (by omega)];omega
  obtain⟨jj,Wv,hp⟩:=hd
  have:dl=[]:=by
   cases dl with
   | nil=>rfl
   | cons x r=>
    obtain⟨p1,_⟩:=hp;omega
  rw[this];exact⟨sP,λk k1 k2=>by omega,h2,by omega⟩
 ·obtain⟨jj,Wv,hp⟩:=hd;rw[show k+1 - 1=k from by omega] at Wv hp ⊢
  have nY:∀{pre:List PDc} {i j:Nat},DcPre s i j pre->j<=s.size->i<=j/\∀x,i<=x->x<j->bt s x≠125:=λ{pre}=>by
   induction pre with
   | nil=>intro i j h _;simp only[DcPre] at h;exact⟨by omega,λx x1 x2=>by omega⟩
   | cons y pre ih=>
    rintro i j ⟨l,h1,h2,h3,h4⟩ Aj;obtain⟨i1,i2⟩:=ih h4 Aj;have n1:=(pg h1 (by omega)).1;refine⟨by omega,λx x1 x2=>?_⟩
    by_cases e:x<l
    ·exact(n1 x x1 e).2
    ·by_cases e2:x=l
     ·rw[e2,h3];omega
     ·exact i2 x (by omega) x2
  obtain⟨i1,i2⟩:=nY g2 (by omega);have n1:=(pg g3 (by omega)).1;have IY:DeclsPre (s.extract (q+1) k) (q+1 - (q+1)) jj dl:=by rw[Nat.sub_self];exact hp
  refine⟨z9 (by omega) g3 i1 aF g2 Wv IY,λx x1 x2=>?_,hk,by omega⟩
  by_cases e:x<l
  ·exact i2 x x1 e
  ·exact(n1 x (by omega) x2).2
def CS2 (s:ByteArray)(i0:Nat):List (Nat × Nat)->List eb->Prop
 | [],[]=>True
 | (p,q) :: r,x :: cs=>(fp s p q x.ty x.ps/\p<q/\q<=s.size/\x.sg=oU s i0 p)/\CS2 s i0 r cs
 | _,_=>False
theorem U0 {ty:Nat}{ks:List PPt}(hc:fp s l j ty ks)(GW:l<j)(Aj:j<=s.size):∀{pre:List eb} {i:Nat} {aV:List (Nat × Nat)},SelPre s i0 i l pre->mF s i j aV->CS2 s i0 aV (pre++[⟨oU s i0 l,ty,ks⟩])
 | [],i,aV,h,⟨pre',p,e1,e2,e3,e4⟩=>by
  simp only[SelPre] at h;subst h e1;cases pre' with
  | nil=>simp only[Segs] at e2;subst e2;exact⟨⟨hc,GW,Aj,rfl⟩,trivial⟩
  | cons x r=>
   obtain⟨p',q'⟩:=x;obtain⟨rfl,f2,f3,f4,f5⟩:=e2;have:=qj f5;have:=vK (j6 hc q' f3 (by omega));rw[f4] at this;cases this
 | c :: cs,i,aV,⟨l',h1,h2,h3,h4,h5,h6⟩,⟨pre',p,e1,e2,e3,e4⟩=>by
  have hl:=ki h5;subst e1;cases pre' with
  | nil=>
   simp only[Segs] at e2;subst e2;have:=e4 l' (by omega) (by omega);rw[h4] at this;cases this
  | cons x r=>
   obtain⟨p',q'⟩:=x;obtain⟨rfl,f2,f3,f4,f5⟩:=e2
   have hq:q'=l':=by
    by_cases a:q'<l'
    ·have:=vK (j6 h1 q' f3 a);rw[f4] at this;cases this
    ·by_cases b:l'<q'
     ·have:=f2 l' (by omega) b;rw[h4] at this;cases this
     ·omega
   subst hq;exact⟨⟨h1,h2,by omega,h6⟩,U0 hc GW Aj h5 ⟨r,p,rfl,f5,e3,e4⟩⟩
theorem Oq:∀{aV:List (Nat × Nat)} {cs:List eb},CS2 s i0 aV cs->aV.length=cs.length/\∀(k p q:Nat) (x:eb),aV[k]?=some (p,q)->cs[k]?=some x->fp s p q x.ty x.ps/\p<q/\q<=s.size/\x.sg=oU s i0 p
 | [],[],_=>⟨rfl,λk p q x h=>by simp at h⟩
 | [],_ :: _,h=>h.elim
 | (_,_) :: _,[],h=>h.elim
 | (p0,q0) :: r,y :: cs,⟨h1,h2⟩=>by
  obtain⟨i1,i2⟩:=Oq h2;refine⟨by simp[i1],λk p q x hk hx=>?_⟩;cases k with
  | zero=>
   have e1:(p0,q0)=(p,q):=by simpa using hk
   have e2:y=x:=by simpa using hx
   injection e1 with e3 e4
   rw[<-e2,<-e3,<-e4];exact h1
  | succ k=>exact i2 k p q x (by simpa using hk) (by simpa using hx)
theorem yl:∀{aV:List (Nat × Nat)} {i j:Nat},Segs s i j aV->∀(k p q:Nat),aV[k]?=some (p,q)->(k=0->p=i)/\(0<k->i<p/\jf (bt s (p - 1))=true)
 | [],_,_,_,k,p,q,h=>by simp at h
 | (p0,q0) :: r,i,j,⟨h1,h2,h3,h4,h5⟩,k,p,q,h=>by
  cases k with
  | zero=>
   have e1:(p0,q0)=(p,q):=by simpa using h
   injection e1 with e3 e4
   exact⟨λ_=>by omega,λh=>by omega⟩
  | succ k=>
   obtain⟨g1,g2⟩:=yl h5 k p q (by simpa using h);refine⟨λh=>by omega,λ_=>?_⟩
   by_cases hk:k=0
   ·have:=g1 hk;refine⟨by omega,?_⟩;rw[show p - 1=q0 from by omega];exact h4
   ·have:=g2 (by omega);exact⟨by omega,this.2⟩
theorem CB (h:mF s i j aV):∀(k p q:Nat),aV[k]?=some (p,q)->(k=0->p=i)/\(0<k->i<p/\jf (bt s (p - 1))=true):=by
 obtain⟨pre,p0,rfl,h2,h3,_⟩:=h;intro k p q hk
 by_cases hl:k<pre.length
 ·rw[List.getElem?_append_left hl] at hk;exact yl h2 k p q hk
 ·have qu:k=pre.length:=by
   have:=(ee.1 hk).1;simp at this;omega
  rw[List.getElem?_append_right (by omega),qu,Nat.sub_self] at hk;have e1:(p0,j)=(p,q):=by simpa using hk
  injection e1 with e3 e4
  subst e3
  have nY:∀{pre:List (Nat × Nat)} {i p0:Nat},Segs s i p0 pre->(pre=[]->p0=i)/\(pre≠[]->i<p0/\jf (bt s (p0 - 1))=true):=λ{pre}=>by
   induction pre with
   | nil=>intro i p0 h;simp only[Segs] at h;exact⟨λ_=>by omega,λh=>absurd rfl h⟩
   | cons x pre ih=>
    obtain⟨px,qx⟩:=x;rintro i p0 ⟨g1,g2,g3,g4,g5⟩;refine⟨λh=>(by cases h),λ_=>?_⟩;have:=qj g5
    by_cases hp:pre=[]
    ·have h6:=(ih g5).1 hp;refine⟨by omega,?_⟩;rw[show p0 - 1=qx from by omega];exact g4
    ·exact⟨by omega,((ih g5).2 hp).2⟩
  refine⟨λh0=>(nY h2).1 (List.length_eq_zero_iff.1 (by omega)),λh0=>(nY h2).2 (λe=>?_)⟩;rw[e] at qu;simp at qu;omega
def ou (s:ByteArray)(aV:List (Nat × Nat)):List RComp:=aV.mapIdx λi x=>⟨(pT s i x.1).toNat,s.extract x.1 x.2⟩
theorem Cw {p:Nat}(h:aV[i]?=some (p,q)):(ou s aV)[i]?=some ⟨(pT s i p).toNat,s.extract p q⟩:=by
 unfold ou;rw[List.getElem?_mapIdx,h];rfl
theorem jT (aV:List (Nat × Nat)):(ou s aV).length=aV.length:=by unfold ou;simp
theorem Jy (hs:s.size<=400)(h:lC s i j cs)(h':mF s i j aV)(Aj:j<=s.size):Gh (ou s aV) cs:=by
 have Ec:=CB h';have aeo:=h';obtain⟨pre,l,ty,ks,rfl,h2,h3,h4,_,_⟩:=h;obtain⟨c1,c2⟩:=Oq (U0 h3 h4 Aj h2 h');obtain⟨pre',p0,CP,hsg,IY,_⟩:=aeo
 have bT:aV.length<=400:=by
  have nY:∀{pre:List (Nat × Nat)} {i p0:Nat},Segs s i p0 pre->pre.length<=p0 - i:=λ{pre}=>by
   induction pre with
   | nil=>intro i p0 h;simp
   | cons x pre ih=>
    obtain⟨px,qx⟩:=x;rintro i p0 ⟨g1,g2,g3,g4,g5⟩;have h1:=ih g5;have:=qj g5;rw[List.length_cons];omega
  have h5:=nY hsg;have h6:=qj hsg;rw[CP,List.length_append];have h7:aV[pre'.length]?=some (p0,j):=by rw[CP,List.getElem?_append_right aF,Nat.sub_self];rfl
  have h8:pre'.length<(pre++[(⟨oU s i l,ty,ks⟩:eb)]).length:=by rw[<-c1,CP];simp
  have h9:=(c2 pre'.length p0 j _ h7 (bW h8)).2.1;simp;omega
 refine⟨⟨by rw[jT];exact c1,λk rc x hk hx=>?_⟩,?_,by rw[jT];exact bT,λk rc D3 hk=>?_⟩
 ·have qu:k<aV.length:=by have:=(ee.1 hk).1;rw[jT] at this;exact this
  obtain⟨⟨p,q⟩,kK⟩:∃y,aV[k]?=some y:=⟨_,bW qu⟩;rw[Cw kK] at hk;injection hk with hk
  obtain⟨d1,d2,d3,d4⟩:=c2 k p q x kK hx;obtain⟨s1,s2⟩:=Ec k p q kK;rw[<-hk];refine⟨?_,s,p,q,hs,d2,d3,rfl,d1⟩;rw[d4];show(((pT s k p).toNat:Nat):Int)=oU s i p;unfold pT oU
  by_cases h0:k=0
  ·rw[aE h0,aE (s1 h0)];rfl
  ·rw[aA h0,aA (by have:=(s2 (by omega)).1;omega)];omega
 ·rw[jT,CP];simp
 ·have qu:k<aV.length:=by have:=(ee.1 hk).1;rw[jT] at this;exact this
  obtain⟨⟨p,q⟩,kK⟩:∃y,aV[k]?=some y:=⟨_,bW qu⟩;rw[Cw kK] at hk;injection hk with hk
  rw[<-hk];have:=((Ec k p q kK).2 D3).2;show jf (pT s k p).toNat=true;unfold pT;rw[aA (by omega),Int.toNat_natCast];exact this
theorem Fb (hs:s.size<=400)(hc:lC s l j cs)(GW:l<j)(Aj:j<=s.size):∀{pre:List (List eb)} {i:Nat} {ss:List (List (Nat × Nat))},SelsPre s i l pre->rL s i j ss->Rel2 Gh (ss.map (ou s)) (pre++[cs])/\ss.length<=j - i
 | [],i,ss,h,⟨pre',p,aV,e1,e2,e3,e4,e5⟩=>by
  simp only[SelsPre] at h;subst h e1;cases pre' with
  | nil=>
   simp only[RSelsPre] at e2;subst e2;exact⟨nN (Jy hs hc e3 Aj) sP,by simp;omega⟩
  | cons x r=>
   obtain⟨l',f1,f2,f3,f4,f5⟩:=e2;have:=jG f5;exact absurd f3 (ql hc l' f2 (by omega)).1
 | c' :: V0,i,ss,⟨l',h1,h2,h3,h4⟩,⟨pre',p,aV,e1,e2,e3,e4,e5⟩=>by
  have hl:=jx h4;subst e1;cases pre' with
  | nil=>
   simp only[RSelsPre] at e2;subst e2;exact absurd h3 (e5 l' (by omega) (by omega))
  | cons x r=>
   obtain⟨q',f1,f2,f3,f4,f5⟩:=e2
   have hq:q'=l':=by
    by_cases a:q'<l'
    ·exact absurd f3 (ql h1 q' f2 a).1
    ·by_cases b:l'<q'
     ·exact absurd h3 (f4 l' (by omega) b)
     ·omega
   subst hq;obtain⟨i1,i2⟩:=Fb hs hc GW Aj h4 ⟨r,p,aV,rfl,f5,e3,e4,e5⟩;refine⟨nN (Jy hs h1 f1 (by omega)) i1,?_⟩;rw[List.cons_append,List.length_cons];omega
theorem Pr (h:rK s i j ss)(h':Bx s i l ly dl):j=l:=by
 obtain⟨p,q,a1,a2,a3,a4,a5,a6,a7⟩:=h;obtain⟨p',q',b1,b2,b3,b4,b5,b6,b7,_⟩:=h';obtain rfl:=qd a1 b1
 have kK:p<=q:=by
  obtain⟨pre,l',aV,_,e2,e3,e4,_⟩:=a2;have:=jG e2;omega
 have hq:q=q':=by
  by_cases x:q<q'
  ·exact absurd a3 (b3 q kK x)
  ·by_cases y:q'<q
   ·exact absurd b2 (a4 q' (by omega) y)
   ·omega
 subst hq
 by_cases x:j<l
 ·exact absurd a6 (b7 (j - 1) (by omega) (by omega))
 ·by_cases y:l<j
  ·exact absurd b6 (a7 (l - 1) (by omega) (by omega))
  ·omega
theorem QF (hs:s.size<=400){ru:dx}(Aj:j<=s.size)(h:ts s i j ru)(h':rK s i j ss)(hi:Bx s i j ly dl):y9 ⟨ly,ss.map (ou s),dl⟩ ru:=by
 obtain⟨p,q,a1,a2,a3,a4,a5,_,a7,a8⟩:=h;obtain⟨p',q',b1,b2,b3,b4,b5,b6,b7⟩:=h';obtain⟨p2,q2,c1,c2,c3,c4,c5,c6,c7,c8,c9⟩:=hi;obtain rfl:=qd a1 b1;obtain rfl:=qd a1 c1
 have kK:p<=q':=by
  obtain⟨pre,l',aV,_,e2,e3,e4,_⟩:=b2;have:=jG e2;omega
 have KY:q=q':=by
  by_cases x:q'<q
  ·exact absurd b3 (yq a2 q' kK x)
  ·by_cases y:q<q'
   ·exact absurd a4 (b4 q (by omega) y)
   ·omega
 have zj:q2=q':=by
  by_cases x:q'<q2
  ·exact absurd b3 (c3 q' kK x)
  ·by_cases y:q2<q'
   ·exact absurd c2 (b4 q2 (by omega) y)
   ·omega
 subst zj KY;obtain⟨pre,x,cs,e1,e2,e3,e4,_⟩:=a2;obtain⟨r1,r2⟩:=Fb hs e3 e4 (by omega) e2 b2;obtain⟨d1,_⟩:=Sq a8 Aj c9;refine⟨by rw[c8,a7];rfl,by rw[e1];exact r1,d1,by rw[List.length_map];omega,?_⟩;obtain⟨jj,Wv,hp⟩:=c9
 have nY:∀{dl:List ei} {i jj:Nat} {t:ByteArray},DeclsPre t i jj dl->dl.length<=t.size - i:=λ{dl}=>by
  induction dl with
  | nil=>intro i jj t _;simp
  | cons x r ih=>
   rintro i jj t ⟨p1,e,p2,p3,p4⟩;have h1:=ih p4;have h2:=p2.1;rw[List.length_cons];omega
 have h1:=nY hp;rw[dP (by omega)] at h1;show dl.length<=400;omega
def Cz (s:ByteArray):List (List (List (Nat × Nat)))->List (Int × List ei)->List eI
 | ss :: rs,(ly,dl) :: is=>⟨ly,ss.map (ou s),dl⟩ :: Cz s rs is
 | _,_=>[]
theorem A8 (hs:s.size<=400):∀{rs:List dx} {Js:List (List (List (Nat × Nat)))} {is:List (Int × List ei)} {i:Nat} {k:Cn} {M:Int},Acc s 0 k i M->RulsAt s i s.size rs->RRulsAt s i s.size Js->RInfsAt s i s.size is->Rel2 y9 (Cz s Js is) rs/\Js.length=rs.length/\is.length=rs.length/\rs.length<=s.size - i
 | [],[],[],_,_,_,_,_,_,_=>⟨sP,rfl,rfl,by simp⟩
 | [],_ :: _,_,_,_,_,_,h,⟨_,_,h2,h3⟩,_=>by simp only[RulsAt] at h;have:=pS h3;omega
 | [],[],(_,_) :: _,_,_,_,_,h,_,⟨_,_,h2,h3⟩=>by
  simp only[RulsAt] at h
  have nY:∀{is:List (Int × List ei)} {i j:Nat},RInfsAt s i j is->i<=j:=λ{is}=>by
   induction is with
   | nil=>intro i j h;simp only[RInfsAt] at h;omega
   | cons x is ih=>obtain⟨_,_⟩:=x;rintro i j ⟨l,_,h2,h3⟩;have:=ih h3;omega
  have:=nY h3;omega
 | _ :: _,[],_,_,_,_,_,⟨_,_,h2,h3⟩,h,_=>by simp only[RRulsAt] at h;have:=mz h3;omega
 | _ :: _,_ :: _,[],_,_,_,_,⟨_,_,h2,h3⟩,_,h=>by simp only[RInfsAt] at h;have:=mz h3;omega
 | r :: rs,ss :: Js,(ly,dl) :: is,i,k,M,ha,⟨j,a1,a2,a3⟩,⟨l,b1,b2,b3⟩,⟨l2,c1,c2,c3⟩=>by
  have hj:=mz a3;have hl:=pS b3;obtain⟨rfl,_,k',M',d3⟩:=AD ha (by omega) hj hl a1 b1;obtain rfl:=Pr b1 c1;obtain⟨i1,i2,i3,i4⟩:=A8 hs d3 a3 b3 c3;refine⟨nN (QF hs (by omega) a1 b1 c1) i1,by simp[i2],by simp[i3],?_⟩;rw[List.length_cons];omega
theorem Og (w:World){s:ByteArray}(hs:s.size<=maxLen)(h4:s.size<=400)(hc:(eH s).1=0):RulsAt s 0 s.size (eQ s):=by
 obtain⟨e,w',_,⟨a,n,c,_,_,h⟩,_⟩:=pP w s hs [];obtain⟨rs,xs,_,_,_,h4'⟩:=h hc;rw[A7 h4 h4'];exact h4'
end
end
section
variable {aB:Nat}{s:ByteArray}{w:World}
theorem EV:∀{xs:List Value} {ss:List (List (Nat × Nat))} {i:Nat},RSels w s aB xs ss->(h:i<ss.length)->∃(a:Option Addr) (c:Nat) (ps:List Value),xs[i]?=some (.slice a ss[i].length c)/\w.ownsRow aB 117 2 (.slice a ss[i].length c) ss[i].length ps/\Txs s ps ss[i]
 | _,cs :: ss,0,⟨a,c,ps,ys,h1,h2,h3,_⟩,_=>by subst h1;exact⟨a,c,ps,rfl,h2,h3.1⟩
 | _,cs :: ss,i+1,⟨a,c,ps,ys,h1,h2,h3,h4⟩,h=>by
  obtain⟨a',c',tf,e1,e2,e3⟩:=EV (i:=i) h4 (by simpa using h);subst h1;exact⟨a',c',tf,by simpa using e1,by simpa using e2,by simpa using e3⟩
theorem EU:∀{xs:List Value} {rs:List (List (List (Nat × Nat)))} {i:Nat},RRuls w s aB xs rs->(h:i<rs.length)->∃(a:Option Addr) (c:Nat) (ps:List Value),xs[i*3+1]?=some (.slice a rs[i].length c)/\w.ownsRow aB 81 1 (.slice a rs[i].length c) rs[i].length ps/\RSels w s aB ps rs[i]
 | _,ss :: rs,0,⟨lv,a,c,vD,ps,ys,h1,h2,h3,_⟩,_=>by subst h1;exact⟨a,c,ps,rfl,h2,h3⟩
 | _,ss :: rs,i+1,⟨lv,a,c,vD,ps,ys,h1,h2,h3,h4⟩,h=>by
  obtain⟨a1,c1,ps1,e1,e2,e3⟩:=EU (i:=i) h4 (by simpa using h);subst h1;rw[show(i+1)*3+1=i*3+1+3 from by omega];exact⟨a1,c1,ps1,by simpa using e1,by simpa using e2,by simpa using e3⟩
theorem Iz (h:(eH s).1=0):∃M,Acc s 0 K0 0 M:=by
 have h4:=ll h;unfold eH at h;rw[aA (by omega)] at h
 by_cases hv:0<=(V s 0 K0 0).1
 ·rw[aE hv] at h;simp at h
 ·refine⟨(V s 0 K0 0).2,Prod.ext ?_ rfl⟩;have:=Nj s 0 K0 0;show _=(-1:Int);omega
def De (w:World)(s:ByteArray)(r c:Int)(rs:List dx)(e:Ending)(w':World):Prop:=
 ∃x y:Int,e=.returned (.tuple #[.int .i64 x,.int .i64 y])/\Below w.heap.size w w'/\Hid (((eH s).1≠0->(x,y)=(0,(eH s).1))/\((eH s).1=0->(x,y)=pZ rs r c))
theorem zE (w:World)(s:ByteArray)(r c:Int)(rs:List dx)(hs:s.size<=maxLen)(CR:Hid ((eH s).1=0->RulsAt s 0 s.size rs)):
  Calls prog 12 #[.string s,.int .i64 r,.int .i64 c] w λe w'=>De w s r c rs e w':=by
 go_enter func12,ntmps12;go_wp2_with fail;refine(mw _ s hs).mono ?_;rintro e w1 ⟨pa,rfl,hb,Ah⟩;have hz:=hb.size
 by_cases h0:(eH s).1=0
 ·obtain⟨b,a,c1,Js,xs,mn,rfl,oS,ho,hr,ht,_⟩:=Ah h0;have H0:=aw h0;obtain⟨M,hM⟩:=Iz h0;have hRS:=xK hM (CR.out h0) ht;have bT:=QD hRS;obtain⟨B5,FT⟩:=ow (CR.out h0) (ll h0);have FX:=ll h0;have HX:=kC FT hRS bT;have Rg:=bZ ho hr;have d0:=oS.c0;rw[h0];generalize (eH s).2=y2;rw[bT] at d0;have MM:rs.length<=400:=by omega
  clear h0 ho hr ht FT Ah hM hRS bT oS
  by_cases ML:r<0
  ·have hd:decide (r<0)=true:=by simpa using ML
   have HW:Hid (pZ rs r c=(0,4)):=vQ (by omega);clear ML;go_wp2;go_ret2;exact⟨0,4,rfl,hb,λh=>absurd H0.out h,λ_=>HW.out.symm⟩
  have hd:decide (r<0)=false:=by simpa using ML
  by_cases IZ:(rs.length:Int)<=r
  ·have XG:decide ((rs.length:Int)<=r)=true:=by simpa using IZ
   have HW:Hid (pZ rs r c=(0,4)):=vQ (by omega);clear IZ;go_wp2;go_ret2;exact⟨0,4,rfl,hb,λh=>absurd H0.out h,λ_=>HW.out.symm⟩
  have XG:decide ((rs.length:Int)<=r)=false:=by simpa using IZ
  obtain⟨k,rfl⟩:∃k:Nat,r=k:=⟨r.toNat,by omega⟩;have hk:k<rs.length:=by omega
  have Rt:k<Js.length:=by rw[HX.out.2.2];exact hk
  have HK:=aw (JK hk)
  by_cases KJ:c<0
  ·have iC:decide (c<0)=true:=by simpa using KJ
   have HW:Hid (pZ rs (k:Int) c=(0,4)):=by unfold Hid;rw[HK.out,vR (by omega)]
   clear KJ ML IZ;go_wp2;go_ret2;exact⟨0,4,rfl,hb,λh=>absurd H0.out h,λ_=>HW.out.symm⟩
  have iC:decide (c<0)=false:=by simpa using KJ
  obtain⟨a2,c2,ps,e1,e2,e3⟩:=EU Rg.out.2 Rt;obtain⟨g,hg,di,gM⟩:=aX Rg.out.1 (by omega);subst hg;have q1:=gM _ _ e1;obtain⟨Pi,uG⟩:=HX.out.1 rs[k] (bN hk);have hSS:=Ve HX.out.2.1 Rt hk;have CT:=QN hSS;have HE:Hid (w1.ownsRow w.heap.size 81 1 (.slice a2 Js[k].length c2) Js[k].length ps/\RSels w1 s w.heap.size ps Js[k]/\SS s Js[k] rs[k].ss/\∀cs∈rs[k].ss,o9 cs):=⟨e2,e3,hSS,uG⟩;clear e1 e2 e3 gM ML IZ uG hSS;generalize rs[k].ss=ss at HE Pi HK CT;generalize Js[k]=ss' at q1 HE CT;rw[CT] at q1;have rz:=aw CT;clear CT
  by_cases lZ:(ss.length:Int)<=c
  ·have uA:decide ((ss.length:Int)<=c)=true:=by simpa using lZ
   have HW:Hid (pZ rs (k:Int) c=(0,4)):=by unfold Hid;rw[HK.out,vR (by omega)]
   clear lZ;go_wp2;go_ret2;exact⟨0,4,rfl,hb,λh=>absurd H0.out h,λ_=>HW.out.symm⟩
  have uA:decide ((ss.length:Int)<=c)=false:=by simpa using lZ
  obtain⟨m,rfl⟩:∃m:Nat,c=m:=⟨c.toNat,by omega⟩;have hm:m<ss.length:=by omega
  have qv:m<ss'.length:=by rw[rz.out];exact hm
  obtain⟨a3,c3,ps3,e1,e2,e3⟩:=EV HE.out.2.1 qv;obtain⟨g',vk,O7,hgc'⟩:=aX HE.out.1 (by omega);subst vk;have q2:=hgc' _ _ e1;have HW:Hid (pZ rs (k:Int) (m:Int)=(((qS ss[m]:Nat):Int),0)):=by unfold Hid;rw[HK.out,JL hm]
  have yQ:=uz e2 e3 (Vg HE.out.2.2.1 qv hm) (HE.out.2.2.2 ss[m] (bN hm));clear e1 e2 e3 hgc' KJ lZ;generalize ss[m]=cs at HW yQ;generalize ss'[m]=aV at q2 yQ;go_wp2_with fail;refine(ER _ (some ⟨b,0,none⟩) w.heap.size s a3 c3 aV cs ps3 yQ.out.1 yQ.out.2.1 yQ.out.2.2.1 yQ.out.2.2.2 FX).mono ?_;rintro e w2 ⟨rfl,oW⟩;have dk:=hb.trans (oW.mono hz);go_wp2_with fail;go_ret2;exact⟨_,0,rfl,dk,λh=>absurd H0.out h,λ_=>HW.out.symm⟩
 ·have H0:=aw h0;have fG:((eH s).1 != 0)=true:=by simp[h0]
  obtain⟨x,hx⟩:∃x,(eH s).1=x:=⟨_,rfl⟩;have HXE:=aw hx;rw[hx] at fG ⊢;generalize (eH s).2=y2;clear h0 hx Ah;go_wp2;go_ret2;exact⟨0,x,rfl,hb,λ_=>by rw[HXE.out],λh=>absurd h H0.out⟩
end
section
variable {G:Nat->Prop}{Rr:List eI}{hp:Option Addr}{s:ByteArray}{w w':World}{xs:List Value}
theorem qg {aB:Nat}{e:TypeId}{sz:Nat}{v:Value}{n:Nat}(h:w.ownsRow aB e sz v n xs)(hk:∀k,aB<=k->k<w.heap.size->w'.heap[k]?=w.heap[k]?):w'.ownsRow aB e sz v n xs:=by
 refine⟨h.1,?_⟩;rcases h.2 with hn | ⟨g,ij,gu,hv,hb,hg,rest⟩
 ·exact ax hn
 ·exact az ⟨g,ij,gu,hv,hb,(hk g hb (bG.1 hg).1).trans hg,rest⟩
theorem QW:∀{xs:List Value} {aV:List (Nat × Nat)},Txs s xs aV->∀(i p q:Nat),aV[i]?=some (p,q)->xs[i*2+1]?=some (.string (s.extract p q))
 | _,[],_,i,p,q,h=>by simp at h
 | _,(p0,q0) :: r,⟨sg,ys,h1,h2⟩,i,p,q,h=>by
  subst h1;cases i with
  | zero=>
   have e1:(p0,q0)=(p,q):=by simpa using h
   injection e1 with e3 e4
   rw[<-e3,<-e4];rfl
  | succ i=>
   have:=QW h2 i p q (by simpa using h);rw[show(i+1)*2+1=i*2+1+1+1 from by omega,List.getElem?_cons_succ,List.getElem?_cons_succ];exact this
theorem Kw (cs:List RComp):(nj cs).length=cs.length*2:=by
 induction cs with
 | nil=>rfl
 | cons c l ih=>unfold nj at ih ⊢;rw[List.flatMap_cons,List.length_append,ih,List.length_cons];simp;omega
theorem SN {aV:List (Nat × Nat)}(ht:Txs s xs aV)(hg:Sgs s xs aV):xs=nj (ou s aV):=by
 have hl:=ht.len;apply List.ext_getElem?;intro j
 by_cases hj:j<aV.length*2
 ·have hi:j / 2<aV.length:=by omega
  obtain⟨⟨p,q⟩,kK⟩:∃y,aV[j / 2]?=some y:=⟨_,bW hi⟩;have hrc:=Cw (s:=s) kK;have jQ:j / 2<(ou s aV).length:=by rw[jT];exact hi
  have yU:(ou s aV)[j / 2]=⟨(pT s (j / 2) p).toNat,s.extract p q⟩:=by
   rw[bW jQ] at hrc;injection hrc
  obtain⟨f1,f2⟩:=rX jQ;rw[yU] at f1 f2
  by_cases h0:j % 2=0
  ·have e1:j=j / 2*2:=by omega
   rw[e1];rw[hg (j / 2) p q kK,f1]
   have:(((pT s (j / 2) p).toNat:Nat):Int)=pT s (j / 2) p:=by
    unfold pT;split<;>omega
   show some (Value.int .u8 (pT s (j / 2) p))=some (.int .u8 (((pT s (j / 2) p).toNat:Nat):Int));rw[this]
  ·have e1:j=j / 2*2+1:=by omega
   rw[e1];rw[QW ht (j / 2) p q kK,f2]
 ·rw[List.getElem?_eq_none (by omega),List.getElem?_eq_none (by rw[Kw,jT];omega)]
section
variable {s:ByteArray}{aB:Nat}
theorem RSels.agree (hk:∀k,aB<=k->k<w.heap.size->w'.heap[k]?=w.heap[k]?):∀{xs:List Value} {ss:List (List (Nat × Nat))},RSels w s aB xs ss->RSels w' s aB xs ss
 | _,[],h=>h
 | _,_ :: _,⟨a,c,ps,ys,h1,h2,h3,h4⟩=>⟨a,c,ps,ys,h1,qg h2 hk,h3,RSels.agree hk h4⟩
theorem RRuls.agree (hk:∀k,aB<=k->k<w.heap.size->w'.heap[k]?=w.heap[k]?):∀{xs:List Value} {rs:List (List (List (Nat × Nat)))},RRuls w s aB xs rs->RRuls w' s aB xs rs
 | _,[],h=>h
 | _,_ :: _,⟨lv,a,c,vD,ps,ys,h1,h2,h3,h4⟩=>⟨lv,a,c,vD,ps,ys,h1,qg h2 hk,h3.agree hk,RRuls.agree hk h4⟩
theorem RDecs.agree (hk:∀k,aB<=k->k<w.heap.size->w'.heap[k]?=w.heap[k]?):∀{xs:List Value} {is:List (Int × List ei)},RDecs w aB xs is->RDecs w' aB xs is
 | _,[],h=>h
 | _,(_,_) :: _,⟨vS,a,c,ys,h1,h2,h3⟩=>⟨vS,a,c,ys,h1,qg h2 hk,RDecs.agree hk h3⟩
theorem Jt:∀{xs:List Value} {ss:List (List (Nat × Nat))},RSels w s aB xs ss->SelsM w 0 xs (ss.map (ou s))
 | _,[],_=>λi hi=>by simp at hi
 | _,aV :: ss,⟨a,c,ps,ys,h1,h2,⟨h3,h3'⟩,h4⟩=>λi hi=>by
  subst h1;cases i with
  | zero=>
   refine⟨a,c,?_,?_⟩
   ·show some (Value.slice a aV.length c)=some (.slice a (ou s aV).length c);rw[jT]
   ·show w.ownsRow 0 117 2 (.slice a (ou s aV).length c) (ou s aV).length (nj (ou s aV));rw[jT,<-SN h3 h3'];exact ba h2 bm
  | succ i=>exact Jt h4 i (by simpa using hi)
theorem yi:∀{xs:List Value} {rs:List (List (List (Nat × Nat)))} {is:List (Int × List ei)},RRuls w s aB xs rs->RDecs w aB xs is->rs.length=is.length->(Cz s rs is).length=rs.length/\∀r (h:r<(Cz s rs is).length),RuM w xs r (Cz s rs is)[r]
 | _,[],[],_,_,_=>⟨rfl,λr h=>by simp[Cz] at h⟩
 | _,[],_ :: _,_,_,h=>by simp at h
 | _,_ :: _,[],_,_,h=>by simp at h
 | _,ss :: rs,(ly,dl) :: is,⟨lv,a,c,vD,ps,ys,h1,h2,h3,h4⟩,⟨vS,a',c',ys',g1,g2,g3⟩,hl=>by
  subst h1;injection g1 with e1 g1
  injection g1 with e2 g1
  injection g1 with e3 g1
  injection e1 with _ e1
  subst g1 e3 e2 e1;obtain⟨i1,i2⟩:=yi h4 g3 (by simpa using hl);refine⟨by simp[Cz,i1],λr hr=>?_⟩;cases r with
  | zero=>
   refine⟨a,c,a',c',ps,rfl,?_,rfl,?_,?_,ba g2 bm⟩
   ·show some (Value.slice a ss.length c)=some (.slice a (ss.map (ou s)).length c);rw[List.length_map]
   ·show w.ownsRow 0 81 1 (.slice a (ss.map (ou s)).length c) (ss.map (ou s)).length ps;rw[List.length_map];exact ba h2 bm
   ·exact Jt h3
  | succ r=>
   obtain⟨aS,cS,aD,cD,zs,k1,k2,k3,k4⟩:=i2 r (by simpa[Cz] using hr);refine⟨aS,cS,aD,cD,zs,?_,?_,?_,k4⟩
   ·rw[show(r+1)*3=r*3+1+1+1 from by omega,List.getElem?_cons_succ,List.getElem?_cons_succ,List.getElem?_cons_succ];exact k1
   ·rw[show(r+1)*3+1=r*3+1+1+1+1 from by omega,List.getElem?_cons_succ,List.getElem?_cons_succ,List.getElem?_cons_succ];exact k2
   ·rw[show(r+1)*3+2=r*3+2+1+1+1 from by omega,List.getElem?_cons_succ,List.getElem?_cons_succ,List.getElem?_cons_succ];exact k3
end
def ShIn (w:World)(G:Nat->Prop)(hp:Option Addr)(Rr:List eI):Prop:=∀w':World,(∀k,G k->k<w.heap.size->w'.heap[k]?=w.heap[k]?)->ShM w' hp Rr
theorem ShIn.keep (h:ShIn w G hp Rr)(hk:∀k,G k->k<w.heap.size->w'.heap[k]?=w.heap[k]?)(hz:w.heap.size<=w'.heap.size):ShIn w' G hp Rr:=λw2 h2=>h w2 (λk hg hl=>(h2 k hg (by omega)).trans (hk k hg hl))
theorem ShIn.here (h:ShIn w G hp Rr):ShM w hp Rr:=h w (λ_ _ _=>rfl)
theorem ye {e:Ending}(hs:s.size<=maxLen)(h:zM w s e w')(hc:(eH s).1=0):∃(pa:Option Addr) (Rr:List eI),e=.returned (.tuple #[.pointer pa,.int .i64 0,.int .i64 (eH s).2])/\Below w.heap.size w w'/\ShIn w' (λk=>w.heap.size<=k/\k<w'.heap.size) pa Rr/\Rel2 y9 Rr (eQ s)/\Rr.length<=400:=by
 obtain⟨pa,he,hB,h0⟩:=h;obtain⟨b,a,c,rs,xs,mn,hpa,oS,WG,UR,hra,⟨is,hde,jZ⟩,hbb⟩:=h0 hc;have h4:=ll hc;obtain⟨M,B0⟩:=Iz hc;obtain⟨r1,r2,r3,r4⟩:=A8 h4 B0 (Og w hs h4 hc) hra jZ;obtain⟨m1,_⟩:=yi UR hde (by omega);refine⟨pa,Cz s rs is,by rw[<-hc];exact he,hB,λw2 hk=>?_,r1,by omega⟩;have gg:∀k,w.heap.size<=k->k<w'.heap.size->w2.heap[k]?=w'.heap[k]?:=λk h1 h2=>hk k ⟨h1,h2⟩ h2;obtain⟨_,m2⟩:=yi (UR.agree gg) (hde.agree gg) (by omega);refine⟨b,a,c,xs,mn,hpa,?_,?_,m2⟩
 ·rw[m1];exact(gg b hbb oS.lt).trans oS
 ·rw[m1];exact ba (qg WG gg) bm
end
end Go.Proofs.YtblfffbmklkhmabGreat
