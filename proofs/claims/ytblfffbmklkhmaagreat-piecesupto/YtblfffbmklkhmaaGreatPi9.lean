/- Own work. -/
import Derived.Test.YtblfffbmklkhmaaGreatPi1
import Derived.Test.YtblfffbmklkhmaaGreatPi8
import Derived.Test.YtblfffbmklkhmaaGreatPi6
import Derived.Test.YtblfffbmklkhmaaGreatPi7
import Derived.Test.YtblfffbmklkhmaaGreatPi3
import Derived.Test.YtblfffbmklkhmaaGreatPi4
set_option maxRecDepth 100000
set_option maxHeartbeats 40000000
namespace Go.Proofs.YtblfffbmklkhmaaGreat
open Go.RowKit Go.Proofs.Tryz
section
variable {c i j q:Nat}{p:PPt}{y:REl}
section
variable {els:List REl}{made:Nat}{M:Nat->Mk}{s:ByteArray}
theorem Js (h:gw c=true):97<=c/\c<=122:=by simpa[gw] using h
theorem yC (h:iJ c=true):48<=c/\c<=57:=by simpa[iJ] using h
theorem dH (h:j<=s.size):(s.extract i j).size=j - i:=by rw[ByteArray.size_extract];omega
theorem zS (hw:TW (aK els) made)(hm:RM els M)(hy:y∈els)(hj:i+1<=s.size)(hl:gw (bt s i)=true):dT els y (s.extract i (i+1))=(bg (aK els) M).ty y.num (bt s i)/\vC (s.extract i (i+1)):=by
 have h0:bt (s.extract i (i+1)) 0=bt s i:=by rw[ba hj (by omega)];rfl
 have hb:=Js hl;have hz:=dH (i:=i) hj;refine⟨?_,⟨by omega,λh=>by omega,λh=>by omega,λh=>by omega,by omega⟩⟩;unfold dT;rw[h0,aj (by omega),aj (by omega),aj (by omega),aj (by omega)];obtain⟨k1,k2⟩:=hm.kd y hy
 have hk:y.kd.size=1:=by
  unfold aG at k1;rw[Bool.and_eq_true,bF] at k1;exact k1.1
 rw[BQ hk (by omega),h0];show _=fJ (aK els) M y.num (bt s i);unfold fJ;rw[nK hw hy,Option.isSome_some,Bool.true_and,Int.toNat_natCast,k2]
theorem ug (hw:TW (aK els) made)(hm:RM els M)(hy:y∈els)(hs:s.size<=400)(hj:j<=s.size)(h:ig s i p j):dT els y (s.extract i j)=pC (bg (aK els) M) p y.num/\vC (s.extract i j)/\(bt s i=46∨bt s i=35∨bt s i=58):=by
 obtain⟨hp,_,_,Fh,hb,_,qA⟩:=h;have L5:2<=sl s i:=by unfold sl;split<;>omega
 have h0:bt (s.extract i j) 0=bt s i:=by rw[ba hj (by omega)];rfl
 have h1:bt (s.extract i j) 1=bt s (i+1):=by rw[ba hj (by omega)]
 have hz:=dH (i:=i) hj;have hf:=nK hw hy;obtain⟨sp1,sp2⟩:=tP hw hy;rcases hb with hb | hb | hb
 ·
  have hl:gw (bt s (i+1))=true:=by
   rcases qA with h | h
   ·exact h.2
   ·omega
  have hlb:=Js hl;refine⟨?_,⟨by omega,λ_=>by omega,λh=>by omega,λh=>by omega,by omega⟩,af hb⟩;unfold dT;rw[h0,hb,aj (by decide),aq rfl,h1,hm.cl y hy];rw[hp];unfold ir;rw[aq hb];show _=eN (aK els) M y.num (bt s (i+1):Nat);unfold eN;rw[hf,Option.isSome_some,Bool.true_and,Int.toNat_natCast]
  congr 1
  ·rw[decide_eq_decide];omega
  ·rw[show(((bt s (i+1):Nat):Int) - 97).toNat=bt s (i+1) - 97 from by omega]
 ·
  have hl:gw (bt s (i+1))=true:=by
   rcases qA with h | h
   ·exact h.2
   ·omega
  have hlb:=Js hl;have aiG:sl s i=2:=by unfold sl;rw[aj (by omega)]
  refine⟨?_,⟨by omega,λh=>by omega,λ_=>by omega,λh=>by omega,by omega⟩,ai (af hb)⟩;unfold dT;rw[h0,hb,aj (by decide),aj (by decide),aq rfl];have he:(s.extract i j).extract 1 (s.extract i j).size=s.extract (i+1) j:=oN hj;have nE:(s.extract (i+1) j).size=1:=by rw[dH hj];omega
  have ud:bt (s.extract (i+1) j) 0=bt s (i+1):=by rw[ba hj (by omega)]
  rw[he,hp];unfold ir;rw[aj (by omega),aq hb];show _=fI (aK els) M y.num (bt s (i+1):Nat);unfold fI;rw[hf,Option.isSome_some,Bool.true_and,Int.toNat_natCast];rcases hm.nm y hy with⟨n1,n2⟩ | ⟨n1,n2⟩
  ·rw[n2,Bool.eq_iff_iff,rx,beq_iff_eq];constructor
   ·intro e;rw[e] at n1;omega
   ·intro e;omega
  ·have hk:y.nm.size=1:=by
    unfold aG at n1;rw[Bool.and_eq_true,bF] at n1;exact n1.1
   rw[BQ hk nE,ud,n2]
 ·
  have hpk:WD s (i+1):=by
   rcases qA with h | h
   ·omega
   ·exact h.2
  have Sr:ir s i=fC s (i+1):=by unfold ir;rw[aj (by omega),aj (by omega)]
  have hc:1<(s.extract i j).size/\(bt (s.extract i j) 1=102∨bt (s.extract i j) 1=108∨bt (s.extract i j) 1=101∨(3<(s.extract i j).size/\48<=bt (s.extract i j) 2/\bt (s.extract i j) 2<=57/\48<=bt (s.extract i j) 3/\bt (s.extract i j) 3<=57)):=by
   refine⟨by omega,?_⟩;rw[h1];rcases hpk with h | h | h | ⟨h,d1,d2⟩
   ·exact af h
   ·exact ai (af h)
   ·exact ai (ai (af h))
   ·have adB:sl s i=4:=by unfold sl;rw[aq ⟨hb,h⟩]
    have e1:=yC d1;have e2:=yC d2;refine ai (ai (ai ⟨by omega,?_⟩));rw[ba hj (by omega),ba hj (by omega),show i+2=i+1+1 from rfl,show i+3=i+1+2 from rfl];omega
  refine⟨?_,⟨by omega,λh=>by omega,λh=>by omega,λ_=>hc,by omega⟩,ai (ai hb)⟩;unfold dT;rw[h0,hb,aj (by decide),aj (by decide),aj (by decide),aq rfl,h1,hp,Sr];unfold fC
  by_cases k1:bt s (i+1)=102
  ·rw[aq k1,aq k1];show decide ((cR els y.num).1=1)=decide (((dG (aK els) y.num).length:Int)+1=1);rw[decide_eq_decide];omega
  rw[aj k1,aj k1]
  by_cases k2:bt s (i+1)=108
  ·rw[aq k2,aq k2];exact sp2
  rw[aj k2,aj k2]
  by_cases k3:bt s (i+1)=101
  ·rw[aq k3,aq k3];show decide (y.kids.length=0)=mm (aK els) y.num;unfold mm ec;rw[hf,Option.isSome_some,Bool.true_and];show _=y.kids.isEmpty;cases y.kids<;>rfl
  rw[aj k3,aj k3];rcases hpk with h | h | h | ⟨h,d1,d2⟩
  ·exact absurd h k1
  ·exact absurd h k2
  ·exact absurd h k3
  ·have adB:sl s i=4:=by unfold sl;rw[aq ⟨hb,h⟩]
   have e1:=yC d1;have e2:=yC d2;rw[ba hj (by omega),ba hj (by omega),show i+2=i+1+1 from rfl,show i+3=i+1+2 from rfl,K9];show _=m9 (((dG (aK els) y.num).length:Int)+1) ((bt s (i+1+1):Int) - 48) ((bt s (i+1+2):Int) - 48);rw[sp1,show((bt s (i+1+1) - 48:Nat):Int)=(bt s (i+1+1):Int) - 48 from by omega,show((bt s (i+1+2) - 48:Nat):Int)=(bt s (i+1+2):Int) - 48 from by omega]
theorem KF (hw:TW (aK els) made)(hm:RM els M)(hy:y∈els)(hs:s.size<=400)(hj:j<=s.size)(h:jI s i p j):oq els y (s.extract i j)=(pC (bg (aK els) M) p y.num != p.nt)/\PartOK (s.extract i j):=by
 have aU:=kP h;have h0:bt (s.extract i j) 0=bt s i:=by rw[ba hj (by omega)];rfl
 have hz:=dH (i:=i) hj;have he:(s.extract i j).extract 1 (s.extract i j).size=s.extract (i+1) j:=oN hj;obtain⟨hp,h2⟩:=h;unfold oq;rw[h0]
 by_cases iV:bt s i=33
 ·rw[aq iV] at h2 ⊢;rw[he]
  by_cases hl:gw (bt s (i+1))=true
  ·rw[aq hl] at h2;obtain⟨k1,k2⟩:=h2;subst k2;obtain⟨t1,t2⟩:=zS hw hm hy (i:=i+1) hj hl;refine⟨?_,⟨by omega,λ_=>by rw[he];exact t2,λh=>absurd iV (by rw[h0] at h;exact h)⟩⟩;rw[t1,hp];unfold mu;rw[aq iV,aq hl];show _=((bg (aK els) M).ty y.num (bt s (i+1):Nat) != true);cases (bg (aK els) M).ty y.num (bt s (i+1):Nat)<;>rfl
  ·rw[aj hl] at h2;obtain⟨t1,t2,_⟩:=ug hw hm hy hs hj h2;refine⟨?_,⟨by omega,λ_=>by rw[he];exact t2,λh=>absurd iV (by rw[h0] at h;exact h)⟩⟩;have Sn:p.nt=true:=by rw[hp];unfold mu;rw[aq iV,aj hl];rfl
   have hsv:pC (bg (aK els) M) ⟨false,p.kd,p.lt,p.st,p.sr⟩ y.num=pC (bg (aK els) M) p y.num:=rfl;rw[t1,hsv,Sn];cases pC (bg (aK els) M) p y.num<;>rfl
 ·rw[aj iV] at h2 ⊢;obtain⟨t1,t2,_⟩:=ug hw hm hy hs hj h2;refine⟨?_,⟨by omega,λh=>absurd (by rw[h0] at h;exact h) iV,λ_=>t2⟩⟩;have Sn:p.nt=false:=by rw[h2.1];exact I1 s i
  rw[t1,Sn];cases pC (bg (aK els) M) p y.num<;>rfl
theorem rA (hjq:j<=q)(hq:q<=s.size)(hcut:i+cW s i=j):cW (s.extract i q) 0=j - i/\(s.extract i q).extract 0 (j - i)=s.extract i j/\(s.extract i q).extract (j - i) (s.extract i q).size=s.extract j q:=by
 obtain⟨e1,_⟩:=H3 (s:=s) (i:=i) (q:=q) (by omega) hq;refine⟨by omega,?_,?_⟩
 ·apply ByteArray.ext;simp only[ByteArray.data_extract,Array.extract_extract]
  congr 1<;>omega
 ·rw[oN hq,show i+(j - i)=j from by omega]
theorem nS (hw:TW (aK els) made)(hm:RM els M)(hy:y∈els)(hs:s.size<=400)(hq:q<=s.size):∀{ks:List PPt} {i:Nat} (f:Nat),PartsAt s i q ks->q - i<=f->gF els y f (s.extract i q)=(ks.all λp=>pC (bg (aK els) M) p y.num != p.nt)/\ro f (s.extract i q)
 | [],i,f,h,hf=>by
  simp only[PartsAt] at h;subst h;have hz:(s.extract i i).size=0:=by rw[dH hq];omega
  cases f with
  | zero=>exact⟨rfl,hz⟩
  | succ f=>
   refine⟨?_,af hz⟩;unfold gF;rw[aq hz];rfl
 | p :: ks,i,f,⟨_,l,hg,hr⟩,hf=>by
  have aU:=kP hg;have qw:=(pe hr).1;obtain⟨hc,_⟩:=D7 hg;obtain⟨c1,c2,c3⟩:=rA qw hq hc;have hz:(s.extract i q).size=q - i:=dH hq;cases f with
  | zero=>omega
  | succ f=>
   obtain⟨VT,St⟩:=nS hw hm hy hs hq (i:=l) f hr (by omega);obtain⟨t1,t2⟩:=KF hw hm hy hs (by omega) hg;refine⟨?_,ai ⟨by omega,by omega,by rw[c1,c2];exact t2,by rw[c1,c3];exact St⟩⟩;unfold gF;rw[aj (by omega),c1,c2,c3,t1,VT,List.all_cons]
theorem zJ (hw:TW (aK els) made)(hm:RM els M)(hy:y∈els)(hs:s.size<=400){p ty:Nat}(hq:q<=s.size)(kA:p<q){ks:List PPt}(h:fl s p q ty ks)(sg:Int):gF els y 400 (s.extract p q)=lP (bg (aK els) M) ⟨sg,ty,ks⟩ y.num/\ro 400 (s.extract p q):=by
 have hz:(s.extract p q).size=q - p:=dH hq;have h0:bt (s.extract p (p+1)) 0=bt s p:=by rw[ba (by omega) (by omega)];rfl
 have gK:(s.extract p (p+1)).size=1:=by rw[dH (by omega)];omega
 unfold lP;rcases h with⟨h1,rfl,h2⟩ | ⟨h1,sK,rfl,h2⟩ | ⟨_,_,rfl,h2,_⟩
 ·have hb:=Js h1
  have ol:p+cW s p=p+1:=by
   have QF:gW s p=0:=by unfold gW;rw[aj (by omega)]
   unfold cW;rw[QF,Nat.add_zero];unfold mH;rw[aj (by omega),aj (by omega)]
  obtain⟨c1,c2,c3⟩:=rA (j:=p+1) (by omega) hq ol;obtain⟨VT,St⟩:=nS hw hm hy hs hq (i:=p+1) 399 h2 (by omega);obtain⟨t1,t2⟩:=zS hw hm hy (i:=p) (by omega) h1
  have Oy:oq els y (s.extract p (p+1))=(bg (aK els) M).ty y.num (bt s p):=by
   unfold oq;rw[h0,aj (by omega)];exact t1
  refine⟨?_,ai ⟨by omega,by omega,?_,?_⟩⟩
  ·unfold gF;rw[aj (by omega),c1,c2,c3,Oy,VT];have fY:((bt s p:Nat)==0)=false:=by rw[ff];omega
   show _=((((bt s p:Nat)==0)||(bg (aK els) M).ty y.num (bt s p:Nat))&&_);rw[fY,Bool.false_or]
  ·rw[c1,c2];exact⟨by omega,λh=>by omega,λ_=>t2⟩
  ·rw[c1,c3];exact St
 ·have ol:p+cW s p=p+1:=by
   have QF:gW s p=0:=by unfold gW;rw[aj (by omega)]
   unfold cW;rw[QF,Nat.add_zero];unfold mH;rw[aj (by omega),aj (by omega)]
  obtain⟨c1,c2,c3⟩:=rA (j:=p+1) (by omega) hq ol;obtain⟨VT,St⟩:=nS hw hm hy hs hq (i:=p+1) 399 h2 (by omega)
  have Oy:oq els y (s.extract p (p+1))=true:=by
   unfold oq;rw[h0,aj (by omega)];unfold dT;rw[h0,aq sK]
  refine⟨?_,ai ⟨by omega,by omega,?_,?_⟩⟩
  ·unfold gF;rw[aj (by omega),c1,c2,c3,Oy,VT];rfl
  ·rw[c1,c2];exact⟨by omega,λh=>by omega,λ_=>⟨by omega,λh=>by omega,λh=>by omega,λh=>by omega,by omega⟩⟩
  ·rw[c1,c3];exact St
 ·obtain⟨VT,St⟩:=nS hw hm hy hs hq (i:=p) 400 h2 (by omega);refine⟨?_,St⟩;rw[VT];rfl
end
end
section
variable {T:aJ}{a b:REl}{k:Nat}{l:List Nat}
section
variable {els:List REl}{made:Nat}{M:Nat->Mk}
theorem zn (hw:TW T made)(a:Nat):∀(j:Nat) {k:Nat} {l:List Nat},(k,l)∈T->gY T (j+1) k<0->((a:Int)∈aX T j k↔0<=aY T k/\dD T a (aY T k))
 | 0,k,l,hk,hj=>by
  have h1:aY T k<0:=hj;constructor
  ·intro h;cases h
  ·intro h;omega
 | j+1,k,l,hk,hj=>by
  show(a:Int)∈(if aY T k=-1 then[] else aY T k :: aX T j (aY T k))↔_;rcases cP T k with⟨h1,_⟩ | ⟨q,hq,h1,h2⟩
  ·rw[h1,aq rfl];constructor
   ·intro h;cases h
   ·intro h;omega
  ·have hm:=it.1 h1;rw[h2,aj (by omega),List.mem_cons]
   have ih:=zn hw a j (k:=q.1) (l:=q.2) hq (by
    have:gY T (j+1+1) k=gY T (j+1) (aY T k):=rfl;rw[this,h2] at hj;exact hj)
   rw[ih];constructor
   ·rintro(h3 | ⟨h3,h4⟩)
    ·refine⟨by omega,?_⟩;rw[<-h3];exact iu T a
    ·refine⟨by omega,?_⟩;rcases cP T q.1 with⟨h5,_⟩ | ⟨q2,yP,h5,h6⟩
     ·omega
     ·rw[h6] at h4;exact(hw.under_kid yP (it.1 h5) a).2 (ai h4)
   ·rintro⟨_,h4⟩;rcases cP T q.1 with⟨h5,_⟩ | ⟨q2,yP,h5,h6⟩
    ·left;obtain⟨_,t,ht⟩:=h4;cases t with
     | zero=>exact ht.symm
     | succ t=>
      have h7:gY T t (aY T q.1)=a:=ht;have h8:=me T (n:=aY T q.1) (by omega) t;omega
    ·rcases(hw.under_kid yP (it.1 h5) a).1 h4 with h7 | h7
     ·left;omega
     ·right;rw[h6];exact⟨by omega,h7⟩
theorem mj (hw:TW T made)(a:Nat)(hk:(k,l)∈T):(a:Int)∈aX T T.length k↔0<=aY T k/\dD T a (aY T k):=zn hw a T.length hk (hw.up_end hk (by omega))
theorem yF (a:Nat)(hk:(k,l)∈T):(a:Int)∈(aX T T.length k).take 1↔aY T k=a:=by
 obtain⟨n,hn⟩:∃n,T.length=n+1:=by
  have:=List.length_pos_of_mem hk;exact⟨T.length - 1,by omega⟩
 rw[hn];show(a:Int)∈(if aY T k=-1 then[] else aY T k :: aX T n (aY T k)).take 1↔_
 by_cases h:aY T k=-1
 ·rw[aq h,h];constructor
  ·intro h;cases h
  ·intro h;omega
 ·rw[aj h,List.take_succ_cons,List.take_zero,fg];exact⟨λh=>h.symm,λh=>h.symm⟩
theorem MG (hk:(k,l)∈T):∀x∈aX T T.length k,∃j lj,x=((j:Nat):Int)/\(j,lj)∈T:=by
 have nF:∀(n:Nat) {k:Nat} {l:List Nat},(k,l)∈T->∀x∈aX T n k,∃j lj,x=((j:Nat):Int)/\(j,lj)∈T:=λn=>by
  induction n with
  | zero=>intro k l _ x hx;cases hx
  | succ n ih=>
   intro k l hk x hx;have DK:x∈(if aY T k=-1 then[] else aY T k :: aX T n (aY T k)):=hx;rcases cP T k with⟨h1,_⟩ | ⟨q,hq,h1,h2⟩
   ·rw[h1,aq rfl] at DK;cases DK
   ·rw[h2,aj (by omega)] at DK;rcases List.mem_cons.1 DK with rfl | h3
    ·exact⟨q.1,q.2,rfl,hq⟩
    ·exact ih (k:=q.1) (l:=q.2) hq x h3
 exact nF T.length hk
theorem tO (hw:TW T made){q:Nat × List Nat}(hq:q∈T){j:Nat}(hj:q.2[j]?=some k)(hk:(k,l)∈T):dG T k=((q.2.take j).map λ(x:Nat)=>(x:Int)).reverse:=by
 unfold dG;rw[dZ hw.nums hk,Option.isSome_some,aq rfl,hw.parent hq (List.mem_of_getElem? hj)];unfold ec;rw[dZ hw.nums hq];show(((q.2.takeWhile λ(x:Nat)=>decide (¬(x:Int)=(k:Int))).map λ(x:Nat)=>(x:Int)).reverse)=_;rw[(E3 (hw.kdup q hq) hj).1]
theorem ux (hw:TW T made):dG T (0:Nat)=[]:=by
 unfold dG;have h0:aY T ((0:Nat):Int)=-1:=hw.root_par;rw[h0];unfold ec;rw[D0];split<;>rfl
theorem G3 (hw:TW (aK els) made)(ha:a∈els)(hb:b∈els):
  ((bc els b.num<0∨bc els b.num≠bc els a.num)->∀n,(a.num:Int) ∉ (dG (aK els) b.num).take n)/\
  (¬(bc els b.num<0∨bc els b.num≠bc els a.num)->1<=(cR els a.num).1/\(cR els b.num).1=(dG (aK els) b.num).length+1/\∀n,(a.num:Int)∈(dG (aK els) b.num).take n↔(cR els a.num).1<(cR els b.num).1/\(cR els b.num).1<=(cR els a.num).1+n):=by
 have Ii:=jK hb;have hka:=jK ha;rw[<-dV,<-dV]
 by_cases mo:b.num=0
 ·have Fk:aY (aK els) b.num=-1:=by rw[mo];exact hw.root_par
  have J3:dG (aK els) b.num=[]:=by rw[mo];exact ux hw
  rw[Fk,J3];exact⟨λ_ n h=>by simp at h,λh=>absurd (af (by decide)) h⟩
 ·obtain⟨q,hq,Oz,hqp⟩:=hw.up Ii mo;rw[hqp];obtain⟨jb,hjb,hjbe⟩:=List.getElem_of_mem Oz;have adh:q.2[jb]?=some b.num:=by rw[bO hjb,hjbe]
  have T4:=hw.kdup q hq;have ZJ:=tO hw hq adh Ii
  have adD:(cR els b.num).1=jb+1:=by
   have h1:=(tP hw hb).1;rw[ZJ,List.length_reverse,List.length_map,List.length_take] at h1;omega
  rw[ZJ];refine⟨λfY n h=>?_,λheq=>?_⟩
  ·have h2:=List.mem_of_mem_take h;rw[List.mem_reverse,bm] at h2;obtain⟨x,hx,om⟩:=h2;have Uc:x=a.num:=by omega
   subst Uc;rcases fY with h3 | h3
   ·omega
   ·exact h3 (hw.parent hq (List.mem_of_mem_take hx)).symm
  ·have hpa:(q.1:Int)=aY (aK els) a.num:=by
    rcases Int.lt_trichotomy (q.1:Int) (aY (aK els) a.num) with h | h | h
    ·exact absurd (ai (by omega)) heq
    ·exact h
    ·exact absurd (ai (by omega)) heq
   have haq:a.num∈q.2:=by
    rcases cP (aK els) a.num with⟨h1,_⟩ | ⟨q2,yP,h1,h2⟩
    ·omega
    ·have:q2=q:=pO hw.nums yP hq (by omega);rw[this] at h1;exact it.1 h1
   obtain⟨ja,WN,Se⟩:=List.getElem_of_mem haq;have adg:q.2[ja]?=some a.num:=by rw[bO WN,Se]
   have adC:(cR els a.num).1=ja+1:=by
    have h1:=(tP hw ha).1;have h2:=tO hw hq adg hka;rw[h2,List.length_reverse,List.length_map,List.length_take] at h1;omega
   rw[adC,adD];refine⟨by omega,by rw[List.length_reverse,List.length_map,List.length_take];omega,λn=>?_⟩;rw[<-List.map_reverse,<-List.map_take,bm];constructor
   ·rintro⟨x,hx,om⟩;have Uc:x=a.num:=by omega
    subst Uc;obtain⟨t,ht,hte⟩:=List.getElem_of_mem hx;rw[List.length_take,List.length_reverse,List.length_take] at ht;rw[List.getElem_take,List.getElem_reverse,List.getElem_take] at hte;have h5:q.2[(q.2.take jb).length - 1 - t]?=some a.num:=by rw[bO (by rw[List.length_take];omega),hte]
    have h6:ja=(q.2.take jb).length - 1 - t:=by
     rcases Nat.lt_trichotomy ja ((q.2.take jb).length - 1 - t) with h7 | h7 | h7
     ·obtain⟨g1,g2⟩:=dY.1 h5;exact absurd (Se.trans g2.symm) (List.pairwise_iff_getElem.1 T4 _ _ WN g1 h7)
     ·exact h7
     ·obtain⟨g1,g2⟩:=dY.1 h5;exact absurd (g2.trans Se.symm) (List.pairwise_iff_getElem.1 T4 _ _ g1 WN h7)
    rw[List.length_take] at h6;omega
   ·rintro⟨h5,h6⟩;refine⟨a.num,?_,rfl⟩;have hl:(q.2.take jb).length=jb:=by rw[List.length_take];omega
    have ht:jb - 1 - ja<((q.2.take jb).reverse.take n).length:=by rw[List.length_take,List.length_reverse,hl];omega
    have h8:((q.2.take jb).reverse.take n)[jb - 1 - ja]'ht=a.num:=by
     rw[List.getElem_take,List.getElem_reverse,List.getElem_take];rw[<-Se]
     congr 1
     omega
    rw[<-h8];exact bK ht
theorem yb (hw:TW (aK els) made)(ha:a∈els)(hb:b∈els){sg:Nat}(hs:i6 sg=true):dj els a.num sg b.num=true↔(a.num:Int)∈fh (bg (aK els) M) (sg:Int) b.num:=by
 have hs4:sg=32∨sg=62∨sg=43∨sg=126:=by simpa[i6] using hs
 have Ii:=jK hb;obtain⟨s1,s2⟩:=G3 hw ha hb;rcases hs4 with rfl | rfl | rfl | rfl
 ·unfold dj fh;rw[aj (by decide),aq rfl,aq (by decide)];show _↔(a.num:Int)∈aX (aK els) (aK els).length b.num;rw[mj hw a.num Ii,Bool.and_eq_true,bF,<-dV,<-ld,bp]
 ·unfold dj fh;rw[aq rfl,aj (by decide),aq (by decide)];show _↔(a.num:Int)∈(aX (aK els) (aK els).length b.num).take 1;rw[yF a.num Ii,bF,<-dV]
 ·have e1:fh (bg (aK els) M) ((43:Nat):Int) b.num=(dG (aK els) b.num).take 1:=rfl;rw[e1];unfold dj;rw[aj (by decide),aj (by decide)]
  by_cases hc:bc els b.num<0∨bc els b.num≠bc els a.num
  ·rw[aq hc];exact⟨λh=>(by cases h),λh=>absurd h (s1 hc 1)⟩
  ·rw[aj hc,(s2 hc).2.2 1];simp;omega
 ·have e1:fh (bg (aK els) M) ((126:Nat):Int) b.num=(dG (aK els) b.num):=rfl;rw[e1];unfold dj;rw[aj (by decide),aj (by decide)]
  by_cases hc:bc els b.num<0∨bc els b.num≠bc els a.num
  ·rw[aq hc];have h1:=s1 hc (dG (aK els) b.num).length;rw[List.take_length] at h1;exact⟨λh=>(by cases h),λh=>absurd h h1⟩
  ·rw[aj hc];obtain⟨h1,h2,h3⟩:=s2 hc;have h4:=h3 (dG (aK els) b.num).length;rw[List.take_length] at h4;rw[h4];simp;omega
theorem Ll (hw:TW (aK els) made)(hb:b∈els)(sg:Int):∀x∈fh (bg (aK els) M) sg b.num,∃a∈els,(a.num:Int)=x:=by
 have Ii:=jK hb
 have ab:∀x∈(bg (aK els) M).ab b.num,∃a∈els,(a.num:Int)=x:=λx hx=>by
  obtain⟨j,lj,rfl,hj⟩:=MG Ii x hx;obtain⟨y,hy,h1,_⟩:=xl hj;exact⟨y,hy,by omega⟩
 have ah:∀x∈(bg (aK els) M).ah b.num,∃a∈els,(a.num:Int)=x:=λx hx=>by
  have DK:x∈dG (aK els) b.num:=hx
  by_cases mo:b.num=0
  ·rw[mo,ux hw] at DK;cases DK
  ·obtain⟨q,hq,Oz,hqp⟩:=hw.up Ii mo;obtain⟨jb,hjb,hjbe⟩:=List.getElem_of_mem Oz;rw[tO hw hq (by rw[bO hjb,hjbe]) Ii,List.mem_reverse,bm] at DK;obtain⟨y,hy,rfl⟩:=DK;obtain⟨ly,TZ⟩:=hw.kin q hq y (List.mem_of_mem_take hy);obtain⟨z,hz,h1,_⟩:=xl TZ;exact⟨z,hz,by omega⟩
 intro x hx;unfold fh at hx;split at hx
 ·exact ab x hx
 ·split at hx
  ·exact ab x (List.mem_of_mem_take hx)
  ·split at hx
   ·exact ah x hx
   ·split at hx
    ·exact ah x (List.mem_of_mem_take hx)
    ·cases hx
end
end
section
variable {cs:List d9}{i:Nat}{ut:List RComp}{ss:List (List d9)}{y:REl}
def Rel2 {α β:Type}(R:α->β->Prop)(l:List α)(m:List β):Prop:=l.length=m.length/\∀(i:Nat) (a:α) (b:β),l[i]?=some a->m[i]?=some b->R a b
theorem Rel2.at' {α β:Type}{R:α->β->Prop}{l:List α}{m:List β}(h:Rel2 R l m)(hi:i<l.length):R l[i] (m[i]'(by rw[<-h.1];exact hi)):=h.2 i _ _ (bO hi) (bO _)
def XS (rc:RComp)(c:d9):Prop:=(rc.sg:Int)=c.sg/\∃(s:ByteArray) (p q:Nat),s.size<=400/\p<q/\q<=s.size/\rc.tx=s.extract p q/\fl s p q c.ty c.ps
structure FD (ut:List RComp)(cs:List d9):Prop where
 rel:Rel2 XS ut cs
 pos:0<ut.length
 few:ut.length<=400
 sg:∀(i:Nat) (rc:RComp),0<i->ut[i]?=some rc->i6 rc.sg=true
section
variable {els:List REl}{made:Nat}{M:Nat->Mk}
theorem AM {on:List Bool}{sg:Nat}{b:Int}:∀n,fD els on sg b n=true↔∃a,a<n/\(on[a]?).getD false=true/\dj els (ID els a) sg b=true
 | 0=>by
  constructor
  ·intro h;cases h
  ·rintro⟨a,h,_⟩;omega
 | n+1=>by
  unfold fD;rw[Bool.or_eq_true,Bool.and_eq_true,AM n];constructor
  ·rintro(⟨a,h1,h2⟩ | h)
   ·exact⟨a,by omega,h2⟩
   ·exact⟨n,by omega,h⟩
  ·rintro⟨a,h1,h2⟩
   by_cases e:a=n
   ·rw[e] at h2;exact ai h2
   ·exact af ⟨a,by omega,h2⟩
theorem CX (v:Vw)(x:d9){L:List d9}(h:L≠[])(e:Int):kC v (x :: L) e=(lP v x e&&(fh v x.sg e).any (kC v L)):=by
 cases L with
 | nil=>exact absurd rfl h
 | cons d r=>rfl
theorem Qa {c:Nat}(h:c<cs.length):(cs.take (c+1)).reverse=cs[c] :: (cs.take c).reverse:=by
 rw[fU h,List.reverse_append];rfl
theorem wl (hw:TW (aK els) made)(hm:RM els M)(h:FD ut cs):∀c,c<ut.length->∀{i:Nat} {y:REl},els[i]?=some y->(kr els ut (c+1))[i]?=some (kC (bg (aK els) M) ((cs.take (c+1)).reverse) y.num)
 | c,hc,i,y,hy=>by
  have kf:c<cs.length:=by rw[<-h.rel.1];exact hc
  have hmy:=List.mem_of_getElem? hy;obtain⟨hsg,s,p,q,hs,kA,hq,OF,Dv⟩:=h.rel.at' hc;have Ok:=(zJ hw hm hmy hs hq kA Dv cs[c].sg).1;unfold kr;rw[List.getElem?_map,hy,bO hc,Qa kf];show some (gF els y 400 ut[c].tx&&(decide (c=0)||fD els (kr els ut c) ut[c].sg y.num els.length))=_;rw[OF,Ok]
  congr 1
  show(lP (bg (aK els) M) cs[c] y.num&&_)=_;cases c with
  | zero=>
   rw[List.take_zero];show(lP (bg (aK els) M) cs[0] y.num&&(true||_))=lP (bg (aK els) M) cs[0] y.num;rw[Bool.true_or,Bool.and_true]
  | succ c=>
   have fY:(cs.take (c+1)).reverse≠[]:=by
    intro e;have:(cs.take (c+1)).reverse.length=0:=by rw[e];rfl
    rw[List.length_reverse,List.length_take] at this;omega
   rw[CX _ _ fY]
   congr 1
   show(false||_)=_;rw[Bool.false_or,Bool.eq_iff_iff,AM,List.any_eq_true];have hss:=h.sg (c+1) ut[c+1] (by omega) (bO hc);constructor
   ·rintro⟨a,ha,h1,h2⟩;rw[xj ha] at h2;have hae:=bO ha;rw[wl hw hm h c (by omega) hae] at h1;refine⟨(els[a].num:Int),?_,h1⟩;rw[<-hsg];exact(yb hw (bK ha) hmy hss).1 h2
   ·rintro⟨x,hx,h1⟩;obtain⟨a,ha,hax⟩:=Ll hw hmy _ x hx;obtain⟨ia,hia,hiae⟩:=List.getElem_of_mem ha;have hae:els[ia]?=some a:=by rw[bO hia,hiae]
    refine⟨ia,hia,?_,?_⟩
    ·rw[wl hw hm h c (by omega) hae,hax];exact h1
    ·rw[xj hia,hiae];refine(yb (M:=M) hw ha hmy hss).2 ?_;rw[hax,hsg];exact hx
theorem ON (hw:TW (aK els) made)(hm:RM els M)(h:FD ut cs)(hy:els[i]?=some y):(kr els ut ut.length)[i]?=some (qG (bg (aK els) M) cs y.num):=by
 have hp:=h.pos;have h1:=wl hw hm h (ut.length - 1) (by omega) hy;rw[show ut.length - 1+1=ut.length from by omega] at h1;rw[h1];unfold qG;rw[List.take_of_length_le (by have:=h.rel.1;omega)]
theorem V2 {els:List REl}{made:Nat}{M:Nat->Mk}(hw:TW (aK els) made)(hm:RM els M)(h:FD ut cs):Hu ut:=by
 refine⟨h.pos,h.few,λx hx=>?_⟩;obtain⟨i,hi,rfl⟩:=List.getElem_of_mem hx;obtain⟨_,s,p,q,hs,kA,hq,OF,Dv⟩:=h.rel.at' hi;obtain⟨l,hl⟩:=hw.root;obtain⟨y,hy,_,_⟩:=xl hl;rw[OF];exact(zJ hw hm hy hs hq kA Dv 0).2
theorem E0 {s:ByteArray}{q:Nat}(hq:q<=s.size):∀{xs:List Nat} {i:Nat} (f:Nat),Fq s i q xs->q - i<=f->LB f (s.extract i q)=xs.sum
 | [],i,f,h,hf=>by
  simp only[Fq] at h;subst h;have hz:(s.extract i i).size=0:=by rw[dH hq];omega
  cases f with
  | zero=>rfl
  | succ f=>unfold LB;rw[aq hz];rfl
 | x :: xs,i,f,⟨h1,h2,h3⟩,hf=>by
  have hp:=ww s i;have qw:=RU h3;obtain⟨c1,c2,c3⟩:=rA (s:=s) (i:=i) (j:=i+cW s i) (q:=q) h1 hq rfl;have hz:(s.extract i q).size=q - i:=dH hq;cases f with
  | zero=>omega
  | succ f=>
   have e1:=(H3 (s:=s) (i:=i) (q:=i+cW s i) au (by omega)).2;have e2:=E0 hq f h3 (by omega);unfold LB;rw[aj (by omega),c1,c2,c3,e2,e1,List.sum_cons,h2]
theorem Qh (h:Rel2 XS ut cs):kI ut=zC cs:=by
 unfold kI zC
 congr 1
 apply List.ext_getElem?;intro i;rw[List.getElem?_map,List.getElem?_map]
 by_cases hi:i<ut.length
 ·obtain⟨_,s,p,q,hs,kA,hq,OF,Dv⟩:=h.at' hi;rw[bO hi,bO (by rw[<-h.1];exact hi)];obtain⟨xs,WR,zX,_,_⟩:=JH Dv kA;show some (LB 400 ut[i].tx)=some (cw _ _);rw[OF,E0 hq 400 WR (by omega),zX]
 ·rw[List.getElem?_eq_none (by omega),List.getElem?_eq_none (by have:=h.1;omega)];rfl
theorem yn (v:Vw)(e:Int){k:Nat}(h:k<ss.length):fq v e (ss.take (k+1))=jq v e (fq v e (ss.take k)) ss[k]:=by
 unfold fq;rw[fU h,List.foldl_append];rfl
theorem tU (v:Vw)(e:Int)(ss:List (List d9)):∀k,0<=(fq v e (ss.take k)).1/\((fq v e (ss.take k)).2=false->(fq v e (ss.take k)).1=0)
 | 0=>⟨by rw[List.take_zero];exact Int.le_refl _,λ_=>by rw[List.take_zero];rfl⟩
 | k+1=>by
  obtain⟨h1,h2⟩:=tU v e ss k
  by_cases hk:k<ss.length
  ·rw[yn v e hk];unfold jq;split
   ·exact⟨by show 0<=max _ _;omega,λh=>by cases h⟩
   ·exact⟨h1,h2⟩
  ·rw[List.take_of_length_le (by omega)] at h1 h2 ⊢;exact⟨h1,h2⟩
theorem wQ (hw:TW (aK els) made)(hm:RM els M){sels:List (List RComp)}(h:Rel2 FD sels ss)(hy:els[i]?=some y):∀k,k<=sels.length->(bW els sels k)[i]?=some (if(fq (bg (aK els) M) y.num (ss.take k)).2=true then(fq (bg (aK els) M) y.num (ss.take k)).1 else -1)
 | 0,_=>by
  have hi:=(dY.1 hy).1;unfold bW;rw[List.getElem?_replicate,aq hi,List.take_zero];rfl
 | k+1,hk=>by
  have hi:=(dY.1 hy).1;have sL:k<ss.length:=by rw[<-h.1];omega
  have hr:=h.at' (i:=k) (by omega);have ih:=wQ hw hm h hy k (by omega);have hp:=tU (bg (aK els) M) y.num ss k;have hmt:=ON hw hm hr hy;unfold bW;rw[List.getElem?_map,List.getElem?_range hi,bO (by omega:k<sels.length),yn _ _ sL];show some (if(kr els sels[k] sels[k].length)[i]?.getD false=true/\(bW els sels k)[i]?.getD 0<(kI sels[k]:Int) then(kI sels[k]:Int) else(bW els sels k)[i]?.getD 0)=_;rw[ih,hmt,Qh hr.rel];simp only[Option.getD_some];unfold jq;generalize fq (bg (aK els) M) y.num (ss.take k)=a at hp ⊢
  congr 1
  by_cases Ot:qG (bg (aK els) M) ss[k] y.num=true
  ·rw[aq Ot];show _=max a.1 ((zC ss[k]:Nat):Int)
   by_cases ha:a.2=true
   ·rw[aq ha]
    by_cases aU:a.1<((zC ss[k]:Nat):Int)
    ·rw[aq ⟨Ot,aU⟩];omega
    ·rw[aj (λh=>aU h.2)];omega
   ·have Vt:a.2=false:=by simpa using ha
    have h0:=hp.2 Vt;rw[aj ha,aq ⟨Ot,by omega⟩,h0];omega
  ·rw[aj Ot,aj (λh=>Ot h.1)]
end
end
section
variable {C:Clm}{R:Nat->ByteArray × Cl}{Rr:List eA}{W:List Clm}{d:PDc}{ds:List PDc}{i k:Nat}{ly n wt:Int}{rd:ea}{rs:List dF}{y:REl}
def ValRel (t:ByteArray)(kd nu va:Int):Prop:=
 (t.size=1/\bt t 0=105/\kd=2)∨(t.size=1/\bt t 0=114/\kd=3)∨(t.size=1/\bt t 0=117/\kd=4)∨
 (t.size=2/\bt t 0=36/\kd=5/\va=bt t 1/\ts (bt t 1)=true)∨
 (kd=1/\0<t.size/\t.size<=3/\(∀k,k<t.size->iJ (bt t k)=true)/\nu=(km t t.size:Nat))
theorem ValRel.pos {t:ByteArray}{kd nu va:Int}(h:ValRel t kd nu va):0<t.size:=by
 rcases h with h | h | h | h | h<;>omega
structure FC (rd:ea)(d:PDc):Prop where
 pr:(rd.pr:Int)=d.pr
 isp:wW rd.pr=true
 im:rd.must=d.im
 val:ValRel rd.val d.kd d.nu d.va
structure yE (r:eA)(p:dF):Prop where
 ly:r.ly=p.ly
 sels:Rel2 FD r.sels p.ss
 dl:Rel2 FC r.dl p.ds
 fs:r.sels.length<=400
 fd:r.dl.length<=400
theorem qL (c:Nat):fu c=bH (c:Int):=by
 unfold fu bH
 by_cases h1:65<=c/\c<=70
 ·rw[aq h1,aq (by omega)]
  congr 1
  omega
 ·have sJ:¬(65<=(c:Int)/\(c:Int)<71):=by omega
  rw[aj h1,aj sJ]
  by_cases h2:88<=c/\c<=90
  ·have F8:88<=(c:Int)/\(c:Int)<91:=by omega
   rw[aq h2,aq F8]
   congr 1
   omega
  ·have F8:¬(88<=(c:Int)/\(c:Int)<91):=by omega
   rw[aj h2,aj F8]
theorem Ax {c:Nat}(h:wW c=true):∃q,fu c=some q/\q<9:=by
 unfold wW ts at h;rw[Bool.or_eq_true,bF,bF] at h;unfold fu;rcases h with h | h
 ·rw[aq h];exact⟨_,rfl,by omega⟩
 ·rw[aj (by omega),aq h];exact⟨_,rfl,by omega⟩
def Jw (n:Int)(o:ByteArray × Cl)(c:Clm):Prop:=
 (o.1.size=0/\c=Clm.none)∨(c.th=true/\ValRel o.1 c.kd c.nu c.va/\o.2.d.must=c.im/\o.2.ly=c.ly/\o.2.hv=c.wt/\o.2.no<=n)
def RowRel (n:Int)(R:Nat->ByteArray × Cl)(W:List Clm):Prop:=W.length=9/\∀q,q<9->Jw n (R q) (W.getD q Clm.none)
theorem RowRel.mono {m:Int}(h:RowRel n R W)(hn:n<=m):RowRel m R W:=by
 refine⟨h.1,λq hq=>?_⟩;rcases h.2 q hq with h1 | ⟨h1,h2,h3,h4,h5,h6⟩
 ·exact af h1
 ·exact ai ⟨h1,h2,h3,h4,h5,by omega⟩
theorem Bw {j:Nat}(h:i≠j):(W.set i C).getD j Clm.none=W.getD j Clm.none:=by
 rw[List.getD_eq_getElem?_getD,List.getD_eq_getElem?_getD,List.getElem?_set_ne h]
theorem Bv (h:i<W.length):(W.set i C).getD i Clm.none=C:=by
 rw[List.getD_eq_getElem?_getD,List.getElem?_set_self h];rfl
theorem Hg {o:ByteArray × Cl}{c:Clm}(h:Jw n o c)(hd:FC rd d)(ly wt no:Int)(nU:n<no):(o.1.size=0∨yo {d:=rd,ly:=ly,hv:=wt,no:=no} o.2=true)↔iO (mr ly wt d) c=true:=by
 rcases h with⟨h1,rfl⟩ | ⟨h1,h2,h3,h4,h5,h6⟩
 ·constructor
  ·intro _;rfl
  ·intro _;exact af h1
 ·have hp:=h2.pos;have hz:¬o.1.size=0:=by omega
  have hth:¬c.th=false:=by rw[h1];simp
  unfold iO yo nC;rw[aj hth];show _↔(if d.im≠c.im then d.im else if ly≠c.ly then decide (ly<c.ly)==d.im else decide (c.wt<=wt))=true;have e1:rd.must=d.im:=hd.im;show(o.1.size=0∨(if rd.must≠o.2.d.must then rd.must else if ly≠o.2.ly then(if rd.must=true then decide (ly<o.2.ly) else decide (o.2.ly<ly)) else if wt≠o.2.hv then decide (o.2.hv<wt) else decide (o.2.no<no))=true)↔_;rw[e1,h3,h4,h5]
  by_cases k1:d.im≠c.im
  ·rw[aq k1,aq k1];exact⟨λh=>h.resolve_left hz,ai⟩
  rw[aj k1,aj k1]
  by_cases k2:ly≠c.ly
  ·rw[aq k2,aq k2];constructor
   ·intro h;have h:=h.resolve_left hz;cases hi:d.im with
    | true=>rw[hi,aq rfl] at h;rw[h];rfl
    | false=>
     rw[hi,aj (by simp),bF] at h;rw[decide_eq_false (by omega)];rfl
   ·intro h;right;cases hi:d.im with
    | true=>
     rw[hi] at h;rw[aq rfl];simpa using h
    | false=>
     rw[hi] at h;rw[aj (by simp),bF];have:¬ly<c.ly:=by simpa using h
     omega
  rw[aj k2,aj k2]
  by_cases k3:wt≠c.wt
  ·rw[aq k3,bF,bF];constructor
   ·intro h;have h:=h.resolve_left hz;omega
   ·intro h;right;omega
  ·rw[aj k3,bF,bF];constructor
   ·intro _;omega
   ·intro _;right;omega
theorem PX (h:RowRel n R W)(hd:FC rd d){no:Int}(hwt:0<=wt)(nU:n<no){p:Nat}(hp:fu rd.pr=some p):RowRel no (λq=>if q=p then tT wt ⟨rd,ly,0,no⟩ (R q) else R q) (fb ly wt W d):=by
 have lU:bH d.pr=some p:=by rw[<-hd.pr,<-qL,hp]
 have Ow:=l9 lU;have h9:=h.1;unfold fb;rw[lU];show RowRel no _ (if iO (mr ly wt d) (W.getD p Clm.none)=true then W.set p (mr ly wt d) else W);have hwb:=Hg (h.2 p Ow) hd ly wt no nU;have hm:=h.mono (Int.le_of_lt nU)
 by_cases hb:iO (mr ly wt d) (W.getD p Clm.none)=true
 ·rw[aq hb];refine⟨by rw[List.length_set];exact h9,λq hq=>?_⟩
  by_cases e:q=p
  ·subst e;rw[Bv (by omega)];show Jw no (if q=q then _ else _) _;rw[aq rfl];unfold tT;rw[aj (by omega),aq (hwb.2 hb)];exact ai ⟨rfl,hd.val,hd.im,rfl,rfl,Int.le_refl _⟩
  ·rw[Bw (λh=>e h.symm)];show Jw no (if q=p then _ else _) _;rw[aj e];exact hm.2 q hq
 ·rw[aj hb];refine⟨h9,λq hq=>?_⟩;show Jw no (if q=p then _ else _) _
  by_cases e:q=p
  ·subst e;rw[aq rfl];unfold tT;rw[aj (by omega),aj (λh=>hb (hwb.1 h))];exact hm.2 q hq
  ·rw[aj e];exact hm.2 q hq
section
variable {els:List REl}{made:Nat}{M:Nat->Mk}
theorem JV (h:k<ds.length)(ly wt:Int)(W:List Clm):(ds.take (k+1)).foldl (fb ly wt) W=fb ly wt ((ds.take k).foldl (fb ly wt) W) ds[k]:=by
 rw[fU h,List.foldl_append];rfl
theorem wC {n:Nat}{hv:Nat->Int}{dl:List ea}{ds:List PDc}(hd:Rel2 FC dl ds)(bX:dl.length<=400){ly:Int}{n0:Nat}{S:pZ}{i:Nat}(hi:i<n){m:Bool}{wt:Int}(hwt:0<=wt)(hm:(m=true/\hv i=wt)∨(m=false/\hv i<0)){W:List Clm}(h:RowRel (n0:Int) (S i) W):∀k,k<=dl.length->RowRel ((n0+k:Nat):Int) (pF n hv ly dl n0 S k i) (if m=true then(ds.take k).foldl (fb ly wt) W else W)
 | 0,_=>by
  have e:(if m=true then(ds.take 0).foldl (fb ly wt) W else W)=W:=by
   split
   ·rw[List.take_zero];rfl
   ·rfl
  rw[e]
  exact h
 | k+1,hk=>by
  have VF:k<ds.length:=by rw[<-hd.1];omega
  have hrd:=hd.at' (i:=k) (by omega)
  have ih:=wC (ly:=ly) hd bX hi hwt hm h k (by omega)
  obtain⟨p,hp,Ow⟩:=Ax hrd.isp
  have e1:pF n hv ly dl n0 S (k+1) i=λq=>if q=p then tT (hv i) ⟨dl[k],ly,0,((n0+k+1:Nat):Int)⟩ (pF n hv ly dl n0 S k i q) else pF n hv ly dl n0 S k i q:=by
   funext q
   show(match dl[k]? with | none=>pF n hv ly dl n0 S k | some x=>iM (pF n hv ly dl n0 S k) ⟨x,ly,0,((n0+k+1:Nat):Int)⟩ hv (KS x.pr) n) i q=_
   rw[bO (by omega:k<dl.length)]
   show iM _ _ _ (KS dl[k].pr) n i q=_
   unfold KS iM
   rw[hp]
   show(if i<n/\q=p then _ else _)=_
   by_cases e:q=p
   ·rw[aq ⟨hi,e⟩,aq e]
   ·rw[aj (λh=>e h.2),aj e]
  rw[e1]
  rcases hm with⟨yx,Cp⟩ | ⟨yx,Cp⟩
  ·rw[aq yx] at ih ⊢
   rw[JV VF,Cp]
   exact PX ih hrd hwt (by omega) hp
  ·rw[aj (by rw[yx];simp)] at ih ⊢
   refine(⟨ih.1,λq hq=>?_⟩:RowRel _ _ _)
   have h2:=(ih.mono (m:=((n0+(k+1):Nat):Int)) (by omega)).2 q hq
   show Jw _ (if q=p then _ else _) _
   by_cases e:q=p
   ·rw[aq e]
    unfold tT
    rw[aq Cp]
    exact h2
   ·rw[aj e]
    exact h2
theorem Lb:RowRel 0 (λ_=>(⟨#[]⟩,oJ)) (List.replicate 9 Clm.none):=by
 refine⟨by simp,λq hq=>af ⟨rfl,?_⟩⟩;rw[List.getD_eq_getElem?_getD,List.getElem?_replicate,aq hq];rfl
theorem Ql (v:Vw)(e:Int)(h:k<rs.length)(W:List Clm):(rs.take (k+1)).foldl (gM v e) W=gM v e ((rs.take k).foldl (gM v e) W) rs[k]:=by
 rw[fU h,List.foldl_append];rfl
theorem xS (hw:TW (aK els) made)(hm:RM els M)(h:Rel2 yE Rr rs)(hy:els[i]?=some y):∀k,k<=Rr.length->RowRel ((lK Rr k:Nat):Int) (sA els Rr k i) ((rs.take k).foldl (gM (bg (aK els) M) y.num) (List.replicate 9 Clm.none))
 | 0,_=>by
  rw[List.take_zero];exact Lb
 | k+1,hk=>by
  have hi:=(dY.1 hy).1;have hkr:k<rs.length:=by rw[<-h.1];omega
  have hr:=h.at' (i:=k) (by omega);have ih:=xS hw hm h hy k (by omega);have WK:=wQ hw hm hr.sels hy Rr[k].sels.length au;rw[List.take_of_length_le (by have:=hr.sels.1;omega)] at WK;have hwp:=tU (bg (aK els) M) y.num rs[k].ss rs[k].ss.length;rw[List.take_length] at hwp
  have e1:sA els Rr (k+1)=pF els.length (λi=>(bW els Rr[k].sels Rr[k].sels.length)[i]?.getD 0) Rr[k].ly Rr[k].dl (lK Rr k) (sA els Rr k) Rr[k].dl.length:=by
   show(match Rr[k]? with | none=>_ | some x=>_)=_;rw[bO (by omega:k<Rr.length)]
  have e2:lK Rr (k+1)=lK Rr k+Rr[k].dl.length:=by
   show lK Rr k+(Rr[k]?.map λx=>x.dl.length).getD 0=_;rw[bO (by omega:k<Rr.length)];rfl
  rw[e1,e2,Ql _ _ hkr]
  have hd:=wC (n:=els.length) (hv:=λi=>(bW els Rr[k].sels Rr[k].sels.length)[i]?.getD 0) hr.dl hr.fd (ly:=Rr[k].ly) (n0:=lK Rr k) (S:=sA els Rr k) hi (m:=(fq (bg (aK els) M) y.num rs[k].ss).2) (wt:=(fq (bg (aK els) M) y.num rs[k].ss).1) hwp.1 (by
   show((fq (bg (aK els) M) y.num rs[k].ss).2=true/\(bW els Rr[k].sels Rr[k].sels.length)[i]?.getD 0=_)∨((fq (bg (aK els) M) y.num rs[k].ss).2=false/\(bW els Rr[k].sels Rr[k].sels.length)[i]?.getD 0<0);rw[WK];cases hb:(fq (bg (aK els) M) y.num rs[k].ss).2 with
   | true=>left;exact⟨rfl,by rw[aq rfl];rfl⟩
   | false=>right;exact⟨rfl,by rw[aj (by simp)];show(-1:Int)<0;decide⟩) ih Rr[k].dl.length au
  rw[show rs[k].ds.take Rr[k].dl.length=rs[k].ds from List.take_of_length_le (by have:=hr.dl.1;omega),hr.ly] at hd;rw[hr.ly];exact hd
theorem G7 (hw:TW (aK els) made)(hm:RM els M)(h:Rel2 yE Rr rs)(hy:els[i]?=some y){q:Nat}(hq:q<9):((Lt els Rr i q).size=0/\(fi (bg (aK els) M) rs y.num).getD q Clm.none=Clm.none)∨ValRel (Lt els Rr i q) ((fi (bg (aK els) M) rs y.num).getD q Clm.none).kd ((fi (bg (aK els) M) rs y.num).getD q Clm.none).nu ((fi (bg (aK els) M) rs y.num).getD q Clm.none).va:=by
 have h1:=(xS hw hm h hy Rr.length au).2 q hq;rw[List.take_of_length_le (by have:=h.1;omega)] at h1;rcases h1 with h1 | ⟨_,h1,_⟩
 ·exact af h1
 ·exact ai h1
end
end
section
variable {C:Nat->Int}{Tb:Nat->Nat->ByteArray}{akc:List Int}{i p:Nat}{nx:Nat->Option Nat}{rs:List dF}{y:REl}
def RelV (t:ByteArray)(c:Clm):Prop:=(t.size=0/\c=Clm.none)∨ValRel t c.kd c.nu c.va
theorem U4 {c:Nat}(h:ts c=true):88<=c/\c<=90:=by simpa[ts] using h
theorem RelV.ok {t:ByteArray}{c:Clm}(h:RelV t c):qa t/\qo t:=by
 rcases h with⟨h,_⟩ | h
 ·refine⟨⟨by omega,λh1=>by omega⟩,⟨λh1=>by omega,λh1=>?_⟩⟩;rw[sY t 0 (by omega)] at h1;cases h1
 ·rcases h with⟨h1,h2,_⟩ | ⟨h1,h2,_⟩ | ⟨h1,h2,_⟩ | ⟨h1,h2,_,_,h5⟩ | ⟨_,h1,h2,h3,_⟩
  ·exact⟨⟨by omega,λ_ h=>by omega⟩,⟨λ_ _ h=>by omega,λh=>by omega⟩⟩
  ·exact⟨⟨by omega,λ_ h=>by omega⟩,⟨λ_ _ _ h=>by omega,λh=>by omega⟩⟩
  ·exact⟨⟨by omega,λ_ h=>by omega⟩,⟨λ_ _ _ _ h=>by omega,λh=>h1⟩⟩
  ·have hb:=U4 h5;refine⟨⟨by omega,λ_ _=>⟨by omega,bt t 1 - 82,?_,by omega,by omega⟩⟩,⟨λ_ h=>by omega,λh=>by omega⟩⟩;unfold fu;rw[aj (by omega),aq hb]
  ·have hd:=yC (h3 0 h1);exact⟨⟨by omega,λ_ h=>by omega⟩,⟨λ_ _ _ _ _=>⟨h2,λk hk=>yC (h3 k hk)⟩,λh=>by omega⟩⟩
section
variable {W:Nat->ByteArray}{Wc:List Clm}
theorem xi (h:RelV (W p) (Wc.getD p Clm.none)):eT (W p)=bV Wc p:=by
 unfold eT bV;rcases h with⟨h,hc⟩ | h
 ·rw[aq h,hc];rfl
 ·have hp:=h.pos;rw[aj (by omega)];rcases h with⟨h1,h2,h3⟩ | ⟨h1,h2,h3⟩ | ⟨h1,h2,h3⟩ | ⟨h1,h2,h3,h4,h5⟩ | ⟨h3,h1,h2,h4,_⟩
  ·rw[aj (by omega),h3];rfl
  ·rw[aj (by omega),h3];rfl
  ·rw[aj (by omega),h3];rfl
  ·rw[aq h2,h3,aq rfl,h4,qL]
  ·have hd:=yC (h4 0 h1);rw[aj (by omega),h3];rfl
theorem CU (h:∀q,q<9->RelV (W q) (Wc.getD q Clm.none))(v:Nat):∀(n a:Nat),a<9->bS W v n a=js Wc v n (bV Wc a)
 | 0,_,_=>rfl
 | n+1,a,ha=>by
  have hn:=xi (h a ha);unfold bS;rw[hn];cases hq:bV Wc a with
  | none=>rfl
  | some q=>
   have Kg:q<9:=by
    rw[<-hn] at hq;exact(m8 (h a ha).ok.1 hq).2
   show(if q=v then true else bS W v n q)=(if q=v then true else js Wc v n (bV Wc q));rw[CU h v n q Kg]
def bk (nx:Nat->Option Nat)(v:Nat):Nat->Option Nat->Bool
 | 0,_=>false
 | _+1,none=>false
 | k+1,some p=>if p=v then true else bk nx v k (nx p)
theorem MN (v:Nat):∀(k:Nat) (q:Option Nat),js Wc v k q=bk (bV Wc) v k q
 | 0,_=>rfl
 | k+1,none=>rfl
 | k+1,some p=>by
  show(if p=v then true else js Wc v k (bV Wc p))=(if p=v then true else bk (bV Wc) v k (bV Wc p));rw[MN v k]
theorem MO {v:Nat}(hv:∀a q,nx a=some q->q≠v):∀(k a:Nat),bk nx v k (nx a)=false
 | 0,_=>rfl
 | k+1,a=>by
  cases h:nx a with
  | none=>rfl
  | some q=>
   show(if q=v then true else bk nx v k (nx q))=false;rw[aj (hv a q h),MO hv k q]
theorem Rn (nx:Nat->Option Nat)(v k p:Nat):bk nx v (k+1) (some p)=if p=v then true else bk nx v k (nx p):=rfl
theorem Rm (nx:Nat->Option Nat)(v k:Nat):bk nx v k none=false:=by cases k<;>rfl
theorem Rl (h:∀a q,nx a=some q->q=6∨q=7∨q=8)(v a:Nat)(hva:v=a):bk nx v 9 (nx a)=bk nx v 3 (nx a):=by
 subst hva
 by_cases hv:v=6∨v=7∨v=8
 ·have h6:nx 6=none∨nx 6=some 6∨nx 6=some 7∨nx 6=some 8:=by
   cases e:nx 6 with
   | none=>exact af rfl
   | some q=>rcases h 6 q e with rfl | rfl | rfl<;>simp
  have h7:nx 7=none∨nx 7=some 6∨nx 7=some 7∨nx 7=some 8:=by
   cases e:nx 7 with
   | none=>exact af rfl
   | some q=>rcases h 7 q e with rfl | rfl | rfl<;>simp
  have h8:nx 8=none∨nx 8=some 6∨nx 8=some 7∨nx 8=some 8:=by
   cases e:nx 8 with
   | none=>exact af rfl
   | some q=>rcases h 8 q e with rfl | rfl | rfl<;>simp
  rcases hv with rfl | rfl | rfl<;>rcases h6 with e6 | e6 | e6 | e6<;>rcases h7 with e7 | e7 | e7 | e7<;>rcases h8 with e8 | e8 | e8 | e8 <;>
   simp only[e6,e7,e8,Rn,Rm,bk]<;>rfl
 ·rw[MO (λa q hq e=>hv (by rw[<-e];exact h a q hq)),MO (λa q hq e=>hv (by rw[<-e];exact h a q hq))]
theorem SA (h:∀q,q<9->RelV (W q) (Wc.getD q Clm.none))(hl:Wc.length=9):∀a q,bV Wc a=some q->q=6∨q=7∨q=8:=λa q hq=>by
 by_cases ha:a<9
 ·rw[<-xi (h a ha)] at hq;have:=m8 (h a ha).ok.1 hq;omega
 ·unfold bV at hq;rw[List.getD_eq_getElem?_getD,List.getElem?_eq_none (by omega)] at hq;have h0:(none.getD Clm.none:Clm).kd=0:=rfl;rw[aj (by rw[h0];decide)] at hq;cases hq
theorem wj (h:∀q,q<9->RelV (W q) (Wc.getD q Clm.none))(hl:Wc.length=9)(hp:p<9):bS W p 9 p=js Wc p 3 (bV Wc p):=by
 rw[CU h p 9 p hp,MN,MN];exact Rl (SA h hl) p p rfl
theorem rL (hp:p<9):eL p=eC.getD p 0:=by
 have:p=0∨p=1∨p=2∨p=3∨p=4∨p=5∨p=6∨p=7∨p=8:=by omega
 rcases this with rfl | rfl | rfl | rfl | rfl | rfl | rfl | rfl | rfl<;>rfl
theorem zI:jk p=mK p:=by
 unfold jk mK;rw[Bool.eq_iff_iff,Bool.or_eq_true,bF,bF,bF];omega
theorem AX (h:∀q,q<9->RelV (W q) (Wc.getD q Clm.none))(hl:Wc.length=9)(hc:∀q,q<9->C q=akc.getD q 0):∀(f a b p:Nat),p<9->vR W f p->f<a->f<b->dg W C a p=dN Wc akc b p
 | f,a,b,p,hp,ht,ha,hb=>by
  obtain⟨a,rfl⟩:∃a',a=a'+1:=⟨a - 1,by omega⟩;obtain⟨b,rfl⟩:∃b',b=b'+1:=⟨b - 1,by omega⟩;have yJ:=wj h hl hp;have pK:=xi (h p hp);unfold dg;show _=(if js Wc p 3 (bV Wc p)=true then akc.getD p 0 else match bV Wc p with | none=>cj Wc p akc | some q=>dN Wc akc b q);rw[<-yJ];rcases h p hp with⟨h0,ol⟩ | hv
  ·
   have hn:bV Wc p=none:=by rw[<-pK];unfold eT;rw[aq h0]
   have mo:bS W p 9 p=false:=by unfold bS;rw[pK,hn]
   have hR:(if bS W p 9 p=true then akc.getD p 0 else match bV Wc p with | none=>cj Wc p akc | some q=>dN Wc akc b q)=cj Wc p akc:=by rw[mo,hn];rfl
   rw[hR,aq (af h0)];unfold cj;rw[ol,zI,hc p hp,rL hp];rfl
  ·have lN:=hv.pos;rcases hv with⟨h1,h2,h3⟩ | ⟨h1,h2,h3⟩ | ⟨h1,h2,h3⟩ | ⟨h1,h2,h3,h4,h5⟩ | ⟨h3,h1,h2,h4,h5⟩
   ·have hn:bV Wc p=none:=by unfold bV;rw[h3];rfl
    have mo:bS W p 9 p=false:=by unfold bS;rw[pK,hn]
    have hR:(if bS W p 9 p=true then akc.getD p 0 else match bV Wc p with | none=>cj Wc p akc | some q=>dN Wc akc b q)=cj Wc p akc:=by rw[mo,hn];rfl
    rw[hR,aj (by omega),aq h2];unfold cj;rw[h3,hc p hp];rfl
   ·have hn:bV Wc p=none:=by unfold bV;rw[h3];rfl
    have mo:bS W p 9 p=false:=by unfold bS;rw[pK,hn]
    have hR:(if bS W p 9 p=true then akc.getD p 0 else match bV Wc p with | none=>cj Wc p akc | some q=>dN Wc akc b q)=cj Wc p akc:=by rw[mo,hn];rfl
    rw[hR,aj (by omega),aj (by omega),aq h2];unfold cj;rw[h3,rL hp];rfl
   ·have hn:bV Wc p=none:=by unfold bV;rw[h3];rfl
    have mo:bS W p 9 p=false:=by unfold bS;rw[pK,hn]
    have hR:(if bS W p 9 p=true then akc.getD p 0 else match bV Wc p with | none=>cj Wc p akc | some q=>dN Wc akc b q)=cj Wc p akc:=by rw[mo,hn];rfl
    rw[hR,aq (ai h2)];unfold cj;rw[h3,zI,hc p hp,rL hp];rfl
   ·rw[aj (by omega),aj (by omega),aj (by omega),aq h2];cases mo:bS W p 9 p with
    | true=>rw[aq rfl,aq rfl];exact hc p hp
    | false=>
     rw[aj (by simp),aj (by simp)];have hvb:=U4 h5;have hnv:eT (W p)=fu (bt (W p) 1):=by unfold eT;rw[aj (by omega),aq h2]
     obtain⟨q,hq,Kg⟩:∃q,fu (bt (W p) 1)=some q/\q<9:=by
      unfold fu;rw[aj (by omega),aq hvb];exact⟨_,rfl,by omega⟩
     rw[<-pK,hnv,hq];show dg W C a q=dN Wc akc b q;cases f with
     | zero=>
      rcases ht with ht | ht
      ·rw[hnv,hq] at ht;cases ht
      ·rw[mo] at ht;cases ht
     | succ f=>
      rcases ht with ht | ht | ⟨q',zV,ht⟩
      ·rw[hnv,hq] at ht;cases ht
      ·rw[mo] at ht;cases ht
      ·rw[hnv,hq] at zV;injection zV with zV
       subst zV;exact AX h hl hc f a b q Kg ht (by omega) (by omega)
   ·have hd:=yC (h4 0 h1);have hn:bV Wc p=none:=by unfold bV;rw[h3];rfl
    have mo:bS W p 9 p=false:=by unfold bS;rw[pK,hn]
    have hR:(if bS W p 9 p=true then akc.getD p 0 else match bV Wc p with | none=>cj Wc p akc | some q=>dN Wc akc b q)=cj Wc p akc:=by rw[mo,hn];rfl
    rw[hR,aj (by omega),aj (by omega),aj (by omega),aj (by omega)];unfold cj;rw[h3,aq rfl,h5]
end
section
variable {els:List REl}{made:Nat}{M:Nat->Mk}
theorem DQ (hn:(els.map REl.num).Nodup)(hy:els[i]?=some y):∀k,iK els y.num k=if i<k then some i else none
 | 0=>by rw[aj (by omega)];rfl
 | k+1=>by
  unfold iK
  by_cases h:(els[k]?.map λe=>(e.num:Int))=some (y.num:Int)
  ·rw[aq h]
   have h2:k=i:=by
    cases hk:els[k]? with
    | none=>rw[hk] at h;cases h
    | some z=>
     rw[hk] at h;have h':(z.num:Int)=(y.num:Int):=Option.some.inj h;obtain⟨pJ,e1⟩:=dY.1 hk;obtain⟨WL,e2⟩:=dY.1 hy;have e3:(els.map REl.num)[k]'(by simpa using pJ)=(els.map REl.num)[i]'(by simpa using WL):=by simp only[List.getElem_map];rw[e1,e2];omega
     rcases Nat.lt_trichotomy k i with h3 | h3 | h3
     ·exact absurd e3 (List.pairwise_iff_getElem.1 hn k i _ _ h3)
     ·exact h3
     ·exact absurd e3.symm (List.pairwise_iff_getElem.1 hn i k _ _ h3)
   rw[aq (by omega),h2]
  ·rw[aj h,DQ hn hy k];have h2:k≠i:=λe=>h (by rw[e,hy];rfl)
   by_cases h3:i<k
   ·rw[aq h3,aq (by omega)]
   ·rw[aj h3,aj (by omega)]
theorem Qk (v:Vw)(rs:List dF)(e:Int):(fi v rs e).length=9:=by
 unfold fi
 have nF:∀(rs:List dF) (W:List Clm),(rs.foldl (gM v e) W).length=W.length:=λrs=>by
  induction rs with
  | nil=>intro W;rfl
  | cons r rs ih=>
   intro W;rw[List.foldl_cons,ih];unfold gM;split
   ·unfold FE;generalize r.ds=ds
    induction ds generalizing W with
    | nil=>rfl
    | cons d ds St=>rw[List.foldl_cons,St,AO]
   ·rfl
 rw[nF,List.length_replicate]
theorem O9 (v:Vw)(rs:List dF)(e:Int)(akc:List Int){q:Nat}(hq:q<9):(GD v rs e akc).getD q 0=dN (fi v rs e) akc 9 q:=by
 unfold GD;rw[List.getD_eq_getElem?_getD,List.getElem?_map,List.getElem?_range hq];rfl
def TabR (els:List REl)(M:Nat->Mk)(rs:List dF)(Tb:Nat->Nat->ByteArray):Prop:=∀(i:Nat) (y:REl),els[i]?=some y->∀q,q<9->RelV (Tb i q) ((fi (bg (aK els) M) rs y.num).getD q Clm.none)
theorem Lv (hw:TW (aK els) made)(hm:RM els M){Rr:List eA}(h:Rel2 yE Rr rs):TabR els M rs (Lt els Rr):=λ_ _ hy _ hq=>G7 hw hm h hy hq
theorem TabR.ok (h:TabR els M rs Tb):∀i p,i<els.length->p<9->qa (Tb i p)/\qo (Tb i p):=λi p hi hp=>(h i els[i] (bO hi) p hp).ok
theorem BP (hw:TW (aK els) made)(h:TabR els M rs Tb)(hy:els[i]?=some y)(hc:∀q,q<9->C q=akc.getD q 0)(hp:p<9):dg (Er Tb (iK els y.num els.length)) C 4 p=(GD (bg (aK els) M) rs y.num akc).getD p 0:=by
 have hn:(els.map REl.num).Nodup:=by have:=hw.nums;rw[mC] at this;exact this
 have hi:=(dY.1 hy).1
 have eb:Er Tb (iK els y.num els.length)=Tb i:=by
  funext q;rw[DQ hn hy,aq hi];rfl
 have hrel:=h i y hy;rw[eb,O9 _ _ _ _ hp];exact AX hrel (Qk _ _ _) hc 3 4 9 p hp (I2 (λi hi=>(hrel i hi).ok.1) hp) (by omega) (by omega)
theorem yc (hw:TW (aK els) made)(h:TabR els M rs Tb):∀(f:Nat) {y:REl},y∈els->vA els f y.num->∀p,p<9->kH els Tb f y.num p=(dM (bg (aK els) M) rs y.num).getD p 0
 | f,y,hy,hd,p,hp=>by
  obtain⟨i,hi,hiy⟩:=List.getElem_of_mem hy;have hy':els[i]?=some y:=by rw[bO hi,hiy]
  rw[yd hw (jK hy)];rcases nJ hw (jK hy) with ha | ⟨q,hq,Oz,ha⟩
  ·
   have eZ:bc els y.num<0:=by
    rw[<-dV];rcases cP (aK els) y.num with⟨h1,_⟩ | ⟨q,hq,h1,h2⟩
    ·omega
    ·exfalso;have h3:(q.1:Int)∈aX (aK els) (aK els).length y.num:=(mj hw q.1 (jK hy)).2 ⟨by omega,by rw[h2];exact iu _ _⟩;rw[ha] at h3;cases h3
   rw[ha];show _=(GD _ rs y.num eC).getD p 0;have If:∀q,q<9->eL q=eC.getD q 0:=λq hq=>rL hq;cases f with
   | zero=>exact BP hw h hy' If hp
   | succ f=>
    unfold kH;rw[aq eZ];exact BP hw h hy' If hp
  ·have eZ:bc els y.num=q.1:=by rw[<-dV];exact hw.parent hq Oz
   rw[ha];obtain⟨z,hz,gK,_⟩:=xl (k:=q.1) (l:=q.2) hq;cases f with
   | zero=>
    have:bc els y.num<0:=hd;omega
   | succ f=>
    have hdz:vA els f z.num:=by
     rcases hd with hd | hd
     ·omega
     ·rw[eZ,<-gK] at hd;exact hd
    unfold kH;rw[aj (by omega),eZ,<-gK];refine BP hw h hy' (λq' zV=>?_) hp;exact yc hw h f hz hdz q' zV
theorem zF {els:List REl}:∀(f:Nat) (n:Int),gY (aK els) (f+1) n<0->vA els f n
 | 0,n,h=>by
  have h1:aY (aK els) n<0:=h;rw[dV] at h1;exact h1
 | f+1,n,h=>by
  right;have h1:gY (aK els) (f+1) (aY (aK els) n)<0:=h;rw[dV] at h1;exact zF f _ h1
end
end
section
variable {cs:List d9}{d:PDc}{dl:List ea}{i i0 j l q:Nat}{ly:Int}{aQ:List (Nat × Nat)}{ss:List (List (Nat × Nat))}
section
variable {s:ByteArray}
theorem H6 {i:Nat}{t:ByteArray}:∀n,(∀k,k<n->bt t k=bt s (i+k)/\48<=bt s (i+k))->((km t n:Nat):Int)=BO s i n
 | 0,_=>rfl
 | n+1,h=>by
  have ih:=H6 (i:=i) (t:=t) n (λk hk=>h k (by omega))
  obtain⟨h1,h2⟩:=h n (by omega)
  show((km t n*10+(bt t n - 48):Nat):Int)=BO s i n*10+((bt s (i+n):Int) - 48)
  rw[<-ih,h1]
  omega
theorem Td {kd nu va:Int}(h:CP s i j kd nu va)(hj:j<=s.size):ValRel (s.extract i j) kd nu va/\∀k,i<=k->k<j->bt s k≠33/\bt s k≠59/\bt s k≠125:=by
 have hz:(s.extract i j).size=j - i:=dH hj;rcases h with⟨h1,h2,_,_,h5⟩ | ⟨h1,h2,_,_,h5⟩ | ⟨h1,h2,_,_,h5⟩ | ⟨h1,h2,_,h4,h5,h6⟩ | ⟨h1,h2,_,h4,h5,h6,_⟩
 ·have h0:bt (s.extract i j) 0=bt s i:=by rw[ba hj (by omega)];rfl
  refine⟨af ⟨by omega,by omega,h2⟩,λk k1 k2=>?_⟩;rw[show k=i from by omega];omega
 ·have h0:bt (s.extract i j) 0=bt s i:=by rw[ba hj (by omega)];rfl
  refine⟨ai (af ⟨by omega,by omega,h2⟩),λk k1 k2=>?_⟩;rw[show k=i from by omega];omega
 ·have h0:bt (s.extract i j) 0=bt s i:=by rw[ba hj (by omega)];rfl
  refine⟨ai (ai (af ⟨by omega,by omega,h2⟩)),λk k1 k2=>?_⟩;rw[show k=i from by omega];omega
 ·have h0:bt (s.extract i j) 0=bt s i:=by rw[ba hj (by omega)];rfl
  have sJ:bt (s.extract i j) 1=bt s (i+1):=by rw[ba hj (by omega)]
  have hv:=U4 h5;refine⟨ai (ai (ai (af ⟨by omega,by omega,h2,by rw[sJ];exact h4,by rw[sJ];exact h5⟩))),λk k1 k2=>?_⟩
  by_cases e:k=i
  ·rw[e];omega
  ·rw[show k=i+1 from by omega];omega
 ·have hb:∀k,k<j - i->bt (s.extract i j) k=bt s (i+k):=λk hk=>ba hj (by omega);refine⟨ai (ai (ai (ai ⟨h1,by omega,by omega,λk hk=>?_,?_⟩))),λk k1 k2=>?_⟩
  ·rw[hb k (by omega)];exact h6 (i+k) (by omega) (by omega)
  ·rw[h2,hz];exact(H6 (j - i) (λk hk=>⟨hb k hk,(yC (h6 (i+k) (by omega) (by omega))).1⟩)).symm
  ·have:=yC (h6 k k1 k2);omega
theorem oM (h:mg s i j d)(hj:j<=s.size):(∀k,i<=k->k<j->bt s k≠59/\bt s k≠125)/\i+2<j/\∀{a b:Nat},a<=i->j<=b->b<=s.size->FC (ml (s.extract a b) (i - a) (j - a)) d:=by
 obtain⟨h1,h2,h3,k,h4,h5,h6⟩:=h;have hkj:k<=j:=by rcases h6 with h6 | h6<;>omega
 obtain⟨v1,v2⟩:=Td h4 (by omega)
 have hp:bt s i≠59/\bt s i≠125:=by
  unfold wW ts at h1;rw[Bool.or_eq_true,bF,bF] at h1;omega
 refine⟨λx x1 x2=>?_,by omega,λ{a b} ha hb F9=>?_⟩
 ·by_cases e0:x=i
  ·rw[e0];exact hp
  ·by_cases e1:x=i+1
   ·rw[e1];omega
   ·by_cases e2:x<k
    ·exact(v2 x (by omega) e2).2
    ·have e3:x=k:=by rcases h6 with h6 | h6<;>omega
     rcases h6 with h6 | h6
     ·rw[e3];omega
     ·omega
 ·have iA:(s.extract a b).size=b - a:=dH F9
  have jS:(s.extract a b).extract (i - a+2) (j - a)=s.extract (i+2) j:=by
   apply ByteArray.ext;simp only[ByteArray.data_extract,Array.extract_extract]
   congr 1<;>omega
  have nE:(s.extract (i+2) j).size=j - (i+2):=dH hj;have hpr:bt (s.extract a b) (i - a)=bt s i:=by rw[ba F9 (by omega),show a+(i - a)=i from by omega]
  have hl:bt (s.extract (i+2) j) ((s.extract (i+2) j).size - 1)=bt s (j - 1):=by rw[nE,ba hj (by omega)];congr 1;omega
  unfold ml;rw[jS,hl,hpr];rcases h6 with⟨g1,g2,g3⟩ | ⟨g1,g2,g3⟩
  ·have e1:j - 1=k:=by omega
   rw[e1,aq g2]
   have hv:(s.extract (i+2) j).extract 0 ((s.extract (i+2) j).size - 1)=s.extract (i+2) k:=by
    rw[nE];apply ByteArray.ext;simp only[ByteArray.data_extract,Array.extract_extract]
    congr 1<;>omega
   exact⟨h2.symm,h1,g1.symm,by rw[hv];exact v1⟩
  ·have e1:bt s (j - 1)≠33:=by
    have:=(v2 (j - 1) (by omega) (by omega)).1;exact this
   rw[aj e1];exact⟨h2.symm,h1,g1.symm,by rw[g3];exact v1⟩
theorem sj {α β:Type}{R:α->β->Prop}:Rel2 R [] []:=⟨rfl,λi a b h=>by simp at h⟩
theorem nh {α β:Type}{R:α->β->Prop}{a:α}{b:β}{l:List α}{m:List β}(h:R a b)(hr:Rel2 R l m):Rel2 R (a :: l) (b :: m):=by
 refine⟨by simp[hr.1],λi x y hx hy=>?_⟩;cases i with
 | zero=>
  have h1:a=x:=by simpa using hx
  have h2:b=y:=by simpa using hy
  rw[<-h1,<-h2];exact h
 | succ i=>exact hr.2 i x y (by simpa using hx) (by simpa using hy)
theorem zE {a b:Nat}(hb:b<=s.size)(hd:mg s l b d)(TY:a<=l):∀{pre:List PDc} {i:Nat} {dl:List ea} {jj:Nat},a<=i->DcPre s i l pre->(s.extract a b).size<=jj->DeclsPre (s.extract a b) (i - a) jj dl->Rel2 FC dl (pre++[d])
 | [],i,dl,jj,hai,h,VD,hp=>by
  simp only[DcPre] at h;subst h;obtain⟨n1,n2,n3⟩:=oM hd hb;have iA:(s.extract a b).size=b - a:=dH hb;cases dl with
  | nil=>
   simp only[DeclsPre] at hp;omega
  | cons x r=>
   obtain⟨p1,e,p2,p3,p4⟩:=hp;obtain⟨u1,u2,u3,u4⟩:=p2
   have he:e=b - a:=by
    by_cases h:e<b - a
    ·have J1:=u4 (by omega);rw[ba hb (by omega)] at J1;exact absurd J1 (n1 (a+e) (by omega) (by omega)).1
    ·omega
   subst he
   have hr:r=[]:=by
    cases r with
    | nil=>rfl
    | cons y r'=>
     obtain⟨q1,_⟩:=p4;omega
   rw[hr,p3];exact nh (n3 hai au hb) sj
 | d' :: pre,i,dl,jj,hai,⟨l',g1,g2,g3,g4⟩,VD,hp=>by
  have iA:(s.extract a b).size=b - a:=dH hb
  have Gl:l'+1<=l:=by
   have nF:∀{pre:List PDc} {i j:Nat},DcPre s i j pre->i<=j:=λ{pre}=>by
    induction pre with
    | nil=>intro i j h;simp only[DcPre] at h;omega
    | cons x pre ih=>rintro i j ⟨l,_,h2,_,h4⟩;have:=ih h4;omega
   exact nF g4
  have hdb:=(oM hd hb).2.1;obtain⟨n1,n2,n3⟩:=oM g1 (by omega);cases dl with
  | nil=>
   simp only[DeclsPre] at hp;omega
  | cons x r=>
   obtain⟨p1,e,p2,p3,p4⟩:=hp;obtain⟨u1,u2,u3,u4⟩:=p2
   have he:e=l' - a:=by
    by_cases h:e<l' - a
    ·have J1:=u4 (by omega);rw[ba hb (by omega)] at J1;exact absurd J1 (n1 (a+e) (by omega) (by omega)).1
    ·by_cases h2:l' - a<e
     ·have J1:=u3 (l' - a) (by omega) h2;rw[ba hb (by omega),show a+(l' - a)=l' from by omega] at J1;exact absurd g3 J1
     ·omega
   subst he;rw[p3];refine nh (n3 hai (by omega) hb) ?_;rw[show l' - a+1=l'+1 - a from by omega] at p4;exact zE hb hd TY (by omega) g4 VD p4
theorem Rq {ds:List PDc}(h:Cv s q j ds)(hj:j<=s.size)(hd:q9 (s.extract (q+1) (j - 1)) dl):Rel2 FC dl ds/\(∀k,q+1<=k->k<j - 1->bt s k≠125)/\bt s (j - 1)=125/\q+1<j:=by
 obtain⟨h1,h2⟩:=h;rcases h2 with⟨h2,rfl,rfl⟩ | ⟨h2,k,⟨pre,l,d,rfl,g2,g3,g4,g5⟩,hk,rfl⟩
 ·have hz:(s.extract (q+1) (q+2 - 1)).size=0:=by rw[dH (by omega)];omega
  obtain⟨jj,VD,hp⟩:=hd
  have:dl=[]:=by
   cases dl with
   | nil=>rfl
   | cons x r=>
    obtain⟨p1,_⟩:=hp;omega
  rw[this];exact⟨sj,λk k1 k2=>by omega,h2,by omega⟩
 ·obtain⟨jj,VD,hp⟩:=hd;rw[show k+1 - 1=k from by omega] at VD hp ⊢
  have nF:∀{pre:List PDc} {i j:Nat},DcPre s i j pre->j<=s.size->i<=j/\∀x,i<=x->x<j->bt s x≠125:=λ{pre}=>by
   induction pre with
   | nil=>intro i j h _;simp only[DcPre] at h;exact⟨by omega,λx x1 x2=>by omega⟩
   | cons y pre ih=>
    rintro i j ⟨l,h1,h2,h3,h4⟩ zO;obtain⟨i1,i2⟩:=ih h4 zO;have n1:=(oM h1 (by omega)).1;refine⟨by omega,λx x1 x2=>?_⟩
    by_cases e:x<l
    ·exact(n1 x x1 e).2
    ·by_cases e2:x=l
     ·rw[e2,h3];omega
     ·exact i2 x (by omega) x2
  obtain⟨i1,i2⟩:=nF g2 (by omega);have n1:=(oM g3 (by omega)).1;have Im:DeclsPre (s.extract (q+1) k) (q+1 - (q+1)) jj dl:=by rw[Nat.sub_self];exact hp
  refine⟨zE (by omega) g3 i1 au g2 VD Im,λx x1 x2=>?_,hk,by omega⟩
  by_cases e:x<l
  ·exact i2 x x1 e
  ·exact(n1 x (by omega) x2).2
def CS2 (s:ByteArray)(i0:Nat):List (Nat × Nat)->List d9->Prop
 | [],[]=>True
 | (p,q) :: r,x :: cs=>(fl s p q x.ty x.ps/\p<q/\q<=s.size/\x.sg=oz s i0 p)/\CS2 s i0 r cs
 | _,_=>False
theorem Uf {ty:Nat}{ks:List PPt}(hc:fl s l j ty ks)(Gk:l<j)(zO:j<=s.size):∀{pre:List d9} {i:Nat} {aQ:List (Nat × Nat)},SelPre s i0 i l pre->mi s i j aQ->CS2 s i0 aQ (pre++[⟨oz s i0 l,ty,ks⟩])
 | [],i,aQ,h,⟨pre',p,e1,e2,e3,e4⟩=>by
  simp only[SelPre] at h;subst h e1;cases pre' with
  | nil=>simp only[Segs] at e2;subst e2;exact⟨⟨hc,Gk,zO,rfl⟩,trivial⟩
  | cons x r=>
   obtain⟨p',q'⟩:=x;obtain⟨rfl,f2,f3,f4,f5⟩:=e2;have:=pT f5;have:=vh (jW hc q' f3 (by omega));rw[f4] at this;cases this
 | c :: cs,i,aQ,⟨l',h1,h2,h3,h4,h5,h6⟩,⟨pre',p,e1,e2,e3,e4⟩=>by
  have hl:=j7 h5;subst e1;cases pre' with
  | nil=>
   simp only[Segs] at e2;subst e2;have:=e4 l' (by omega) (by omega);rw[h4] at this;cases this
  | cons x r=>
   obtain⟨p',q'⟩:=x;obtain⟨rfl,f2,f3,f4,f5⟩:=e2
   have hq:q'=l':=by
    by_cases a:q'<l'
    ·have:=vh (jW h1 q' f3 a);rw[f4] at this;cases this
    ·by_cases b:l'<q'
     ·have:=f2 l' (by omega) b;rw[h4] at this;cases this
     ·omega
   subst hq;exact⟨⟨h1,h2,by omega,h6⟩,Uf hc Gk zO h5 ⟨r,p,rfl,f5,e3,e4⟩⟩
theorem NM:∀{aQ:List (Nat × Nat)} {cs:List d9},CS2 s i0 aQ cs->aQ.length=cs.length/\∀(k p q:Nat) (x:d9),aQ[k]?=some (p,q)->cs[k]?=some x->fl s p q x.ty x.ps/\p<q/\q<=s.size/\x.sg=oz s i0 p
 | [],[],_=>⟨rfl,λk p q x h=>by simp at h⟩
 | [],_ :: _,h=>h.elim
 | (_,_) :: _,[],h=>h.elim
 | (p0,q0) :: r,y :: cs,⟨h1,h2⟩=>by
  obtain⟨i1,i2⟩:=NM h2;refine⟨by simp[i1],λk p q x hk hx=>?_⟩;cases k with
  | zero=>
   have e1:(p0,q0)=(p,q):=by simpa using hk
   have e2:y=x:=by simpa using hx
   injection e1 with e3 e4
   rw[<-e2,<-e3,<-e4];exact h1
  | succ k=>exact i2 k p q x (by simpa using hk) (by simpa using hx)
theorem xV:∀{aQ:List (Nat × Nat)} {i j:Nat},Segs s i j aQ->∀(k p q:Nat),aQ[k]?=some (p,q)->(k=0->p=i)/\(0<k->i<p/\i6 (bt s (p - 1))=true)
 | [],_,_,_,k,p,q,h=>by simp at h
 | (p0,q0) :: r,i,j,⟨h1,h2,h3,h4,h5⟩,k,p,q,h=>by
  cases k with
  | zero=>
   have e1:(p0,q0)=(p,q):=by simpa using h
   injection e1 with e3 e4
   exact⟨λ_=>by omega,λh=>by omega⟩
  | succ k=>
   obtain⟨g1,g2⟩:=xV h5 k p q (by simpa using h);refine⟨λh=>by omega,λ_=>?_⟩
   by_cases hk:k=0
   ·have:=g1 hk;refine⟨by omega,?_⟩;rw[show p - 1=q0 from by omega];exact h4
   ·have:=g2 (by omega);exact⟨by omega,this.2⟩
theorem B9 (h:mi s i j aQ):∀(k p q:Nat),aQ[k]?=some (p,q)->(k=0->p=i)/\(0<k->i<p/\i6 (bt s (p - 1))=true):=by
 obtain⟨pre,p0,rfl,h2,h3,_⟩:=h;intro k p q hk
 by_cases hl:k<pre.length
 ·rw[List.getElem?_append_left hl] at hk;exact xV h2 k p q hk
 ·have p8:k=pre.length:=by
   have:=(dY.1 hk).1;simp at this;omega
  rw[List.getElem?_append_right (by omega),p8,Nat.sub_self] at hk;have e1:(p0,j)=(p,q):=by simpa using hk
  injection e1 with e3 e4
  subst e3
  have nF:∀{pre:List (Nat × Nat)} {i p0:Nat},Segs s i p0 pre->(pre=[]->p0=i)/\(pre≠[]->i<p0/\i6 (bt s (p0 - 1))=true):=λ{pre}=>by
   induction pre with
   | nil=>intro i p0 h;simp only[Segs] at h;exact⟨λ_=>by omega,λh=>absurd rfl h⟩
   | cons x pre ih=>
    obtain⟨px,qx⟩:=x;rintro i p0 ⟨g1,g2,g3,g4,g5⟩;refine⟨λh=>(by cases h),λ_=>?_⟩;have:=pT g5
    by_cases hp:pre=[]
    ·have h6:=(ih g5).1 hp;refine⟨by omega,?_⟩;rw[show p0 - 1=qx from by omega];exact g4
    ·exact⟨by omega,((ih g5).2 hp).2⟩
  refine⟨λh0=>(nF h2).1 (List.length_eq_zero_iff.1 (by omega)),λh0=>(nF h2).2 (λe=>?_)⟩;rw[e] at p8;simp at p8;omega
def nY (s:ByteArray)(aQ:List (Nat × Nat)):List RComp:=aQ.mapIdx λi x=>⟨(pA s i x.1).toNat,s.extract x.1 x.2⟩
theorem B4 {p:Nat}(h:aQ[i]?=some (p,q)):(nY s aQ)[i]?=some ⟨(pA s i p).toNat,s.extract p q⟩:=by
 unfold nY;rw[List.getElem?_mapIdx,h];rfl
theorem jM (aQ:List (Nat × Nat)):(nY s aQ).length=aQ.length:=by unfold nY;simp
theorem IX (hs:s.size<=400)(h:lb s i j cs)(h':mi s i j aQ)(zO:j<=s.size):FD (nY s aQ) cs:=by
 have DJ:=B9 h';have adA:=h';obtain⟨pre,l,ty,ks,rfl,h2,h3,h4,_,_⟩:=h;obtain⟨c1,c2⟩:=NM (Uf h3 h4 zO h2 h');obtain⟨pre',p0,Cr,hsg,Im,_⟩:=adA
 have bX:aQ.length<=400:=by
  have nF:∀{pre:List (Nat × Nat)} {i p0:Nat},Segs s i p0 pre->pre.length<=p0 - i:=λ{pre}=>by
   induction pre with
   | nil=>intro i p0 h;simp
   | cons x pre ih=>
    obtain⟨px,qx⟩:=x;rintro i p0 ⟨g1,g2,g3,g4,g5⟩;have h1:=ih g5;have:=pT g5;rw[List.length_cons];omega
  have h5:=nF hsg;have h6:=pT hsg;rw[Cr,List.length_append];have h7:aQ[pre'.length]?=some (p0,j):=by rw[Cr,List.getElem?_append_right au,Nat.sub_self];rfl
  have h8:pre'.length<(pre++[(⟨oz s i l,ty,ks⟩:d9)]).length:=by rw[<-c1,Cr];simp
  have h9:=(c2 pre'.length p0 j _ h7 (bO h8)).2.1;simp;omega
 refine⟨⟨by rw[jM];exact c1,λk rc x hk hx=>?_⟩,?_,by rw[jM];exact bX,λk rc Dz hk=>?_⟩
 ·have p8:k<aQ.length:=by have:=(dY.1 hk).1;rw[jM] at this;exact this
  obtain⟨⟨p,q⟩,kA⟩:∃y,aQ[k]?=some y:=⟨_,bO p8⟩;rw[B4 kA] at hk;injection hk with hk
  obtain⟨d1,d2,d3,d4⟩:=c2 k p q x kA hx;obtain⟨s1,s2⟩:=DJ k p q kA;rw[<-hk];refine⟨?_,s,p,q,hs,d2,d3,rfl,d1⟩;rw[d4];show(((pA s k p).toNat:Nat):Int)=oz s i p;unfold pA oz
  by_cases h0:k=0
  ·rw[aq h0,aq (s1 h0)];rfl
  ·rw[aj h0,aj (by have:=(s2 (by omega)).1;omega)];omega
 ·rw[jM,Cr];simp
 ·have p8:k<aQ.length:=by have:=(dY.1 hk).1;rw[jM] at this;exact this
  obtain⟨⟨p,q⟩,kA⟩:∃y,aQ[k]?=some y:=⟨_,bO p8⟩;rw[B4 kA] at hk;injection hk with hk
  rw[<-hk];have:=((DJ k p q kA).2 Dz).2;show i6 (pA s k p).toNat=true;unfold pA;rw[aj (by omega),Int.toNat_natCast];exact this
theorem EI (hs:s.size<=400)(hc:lb s l j cs)(Gk:l<j)(zO:j<=s.size):∀{pre:List (List d9)} {i:Nat} {ss:List (List (Nat × Nat))},SelsPre s i l pre->rj s i j ss->Rel2 FD (ss.map (nY s)) (pre++[cs])/\ss.length<=j - i
 | [],i,ss,h,⟨pre',p,aQ,e1,e2,e3,e4,e5⟩=>by
  simp only[SelsPre] at h;subst h e1;cases pre' with
  | nil=>
   simp only[RSelsPre] at e2;subst e2;exact⟨nh (IX hs hc e3 zO) sj,by simp;omega⟩
  | cons x r=>
   obtain⟨l',f1,f2,f3,f4,f5⟩:=e2;have:=jz f5;exact absurd f3 (pU hc l' f2 (by omega)).1
 | c' :: Va,i,ss,⟨l',h1,h2,h3,h4⟩,⟨pre',p,aQ,e1,e2,e3,e4,e5⟩=>by
  have hl:=jp h4;subst e1;cases pre' with
  | nil=>
   simp only[RSelsPre] at e2;subst e2;exact absurd h3 (e5 l' (by omega) (by omega))
  | cons x r=>
   obtain⟨q',f1,f2,f3,f4,f5⟩:=e2
   have hq:q'=l':=by
    by_cases a:q'<l'
    ·exact absurd f3 (pU h1 q' f2 a).1
    ·by_cases b:l'<q'
     ·exact absurd h3 (f4 l' (by omega) b)
     ·omega
   subst hq;obtain⟨i1,i2⟩:=EI hs hc Gk zO h4 ⟨r,p,aQ,rfl,f5,e3,e4,e5⟩;refine⟨nh (IX hs h1 f1 (by omega)) i1,?_⟩;rw[List.cons_append,List.length_cons];omega
theorem OH (h:ri s i j ss)(h':Bb s i l ly dl):j=l:=by
 obtain⟨p,q,a1,a2,a3,a4,a5,a6,a7⟩:=h;obtain⟨p',q',b1,b2,b3,b4,b5,b6,b7,_⟩:=h';obtain rfl:=pM a1 b1
 have kA:p<=q:=by
  obtain⟨pre,l',aQ,_,e2,e3,e4,_⟩:=a2;have:=jz e2;omega
 have hq:q=q':=by
  by_cases x:q<q'
  ·exact absurd a3 (b3 q kA x)
  ·by_cases y:q'<q
   ·exact absurd b2 (a4 q' (by omega) y)
   ·omega
 subst hq
 by_cases x:j<l
 ·exact absurd a6 (b7 (j - 1) (by omega) (by omega))
 ·by_cases y:l<j
  ·exact absurd b6 (a7 (l - 1) (by omega) (by omega))
  ·omega
theorem PZ (hs:s.size<=400){ru:dF}(zO:j<=s.size)(h:sV s i j ru)(h':ri s i j ss)(hi:Bb s i j ly dl):yE ⟨ly,ss.map (nY s),dl⟩ ru:=by
 obtain⟨p,q,a1,a2,a3,a4,a5,_,a7,a8⟩:=h;obtain⟨p',q',b1,b2,b3,b4,b5,b6,b7⟩:=h';obtain⟨p2,q2,c1,c2,c3,c4,c5,c6,c7,c8,c9⟩:=hi;obtain rfl:=pM a1 b1;obtain rfl:=pM a1 c1
 have kA:p<=q':=by
  obtain⟨pre,l',aQ,_,e2,e3,e4,_⟩:=b2;have:=jz e2;omega
 have Kh:q=q':=by
  by_cases x:q'<q
  ·exact absurd b3 (xZ a2 q' kA x)
  ·by_cases y:q<q'
   ·exact absurd a4 (b4 q (by omega) y)
   ·omega
 have yP:q2=q':=by
  by_cases x:q'<q2
  ·exact absurd b3 (c3 q' kA x)
  ·by_cases y:q2<q'
   ·exact absurd c2 (b4 q2 (by omega) y)
   ·omega
 subst yP Kh;obtain⟨pre,x,cs,e1,e2,e3,e4,_⟩:=a2;obtain⟨r1,r2⟩:=EI hs e3 e4 (by omega) e2 b2;obtain⟨d1,_⟩:=Rq a8 zO c9;refine⟨by rw[c8,a7];rfl,by rw[e1];exact r1,d1,by rw[List.length_map];omega,?_⟩;obtain⟨jj,VD,hp⟩:=c9
 have nF:∀{dl:List ea} {i jj:Nat} {t:ByteArray},DeclsPre t i jj dl->dl.length<=t.size - i:=λ{dl}=>by
  induction dl with
  | nil=>intro i jj t _;simp
  | cons x r ih=>
   rintro i jj t ⟨p1,e,p2,p3,p4⟩;have h1:=ih p4;have h2:=p2.1;rw[List.length_cons];omega
 have h1:=nF hp;rw[dH (by omega)] at h1;show dl.length<=400;omega
def B6 (s:ByteArray):List (List (List (Nat × Nat)))->List (Int × List ea)->List eA
 | ss :: rs,(ly,dl) :: is=>⟨ly,ss.map (nY s),dl⟩ :: B6 s rs is
 | _,_=>[]
theorem AK (hs:s.size<=400):∀{rs:List dF} {rs':List (List (List (Nat × Nat)))} {is:List (Int × List ea)} {i:Nat} {k:Cn} {M:Int},Acc s 0 k i M->RulsAt s i s.size rs->RRulsAt s i s.size rs'->RInfsAt s i s.size is->Rel2 yE (B6 s rs' is) rs/\rs'.length=rs.length/\is.length=rs.length/\rs.length<=s.size - i
 | [],[],[],_,_,_,_,_,_,_=>⟨sj,rfl,rfl,by simp⟩
 | [],_ :: _,_,_,_,_,_,h,⟨_,_,h2,h3⟩,_=>by simp only[RulsAt] at h;have:=xR h3;omega
 | [],[],(_,_) :: _,_,_,_,_,h,_,⟨_,_,h2,h3⟩=>by
  simp only[RulsAt] at h
  have nF:∀{is:List (Int × List ea)} {i j:Nat},RInfsAt s i j is->i<=j:=λ{is}=>by
   induction is with
   | nil=>intro i j h;simp only[RInfsAt] at h;omega
   | cons x is ih=>obtain⟨_,_⟩:=x;rintro i j ⟨l,_,h2,h3⟩;have:=ih h3;omega
  have:=nF h3;omega
 | _ :: _,[],_,_,_,_,_,⟨_,_,h2,h3⟩,h,_=>by simp only[RRulsAt] at h;have:=pS h3;omega
 | _ :: _,_ :: _,[],_,_,_,_,⟨_,_,h2,h3⟩,_,h=>by simp only[RInfsAt] at h;have:=pS h3;omega
 | r :: rs,ss :: rs',(ly,dl) :: is,i,k,M,ha,⟨j,a1,a2,a3⟩,⟨l,b1,b2,b3⟩,⟨l2,c1,c2,c3⟩=>by
  have hj:=pS a3;have hl:=xR b3;obtain⟨rfl,_,k',M',d3⟩:=Kq ha (by omega) hj hl a1 b1;obtain rfl:=OH b1 c1;obtain⟨i1,i2,i3,i4⟩:=AK hs d3 a3 b3 c3;refine⟨nh (PZ hs (by omega) a1 b1 c1) i1,by simp[i2],by simp[i3],?_⟩;rw[List.length_cons];omega
theorem NC (w:World){s:ByteArray}(hs:s.size<=maxLen)(h4:s.size<=400)(hc:(gP s).1=0):RulsAt s 0 s.size (eH s):=by
 obtain⟨e,w',_,⟨a,n,c,_,_,h⟩,_⟩:=xL w s hs [];obtain⟨rs,xs,_,_,_,h4'⟩:=h hc;rw[AJ h4 h4'];exact h4'
end
end
theorem RQ {s:ByteArray}(h:(gP s).1=0):∃M,Acc s 0 K0 0 M:=by
 have h4:=zu h;unfold gP at h;rw[aj (by omega)] at h
 by_cases hv:0<=(V s 0 K0 0).1
 ·rw[aq hv] at h;simp at h
 ·refine⟨(V s 0 K0 0).2,Prod.ext ?_ rfl⟩;have:=ME s 0 K0 0;show _=(-1:Int);omega
section
variable {G:Nat->Prop}{Rr:List eA}{hp:Option Addr}{s:ByteArray}{w w':World}{xs:List Value}
theorem pP {an:Nat}{e:TypeId}{sz:Nat}{v:Value}{n:Nat}(h:w.ownsRow an e sz v n xs)(hk:∀k,an<=k->k<w.heap.size->w'.heap[k]?=w.heap[k]?):w'.ownsRow an e sz v n xs:=by
 refine⟨h.1,?_⟩;rcases h.2 with hn | ⟨g,gV,fV,hv,hb,hg,rest⟩
 ·exact af hn
 ·exact ai ⟨g,gV,fV,hv,hb,(hk g hb (bx.1 hg).1).trans hg,rest⟩
theorem Qf:∀{xs:List Value} {aQ:List (Nat × Nat)},Txs s xs aQ->∀(i p q:Nat),aQ[i]?=some (p,q)->xs[i*2+1]?=some (.string (s.extract p q))
 | _,[],_,i,p,q,h=>by simp at h
 | _,(p0,q0) :: r,⟨sg,ys,h1,h2⟩,i,p,q,h=>by
  subst h1;cases i with
  | zero=>
   have e1:(p0,q0)=(p,q):=by simpa using h
   injection e1 with e3 e4
   rw[<-e3,<-e4];rfl
  | succ i=>
   have:=Qf h2 i p q (by simpa using h);rw[show(i+1)*2+1=i*2+1+1+1 from by omega,List.getElem?_cons_succ,List.getElem?_cons_succ];exact this
theorem JS (cs:List RComp):(mR cs).length=cs.length*2:=by
 induction cs with
 | nil=>rfl
 | cons c l ih=>unfold mR at ih ⊢;rw[List.flatMap_cons,List.length_append,ih,List.length_cons];simp;omega
theorem RW {aQ:List (Nat × Nat)}(ht:Txs s xs aQ)(hg:Sgs s xs aQ):xs=mR (nY s aQ):=by
 have hl:=ht.len;apply List.ext_getElem?;intro j
 by_cases hj:j<aQ.length*2
 ·have hi:j / 2<aQ.length:=by omega
  obtain⟨⟨p,q⟩,kA⟩:∃y,aQ[j / 2]?=some y:=⟨_,bO hi⟩;have hrc:=B4 (s:=s) kA;have jJ:j / 2<(nY s aQ).length:=by rw[jM];exact hi
  have yz:(nY s aQ)[j / 2]=⟨(pA s (j / 2) p).toNat,s.extract p q⟩:=by
   rw[bO jJ] at hrc;injection hrc
  obtain⟨f1,f2⟩:=rC jJ;rw[yz] at f1 f2
  by_cases h0:j % 2=0
  ·have e1:j=j / 2*2:=by omega
   rw[e1];rw[hg (j / 2) p q kA,f1]
   have:(((pA s (j / 2) p).toNat:Nat):Int)=pA s (j / 2) p:=by
    unfold pA;split<;>omega
   show some (Value.int .u8 (pA s (j / 2) p))=some (.int .u8 (((pA s (j / 2) p).toNat:Nat):Int));rw[this]
  ·have e1:j=j / 2*2+1:=by omega
   rw[e1];rw[Qf ht (j / 2) p q kA,f2]
 ·rw[List.getElem?_eq_none (by omega),List.getElem?_eq_none (by rw[JS,jM];omega)]
section
variable {s:ByteArray}{an:Nat}
theorem RSels.agree (hk:∀k,an<=k->k<w.heap.size->w'.heap[k]?=w.heap[k]?):∀{xs:List Value} {ss:List (List (Nat × Nat))},RSels w s an xs ss->RSels w' s an xs ss
 | _,[],h=>h
 | _,_ :: _,⟨a,c,ps,ys,h1,h2,h3,h4⟩=>⟨a,c,ps,ys,h1,pP h2 hk,h3,RSels.agree hk h4⟩
theorem RRuls.agree (hk:∀k,an<=k->k<w.heap.size->w'.heap[k]?=w.heap[k]?):∀{xs:List Value} {rs:List (List (List (Nat × Nat)))},RRuls w s an xs rs->RRuls w' s an xs rs
 | _,[],h=>h
 | _,_ :: _,⟨lv,a,c,vD,ps,ys,h1,h2,h3,h4⟩=>⟨lv,a,c,vD,ps,ys,h1,pP h2 hk,h3.agree hk,RRuls.agree hk h4⟩
theorem RDecs.agree (hk:∀k,an<=k->k<w.heap.size->w'.heap[k]?=w.heap[k]?):∀{xs:List Value} {is:List (Int × List ea)},RDecs w an xs is->RDecs w' an xs is
 | _,[],h=>h
 | _,(_,_) :: _,⟨vS,a,c,ys,h1,h2,h3⟩=>⟨vS,a,c,ys,h1,pP h2 hk,RDecs.agree hk h3⟩
theorem IS:∀{xs:List Value} {ss:List (List (Nat × Nat))},RSels w s an xs ss->SelsM w 0 xs (ss.map (nY s))
 | _,[],_=>λi hi=>by simp at hi
 | _,aQ :: ss,⟨a,c,ps,ys,h1,h2,⟨h3,h3'⟩,h4⟩=>λi hi=>by
  subst h1;cases i with
  | zero=>
   refine⟨a,c,?_,?_⟩
   ·show some (Value.slice a aQ.length c)=some (.slice a (nY s aQ).length c);rw[jM]
   ·show w.ownsRow 0 206 2 (.slice a (nY s aQ).length c) (nY s aQ).length (mR (nY s aQ));rw[jM,<-RW h3 h3'];exact aP h2 aZ
  | succ i=>exact IS h4 i (by simpa using hi)
theorem xQ:∀{xs:List Value} {rs:List (List (List (Nat × Nat)))} {is:List (Int × List ea)},RRuls w s an xs rs->RDecs w an xs is->rs.length=is.length->(B6 s rs is).length=rs.length/\∀r (h:r<(B6 s rs is).length),RuM w xs r (B6 s rs is)[r]
 | _,[],[],_,_,_=>⟨rfl,λr h=>by simp[B6] at h⟩
 | _,[],_ :: _,_,_,h=>by simp at h
 | _,_ :: _,[],_,_,h=>by simp at h
 | _,ss :: rs,(ly,dl) :: is,⟨lv,a,c,vD,ps,ys,h1,h2,h3,h4⟩,⟨vS,a',c',ys',g1,g2,g3⟩,hl=>by
  subst h1;injection g1 with e1 g1
  injection g1 with e2 g1
  injection g1 with e3 g1
  injection e1 with _ e1
  subst g1 e3 e2 e1;obtain⟨i1,i2⟩:=xQ h4 g3 (by simpa using hl);refine⟨by simp[B6,i1],λr hr=>?_⟩;cases r with
  | zero=>
   refine⟨a,c,a',c',ps,rfl,?_,rfl,?_,?_,aP g2 aZ⟩
   ·show some (Value.slice a ss.length c)=some (.slice a (ss.map (nY s)).length c);rw[List.length_map]
   ·show w.ownsRow 0 166 1 (.slice a (ss.map (nY s)).length c) (ss.map (nY s)).length ps;rw[List.length_map];exact aP h2 aZ
   ·exact IS h3
  | succ r=>
   obtain⟨aS,cS,aD,cD,zs,k1,k2,k3,k4⟩:=i2 r (by simpa[B6] using hr);refine⟨aS,cS,aD,cD,zs,?_,?_,?_,k4⟩
   ·rw[show(r+1)*3=r*3+1+1+1 from by omega,List.getElem?_cons_succ,List.getElem?_cons_succ,List.getElem?_cons_succ];exact k1
   ·rw[show(r+1)*3+1=r*3+1+1+1+1 from by omega,List.getElem?_cons_succ,List.getElem?_cons_succ,List.getElem?_cons_succ];exact k2
   ·rw[show(r+1)*3+2=r*3+2+1+1+1 from by omega,List.getElem?_cons_succ,List.getElem?_cons_succ,List.getElem?_cons_succ];exact k3
end
def ShIn (w:World)(G:Nat->Prop)(hp:Option Addr)(Rr:List eA):Prop:=∀w':World,(∀k,G k->k<w.heap.size->w'.heap[k]?=w.heap[k]?)->ShM w' hp Rr
theorem ShIn.keep (h:ShIn w G hp Rr)(hk:∀k,G k->k<w.heap.size->w'.heap[k]?=w.heap[k]?)(hz:w.heap.size<=w'.heap.size):ShIn w' G hp Rr:=λw2 h2=>h w2 (λk hg hl=>(h2 k hg (by omega)).trans (hk k hg hl))
theorem ShIn.here (h:ShIn w G hp Rr):ShM w hp Rr:=h w (λ_ _ _=>rfl)
theorem xM {e:Ending}(hs:s.size<=maxLen)(h:zm w s e w')(hc:(gP s).1=0):∃(pa:Option Addr) (Rr:List eA),e=.returned (.tuple #[.pointer pa,.int .i64 0,.int .i64 (gP s).2])/\Below w.heap.size w w'/\ShIn w' (λk=>w.heap.size<=k/\k<w'.heap.size) pa Rr/\Rel2 yE Rr (eH s)/\Rr.length<=400:=by
 obtain⟨pa,he,hB,h0⟩:=h;obtain⟨b,a,c,rs,xs,mn,hpa,tp,VO,T8,hra,⟨is,hde,jS⟩,hbb⟩:=h0 hc;have h4:=zu hc;obtain⟨M,BB⟩:=RQ hc;obtain⟨r1,r2,r3,r4⟩:=AK h4 BB (NC w hs h4 hc) hra jS;obtain⟨m1,_⟩:=xQ T8 hde (by omega);refine⟨pa,B6 s rs is,by rw[<-hc];exact he,hB,λw2 hk=>?_,r1,by omega⟩;have fT:∀k,w.heap.size<=k->k<w'.heap.size->w2.heap[k]?=w'.heap[k]?:=λk h1 h2=>hk k ⟨h1,h2⟩ h2;obtain⟨_,m2⟩:=xQ (T8.agree fT) (hde.agree fT) (by omega);refine⟨b,a,c,xs,mn,hpa,?_,?_,m2⟩
 ·rw[m1];exact(fT b hbb tp.lt).trans tp
 ·rw[m1];exact aP (pP VO fT) aZ
end
section
variable {l:List REl}
structure ClsOK (s:ByteArray):Prop where
 let':∀i,i<s.size->gw (bt s i)=true
 one:∀i j,i<j->j<s.size->bt s i≠bt s j
theorem ClsOK.few {s:ByteArray}(h:ClsOK s):s.size<=26:=by
 have h1:((List.range s.size).map λi=>bt s i).Nodup:=by
  rw[List.nodup_iff_pairwise_ne,List.pairwise_map];refine List.Pairwise.imp_of_mem ?_ (List.pairwise_lt_range (n:=s.size));intro a b _ hb J3;exact h.one a b J3 (List.mem_range.1 hb)
 have h2:=dw h1 (m:=(List.range 26).map λi=>97+i) (λk hk=>by
  obtain⟨i,hi,rfl⟩:=bm.1 hk;have:=Js (h.let' i (List.mem_range.1 hi));exact bm.2 ⟨bt s i - 97,List.mem_range.2 (by omega),by omega⟩)
 simpa using h2
theorem NE:ClsOK ⟨#[]⟩:=⟨λi hi=>absurd hi (Nat.not_lt_zero i),λ_ j _ hj=>absurd hj (Nat.not_lt_zero j)⟩
def mz (f:Nat->Bool)(k:Nat)(b:Bool):Nat->Bool:=λj=>if j=k then b else f j
structure RE (els:List REl)(M:Nat->Mk)(shn:Nat->Bool):Prop where
 rm:RM els M
 shw:∀y∈els,y.sh=shn y.num
 cls:∀y∈els,ClsOK y.cl
section
variable {els:List REl}{M:Nat->Mk}{shn:Nat->Bool}
theorem RE.sub (h:RE els M shn)(hl:∀y∈l,∃x∈els,y.num=x.num/\y.kd=x.kd/\y.cl=x.cl/\y.nm=x.nm/\y.sh=x.sh):RE l M shn:=by
 refine⟨⟨λy hy=>?_,λy hy=>?_,λy hy=>?_⟩,λy hy=>?_,λy hy=>?_⟩
 all_goals obtain⟨x,hx,h1,h2,h3,h4,h5⟩:=hl y hy
 ·rw[h1,h2];exact h.rm.kd x hx
 ·rw[h1,h3];exact h.rm.cl x hx
 ·rw[h1,h4];exact h.rm.nm x hx
 ·rw[h1,h5];exact h.shw x hx
 ·rw[h3];exact h.cls x hx
theorem EX (b:Nat)(kids:List Nat)(ks:Value)(x:REl):(ee b kids ks x).num=x.num/\(ee b kids ks x).kd=x.kd/\(ee b kids ks x).cl=x.cl/\(ee b kids ks x).nm=x.nm/\(ee b kids ks x).sh=x.sh:=by
 unfold ee;split<;>exact⟨rfl,rfl,rfl,rfl,rfl⟩
theorem RE.upd (h:RE els M shn)(hl:∀y∈l,y∈els)(b:Nat)(kids:List Nat)(ks:Value):RE (l.map (ee b kids ks)) M shn:=h.sub (λy hy=>by
 obtain⟨x,hx,rfl⟩:=bm.1 hy;exact⟨x,hl x hx,EX b kids ks x⟩)
theorem MK (c:Nat):sI c ⟨#[]⟩=false:=by
 unfold sI;rw[gU];rintro⟨k,hk,_⟩;exact absurd hk (Nat.not_lt_zero k)
theorem RE.new (h:RE els M shn){made:Nat}(hn:∀y∈els,y.num≠made){kind:ByteArray}(hk:aG kind=true)(b:Nat):RE (els++[iL b made kind]) (bM M made (d8 kind)) (mz shn made false):=by
 have e1:∀y∈els,bM M made (d8 kind) y.num=M y.num:=λy hy=>by unfold bM;rw[aj (hn y hy)]
 have e2:bM M made (d8 kind) made=d8 kind:=by unfold bM;rw[aq rfl]
 refine⟨⟨λy hy=>?_,λy hy=>?_,λy hy=>?_⟩,λy hy=>?_,λy hy=>?_⟩
 all_goals rcases List.mem_append.1 hy with hy | hy
 ·rw[e1 y hy];exact h.rm.kd y hy
 ·rw[fg] at hy;subst hy;show aG kind=true/\(bM M made (d8 kind) made).kd=bt kind 0;rw[e2];exact⟨hk,rfl⟩
 ·rw[e1 y hy];exact h.rm.cl y hy
 ·rw[fg] at hy;subst hy;intro c;show sI c ⟨#[]⟩=(decide (97<=c/\c<=122)&&(bM M made (d8 kind) made).cl (c - 97));rw[e2,MK];show false=(_&&false);rw[Bool.and_false]
 ·rw[e1 y hy];exact h.rm.nm y hy
 ·rw[fg] at hy;subst hy;left;refine⟨rfl,?_⟩;show(bM M made (d8 kind) made).nm=0;rw[e2];rfl
 ·show y.sh=(if y.num=made then false else shn y.num);rw[aj (hn y hy)];exact h.shw y hy
 ·rw[fg] at hy;subst hy;show false=(if made=made then false else shn made);rw[aq rfl]
 ·exact h.cls y hy
 ·rw[fg] at hy;subst hy;exact NE
end
structure RX (w:World)(d:Nat)(els:List REl)(made:Nat)(hp:Option Addr)(vT:Value)(bi:Bool)(vL:Value)(Rr:List eA)(Gs:Nat->Prop)(M:Nat->Mk)(shn:Nat->Bool)(rs:List dF):Prop where
 rd:RD w d els made hp vT bi vL
 tw:TW (aK els) made
 re:RE els M shn
 sh:ShIn w Gs hp Rr
 rel:Rel2 yE Rr rs
 few:Rr.length<=400
 tb:bi=true->∃Tb,w.ownsRow 0 234 9 vT els.length (lR Tb els.length)/\TabR els M rs Tb
 gl:∀k,Gs k->k<w.heap.size
 ga:∀k,Gs k->¬jQ d els vL k
def RSd (w:World)(d:Nat)(T:aJ)(made:Nat)(M:Nat->Mk)(shn:Nat->Bool)(rs:List dF)(F:Nat->Prop):Prop:=
 ∃els hp vT bi vL Rr Gs,RX w d els made hp vT bi vL Rr Gs M shn rs/\T=aK els/\(∀k,jQ d els vL k->F k)/\(∀k,Gs k->F k)/\(bi=true->∀k,vT.ownBlock=some k->F k)
section
variable {w w':World}{d:Nat}{els:List REl}{made:Nat}{hp:Option Addr}{vT:Value}{bi:Bool}{vL:Value}{Rr:List eA}{Gs:Nat->Prop}{M:Nat->Mk}{shn:Nat->Bool}{rs:List dF}{T:aJ}{F:Nat->Prop}
theorem FV (h:RD w d els made hp vT bi vL):∀k,jQ d els vL k->k<w.heap.size:=by
 rintro k (rfl | ⟨e,he,rfl⟩ | hk | ⟨e,he,hk⟩)
 ·exact(bx.1 h.doc).1
 ·exact(bx.1 (h.el e he)).1
 ·exact(h.row.lt k hk).2
 ·exact((h.kid e he).lt k hk).2
theorem RX.keep (h:RX w d els made hp vT bi vL Rr Gs M shn rs)(hk:∀k,jQ d els vL k∨Gs k∨(bi=true/\vT.ownBlock=some k)->k<w.heap.size->w'.heap[k]?=w.heap[k]?)(hz:w.heap.size<=w'.heap.size):RX w' d els made hp vT bi vL Rr Gs M shn rs:=
 ⟨h.rd.keep (λk hf hl=>hk k (af hf) hl),h.tw,h.re,h.sh.keep (λk hg hl=>hk k (ai (af hg)) hl) hz,h.rel,h.few,λhh=>by
  obtain⟨Tb,h1,h2⟩:=h.tb hh;refine⟨Tb,?_,h2⟩;refine⟨h1.1,?_⟩;rcases h1.2 with hn | ⟨g,gV,fV,hv,hb,hg,rest⟩
  ·exact af hn
  ·exact ai ⟨g,gV,fV,hv,hb,(hk g (ai (ai ⟨hh,by rw[hv];rfl⟩)) (bx.1 hg).1).trans hg,rest⟩,λk hg=>Nat.lt_of_lt_of_le (h.gl k hg) hz,h.ga⟩
theorem RSd.keep (h:RSd w d T made M shn rs F)(hk:∀k,F k->k<w.heap.size->w'.heap[k]?=w.heap[k]?)(hz:w.heap.size<=w'.heap.size):RSd w' d T made M shn rs F:=by
 obtain⟨els,hp,vT,bi,vL,Rr,Gs,h1,h2,h3,h4,h5⟩:=h;refine⟨els,hp,vT,bi,vL,Rr,Gs,h1.keep (λk hf hl=>hk k ?_ hl) hz,h2,h3,h4,h5⟩;rcases hf with hf | hf | ⟨hh,hf⟩
 ·exact h3 k hf
 ·exact h4 k hf
 ·exact h5 hh k hf
theorem RSd.here (h:RSd w d T made M shn rs F):RSd w d T made M shn rs (λk=>F k/\k<w.heap.size):=by
 obtain⟨els,hp,vT,bi,vL,Rr,Gs,h1,h2,h3,h4,h5⟩:=h;refine⟨els,hp,vT,bi,vL,Rr,Gs,h1,h2,λk hk=>⟨h3 k hk,FV h1.rd k hk⟩,λk hk=>⟨h4 k hk,h1.gl k hk⟩,λhh k hk=>⟨h5 hh k hk,?_⟩⟩;obtain⟨Tb,h6,_⟩:=h1.tb hh;exact(h6.lt k hk).2
theorem RSd.wide (h:RSd w d T made M shn rs F){F':Nat->Prop}(hs:∀k,F k->F' k):RSd w d T made M shn rs F':=by
 obtain⟨els,hp,vT,bi,vL,Rr,Gs,h1,h2,h3,h4,h5⟩:=h;exact⟨els,hp,vT,bi,vL,Rr,Gs,h1,h2,λk hk=>hs k (h3 k hk),λk hk=>hs k (h4 k hk),λhh k hk=>hs k (h5 hh k hk)⟩
theorem RSd.tw (h:RSd w d T made M shn rs F):TW T made:=by
 obtain⟨els,hp,vT,bi,vL,Rr,Gs,h1,rfl,_⟩:=h;exact h1.tw
theorem RSd.few (h:RSd w d T made M shn rs F):T.length<=24:=by
 obtain⟨els,hp,vT,bi,vL,Rr,Gs,h1,rfl,_⟩:=h;rw[rq];exact h1.rd.few
theorem RX.turn (h:RX w d els made hp vT bi vL Rr Gs M shn rs)(hf:Fr w w' (jQ d els vL)){bP:List REl}{made':Nat}{vL':Value}{M':Nat->Mk}{P6:Nat->Bool}(hR:RD w' d bP made' hp vT false vL')(hw:TW (aK bP) made')(he:RE bP M' P6)(qY:∀k,jQ d bP vL' k->jQ d els vL k∨w.heap.size<=k):RX w' d bP made' hp vT false vL' Rr Gs M' P6 rs:=
 ⟨hR,hw,he,h.sh.keep (λk hg hl=>hf.block k hl (h.ga k hg)) hf.size,h.rel,h.few,λhh=>(by cases hh),λk hg=>Nat.lt_of_lt_of_le (h.gl k hg) hf.size,λk hg hx=>by
  rcases qY k hx with h1 | h1
  ·exact h.ga k hg h1
  ·have:=h.gl k hg;omega⟩
theorem RX.rsd (h:RX w d els made hp vT bi vL Rr Gs M shn rs)(h3:∀k,jQ d els vL k->F k)(h4:∀k,Gs k->F k)(h5:bi=true->∀k,vT.ownBlock=some k->F k):RSd w d (aK els) made M shn rs F:=⟨els,hp,vT,bi,vL,Rr,Gs,h,rfl,h3,h4,h5⟩
end
section
variable (w:World)(d:Nat)(T:aJ)(made:Nat)(M:Nat->Mk)(shn:Nat->Bool)(rs:List dF)(F:Nat->Prop)
def Jf (par at':Int)(kind:ByteArray)(e:Ending)(w':World):Prop:=
 ∃y T' made' n,e=.returned (.tuple #[.int .i64 n,.int .i64 y])/\TIns T made par at' kind y T' made' n/\RSd w' d T' made' (if y=0 then bM M made (d8 kind) else M) (if y=0 then mz shn made false else shn) rs (cJ F w)/\Fr w w' F
theorem Ei (par at':Int)(kind:ByteArray)(h:RSd w d T made M shn rs F)(mW:made<=1099511627776):
  Calls prog 142 #[.pointer (some ⟨d,0,none⟩),.int .i64 par,.int .i64 at',.string kind] w λe w'=>Jf w d T made M shn rs F par at' kind e w':=by
 have rK:=h.wide (F':=cJ F w) (λk hk=>af hk);obtain⟨els,hp,vT,bi,vL,Rr,Gs,hX,rfl,hF,hG,_⟩:=h;have hR:=hX.rd;have hw:=hX.tw
 have bX:∀e∈els,e.kids.length<els.length:=λe he=>by
  have:=hw.len (e:=(e.num,e.kids)) (bm.2 ⟨e,he,rfl⟩);rw[rq] at this;exact this
 refine(ze w d els made hp vT bi vL par at' kind hR bX mW).mono ?_;rintro e w' (⟨y,rfl,hy,he,rfl⟩ | ⟨p,k,ks,b,vL',rfl,he,hf,BC,hk,TP,TL,hb,sL,uR⟩)
 ·rw[It] at he;refine⟨y,aK els,made,0,rfl,⟨he.symm,af ⟨hy,rfl,rfl,rfl⟩⟩,?_,Fr.refl _ _⟩;rw[aj hy,aj hy];exact rK
 ·have kR:aG kind=true:=by
   unfold jo at he;rw[hf] at he
   by_cases hl:aG kind=true
   ·exact hl
   ·have VI:aG kind=false:=by simpa using hl
    have Vz:(if at'<0∨(p.kids.length:Int)<at' then(8:Int) else if aG kind=false then 4 else if 24<=els.length then 9 else 0)=0:=he;rw[aj (by omega),aq VI] at Vz;cases Vz
  rw[It] at he;obtain⟨fA,qB⟩:=cN hf;have WJ:=hR.apart (by rw[<-mC];exact hw.nums);have So:(p.num,p.kids)∈aK els:=bm.2 ⟨p,fA,rfl⟩
  have Ds:aK (els.map (ee p.blk (cY p.kids k made) ks)++[iL b made kind])=lH (aK els) p.num k made:=by
   unfold lH;rw[<-vi hw.nums So (λe he=>he) (λl=>cY l k made),<-rt WJ (λe he=>he) fA _ ks];unfold aK;rw[List.map_append];rfl
  have qY:∀j,jQ d (els.map (ee p.blk (cY p.kids k made) ks)++[iL b made kind]) vL' j->jQ d els vL j∨w.heap.size<=j:=by
   intro j hj;have Il:=uZ (b:=p.blk) (kids:=cY p.kids k made) (ks:=ks) (vL':=vL') (S:=λj=>jQ d els vL j∨w.heap.size<=j) (λk hk=>af hk) (λk hk=>ai (sL k hk)) (λk hk=>(uR k hk).elim (λx=>af (ai (ai (af x)))) ai);rcases hj with rfl | ⟨e,he,rfl⟩ | hj | ⟨e,he,hj⟩
   ·exact Il _ (af rfl)
   ·rcases List.mem_append.1 he with he | he
    ·exact Il _ (ai (af ⟨e,he,rfl⟩))
    ·rw[fg] at he;subst he;exact ai hb
   ·exact Il _ (ai (ai (af hj)))
   ·rcases List.mem_append.1 he with he | he
    ·exact Il _ (ai (ai (ai ⟨e,he,hj⟩)))
    ·rw[fg] at he;subst he;simp[iL,Value.ownBlock] at hj
  have yz:=(hX.re.upd (λ_ h=>h) p.blk (cY p.kids k made) ks).new (made:=made) (λy hy e=>by
   obtain⟨x,hx,rfl⟩:=bm.1 hy;rw[(EX _ _ _ x).1] at e;have:=hw.lt _ (jK hx);have h2:x.num<made:=this;omega) kR b
  have Vs:=hX.turn TL TP (by rw[Ds];exact hw.ins ⟨p.kids,So⟩) yz qY;refine⟨0,lH (aK els) p.num k made,made+1,made,rfl,⟨he.symm,ai ⟨rfl,rfl,rfl,p.num,k,qB.symm,BC,⟨p.kids,So,hk⟩,rfl⟩⟩,?_,TL.mono hF⟩;rw[aq rfl,aq rfl,<-Ds];exact Vs.rsd (λj hj=>(qY j hj).imp (hF j) id) (λj hj=>af (hG j hj)) (λhh=>by cases hh)
def Jh (n:Int)(e:Ending)(w':World):Prop:=∃y T',e=.returned (.int .i64 y)/\TRem T n y T'/\RSd w' d T' made M shn rs (cJ F w)/\Fr w w' F
theorem Ek (n:Int)(h:RSd w d T made M shn rs F):
  Calls prog 145 #[.pointer (some ⟨d,0,none⟩),.int .i64 n] w λe w'=>Jh w d T made M shn rs F n e w':=by
 have rK:=h.wide (F':=cJ F w) (λk hk=>af hk);obtain⟨els,hp,vT,bi,vL,Rr,Gs,hX,rfl,hF,hG,_⟩:=h;have hR:=hX.rd;have hw:=hX.tw;obtain⟨rk,Sq⟩:=pj hw;refine(zf w d els made hp vT bi vL n hR rk Sq).mono ?_;rintro e w' (⟨hf,rfl,rfl⟩ | ⟨⟨y,hf⟩,eZ,rfl,rfl⟩ | ⟨p,ks,vL',⟨y,hf⟩,eZ,Cs,rfl,TP,TL,sL,uR⟩)
 ·refine⟨5,aK els,rfl,⟨?_,af ⟨by decide,rfl⟩⟩,rK,Fr.refl _ _⟩;unfold kT;rw[cK hf]
 ·refine⟨6,aK els,rfl,⟨?_,af ⟨by decide,rfl⟩⟩,rK,Fr.refl _ _⟩;unfold kT;rw[cH hf,dV];exact(aq eZ).symm
 ·obtain⟨OG,zY⟩:=cN hf;obtain⟨fA,qB⟩:=cN Cs;have WJ:=hR.apart (by rw[<-mC];exact hw.nums);have So:(p.num,p.kids)∈aK els:=bm.2 ⟨p,fA,rfl⟩;have hyT:(y.num,y.kids)∈aK els:=bm.2 ⟨y,OG,rfl⟩
  have h0:y.num≠0:=λe=>by
   have h1:=hw.root_par;rw[dV] at h1;rw[<-zY,e] at eZ;have:bc els ((0:Nat):Int)=bc els 0:=rfl;omega
  have yQ:∀e∈dC els n els,e∈els:=λe he=>(dA.1 he).1
  have Ds:aK ((dC els n els).map (ee p.blk (aw n p.kids) ks))=j8 (aK els) y.num:=by
   unfold j8;have Ox:(aY (aK els) (y.num:Int)).toNat=p.num:=by rw[dV,zY];omega
   rw[rt WJ yQ fA,Ox,Jz,zY,vi hw.nums So (λe he=>(dA.1 he).1) (aw n)]
  have qY:∀j,jQ d ((dC els n els).map (ee p.blk (aw n p.kids) ks)) vL' j->jQ d els vL j∨w.heap.size<=j:=by
   refine uZ (vL:=vL) ?_ (λk hk=>ai (sL k hk)) (λk hk=>ai (uR k hk));rintro k (rfl | ⟨e,he,rfl⟩ | hk | ⟨e,he,hk⟩)
   ·exact af (af rfl)
   ·exact af (ai (af ⟨e,(dA.1 he).1,rfl⟩))
   ·exact af (ai (ai (af hk)))
   ·exact af (ai (ai (ai ⟨e,(dA.1 he).1,hk⟩)))
  have Vs:=hX.turn TL TP (by rw[Ds];exact hw.rem hyT h0) (hX.re.upd yQ _ _ _) qY;refine⟨0,j8 (aK els) y.num,rfl,⟨?_,ai ⟨rfl,y.num,zY.symm,h0,⟨_,hyT⟩,rfl⟩⟩,?_,TL.mono hF⟩
  ·unfold kT;rw[cH hf,dV];exact(aj (by omega)).symm
  ·rw[<-Ds];exact Vs.rsd (λj hj=>(qY j hj).imp (hF j) id) (λj hj=>af (hG j hj)) (λhh=>by cases hh)
def Jg (n m at':Int)(e:Ending)(w':World):Prop:=∃y T',e=.returned (.int .i64 y)/\TMov T n m at' y T'/\RSd w' d T' made M shn rs (cJ F w)/\Fr w w' F
theorem KX (n m at':Int)(h:RSd w d T made M shn rs F):
  Calls prog 147 #[.pointer (some ⟨d,0,none⟩),.int .i64 n,.int .i64 m,.int .i64 at'] w λe w'=>Jg w d T made M shn rs F n m at' e w':=by
 have rK:=h.wide (F':=cJ F w) (λk hk=>af hk);obtain⟨els,hp,vT,bi,vL,Rr,Gs,hX,rfl,hF,hG,_⟩:=h;have hR:=hX.rd;have hw:=hX.tw;obtain⟨rk,Sq⟩:=pj hw
 have bX:∀e∈els,e.kids.length<els.length:=λe he=>by
  have:=hw.len (e:=(e.num,e.kids)) (bm.2 ⟨e,he,rfl⟩);rw[rq] at this;exact this
 refine(Ep w d els made hp vT bi vL n m at' hR rk Sq bX).mono ?_;rintro e w' (⟨hf,rfl,rfl⟩ | ⟨y,p,hf,Cs,⟨eZ,rfl,rfl⟩ | ⟨eZ,hu,rfl,rfl⟩ | ⟨eZ,hu,BC,rfl,TP,hB⟩ | ⟨q,k,k1,k2,eZ,hu,BC,hk,hqf,rfl,TP,TL,pJ,fT⟩⟩)
 ·refine⟨5,aK els,rfl,⟨?_,af ⟨by decide,rfl⟩⟩,rK,Fr.refl _ _⟩;unfold jg;rcases hf with hf | hf
  ·rw[cK hf]
  ·rw[cK hf];cases bw (aK els) n<;>rfl
 ·refine⟨6,aK els,rfl,⟨?_,af ⟨by decide,rfl⟩⟩,rK,Fr.refl _ _⟩;unfold jg;rw[cH hf,cH Cs,dV];exact(aq eZ).symm
 ·refine⟨7,aK els,rfl,⟨?_,af ⟨by decide,rfl⟩⟩,rK,Fr.refl _ _⟩;unfold jg;rw[cH hf,cH Cs,dV];show _=if _ then _ else _
  rw[aj (by omega),aq (bp.2 ((mD els n m).2 hu))]
 ·refine⟨8,aK els,rfl,⟨?_,af ⟨by decide,rfl⟩⟩,rK.keep (λk _ hl=>hB.block k hl) hB.size,(Fr.refl w F).below hB⟩;unfold jg;rw[cH hf,cH Cs,dV];show _=if _ then _ else _
  rw[aj (by omega),aj (λx=>hu ((mD els n m).1 (bp.1 x))),aq BC]
 ·obtain⟨OG,zY⟩:=cN hf;obtain⟨fA,qB⟩:=cN Cs;obtain⟨Oz,hqn⟩:=cN hqf;have WJ:=hR.apart (by rw[<-mC];exact hw.nums);have So:(p.num,p.kids)∈aK els:=bm.2 ⟨p,fA,rfl⟩;have hqT:(q.num,q.kids)∈aK els:=bm.2 ⟨q,Oz,rfl⟩;have hyT:(y.num,y.kids)∈aK els:=bm.2 ⟨y,OG,rfl⟩
  have h0:y.num≠0:=λe=>by
   have h1:=hw.root_par;rw[dV] at h1;rw[<-zY,e] at eZ;have:bc els ((0:Nat):Int)=bc els 0:=rfl;omega
  have Kd:¬dD (aK els) y.num p.num:=λx=>hu (by rw[<-zY,<-qB];exact(mD els _ _).1 x)
  have Ds:aK ((els.map (ee q.blk (aw n q.kids) k1)).map (ee p.blk (cY (aw n p.kids) k y.num) k2))=lI (aK els) y.num p.num k:=by
   have acU:Cu (els.map (ee q.blk (aw n q.kids) k1)):=by
    intro e he f Sb;obtain⟨e',Vz,rfl⟩:=bm.1 he;obtain⟨f',hf'',rfl⟩:=bm.1 Sb;rw[ky,ky,yl,yl];exact WJ e' Vz f' hf''
   have hp1:ee q.blk (aw n q.kids) k1 p∈els.map (ee q.blk (aw n q.kids) k1):=bm.2 ⟨p,fA,rfl⟩;have h1:=rt acU (λe he=>he) hp1 (cY (aw n p.kids) k y.num) k2;rw[ky,yl] at h1;rw[h1,rt WJ (λe he=>he) Oz,vi hw.nums hqT (λe he=>he) (aw n)];unfold lI;have Ox:(aY (aK els) (y.num:Int)).toNat=q.num:=by rw[dV,zY];omega
   rw[Ox,zY];have jS:(p.num,if p.num=q.num then aw n p.kids else p.kids)∈sy q.num (aw n) (aK els):=m7.2 ⟨_,So,rfl,rfl⟩;rw[<-vi (by rw[j9];exact hw.nums) jS (λe he=>he) (λl=>cY (aw n l) k y.num)]
   congr 1
   funext _;show _=cY (aw n (if _ then _ else _)) k y.num;split
   ·rw[rV]
   ·rfl
  have qY:∀j,jQ d ((els.map (ee q.blk (aw n q.kids) k1)).map (ee p.blk (cY (aw n p.kids) k y.num) k2)) vL j->jQ d els vL j∨w.heap.size<=j:=
   uZ (vL:=vL) (uZ (vL:=vL) (λk hk=>af hk) (λk hk=>ai (pJ k hk)) (λk hk=>af (ai (ai (af hk))))) (λk hk=>ai (fT k hk)) (λk hk=>af (ai (ai (af hk))))
  have Vs:=hX.turn TL TP (by rw[Ds];exact hw.mov hyT h0 So Kd) ((hX.re.upd (λ_ h=>h) _ _ _).upd (λ_ h=>h) _ _ _) qY;refine⟨0,lI (aK els) y.num p.num k,rfl,⟨?_,ai ⟨rfl,y.num,p.num,k,zY.symm,qB.symm,BC,h0,⟨_,hyT⟩,⟨_,So,by rw[zY];exact hk⟩,Kd,rfl⟩⟩,?_,TL.mono hF⟩
  ·unfold jg;rw[cH hf,cH Cs,dV];show _=if _ then _ else _
   rw[aj (by omega),aj (λx=>hu ((mD els n m).1 (bp.1 x))),aj (by omega)]
  ·rw[<-Ds];exact Vs.rsd (λj hj=>(qY j hj).imp (hF j) id) (λj hj=>af (hG j hj)) (λhh=>by cases hh)
end
end
section
variable {c i:Nat}{cl s:ByteArray}{f:REl->REl}
def qV (s:ByteArray):List Nat:=(List.range s.size).map λi=>bt s i
theorem jd (s:ByteArray):(qV s).length=s.size:=by unfold qV;simp
theorem s9 (h:i<s.size):(qV s)[i]?=some (bt s i):=by unfold qV;rw[List.getElem?_map,List.getElem?_range h];rfl
theorem MU {a b:ByteArray}(i:Nat)(h:i<a.size+b.size):bt (a++b) i=if i<a.size then bt a i else bt b (i - a.size):=by
 have hz:(a++b).size=a.size+b.size:=ByteArray.size_append;rw[bN (a++b) i (by omega)]
 by_cases h1:i<a.size
 ·rw[aq h1,bN a i h1,ByteArray.getElem_append_left h1]
 ·rw[aj h1,bN b _ (by omega),ByteArray.getElem_append_right (by omega)]
theorem Hv (a b:ByteArray):qV (a++b)=qV a++qV b:=by
 have hz:(a++b).size=a.size+b.size:=ByteArray.size_append;apply List.ext_getElem?;intro i
 by_cases h:i<a.size+b.size
 ·rw[s9 (by omega),MU i h]
  by_cases h1:i<a.size
  ·rw[aq h1,List.getElem?_append_left (by rw[jd];exact h1),s9 h1]
  ·rw[aj h1,List.getElem?_append_right (by rw[jd];omega),jd,s9 (by omega)]
 ·rw[List.getElem?_eq_none (by rw[jd];omega),List.getElem?_eq_none (by rw[List.length_append,jd,jd];omega)]
theorem Rs (h:i+1<=s.size):qV (s.extract i (i+1))=[bt s i]:=by
 have hz:(s.extract i (i+1)).size=1:=by rw[dH h];omega
 unfold qV;rw[hz];show[bt (s.extract i (i+1)) 0]=_;rw[ba h (by omega)];rfl
theorem uY:sI c s=true↔c∈qV s:=by
 unfold sI qV;rw[bF,bm];constructor
 ·rintro⟨k,h1,h2⟩;exact⟨k,List.mem_range.2 h1,h2⟩
 ·rintro⟨k,h1,h2⟩;exact⟨k,List.mem_range.1 h1,h2⟩
theorem Hx:ClsOK s↔(qV s).Nodup/\∀c∈qV s,gw c=true:=by
 constructor
 ·intro h;refine⟨?_,λc hc=>?_⟩
  ·unfold qV;rw[List.nodup_iff_pairwise_ne,List.pairwise_map];refine List.Pairwise.imp_of_mem ?_ (List.pairwise_lt_range (n:=s.size));intro a b _ hb J3;exact h.one a b J3 (List.mem_range.1 hb)
  ·obtain⟨i,hi,rfl⟩:=bm.1 hc;exact h.let' i (List.mem_range.1 hi)
 ·rintro⟨h1,h2⟩;refine⟨λi hi=>h2 _ (bm.2 ⟨i,List.mem_range.2 hi,rfl⟩),λi j VC hj e=>?_⟩;have g1:(qV s)[i]?=some (bt s i):=s9 (by omega);have g2:=s9 hj;obtain⟨k1,e1⟩:=dY.1 g1;obtain⟨k2,e2⟩:=dY.1 g2;exact absurd (e1.trans (e.trans e2.symm)) (List.pairwise_iff_getElem.1 h1 i j k1 k2 VC)
def iT (s:ByteArray)(c:Nat):Nat->ByteArray
 | 0=>⟨#[]⟩
 | i+1=>if bt s i=c then iT s c i else iT s c i++s.extract i (i+1)
theorem Bj:∀i,i<=s.size->qV (iT s c i)=((qV s).take i).filter λx=>decide (x≠c)
 | 0,_=>by rw[List.take_zero];rfl
 | i+1,h=>by
  have hg:(qV s)[i]?=some (bt s i):=s9 (by omega);obtain⟨k1,e1⟩:=dY.1 hg;rw[fU k1,List.filter_append,<-Bj i (by omega),e1];show qV (if bt s i=c then iT s c i else iT s c i++s.extract i (i+1))=_
  by_cases hc:bt s i=c
  ·rw[aq hc,hc];simp
  ·rw[aj hc,Hv,Rs (by omega)];simp[hc]
theorem I9 (h:i<=s.size):(iT s c i).size<=i:=by
 have h1:=congrArg List.length (Bj (s:=s) (c:=c) i h);rw[jd] at h1;rw[h1];exact Nat.le_trans (List.length_filter_le _ _) (by rw[List.length_take];omega)
def i5 (cl s:ByteArray)(on:Bool):ByteArray:=if on=true then iT cl (bt s 0) cl.size++s else iT cl (bt s 0) cl.size
theorem qt (h:aG s=true):qV s=[bt s 0]/\gw (bt s 0)=true:=by
 unfold aG at h;rw[Bool.and_eq_true,bF] at h;refine⟨?_,h.2⟩;unfold qV;rw[h.1];rfl
theorem td (hs:aG s=true)(on:Bool):qV (i5 cl s on)=((qV cl).filter λx=>decide (x≠bt s 0))++if on=true then[bt s 0] else[]:=by
 have h1:=Bj (s:=cl) (c:=bt s 0) cl.size au;rw[List.take_of_length_le (by rw[jd];exact au)] at h1;unfold i5;cases on with
 | true=>rw[aq rfl,aq rfl,Hv,h1,(qt hs).1]
 | false=>rw[aj (by simp),aj (by simp),h1,List.append_nil]
theorem ND (hs:aG s=true)(on:Bool)(h:ClsOK cl):ClsOK (i5 cl s on):=by
 obtain⟨h1,h2⟩:=Hx.1 h;refine Hx.2 ⟨?_,λc hc=>?_⟩
 ·rw[td hs,List.nodup_append];refine⟨h1.filter _,by split<;>simp,λa ha b hb e=>?_⟩
  have ud:b=bt s 0:=by
   split at hb
   ·simpa using hb
   ·cases hb
  have dB:=(dA.1 ha).2;rw[e,ud] at dB;simp at dB
 ·rw[td hs,List.mem_append] at hc;rcases hc with hc | hc
  ·exact h2 c (dA.1 hc).1
  ·split at hc
   ·rw[fg] at hc;rw[hc];exact(qt hs).2
   ·cases hc
theorem JG (hs:aG s=true)(on:Bool)(c:Nat):sI c (i5 cl s on)=if c=bt s 0 then on else sI c cl:=by
 rw[Bool.eq_iff_iff,uY,td hs,List.mem_append,dA]
 by_cases hc:c=bt s 0
 ·rw[aq hc];constructor
  ·rintro(⟨_,h⟩ | h)
   ·simp[hc] at h
   ·split at h
    ·assumption
    ·cases h
  ·intro h;right;rw[aq h,hc];simp
 ·rw[aj hc,uY];constructor
  ·rintro(⟨h,_⟩ | h)
   ·exact h
   ·split at h
    ·simp at h;exact absurd h hc
    ·cases h
  ·intro h;exact af ⟨h,by simpa using hc⟩
theorem xN (w:World)(s c:ByteArray)(hs:s.size<=400)(hc:c.size=1):Calls prog 175 #[.string s,.string c] w λe w'=>e=.returned (.string (iT s (bt c 0) s.size))/\w'=w:=by
 have HC:=ae hc;clear hc;go_enter func175,ntmps175;go_wp2_with fail
 go_loopg [5,6] s.size (λgk tv iv wr=>∃(i:Nat) (t:ByteArray),iv=.int .i64 i/\tv=.string t/\i<=s.size/\s.size - i<=gk/\t.size<=400/\wr=w/\Hid (t=iT s (bt c 0) i))
 case atStart=>exact⟨0,⟨#[]⟩,rfl,rfl,aZ,by omega,by decide,rfl,rfl⟩
 case round=>
  obtain⟨i,t,rfl,rfl,hi,fS,htz,rfl,HT⟩:=hrel
  by_cases aU:i<s.size
  ·have hd:decide ((i:Int)<(s.size:Int))=true:=by simp;omega
   have gK:(s.extract i (i+1)).size=1:=by rw[dH (by omega)];omega
   have h1:(0:Int)<=(i:Int):=by omega
   have h2:(i:Int)+1<=(s.size:Int):=by omega
   have h3:(i:Int)<=(i:Int)+1:=by omega
   have mo:bt (s.extract i (i+1)) 0=bt s i:=by rw[ba (by omega) (by omega)];rfl
   by_cases hbc:bt s i=bt c 0
   ·have ge:(!((s.extract i (i+1)).toList==c.toList))=false:=by
     have:=BQ gK HC.out;rw[mo] at this;rw[this,hbc];simp
    have ox:Hid (t=iT s (bt c 0) (i+1)):=by
     unfold Hid iT;rw[aq hbc];exact HT.out
    clear hbc HT mo;go_wp2;go_roundg (s.size - (i+1))
    case measure=>omega
    case rel=>exact⟨i+1,t,by go_num,rfl,by omega,au,htz,rfl,ox⟩
   ·have ge:(!((s.extract i (i+1)).toList==c.toList))=true:=by
     have:=BQ gK HC.out;rw[mo] at this;rw[this];simp;omega
    have aiO:t.size<=i:=by rw[HT.out];exact I9 hi
    have ox:Hid (t++s.extract i (i+1)=iT s (bt c 0) (i+1)/\(t++s.extract i (i+1)).size<=400):=by
     refine⟨?_,by rw[ByteArray.size_append,gK];omega⟩;unfold iT;rw[aj hbc,HT.out]
    clear hbc HT mo;go_wp2;go_roundg (s.size - (i+1))
    case measure=>omega
    case rel=>exact⟨i+1,_,by go_num,rfl,by omega,au,ox.out.2,rfl,ox.out.1⟩
  ·have hd:decide ((i:Int)<(s.size:Int))=false:=by simp;omega
   obtain rfl:i=s.size:=by omega
   have HR:Hid (Ending.returned (.string t)=.returned (.string (iT s (bt c 0) s.size))):=by unfold Hid;rw[HT.out]
   clear HT;go_wp2;go_ret;exact⟨HR.out,rfl⟩
def fx (b:Nat)(f:REl->REl)(x:REl):REl:=if x.blk=b then f x else x
structure Q4 (f:REl->REl):Prop where
 blk:∀x,(f x).blk=x.blk
 num:∀x,(f x).num=x.num
 kids:∀x,(f x).kids=x.kids
 ks:∀x,(f x).ks=x.ks
section
variable {w w':World}{d:Nat}{els:List REl}{made:Nat}{hp:Option Addr}{vT:Value}{bi:Bool}{vL:Value}{Rr:List eA}{Gs:Nat->Prop}{M:Nat->Mk}{shn:Nat->Bool}{rs:List dF}
theorem fR (hf:Q4 f)(b:Nat)(x:REl):(fx b f x).blk=x.blk/\(fx b f x).num=x.num/\(fx b f x).kids=x.kids/\(fx b f x).ks=x.ks:=by
 unfold fx;split
 ·exact⟨hf.blk x,hf.num x,hf.kids x,hf.ks x⟩
 ·exact⟨rfl,rfl,rfl,rfl⟩
theorem mE (hf:Q4 f)(b:Nat):aK (els.map (fx b f))=aK els:=by
 unfold aK;rw[List.map_map];apply List.map_congr_left;intro x _;obtain⟨_,h2,h3,_⟩:=fR hf b x;show((fx b f x).num,(fx b f x).kids)=_;rw[h2,h3]
theorem rE (hf:Q4 f)(b:Nat)(k:Nat):jQ d (els.map (fx b f)) vL k↔jQ d els vL k:=by
 unfold jQ;constructor
 ·rintro(h | ⟨e,he,h⟩ | h | ⟨e,he,h⟩)
  ·exact af h
  ·obtain⟨x,hx,rfl⟩:=bm.1 he;exact ai (af ⟨x,hx,by rw[h,(fR hf b x).1]⟩)
  ·exact ai (ai (af h))
  ·obtain⟨x,hx,rfl⟩:=bm.1 he;exact ai (ai (ai ⟨x,hx,by rw[<-(fR hf b x).2.2.2];exact h⟩))
 ·rintro(h | ⟨x,hx,h⟩ | h | ⟨x,hx,h⟩)
  ·exact af h
  ·exact ai (af ⟨_,bm.2 ⟨x,hx,rfl⟩,by rw[h,(fR hf b x).1]⟩)
  ·exact ai (ai (af h))
  ·exact ai (ai (ai ⟨_,bm.2 ⟨x,hx,rfl⟩,by rw[(fR hf b x).2.2.2];exact h⟩))
theorem RD.setE (h:RD w d els made hp vT bi vL)(hn:(els.map REl.num).Nodup){p:REl}(Cr:p∈els)(hf:Q4 f){o:Nat}{u:Value}(hc:p.cells.setIfInBounds o u=(f p).cells):RD (w.setCell ⟨p.blk,o,none⟩ u) d (els.map (fx p.blk f)) made hp vT bi vL:=by
 have Fk:=h.el p Cr;refine⟨?_,?_,?_,?_,by simpa using h.few,?_⟩
 ·rw[Below.heap_setCell]
  ·exact h.doc
  ·intro eq;rw[<-show d=p.blk from eq,h.doc] at Fk;injection Fk with h3
   injection h3 with _ h4 _
   exact absurd h4 (by decide)
 ·have hr:=h.row
  have hm:(els.map (fx p.blk f)).map (λe=>Value.pointer (some ⟨e.blk,0,none⟩))=els.map λe=>Value.pointer (some ⟨e.blk,0,none⟩):=by
   rw[List.map_map];refine List.map_congr_left λe _=>?_;show Value.pointer (some ⟨(fx p.blk f e).blk,0,none⟩)=_;rw[(fR hf p.blk e).1]
  rw[hm,List.length_map];exact bj hr (aB hr Fk (by decide)) _
 ·intro e he;obtain⟨x,hx,rfl⟩:=bm.1 he;rw[(fR hf p.blk x).1]
  by_cases hb:x.blk=p.blk
  ·have oo:=FP hn hx Cr (h.same hx Cr hb);subst oo;rw[aF Fk];unfold fx;rw[aq rfl,hc]
  ·rw[Below.heap_setCell _ _ _ _ (by exact hb)];unfold fx;rw[aj hb];exact h.el x hx
 ·intro e he;obtain⟨x,hx,rfl⟩:=bm.1 he;obtain⟨_,_,h3,h4⟩:=fR hf p.blk x;rw[h3,h4];exact bj (h.kid x hx) (aB (h.kid x hx) Fk (by decide)) _
 ·intro e he;obtain⟨x,hx,rfl⟩:=bm.1 he;rw[(fR hf p.blk x).2.2.1];exact h.kfew x hx
end
end
end Go.Proofs.YtblfffbmklkhmaaGreat
