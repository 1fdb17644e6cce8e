import Derived.Test.YtblfffbmklkhmaaGreatSt32
import Derived.Test.YtblfffbmklkhmaaGreatSt23
import Derived.Test.YtblfffbmklkhmaaGreatSt22
import Derived.Test.YtblfffbmklkhmaaGreatSt26
import Derived.Test.YtblfffbmklkhmaaGreatSt10
import Derived.Test.YtblfffbmklkhmaaGreatSt30
namespace Go.Proofs.YtblfffbmklkhmaaGreat
open Go.RowKit
section
variable {s:ByteArray}
theorem Fq {i:Nat} {t:ByteArray}:∀ n,(∀ k,k<n→bt t k=bt s (i+k)∧48≤bt s (i+k))→((i9 t n:Nat):Int)=zx s i n
 | 0,_=>rfl
 | n+1,h=>by
  have ih:=Fq (i:=i) (t:=t) n (fun k hk=>h k (by omega))
  obtain ⟨h1,h2⟩:=h n (by omega)
  show ((i9 t n*10+(bt t n - 48):Nat):Int)=zx s i n*10+((bt s (i+n):Int) - 48)
  rw [←ih,h1]
  omega
theorem Nq {i j:Nat} {kd nu va:Int} (h:Ae s i j kd nu va) (hj:j≤s.size):ValRel (s.extract i j) kd nu va∧∀ k,i≤k→k<j→bt s k≠33∧bt s k≠59∧bt s k≠125:=by
 have hz:(s.extract i j).size=j - i:=cW hj
 rcases h with ⟨h1,h2,_,_,h5⟩ | ⟨h1,h2,_,_,h5⟩ | ⟨h1,h2,_,_,h5⟩ | ⟨h1,h2,_,h4,h5,h6⟩ | ⟨h1,h2,_,h4,h5,h6,_⟩
 ·have h0:bt (s.extract i j) 0=bt s i:=by rw [aV hj (by omega)];rfl
  refine ⟨Or.inl ⟨by omega,by omega,h2⟩,fun k k1 k2=>?_⟩
  rw [show k=i from by omega];omega
 ·have h0:bt (s.extract i j) 0=bt s i:=by rw [aV hj (by omega)];rfl
  refine ⟨Or.inr (Or.inl ⟨by omega,by omega,h2⟩),fun k k1 k2=>?_⟩
  rw [show k=i from by omega];omega
 ·have h0:bt (s.extract i j) 0=bt s i:=by rw [aV hj (by omega)];rfl
  refine ⟨Or.inr (Or.inr (Or.inl ⟨by omega,by omega,h2⟩)),fun k k1 k2=>?_⟩
  rw [show k=i from by omega];omega
 ·have h0:bt (s.extract i j) 0=bt s i:=by rw [aV hj (by omega)];rfl
  have tR:bt (s.extract i j) 1=bt s (i+1):=by rw [aV hj (by omega)]
  have hv:=QP h5
  refine ⟨Or.inr (Or.inr (Or.inr (Or.inl ⟨by omega,by omega,h2,by rw [tR];exact h4,by rw [tR];exact h5⟩))),fun k k1 k2=>?_⟩
  by_cases e:k=i
  ·rw [e];omega
  ·rw [show k=i+1 from by omega];omega
 ·have hb:∀ k,k<j - i→bt (s.extract i j) k=bt s (i+k):=fun k hk=>aV hj (by omega)
  refine ⟨Or.inr (Or.inr (Or.inr (Or.inr ⟨h1,by omega,by omega,fun k hk=>?_,?_⟩))),fun k k1 k2=>?_⟩
  ·rw [hb k (by omega)];exact h6 (i+k) (by omega) (by omega)
  ·rw [h2,hz]
   exact (Fq (j - i) (fun k hk=>⟨hb k hk,(vW (h6 (i+k) (by omega) (by omega))).1⟩)).symm
  ·have:=vW (h6 k k1 k2)
   omega
theorem nz {i j:Nat} {d:PDc} (h:kC s i j d) (hj:j≤s.size):(∀ k,i≤k→k<j→bt s k≠59∧bt s k≠125)∧i+2<j∧∀ {a b:Nat},a≤i→j≤b→b≤s.size→CI (kJ (s.extract a b) (i - a) (j - a)) d:=by
 obtain ⟨h1,h2,h3,k,h4,h5,h6⟩:=h
 have hkj:k≤j:=by rcases h6 with h6 | h6<;>omega
 obtain ⟨v1,v2⟩:=Nq h4 (by omega)
 have hp:bt s i≠59∧bt s i≠125:=by
  unfold ua qH at h1
  rw [Bool.or_eq_true,decide_eq_true_eq,decide_eq_true_eq] at h1
  omega
 refine ⟨fun x x1 x2=>?_,by omega,fun {a b} ha hb MY=>?_⟩
 ·by_cases e0:x=i
  ·rw [e0];exact hp
  ·by_cases e1:x=i+1
   ·rw [e1];omega
   ·by_cases e2:x<k
    ·exact (v2 x (by omega) e2).2
    ·have e3:x=k:=by rcases h6 with h6 | h6<;>omega
     rcases h6 with h6 | h6
     ·rw [e3];omega
     ·omega
 ·have fT:(s.extract a b).size=b - a:=cW MY
  have jF:(s.extract a b).extract (i - a+2) (j - a)=s.extract (i+2) j:=by
   apply ByteArray.ext
   simp only [ByteArray.data_extract,Array.extract_extract]
   congr 1<;>omega
  have nX:(s.extract (i+2) j).size=j - (i+2):=cW hj
  have Xl:bt (s.extract a b) (i - a)=bt s i:=by rw [aV MY (by omega),show a+(i - a)=i from by omega]
  have hl:bt (s.extract (i+2) j) ((s.extract (i+2) j).size - 1)=bt s (j - 1):=by rw [nX,aV hj (by omega)];congr 1;omega
  unfold kJ
  rw [jF,hl,Xl]
  rcases h6 with ⟨g1,g2,g3⟩ | ⟨g1,g2,g3⟩
  ·have e1:j - 1=k:=by omega
   rw [e1,if_pos g2]
   have hv:(s.extract (i+2) j).extract 0 ((s.extract (i+2) j).size - 1)=s.extract (i+2) k:=by
    rw [nX]
    apply ByteArray.ext
    simp only [ByteArray.data_extract,Array.extract_extract]
    congr 1<;>omega
   exact ⟨h2.symm,h1,g1.symm,by rw [hv];exact v1⟩
  ·have e1:bt s (j - 1)≠33:=by
    have:=(v2 (j - 1) (by omega) (by omega)).1
    exact this
   rw [if_neg e1]
   exact ⟨h2.symm,h1,g1.symm,by rw [g3];exact v1⟩
theorem qa {α β:Type} {R:α→β→Prop}:Rel2 R [] []:=⟨rfl,fun i a b h=>by simp at h⟩
theorem lw {α β:Type} {R:α→β→Prop} {a:α} {b:β} {l:List α} {m:List β} (h:R a b) (hr:Rel2 R l m):Rel2 R (a :: l) (b :: m):=by
 refine ⟨by simp [hr.1],fun i x y hx hy=>?_⟩
 cases i with
 | zero=>
  have h1:a=x:=by simpa using hx
  have h2:b=y:=by simpa using hy
  rw [←h1,←h2];exact h
 | succ i=>exact hr.2 i x y (by simpa using hx) (by simpa using hy)
theorem w9 {a b:Nat} (hb:b≤s.size) {d:PDc} {l:Nat} (hd:kC s l b d) (hla:a≤l):∀ {pre:List PDc} {i:Nat} {dl:List dg} {jj:Nat},a≤i→DcPre s i l pre→(s.extract a b).size≤jj→DeclsPre (s.extract a b) (i - a) jj dl→Rel2 CI dl (pre++[d])
 | [],i,dl,jj,hai,h,Sb,hp=>by
  simp only [DcPre] at h
  subst h
  obtain ⟨n1,n2,n3⟩:=nz hd hb
  have fT:(s.extract a b).size=b - a:=cW hb
  cases dl with
  | nil=>
   simp only [DeclsPre] at hp
   omega
  | cons x r=>
   obtain ⟨p1,e,p2,p3,p4⟩:=hp
   obtain ⟨u1,u2,u3,u4⟩:=p2
   have he:e=b - a:=by
    by_cases h:e<b - a
    ·have Gh:=u4 (by omega)
     rw [aV hb (by omega)] at Gh
     exact absurd Gh (n1 (a+e) (by omega) (by omega)).1
    ·omega
   subst he
   have hr:r=[]:=by
    cases r with
    | nil=>rfl
    | cons y r'=>
     obtain ⟨q1,_⟩:=p4
     omega
   rw [hr,p3]
   exact lw (n3 hai (Nat.le_refl _) hb) qa
 | d' :: pre,i,dl,jj,hai,⟨l',g1,g2,g3,g4⟩,Sb,hp=>by
  have fT:(s.extract a b).size=b - a:=cW hb
  have EA:l'+1≤l:=by
   have ol:∀ {pre:List PDc} {i j:Nat},DcPre s i j pre→i≤j:=fun {pre}=>by
    induction pre with
    | nil=>intro i j h;simp only [DcPre] at h;omega
    | cons x pre ih=>rintro i j ⟨l,_,h2,_,h4⟩;have:=ih h4;omega
   exact ol g4
  have hdb:=(nz hd hb).2.1
  obtain ⟨n1,n2,n3⟩:=nz g1 (by omega)
  cases dl with
  | nil=>
   simp only [DeclsPre] at hp
   omega
  | cons x r=>
   obtain ⟨p1,e,p2,p3,p4⟩:=hp
   obtain ⟨u1,u2,u3,u4⟩:=p2
   have he:e=l' - a:=by
    by_cases h:e<l' - a
    ·have Gh:=u4 (by omega)
     rw [aV hb (by omega)] at Gh
     exact absurd Gh (n1 (a+e) (by omega) (by omega)).1
    ·by_cases h2:l' - a<e
     ·have Gh:=u3 (l' - a) (by omega) h2
      rw [aV hb (by omega),show a+(l' - a)=l' from by omega] at Gh
      exact absurd g3 Gh
     ·omega
   subst he
   rw [p3]
   refine lw (n3 hai (by omega) hb) ?_
   rw [show l' - a+1=l'+1 - a from by omega] at p4
   exact w9 hb hd hla (by omega) g4 Sb p4
theorem Ou {q j:Nat} {ds:List PDc} (h:BC s q j ds) (hj:j≤s.size) {dl:List dg} (hd:pV (s.extract (q+1) (j - 1)) dl):Rel2 CI dl ds∧(∀ k,q+1≤k→k<j - 1→bt s k≠125)∧bt s (j - 1)=125∧q+1<j:=by
 obtain ⟨h1,h2⟩:=h
 rcases h2 with ⟨h2,rfl,rfl⟩ | ⟨h2,k,⟨pre,l,d,rfl,g2,g3,g4,g5⟩,hk,rfl⟩
 ·have hz:(s.extract (q+1) (q+2 - 1)).size=0:=by rw [cW (by omega)];omega
  obtain ⟨jj,Sb,hp⟩:=hd
  have:dl=[]:=by
   cases dl with
   | nil=>rfl
   | cons x r=>
    obtain ⟨p1,_⟩:=hp
    omega
  rw [this]
  exact ⟨qa,fun k k1 k2=>by omega,h2,by omega⟩
 ·obtain ⟨jj,Sb,hp⟩:=hd
  rw [show k+1 - 1=k from by omega] at Sb hp ⊢
  have ol:∀ {pre:List PDc} {i j:Nat},DcPre s i j pre→j≤s.size→i≤j∧∀ x,i≤x→x<j→bt s x≠125:=fun {pre}=>by
   induction pre with
   | nil=>intro i j h _;simp only [DcPre] at h;exact ⟨by omega,fun x x1 x2=>by omega⟩
   | cons y pre ih=>
    rintro i j ⟨l,h1,h2,h3,h4⟩ xF
    obtain ⟨i1,i2⟩:=ih h4 xF
    have n1:=(nz h1 (by omega)).1
    refine ⟨by omega,fun x x1 x2=>?_⟩
    by_cases e:x<l
    ·exact (n1 x x1 e).2
    ·by_cases e2:x=l
     ·rw [e2,h3];omega
     ·exact i2 x (by omega) x2
  obtain ⟨i1,i2⟩:=ol g2 (by omega)
  have n1:=(nz g3 (by omega)).1
  have FJ:DeclsPre (s.extract (q+1) k) (q+1 - (q+1)) jj dl:=by rw [Nat.sub_self];exact hp
  refine ⟨w9 (by omega) g3 i1 (Nat.le_refl _) g2 Sb FJ,fun x x1 x2=>?_,hk,by omega⟩
  by_cases e:x<l
  ·exact i2 x x1 e
  ·exact (n1 x (by omega) x2).2
def Y4 (s:ByteArray) (i0:Nat):List (Nat × Nat)→List cO→Prop
 | [],[]=>True
 | (p,q) :: r,x :: cs=>(eC s p q x.ty x.ps∧p<q∧q≤s.size∧x.sg=mo s i0 p)∧Y4 s i0 r cs
 | _,_=>False
theorem Py {l j ty:Nat} {ks:List PPt} {i0:Nat} (hc:eC s l j ty ks) (C9:l<j) (xF:j≤s.size):∀ {pre:List cO} {i:Nat} {aE:List (Nat × Nat)},SelPre s i0 i l pre→kF s i j aE→Y4 s i0 aE (pre++[⟨mo s i0 l,ty,ks⟩])
 | [],i,aE,h,⟨lK,p,e1,e2,e3,e4⟩=>by
  simp only [SelPre] at h
  subst h e1
  cases lK with
  | nil=>simp only [Segs] at e2;subst e2;exact ⟨⟨hc,C9,xF,rfl⟩,trivial⟩
  | cons x r=>
   obtain ⟨p',q'⟩:=x
   obtain ⟨rfl,f2,f3,f4,f5⟩:=e2
   have:=nE f5
   have:=sF (i6 hc q' f3 (by omega))
   rw [f4] at this
   cases this
 | c :: cs,i,aE,⟨l',h1,h2,h3,h4,h5,h6⟩,⟨lK,p,e1,e2,e3,e4⟩=>by
  have hl:=iX h5
  subst e1
  cases lK with
  | nil=>
   simp only [Segs] at e2
   subst e2
   have:=e4 l' (by omega) (by omega)
   rw [h4] at this
   cases this
  | cons x r=>
   obtain ⟨p',q'⟩:=x
   obtain ⟨rfl,f2,f3,f4,f5⟩:=e2
   have hq:q'=l':=by
    by_cases a:q'<l'
    ·have:=sF (i6 h1 q' f3 a)
     rw [f4] at this
     cases this
    ·by_cases b:l'<q'
     ·have:=f2 l' (by omega) b
      rw [h4] at this
      cases this
     ·omega
   subst hq
   exact ⟨⟨h1,h2,by omega,h6⟩,Py hc C9 xF h5 ⟨r,p,rfl,f5,e3,e4⟩⟩
theorem JA {i0:Nat}:∀ {aE:List (Nat × Nat)} {cs:List cO},Y4 s i0 aE cs→aE.length=cs.length∧∀ (k p q:Nat) (x:cO),aE[k]?=some (p,q)→cs[k]?=some x→eC s p q x.ty x.ps∧p<q∧q≤s.size∧x.sg=mo s i0 p
 | [],[],_=>⟨rfl,fun k p q x h=>by simp at h⟩
 | [],_ :: _,h=>h.elim
 | (_,_) :: _,[],h=>h.elim
 | (p0,q0) :: r,y :: cs,⟨h1,h2⟩=>by
  obtain ⟨i1,i2⟩:=JA h2
  refine ⟨by simp [i1],fun k p q x hk hx=>?_⟩
  cases k with
  | zero=>
   have e1:(p0,q0)=(p,q):=by simpa using hk
   have e2:y=x:=by simpa using hx
   injection e1 with e3 e4
   rw [←e2,←e3,←e4];exact h1
  | succ k=>exact i2 k p q x (by simpa using hk) (by simpa using hx)
theorem us:∀ {aE:List (Nat × Nat)} {i j:Nat},Segs s i j aE→∀ (k p q:Nat),aE[k]?=some (p,q)→(k=0→p=i)∧(0<k→i<p∧fM (bt s (p - 1))=true)
 | [],_,_,_,k,p,q,h=>by simp at h
 | (p0,q0) :: r,i,j,⟨h1,h2,h3,h4,h5⟩,k,p,q,h=>by
  cases k with
  | zero=>
   have e1:(p0,q0)=(p,q):=by simpa using h
   injection e1 with e3 e4
   exact ⟨fun _=>by omega,fun h=>by omega⟩
  | succ k=>
   obtain ⟨g1,g2⟩:=us h5 k p q (by simpa using h)
   refine ⟨fun h=>by omega,fun _=>?_⟩
   by_cases hk:k=0
   ·have:=g1 hk
    refine ⟨by omega,?_⟩
    rw [show p - 1=q0 from by omega]
    exact h4
   ·have:=g2 (by omega)
    exact ⟨by omega,this.2⟩
theorem zl {i j:Nat} {aE:List (Nat × Nat)} (h:kF s i j aE):∀ (k p q:Nat),aE[k]?=some (p,q)→(k=0→p=i)∧(0<k→i<p∧fM (bt s (p - 1))=true):=by
 obtain ⟨pre,p0,rfl,h2,h3,_⟩:=h
 intro k p q hk
 by_cases hl:k<pre.length
 ·rw [List.getElem?_append_left hl] at hk
  exact us h2 k p q hk
 ·have om:k=pre.length:=by
   have:=(List.getElem?_eq_some_iff.1 hk).1
   simp at this
   omega
  rw [List.getElem?_append_right (by omega),om,Nat.sub_self] at hk
  have e1:(p0,j)=(p,q):=by simpa using hk
  injection e1 with e3 e4
  subst e3
  have ol:∀ {pre:List (Nat × Nat)} {i p0:Nat},Segs s i p0 pre→(pre=[]→p0=i)∧(pre≠[]→i<p0∧fM (bt s (p0 - 1))=true):=fun {pre}=>by
   induction pre with
   | nil=>intro i p0 h;simp only [Segs] at h;exact ⟨fun _=>by omega,fun h=>absurd rfl h⟩
   | cons x pre ih=>
    obtain ⟨px,qx⟩:=x
    rintro i p0 ⟨g1,g2,g3,g4,g5⟩
    refine ⟨fun h=>(by cases h),fun _=>?_⟩
    have:=nE g5
    by_cases hp:pre=[]
    ·have h6:=(ih g5).1 hp
     refine ⟨by omega,?_⟩
     rw [show p0 - 1=qx from by omega]
     exact g4
    ·exact ⟨by omega,((ih g5).2 hp).2⟩
  refine ⟨fun h0=>(ol h2).1 (List.length_eq_zero_iff.1 (by omega)),fun h0=>(ol h2).2 (fun e=>?_)⟩
  rw [e] at om
  simp at om
  omega
def lR (s:ByteArray) (aE:List (Nat × Nat)):List ex:=aE.mapIdx fun i x=>⟨(mU s i x.1).toNat,s.extract x.1 x.2⟩
theorem yO {aE:List (Nat × Nat)} {i p q:Nat} (h:aE[i]?=some (p,q)):(lR s aE)[i]?=some ⟨(mU s i p).toNat,s.extract p q⟩:=by
 unfold lR
 rw [List.getElem?_mapIdx,h]
 rfl
theorem iF (aE:List (Nat × Nat)):(lR s aE).length=aE.length:=by unfold lR;simp
theorem Fe (hs:s.size≤400) {i j:Nat} {cs:List cO} {aE:List (Nat × Nat)} (h:jU s i j cs) (h':kF s i j aE) (xF:j≤s.size):DE (lR s aE) cs:=by
 have Al:=zl h'
 have XI:=h'
 obtain ⟨pre,l,ty,ks,rfl,h2,h3,h4,_,_⟩:=h
 obtain ⟨c1,c2⟩:=JA (Py h3 h4 xF h2 h')
 obtain ⟨lK,p0,yQ,V7,FJ,_⟩:=XI
 have bR:aE.length≤400:=by
  have ol:∀ {pre:List (Nat × Nat)} {i p0:Nat},Segs s i p0 pre→pre.length≤p0 - i:=fun {pre}=>by
   induction pre with
   | nil=>intro i p0 h;simp
   | cons x pre ih=>
    obtain ⟨px,qx⟩:=x
    rintro i p0 ⟨g1,g2,g3,g4,g5⟩
    have h1:=ih g5
    have:=nE g5
    rw [List.length_cons]
    omega
  have h5:=ol V7
  have h6:=nE V7
  rw [yQ,List.length_append]
  have h7:aE[lK.length]?=some (p0,j):=by rw [yQ,List.getElem?_append_right (Nat.le_refl _),Nat.sub_self];rfl
  have h8:lK.length<(pre++[(⟨mo s i l,ty,ks⟩:cO)]).length:=by rw [←c1,yQ];simp
  have h9:=(c2 lK.length p0 j _ h7 (List.getElem?_eq_getElem h8)).2.1
  simp
  omega
 refine ⟨⟨by rw [iF];exact c1,fun k rc x hk hx=>?_⟩,?_,by rw [iF];exact bR,fun k rc IU hk=>?_⟩
 ·have om:k<aE.length:=by have:=(List.getElem?_eq_some_iff.1 hk).1;rw [iF] at this;exact this
  obtain ⟨⟨p,q⟩,lC⟩:∃ y,aE[k]?=some y:=⟨_,List.getElem?_eq_getElem om⟩
  rw [yO lC] at hk
  injection hk with hk
  obtain ⟨d1,d2,d3,d4⟩:=c2 k p q x lC hx
  obtain ⟨s1,s2⟩:=Al k p q lC
  rw [←hk]
  refine ⟨?_,s,p,q,hs,d2,d3,rfl,d1⟩
  rw [d4]
  show (((mU s k p).toNat:Nat):Int)=mo s i p
  unfold mU mo
  by_cases h0:k=0
  ·rw [if_pos h0,if_pos (s1 h0)];rfl
  ·rw [if_neg h0,if_neg (by have:=(s2 (by omega)).1;omega)];omega
 ·rw [iF,yQ];simp
 ·have om:k<aE.length:=by have:=(List.getElem?_eq_some_iff.1 hk).1;rw [iF] at this;exact this
  obtain ⟨⟨p,q⟩,lC⟩:∃ y,aE[k]?=some y:=⟨_,List.getElem?_eq_getElem om⟩
  rw [yO lC] at hk
  injection hk with hk
  rw [←hk]
  have:=((Al k p q lC).2 IU).2
  show fM (mU s k p).toNat=true
  unfold mU
  rw [if_neg (by omega),Int.toNat_natCast]
  exact this
theorem BU (hs:s.size≤400) {l j:Nat} {cs:List cO} (hc:jU s l j cs) (C9:l<j) (xF:j≤s.size):∀ {pre:List (List cO)} {i:Nat} {ss:List (List (Nat × Nat))},SelsPre s i l pre→nH s i j ss→Rel2 DE (ss.map (lR s)) (pre++[cs])∧ss.length≤j - i
 | [],i,ss,h,⟨lK,p,aE,e1,e2,e3,e4,e5⟩=>by
  simp only [SelsPre] at h
  subst h e1
  cases lK with
  | nil=>
   simp only [RSelsPre] at e2
   subst e2
   exact ⟨lw (Fe hs hc e3 xF) qa,by simp;omega⟩
  | cons x r=>
   obtain ⟨l',f1,f2,f3,f4,f5⟩:=e2
   have:=io f5
   exact absurd f3 (nN hc l' f2 (by omega)).1
 | c' :: SZ,i,ss,⟨l',h1,h2,h3,h4⟩,⟨lK,p,aE,e1,e2,e3,e4,e5⟩=>by
  have hl:=ij h4
  subst e1
  cases lK with
  | nil=>
   simp only [RSelsPre] at e2
   subst e2
   exact absurd h3 (e5 l' (by omega) (by omega))
  | cons x r=>
   obtain ⟨q',f1,f2,f3,f4,f5⟩:=e2
   have hq:q'=l':=by
    by_cases a:q'<l'
    ·exact absurd f3 (nN h1 q' f2 a).1
    ·by_cases b:l'<q'
     ·exact absurd h3 (f4 l' (by omega) b)
     ·omega
   subst hq
   obtain ⟨i1,i2⟩:=BU hs hc C9 xF h4 ⟨r,p,aE,rfl,f5,e3,e4,e5⟩
   refine ⟨lw (Fe hs h1 f1 (by omega)) i1,?_⟩
   rw [List.cons_append,List.length_cons]
   omega
theorem KJ {i j l:Nat} {ss:List (List (Nat × Nat))} {ly:Int} {dl:List dg} (h:ph s i j ss) (h':yT s i l ly dl):j=l:=by
 obtain ⟨p,q,a1,a2,a3,a4,a5,a6,a7⟩:=h
 obtain ⟨p',q',b1,b2,b3,b4,b5,b6,b7,_⟩:=h'
 obtain rfl:=nJ a1 b1
 have lC:p≤q:=by
  obtain ⟨pre,l',aE,_,e2,e3,e4,_⟩:=a2
  have:=io e2
  omega
 have hq:q=q':=by
  by_cases x:q<q'
  ·exact absurd a3 (b3 q lC x)
  ·by_cases y:q'<q
   ·exact absurd b2 (a4 q' (by omega) y)
   ·omega
 subst hq
 by_cases x:j<l
 ·exact absurd a6 (b7 (j - 1) (by omega) (by omega))
 ·by_cases y:l<j
  ·exact absurd b6 (a7 (l - 1) (by omega) (by omega))
  ·omega
theorem Kx (hs:s.size≤400) {i j:Nat} {ru:cQ} {ss:List (List (Nat × Nat))} {ly:Int} {dl:List dg} (xF:j≤s.size) (h:qL s i j ru) (h':ph s i j ss) (hi:yT s i j ly dl):vC ⟨ly,ss.map (lR s),dl⟩ ru:=by
 obtain ⟨p,q,a1,a2,a3,a4,a5,_,a7,a8⟩:=h
 obtain ⟨p',q',b1,b2,b3,b4,b5,b6,b7⟩:=h'
 obtain ⟨p2,q2,c1,c2,c3,c4,c5,c6,c7,c8,c9⟩:=hi
 obtain rfl:=nJ a1 b1
 obtain rfl:=nJ a1 c1
 have lC:p≤q':=by
  obtain ⟨pre,l',aE,_,e2,e3,e4,_⟩:=b2
  have:=io e2
  omega
 have Gj:q=q':=by
  by_cases x:q'<q
  ·exact absurd b3 (sP a2 q' lC x)
  ·by_cases y:q<q'
   ·exact absurd a4 (b4 q (by omega) y)
   ·omega
 have C3:q2=q':=by
  by_cases x:q'<q2
  ·exact absurd b3 (c3 q' lC x)
  ·by_cases y:q2<q'
   ·exact absurd c2 (b4 q2 (by omega) y)
   ·omega
 subst C3 Gj
 obtain ⟨pre,x,cs,e1,e2,e3,e4,_⟩:=a2
 obtain ⟨r1,r2⟩:=BU hs e3 e4 (by omega) e2 b2
 obtain ⟨d1,_⟩:=Ou a8 xF c9
 refine ⟨by rw [c8,a7];rfl,by rw [e1];exact r1,d1,by rw [List.length_map];omega,?_⟩
 obtain ⟨jj,Sb,hp⟩:=c9
 have ol:∀ {dl:List dg} {i jj:Nat} {t:ByteArray},DeclsPre t i jj dl→dl.length≤t.size - i:=fun {dl}=>by
  induction dl with
  | nil=>intro i jj t _;simp
  | cons x r ih=>
   rintro i jj t ⟨p1,e,p2,p3,p4⟩
   have h1:=ih p4
   have h2:=p2.1
   rw [List.length_cons]
   omega
 have h1:=ol hp
 rw [cW (by omega)] at h1
 show dl.length≤400
 omega
def yJ (s:ByteArray):List (List (List (Nat × Nat)))→List (Int × List dg)→List dx
 | ss :: rs,(ly,dl) :: is=>⟨ly,ss.map (lR s),dl⟩ :: yJ s rs is
 | _,_=>[]
theorem xc (hs:s.size≤400):∀ {rs:List cQ} {Xr:List (List (List (Nat × Nat)))} {is:List (Int × List dg)} {i:Nat} {k:Cn} {M:Int},Acc s 0 k i M→RulsAt s i s.size rs→RRulsAt s i s.size Xr→RInfsAt s i s.size is→Rel2 vC (yJ s Xr is) rs∧Xr.length=rs.length∧is.length=rs.length∧rs.length≤s.size - i
 | [],[],[],_,_,_,_,_,_,_=>⟨qa,rfl,rfl,by simp⟩
 | [],_ :: _,_,_,_,_,_,h,⟨_,_,h2,h3⟩,_=>by simp only [RulsAt] at h;have:=tl h3;omega
 | [],[],(_,_) :: _,_,_,_,_,h,_,⟨_,_,h2,h3⟩=>by
  simp only [RulsAt] at h
  have ol:∀ {is:List (Int × List dg)} {i j:Nat},RInfsAt s i j is→i≤j:=fun {is}=>by
   induction is with
   | nil=>intro i j h;simp only [RInfsAt] at h;omega
   | cons x is ih=>obtain ⟨_,_⟩:=x;rintro i j ⟨l,_,h2,h3⟩;have:=ih h3;omega
  have:=ol h3
  omega
 | _ :: _,[],_,_,_,_,_,⟨_,_,h2,h3⟩,h,_=>by simp only [RRulsAt] at h;have:=nT h3;omega
 | _ :: _,_ :: _,[],_,_,_,_,⟨_,_,h2,h3⟩,_,h=>by simp only [RInfsAt] at h;have:=nT h3;omega
 | r :: rs,ss :: Xr,(ly,dl) :: is,i,k,M,ha,⟨j,a1,a2,a3⟩,⟨l,b1,b2,b3⟩,⟨l2,c1,c2,c3⟩=>by
  have hj:=nT a3
  have hl:=tl b3
  obtain ⟨rfl,_,k',M',d3⟩:=IJ ha (by omega) hj hl a1 b1
  obtain rfl:=KJ b1 c1
  obtain ⟨i1,i2,i3,i4⟩:=xc hs d3 a3 b3 c3
  refine ⟨lw (Kx hs (by omega) a1 b1 c1) i1,by simp [i2],by simp [i3],?_⟩
  rw [List.length_cons]
  omega
theorem Mb (w:World) {s:ByteArray} (hs:s.size≤maxLen) (h4:s.size≤400) (hc:(fa s).1=0):RulsAt s 0 s.size (dQ s):=by
 obtain ⟨e,w',_,⟨a,n,c,_,_,h⟩,_⟩:=uk w s hs []
 obtain ⟨rs,xs,_,_,_,h4'⟩:=h hc
 rw [xz h4 h4']
 exact h4'
end
end Go.Proofs.YtblfffbmklkhmaaGreat
namespace Go.Proofs.YtblfffbmklkhmaaGreat
open Go.RowKit
theorem NV {s:ByteArray} (h:(fa s).1=0):∃ M,Acc s 0 K0 0 M:=by
 have h4:=xL h
 unfold fa at h
 rw [if_neg (by omega)] at h
 by_cases hv:0≤(V s 0 K0 0).1
 ·rw [if_pos hv] at h;simp at h
 ·refine ⟨(V s 0 K0 0).2,Prod.ext ?_ rfl⟩
  have:=Mh s 0 K0 0
  show _=(-1:Int)
  omega
end Go.Proofs.YtblfffbmklkhmaaGreat
namespace Go.Proofs.YtblfffbmklkhmaaGreat
open Go.RowKit
theorem nS {w w':World} {ae:Nat} {e:TypeId} {sz:Nat} {v:Value} {n:Nat} {xs:List Value} (h:w.ownsRow ae e sz v n xs) (hk:∀ k,ae≤k→k<w.heap.size→w'.heap[k]?=w.heap[k]?):w'.ownsRow ae e sz v n xs:=by
 refine ⟨h.1,?_⟩
 rcases h.2 with hn | ⟨g,fL,eU,hv,hb,hg,rest⟩
 ·exact Or.inl hn
 ·exact Or.inr ⟨g,fL,eU,hv,hb,(hk g hb (Array.getElem?_eq_some_iff.1 hg).1).trans hg,rest⟩
theorem LC {s:ByteArray}:∀ {xs:List Value} {aE:List (Nat × Nat)},Txs s xs aE→∀ (i p q:Nat),aE[i]?=some (p,q)→xs[i*2+1]?=some (.string (s.extract p q))
 | _,[],_,i,p,q,h=>by simp at h
 | _,(p0,q0) :: r,⟨sg,ys,h1,h2⟩,i,p,q,h=>by
  subst h1
  cases i with
  | zero=>
   have e1:(p0,q0)=(p,q):=by simpa using h
   injection e1 with e3 e4
   rw [←e3,←e4];rfl
  | succ i=>
   have:=LC h2 i p q (by simpa using h)
   rw [show (i+1)*2+1=i*2+1+1+1 from by omega,List.getElem?_cons_succ,List.getElem?_cons_succ]
   exact this
theorem Iw (cs:List ex):(jB cs).length=cs.length*2:=by
 induction cs with
 | nil=>rfl
 | cons c l ih=>unfold jB at ih ⊢;rw [List.flatMap_cons,List.length_append,ih,List.length_cons];simp;omega
theorem Nj {s:ByteArray} {xs:List Value} {aE:List (Nat × Nat)} (ht:Txs s xs aE) (hg:Sgs s xs aE):xs=jB (lR s aE):=by
 have hl:=ht.len
 apply List.ext_getElem?
 intro j
 by_cases hj:j<aE.length*2
 ·have hi:j / 2<aE.length:=by omega
  obtain ⟨⟨p,q⟩,lC⟩:∃ y,aE[j / 2]?=some y:=⟨_,List.getElem?_eq_getElem hi⟩
  have hrc:=yO (s:=s) lC
  have jC:j / 2<(lR s aE).length:=by rw [iF];exact hi
  have B7:(lR s aE)[j / 2]=⟨(mU s (j / 2) p).toNat,s.extract p q⟩:=by
   rw [List.getElem?_eq_getElem jC] at hrc
   injection hrc
  obtain ⟨f1,f2⟩:=qe jC
  rw [B7] at f1 f2
  by_cases h0:j % 2=0
  ·have e1:j=j / 2*2:=by omega
   rw [e1]
   rw [hg (j / 2) p q lC,f1]
   have:(((mU s (j / 2) p).toNat:Nat):Int)=mU s (j / 2) p:=by
    unfold mU
    split<;>omega
   show some (Value.int .u8 (mU s (j / 2) p))=some (.int .u8 (((mU s (j / 2) p).toNat:Nat):Int))
   rw [this]
  ·have e1:j=j / 2*2+1:=by omega
   rw [e1]
   rw [LC ht (j / 2) p q lC,f2]
 ·rw [List.getElem?_eq_none (by omega),List.getElem?_eq_none (by rw [Iw,iF];omega)]
section
variable {s:ByteArray} {ae:Nat}
theorem RSels.agree {w w':World} (hk:∀ k,ae≤k→k<w.heap.size→w'.heap[k]?=w.heap[k]?):∀ {xs:List Value} {ss:List (List (Nat × Nat))},RSels w s ae xs ss→RSels w' s ae xs ss
 | _,[],h=>h
 | _,_ :: _,⟨a,c,ps,ys,h1,h2,h3,h4⟩=>⟨a,c,ps,ys,h1,nS h2 hk,h3,RSels.agree hk h4⟩
theorem RRuls.agree {w w':World} (hk:∀ k,ae≤k→k<w.heap.size→w'.heap[k]?=w.heap[k]?):∀ {xs:List Value} {rs:List (List (List (Nat × Nat)))},RRuls w s ae xs rs→RRuls w' s ae xs rs
 | _,[],h=>h
 | _,_ :: _,⟨lv,a,c,vD,ps,ys,h1,h2,h3,h4⟩=>⟨lv,a,c,vD,ps,ys,h1,nS h2 hk,h3.agree hk,RRuls.agree hk h4⟩
theorem RDecs.agree {w w':World} (hk:∀ k,ae≤k→k<w.heap.size→w'.heap[k]?=w.heap[k]?):∀ {xs:List Value} {is:List (Int × List dg)},RDecs w ae xs is→RDecs w' ae xs is
 | _,[],h=>h
 | _,(_,_) :: _,⟨vS,a,c,ys,h1,h2,h3⟩=>⟨vS,a,c,ys,h1,nS h2 hk,RDecs.agree hk h3⟩
theorem Fo {w:World}:∀ {xs:List Value} {ss:List (List (Nat × Nat))},RSels w s ae xs ss→SelsM w 0 xs (ss.map (lR s))
 | _,[],_=>fun i hi=>by simp at hi
 | _,aE :: ss,⟨a,c,ps,ys,h1,h2,⟨h3,h3'⟩,h4⟩=>fun i hi=>by
  subst h1
  cases i with
  | zero=>
   refine ⟨a,c,?_,?_⟩
   ·show some (Value.slice a aE.length c)=some (.slice a (lR s aE).length c)
    rw [iF]
   ·show w.ownsRow 0 206 2 (.slice a (lR s aE).length c) (lR s aE).length (jB (lR s aE))
    rw [iF,←Nj h3 h3']
    exact aG h2 (Nat.zero_le _)
  | succ i=>exact Fo h4 i (by simpa using hi)
theorem sT {w:World}:∀ {xs:List Value} {rs:List (List (List (Nat × Nat)))} {is:List (Int × List dg)},RRuls w s ae xs rs→RDecs w ae xs is→rs.length=is.length→(yJ s rs is).length=rs.length∧∀ r (h:r<(yJ s rs is).length),WD w xs r (yJ s rs is)[r]
 | _,[],[],_,_,_=>⟨rfl,fun r h=>by simp [yJ] at h⟩
 | _,[],_ :: _,_,_,h=>by simp at h
 | _,_ :: _,[],_,_,h=>by simp at h
 | _,ss :: rs,(ly,dl) :: is,⟨lv,a,c,vD,ps,ys,h1,h2,h3,h4⟩,⟨vS,a',c',TJ,g1,g2,g3⟩,hl=>by
  subst h1
  injection g1 with e1 g1
  injection g1 with e2 g1
  injection g1 with e3 g1
  injection e1 with _ e1
  subst g1 e3 e2 e1
  obtain ⟨i1,i2⟩:=sT h4 g3 (by simpa using hl)
  refine ⟨by simp [yJ,i1],fun r hr=>?_⟩
  cases r with
  | zero=>
   refine ⟨a,c,a',c',ps,rfl,?_,rfl,?_,?_,aG g2 (Nat.zero_le _)⟩
   ·show some (Value.slice a ss.length c)=some (.slice a (ss.map (lR s)).length c)
    rw [List.length_map]
   ·show w.ownsRow 0 166 1 (.slice a (ss.map (lR s)).length c) (ss.map (lR s)).length ps
    rw [List.length_map]
    exact aG h2 (Nat.zero_le _)
   ·exact Fo h3
  | succ r=>
   obtain ⟨aS,cS,aD,cD,zs,k1,k2,k3,k4⟩:=i2 r (by simpa [yJ] using hr)
   refine ⟨aS,cS,aD,cD,zs,?_,?_,?_,k4⟩
   ·rw [show (r+1)*3=r*3+1+1+1 from by omega,List.getElem?_cons_succ,List.getElem?_cons_succ,List.getElem?_cons_succ];exact k1
   ·rw [show (r+1)*3+1=r*3+1+1+1+1 from by omega,List.getElem?_cons_succ,List.getElem?_cons_succ,List.getElem?_cons_succ];exact k2
   ·rw [show (r+1)*3+2=r*3+2+1+1+1 from by omega,List.getElem?_cons_succ,List.getElem?_cons_succ,List.getElem?_cons_succ];exact k3
end
def ShIn (w:World) (G:Nat→Prop) (hp:Option Addr) (Rr:List dx):Prop:=∀ w':World,(∀ k,G k→k<w.heap.size→w'.heap[k]?=w.heap[k]?)→WX w' hp Rr
theorem ShIn.keep {w w':World} {G:Nat→Prop} {hp:Option Addr} {Rr:List dx} (h:ShIn w G hp Rr) (hk:∀ k,G k→k<w.heap.size→w'.heap[k]?=w.heap[k]?) (hz:w.heap.size≤w'.heap.size):ShIn w' G hp Rr:=fun w2 h2=>h w2 (fun k hg hl=>(h2 k hg (by omega)).trans (hk k hg hl))
theorem ShIn.here {w:World} {G:Nat→Prop} {hp:Option Addr} {Rr:List dx} (h:ShIn w G hp Rr):WX w hp Rr:=h w (fun _ _ _=>rfl)
theorem tH {w:World} {s:ByteArray} {e:Ending} {w':World} (hs:s.size≤maxLen) (h:wS w s e w') (hc:(fa s).1=0):∃ (pa:Option Addr) (Rr:List dx),e=.returned (.tuple #[.pointer pa,.int .i64 0,.int .i64 (fa s).2])∧Below w.heap.size w w'∧ShIn w' (fun k=>w.heap.size≤k∧k<w'.heap.size) pa Rr∧Rel2 vC Rr (dQ s)∧Rr.length≤400:=by
 obtain ⟨pa,he,hB,h0⟩:=h
 obtain ⟨b,a,c,rs,xs,mn,hpa,vz,Sq,OR,hra,⟨is,hde,jF⟩,WO⟩:=h0 hc
 have h4:s.size≤400:=xL hc
 obtain ⟨M,yW⟩:=NV hc
 obtain ⟨r1,r2,r3,r4⟩:=xc h4 yW (Mb w hs h4 hc) hra jF
 obtain ⟨m1,_⟩:=sT OR hde (by omega)
 refine ⟨pa,yJ s rs is,by rw [←hc];exact he,hB,fun w2 hk=>?_,r1,by omega⟩
 have iU:∀ k,w.heap.size≤k→k<w'.heap.size→w2.heap[k]?=w'.heap[k]?:=fun k h1 h2=>hk k ⟨h1,h2⟩ h2
 obtain ⟨_,m2⟩:=sT (OR.agree iU) (hde.agree iU) (by omega)
 refine ⟨b,a,c,xs,mn,hpa,?_,?_,m2⟩
 ·rw [m1]
  exact (iU b WO vz.lt).trans vz
 ·rw [m1]
  exact aG (nS Sq iU) (Nat.zero_le _)
end Go.Proofs.YtblfffbmklkhmaaGreat
