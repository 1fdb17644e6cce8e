import Derived.Test.YtblfffbmklkhmaaGreatSt9
import Derived.Test.YtblfffbmklkhmaaGreatSt22
import Derived.Test.YtblfffbmklkhmaaGreatSt17
namespace Go.Proofs.YtblfffbmklkhmaaGreat
open Go.RowKit
theorem CK {s:ByteArray} {i j:Nat} {kd:PPt} (h':jc s i kd j):Plain s i j:=by
 have h:=h'.2
 split at h
 ·rename_i gu
  split at h
  ·rename_i hl
   obtain ⟨_,rfl⟩:=h
   exact (Plain.one (jh (by omega))).cat (Plain.one (sA hl))
  ·exact (Plain.one (jh (by omega))).cat h.2.2.2.2.2.1
 ·exact h.2.2.2.2.2.1
theorem kr {s:ByteArray}:∀ {ks:List PPt} {i j:Nat},PartsAt s i j ks→Plain s i j
 | [],_,_,h=>by simp only [PartsAt] at h;subst h;intro k k1 k2;omega
 | _ :: _,_,_,⟨_,_,h1,h2⟩=>(CK h1).cat (kr h2)
theorem i6 {s:ByteArray} {i j ty:Nat} {ks:List PPt} (h:eC s i j ty ks):Plain s i j:=by
 rcases h with ⟨h1,_,h2⟩ | ⟨_,h1,_,h2⟩ | ⟨_,_,_,h2,_⟩
 ·exact (Plain.one (sA h1)).cat (kr h2)
 ·exact (Plain.one (jh (by omega))).cat (kr h2)
 ·exact kr h2
theorem sF {c:Nat} (h:plain c=true):fM c=false:=by simp only [plain,decide_eq_true_eq] at h;exact h.1
theorem Oa {c:Nat} (h:plain c=true):c≠44∧c≠123:=by simp only [plain,decide_eq_true_eq] at h;exact h.2
theorem S_n {c:Nat} (h:fM c=true):c≠44∧c≠123:=by simp only [fM,decide_eq_true_eq] at h;omega
def P5 (s:ByteArray) (i j:Nat):Prop:=∀ k,i≤k→k<j→bt s k≠44∧bt s k≠123
theorem Plain.ncb {s:ByteArray} {i j:Nat} (h:Plain s i j):P5 s i j:=fun k k1 k2=>Oa (h k k1 k2)
theorem uM {s:ByteArray}:∀ {cs:List cO} {i0 i j:Nat},SelPre s i0 i j cs→P5 s i j
 | [],_,_,_,h=>by simp only [SelPre] at h;subst h;intro k k1 k2;omega
 | _ :: _,_,i,j,⟨l,h1,h2,_,h4,h5,_⟩=>fun k k1 k2=>by
  by_cases e:k<l
  ·exact (i6 h1).ncb k k1 e
  ·by_cases e2:k=l
   ·rw [e2];exact S_n h4
   ·exact uM h5 k (by omega) k2
theorem nN {s:ByteArray} {i j:Nat} {cs:List cO} (h:jU s i j cs):P5 s i j:=by
 obtain ⟨pre,l,ty,ks,_,h2,h3,_⟩:=h
 intro k k1 k2
 by_cases e:k<l
 ·exact uM h2 k k1 e
 ·exact (i6 h3).ncb k (by omega) k2
theorem oh {s:ByteArray}:∀ {ss:List (List cO)} {i j:Nat},SelsPre s i j ss→∀ k,i≤k→k<j→bt s k≠123
 | [],_,_,h=>by simp only [SelsPre] at h;subst h;intro k k1 k2;omega
 | _ :: _,i,j,⟨l,h1,h2,h3,h4⟩=>fun k k1 k2=>by
  by_cases e:k<l
  ·exact (nN h1 k k1 e).2
  ·by_cases e2:k=l
   ·rw [e2,h3];omega
   ·exact oh h4 k (by omega) k2
theorem sP {s:ByteArray} {i j:Nat} {ss:List (List cO)} (h:mJ s i j ss):∀ k,i≤k→k<j→bt s k≠123:=by
 obtain ⟨pre,l,cs,_,h2,h3,_,_⟩:=h
 intro k k1 k2
 by_cases e:k<l
 ·exact oh h2 k k1 e
 ·exact (nN h3 k (by omega) k2).2
def CS (s:ByteArray):List (Nat × Nat)→List cO→Prop
 | [],[]=>True
 | (p,q) :: r,x :: cs=>(eC s p q x.ty x.ps∧p<q∧q≤s.size)∧CS s r cs
 | _,_=>False
def SS (s:ByteArray):List (List (Nat × Nat))→List (List cO)→Prop
 | [],[]=>True
 | a :: r,b :: cs=>CS s a b∧SS s r cs
 | _,_=>False
theorem nE {s:ByteArray}:∀ {aE:List (Nat × Nat)} {i j:Nat},Segs s i j aE→i≤j
 | [],_,_,h=>by simp only [Segs] at h;omega
 | (_,_) :: _,_,_,⟨h1,_,h3,_,h5⟩=>by have:=nE h5;omega
theorem Au {s:ByteArray} {l j ty:Nat} {ks:List PPt} {sg:Int} {i0:Nat} (hc:eC s l j ty ks) (C9:l<j) (xF:j≤s.size):∀ {pre:List cO} {i:Nat} {aE:List (Nat × Nat)},SelPre s i0 i l pre→kF s i j aE→CS s aE (pre++[⟨sg,ty,ks⟩])
 | [],i,aE,h,⟨lK,p,e1,e2,e3,e4⟩=>by
  simp only [SelPre] at h
  subst h e1
  cases lK with
  | nil=>simp only [Segs] at e2;subst e2;exact ⟨⟨hc,C9,xF⟩,trivial⟩
  | cons x r=>
   obtain ⟨p',q'⟩:=x
   obtain ⟨rfl,f2,f3,f4,f5⟩:=e2
   have:=nE f5
   have:=sF (i6 hc q' f3 (by omega))
   rw [f4] at this
   cases this
 | _ :: cs,i,aE,⟨l',h1,h2,h3,h4,h5,_⟩,⟨lK,p,e1,e2,e3,e4⟩=>by
  have hl:=iX h5
  subst e1
  cases lK with
  | nil=>
   simp only [Segs] at e2
   subst e2
   have:=e4 l' (by omega) (by omega)
   rw [h4] at this
   cases this
  | cons x r=>
   obtain ⟨p',q'⟩:=x
   obtain ⟨rfl,f2,f3,f4,f5⟩:=e2
   have hq:q'=l':=by
    by_cases a:q'<l'
    ·have:=sF (i6 h1 q' f3 a)
     rw [f4] at this
     cases this
    ·by_cases b:l'<q'
     ·have:=f2 l' (by omega) b
      rw [h4] at this
      cases this
     ·omega
   subst hq
   exact ⟨⟨h1,h2,by omega⟩,Au hc C9 xF h5 ⟨r,p,rfl,f5,e3,e4⟩⟩
theorem xb {s:ByteArray} {i j:Nat} {cs:List cO} {aE:List (Nat × Nat)} (h:jU s i j cs) (h':kF s i j aE) (xF:j≤s.size):CS s aE cs:=by
 obtain ⟨pre,l,ty,ks,rfl,h2,h3,h4,_,_⟩:=h
 exact Au h3 h4 xF h2 h'
theorem io {s:ByteArray}:∀ {ss:List (List (Nat × Nat))} {i j:Nat},RSelsPre s i j ss→i≤j
 | [],_,_,h=>by simp only [RSelsPre] at h;omega
 | _ :: _,_,_,⟨_,_,h2,_,_,h5⟩=>by have:=io h5;omega
theorem wT {s:ByteArray} {l j:Nat} {cs:List cO} (hc:jU s l j cs) (C9:l<j) (xF:j≤s.size):∀ {pre:List (List cO)} {i:Nat} {ss:List (List (Nat × Nat))},SelsPre s i l pre→nH s i j ss→SS s ss (pre++[cs])
 | [],i,ss,h,⟨lK,p,aE,e1,e2,e3,e4,e5⟩=>by
  simp only [SelsPre] at h
  subst h e1
  cases lK with
  | nil=>simp only [RSelsPre] at e2;subst e2;exact ⟨xb hc e3 xF,trivial⟩
  | cons x r=>
   obtain ⟨l',f1,f2,f3,f4,f5⟩:=e2
   have:=io f5
   exact absurd f3 (nN hc l' f2 (by omega)).1
 | c' :: SZ,i,ss,⟨l',h1,h2,h3,h4⟩,⟨lK,p,aE,e1,e2,e3,e4,e5⟩=>by
  have hl:=ij h4
  subst e1
  cases lK with
  | nil=>
   simp only [RSelsPre] at e2
   subst e2
   exact absurd h3 (e5 l' (by omega) (by omega))
  | cons x r=>
   obtain ⟨q',f1,f2,f3,f4,f5⟩:=e2
   have hq:q'=l':=by
    by_cases a:q'<l'
    ·exact absurd f3 (nN h1 q' f2 a).1
    ·by_cases b:l'<q'
     ·exact absurd h3 (f4 l' (by omega) b)
     ·omega
   subst hq
   exact ⟨xb h1 f1 (by omega),wT hc C9 xF h4 ⟨r,p,aE,rfl,f5,e3,e4,e5⟩⟩
theorem N2 (s:ByteArray):∀ (f:Nat) (m:Int) (k k':Cn) (i:Nat),(Vf s f m k i).1=(Vf s f m k' i).1:=by
 intro f
 induction f with
 | zero=>intro m k k' i;simp only [Vf];split<;>rfl
 | succ f ih=>
  intro m k k' i
  simp only [Vf]
  split
  ·rfl
  ·exact ih _ _ _ _
theorem Acc.any {s:ByteArray} {m:Int} {k:Cn} {i:Nat} {M:Int} (h:Acc s m k i M) (k':Cn):∃ M',Acc s m k' i M':=by
 refine ⟨(V s m k' i).2,Prod.ext ?_ rfl⟩
 show (V s m k' i).1=-1
 unfold Acc at h
 have:=N2 s (s.size - i) m k' k i
 unfold V at h ⊢
 rw [this,h]
theorem Mc {m:Int} {c i:Nat} {k:Cn} (h:k.mn≠-1):(cnt m c i k).mn=k.mn:=by
 unfold cnt bY j9
 split
 ·simp only [ite_self]
 ·split
  ·rfl
  ·split
   ·split
    ·simp only [ite_self]
    ·split<;>rfl
   ·rfl
theorem SA (s:ByteArray):∀ (f:Nat) (m:Int) (k:Cn) (i:Nat) (M:Int),k.mn≠-1→Vf s f m k i=(-1,M)→M=k.mn:=by
 intro f
 induction f with
 | zero=>
  intro m k i M hk h
  simp only [Vf] at h
  split at h
  ·injection h with _ h;exact h.symm
  ·injection h with h _;omega
 | succ f ih=>
  intro m k i M hk h
  simp only [Vf] at h
  split at h
  ·injection h with h _;omega
  ·have e:=Mc (m:=m) (c:=bt s i) (i:=i) hk
   have:=ih _ _ _ _ (by rw [e];exact hk) h
   rw [this,e]
theorem x0 {s:ByteArray} {nc i:Nat} {M:Int} (h:Acc s 0 ⟨20,nc,-1⟩ i M):(i<s.size→M=i)∧(¬ i<s.size→M=-1):=by
 constructor
 ·intro hi
  have h2:=h.step hi
  have hm:(cnt 0 (bt s i) i ⟨20,nc,-1⟩).mn=i:=by simp [cnt,bY,j9]
  unfold Acc V at h2
  have:=SA s _ _ _ _ _ (by rw [hm];omega) h2
  rw [this,hm]
 ·intro hi
  unfold Acc at h
  rw [tK (by omega),if_pos rfl] at h
  injection h with _ h
  exact h.symm
theorem Nd {s:ByteArray} {M:Int}:∀ (d:Nat) {m:Int} {k:Cn} {p:Nat},fU m→Acc s m k p M→(∀ j,p≤j→j<p+d→bt s j≠123)→∃ m' k',fU m'∧Acc s m' k' (p+d) M:=by
 intro d
 induction d with
 | zero=>intro m k p hm h _;exact ⟨m,k,hm,h⟩
 | succ d ih=>
  intro m k p hm h hn
  have hl:=h.lt (by unfold fU at hm;omega)
  obtain ⟨m',k',h1,h2⟩:=ih (uN hm (hn p (Nat.le_refl _) (by omega)) (h.ok hl)) (h.step hl) (fun j j1 j2=>hn j (by omega) (by omega))
  exact ⟨m',k',h1,by rw [show p+(d+1)=p+1+d from by omega];exact h2⟩
theorem nJ {s:ByteArray} {i a b:Nat} (h:kt s i a) (h':kt s i b):a=b:=by
 rcases h with ⟨h1,h2⟩ | ⟨h1,h2⟩<;>rcases h' with ⟨h3,h4⟩ | ⟨h3,h4⟩<;>omega
theorem IJ {s:ByteArray} {i j l:Nat} {k:Cn} {M:Int} {ru:cQ} {ss':List (List (Nat × Nat))} (ha:Acc s 0 k i M) (hi:i<s.size) (xF:j≤s.size) (G4:l≤s.size) (h:qL s i j ru) (h':ph s i l ss') :
  j=l∧SS s ss' ru.ss∧∃ k' M',Acc s 0 k' l M':=by
 obtain ⟨p,q,a1,a2,a3,a4,a5,a6,_⟩:=h
 obtain ⟨ly,ss,ds⟩:=ru
 replace a2:mJ s p q ss:=a2
 obtain ⟨p',q',b1,b2,b3,b4,b5,b6,b7⟩:=h'
 obtain rfl:=nJ a1 b1
 have Gj:q=q':=by
  by_cases x:q'<q
  ·have:p≤q':=by
    obtain ⟨pre,l',aE,_,e2,e3,e4,_⟩:=b2
    have:=io e2
    omega
   exact absurd b3 (sP a2 q' this x)
  ·by_cases y:q<q'
   ·exact absurd a4 (b4 q (by omega) y)
   ·omega
 subst Gj
 obtain ⟨pre,x,cs,e1,e2,e3,e4,_⟩:=a2
 subst e1
 refine (fun (Il:j=l∧∃ k' M',Acc s 0 k' l M')=>⟨Il.1,wT e3 e4 (by omega) e2 b2,Il.2⟩) ?_
 have Xn:Acc s 18 ⟨k.nr+1,1,bY (decide (k.nr=20)) k.mn i⟩ i M:=by unfold Acc at ha ⊢;rw [←ha,uO hi]
 have h2:∃ k2,Acc s 2 k2 p M:=by
  rcases a1 with ⟨c1,c2⟩ | ⟨c1,c2⟩
  ·subst c2
   have hl:=Xn.lt (by omega)
   have t1:=Xn.step hl
   rw [show bC 18 (bt s i)=1 from by simp [bC,c1]] at t1
   have Ee:=t1.lt (by omega)
   have t2:=t1.step Ee
   have ho:=t1.ok Ee
   have hd:fk (bt s (i+1))=true:=by
    cases hd:fk (bt s (i+1)) with
    | true=>rfl
    | false=>exfalso;apply ho;simp [bC,wh,hd]
   rw [show bC 1 (bt s (i+1))=2 from by simp [bC,wh,hd]] at t2
   exact ⟨_,t2⟩
  ·subst c2
   refine ⟨⟨k.nr+1,1,bY (decide (k.nr=20)) k.mn p⟩,?_⟩
   unfold Acc at Xn ⊢
   rw [←Xn]
   exact ((na (s:=s) (i:=p) (by omega)).1 _ 1 _).symm
 obtain ⟨k2,h2⟩:=h2
 obtain ⟨m3,k3,i3,h3⟩:=Nd (q - p) (Or.inl rfl) h2 (fun x x1 x2=>b4 x x1 (by omega))
 rw [show p+(q - p)=q from by omega] at h3
 have hq:=h3.lt (by unfold fU at i3;omega)
 obtain rfl:=tY i3 (Or.inr (Or.inr b3)) (h3.ok hq)
 obtain ⟨M1,g3⟩:=h3.any ⟨20,0,-1⟩
 have g9:=g3.step hq
 rw [b3,show bC 3 123=9 from by decide,show cnt 3 123 q ⟨20,0,-1⟩=⟨20,0,-1⟩ from by simp [cnt,fM]] at g9
 obtain ⟨m4,i4,h4,_,_⟩:=tL g9 (fun x x1 x2=>b7 x (by omega) x2) (by omega) (l - 1 - (q+1)) (by omega)
 rw [show q+1+(l - 1 - (q+1))=l - 1 from by omega] at h4
 have Ee:l - 1<s.size:=by omega
 have h5:=h4.step Ee
 rw [(nP i4 (h4.ok Ee)).1 b6,nf i4,show l - 1+1=l from by omega] at h5
 have hj:Acc s 0 ⟨20,0,-1⟩ j M1:=by unfold Acc at g3 ⊢;rw [←g3,a6]
 refine ⟨?_,_,_,h5⟩
 have p1:=x0 h5
 have p2:=x0 hj
 by_cases c1:j<s.size
 ·by_cases c2:l<s.size
  ·have:=p1.1 c2;have:=p2.1 c1;omega
  ·have:=p1.2 c2;have:=p2.1 c1;omega
 ·by_cases c2:l<s.size
  ·have:=p1.1 c2;have:=p2.2 c1;omega
  ·omega
theorem nT {s:ByteArray}:∀ {rs:List cQ} {i j:Nat},RulsAt s i j rs→i≤j
 | [],_,_,h=>by simp only [RulsAt] at h;omega
 | _ :: _,_,_,⟨_,_,h2,h5⟩=>by have:=nT h5;omega
theorem tl {s:ByteArray}:∀ {rs:List (List (List (Nat × Nat)))} {i j:Nat},RRulsAt s i j rs→i≤j
 | [],_,_,h=>by simp only [RRulsAt] at h;omega
 | _ :: _,_,_,⟨_,_,h2,h5⟩=>by have:=tl h5;omega
end Go.Proofs.YtblfffbmklkhmaaGreat
namespace Go.Proofs.YtblfffbmklkhmaaGreat
open Go.RowKit
theorem iW {s:ByteArray}:∀ {ks:List PPt} {i j:Nat},PartsAt s i j ks→ks.length≤j - i
 | [],_,_,_=>by simp
 | _ :: _,_,_,⟨_,_,h1,h2⟩=>by
  have:=lN h1
  have:=iW h2
  have:=(nw h2).1
  simp only [List.length_cons]
  omega
theorem Bp {s:ByteArray} {i j ty:Nat} {ks:List PPt} (h:eC s i j ty ks):ks.length≤j - i:=by
 rcases h with ⟨_,_,h2⟩ | ⟨_,_,_,h2⟩ | ⟨_,_,_,h2,_⟩
 ·have:=iW h2;omega
 ·have:=iW h2;omega
 ·exact iW h2
theorem pM {s:ByteArray}:∀ {cs:List cO} {i0 i j:Nat},SelPre s i0 i j cs→j≤400→cs.length≤j - i∧∀ x∈cs,x.ps.length≤400
 | [],_,_,_,_,_=>⟨by simp,fun x hx=>by cases hx⟩
 | y :: cs,_,i,j,⟨l,h1,h2,_,_,h5,_⟩,hj=>by
  obtain ⟨a,b⟩:=pM h5 hj
  have hl:=iX h5
  have hc:=Bp h1
  refine ⟨by simp only [List.length_cons];omega,fun x hx=>?_⟩
  rcases List.mem_cons.1 hx with rfl | hx
  ·omega
  ·exact b x hx
theorem xP {s:ByteArray} {i j:Nat} {cs:List cO} (h:jU s i j cs) (hj:j≤400):nD cs:=by
 obtain ⟨pre,l,ty,ks,rfl,h2,h3,h4,_⟩:=h
 obtain ⟨a,b⟩:=pM h2 (by omega)
 have hc:=Bp h3
 refine ⟨by simp only [List.length_append,List.length_cons,List.length_nil];omega,fun x hx=>?_⟩
 rcases List.mem_append.1 hx with hx | hx
 ·exact b x hx
 ·rcases List.mem_cons.1 hx with rfl | hx
  ·show ks.length≤400;omega
  ·cases hx
theorem ob {s:ByteArray}:∀ {ss:List (List cO)} {i j:Nat},SelsPre s i j ss→j≤400→ss.length≤j - i∧∀ cs∈ss,nD cs
 | [],_,_,_,_=>⟨by simp,fun x hx=>by cases hx⟩
 | cs :: ss,i,j,⟨l,h1,h2,_,h5⟩,hj=>by
  have hl:=ij h5
  obtain ⟨a,b⟩:=ob h5 hj
  refine ⟨by simp only [List.length_cons];omega,fun x hx=>?_⟩
  rcases List.mem_cons.1 hx with rfl | hx
  ·exact xP h1 (by omega)
  ·exact b x hx
theorem DQ {s:ByteArray} {i j:Nat} {ss:List (List cO)} (h:mJ s i j ss) (hj:j≤400):ss.length≤400∧∀ cs∈ss,nD cs:=by
 obtain ⟨pre,l,cs,rfl,h2,h3,h4,_⟩:=h
 obtain ⟨a,b⟩:=ob h2 (by omega)
 refine ⟨by simp only [List.length_append,List.length_cons,List.length_nil];omega,fun x hx=>?_⟩
 rcases List.mem_append.1 hx with hx | hx
 ·exact b x hx
 ·rcases List.mem_cons.1 hx with rfl | hx
  ·exact xP h3 hj
  ·cases hx
theorem ub {s:ByteArray}:∀ {rs:List cQ} {i j:Nat},RulsAt s i j rs→j≤400→rs.length≤j - i∧∀ r∈rs,r.ss.length≤400∧∀ cs∈r.ss,nD cs
 | [],_,_,_,_=>⟨by simp,fun x hx=>by cases hx⟩
 | ss :: rs,i,j,⟨l,h1,h2,h5⟩,hj=>by
  have hl:=nT h5
  obtain ⟨a,b⟩:=ub h5 hj
  refine ⟨by simp only [List.length_cons];omega,fun x hx=>?_⟩
  rcases List.mem_cons.1 hx with rfl | hx
  ·obtain ⟨p,q,_,a2,_,_,a5,_⟩:=h1
   exact DQ a2 (by omega)
  ·exact b x hx
theorem xL {s:ByteArray} (h:(fa s).1=0):s.size≤400:=by
 unfold fa at h
 by_cases h4:400<s.size
 ·rw [if_pos h4] at h;simp at h
 ·omega
end Go.Proofs.YtblfffbmklkhmaaGreat
namespace Go.Proofs.YtblfffbmklkhmaaGreat
open Go.RowKit
def PPt.fine (p:PPt):Prop:=(-48≤p.st∧p.st≤207)∧(-48≤p.sr∧p.sr≤207)
theorem C2 (s:ByteArray) (i:Nat):(gR s i).fine:=by
 have h1:=xH s (i+1)
 have h2:=xH s (i+2)
 unfold gR
 (repeat' split)<;>(refine ⟨⟨?_,?_⟩,⟨?_,?_⟩⟩<;>simp<;>omega)
theorem xN (s:ByteArray) (i:Nat):(iJ s i).fine:=by
 unfold iJ
 split
 ·refine ⟨⟨?_,?_⟩,⟨?_,?_⟩⟩<;>simp
 ·split
  ·refine ⟨⟨?_,?_⟩,⟨?_,?_⟩⟩<;>simp
  ·exact C2 s _
theorem Ij (s:ByteArray) (i:Nat):(kz s i).fine:=by
 unfold kz
 split
 ·split
  ·refine ⟨⟨?_,?_⟩,⟨?_,?_⟩⟩<;>simp
  ·exact xN s _
 ·exact xN s _
theorem uj {s:ByteArray}:∀ {ks:List PPt} {i j:Nat},PartsAt s i j ks→∀ p∈ks,p.fine
 | [],_,_,_=>fun p hp=>by cases hp
 | _ :: _,_,_,⟨_,_,h2,h3⟩=>fun p hp=>by
  rcases List.mem_cons.1 hp with rfl | hp
  ·rw [(Ad h2).1];exact Ij s _
  ·exact uj h3 p hp
def PDc.fine (d:PDc):Prop:=(0≤d.pr∧d.pr≤255)∧(0≤d.va∧d.va≤255)
structure RsRow (w:World) (ar:Option Addr) (cr:Nat) (xs:List Value) (rs:List cQ):Prop where
 row:w.ownsRow 0 138 3 (.slice ar rs.length cr) rs.length xs
 ruls:Ruls w 0 xs rs
 few:rs.length≤400
 short:∀ r∈rs,r.ss.length≤400∧∀ cs∈r.ss,nD cs
 fine:∀ r∈rs,∀ cs∈r.ss,∀ x∈cs,∀ p∈x.ps,p.fine
 decl:∀ r∈rs,r.ds.length≤400∧∀ d∈r.ds,d.fine
theorem RsRow.below {w w':World} {ar:Option Addr} {cr:Nat} {xs:List Value} {rs:List cQ} (h:RsRow w ar cr xs rs) (hB:Below w.heap.size w w'):RsRow w' ar cr xs rs:=
 ⟨aQ h.row hB,h.ruls.keep (fun _ _=>fI hB _ _),h.few,h.short,h.fine,h.decl⟩
theorem xK {s:ByteArray} {i j ty:Nat} {ks:List PPt} (h:eC s i j ty ks):∀ p∈ks,p.fine:=by
 rcases h with ⟨_,_,h⟩ | ⟨_,_,_,h⟩ | ⟨_,_,_,h,_⟩<;>exact uj h
theorem rq {s:ByteArray}:∀ {cs:List cO} {i0 i j:Nat},SelPre s i0 i j cs→∀ x∈cs,∀ p∈x.ps,p.fine
 | [],_,_,_,_=>fun x hx=>by cases hx
 | y :: cs,_,i,j,⟨l,h1,_,_,_,h5,_⟩=>fun x hx=>by
  rcases List.mem_cons.1 hx with rfl | hx
  ·exact xK h1
  ·exact rq h5 x hx
theorem Ah {s:ByteArray} {i j:Nat} {cs:List cO} (h:jU s i j cs):∀ x∈cs,∀ p∈x.ps,p.fine:=by
 obtain ⟨pre,l,ty,ks,rfl,h2,h3,_⟩:=h
 intro x hx
 rcases List.mem_append.1 hx with hx | hx
 ·exact rq h2 x hx
 ·rw [List.mem_singleton] at hx
  subst hx
  exact xK h3
theorem pS {s:ByteArray}:∀ {ss:List (List cO)} {i j:Nat},SelsPre s i j ss→∀ cs∈ss,∀ x∈cs,∀ p∈x.ps,p.fine
 | [],_,_,_=>fun x hx=>by cases hx
 | cs :: ss,i,j,⟨l,h1,_,_,h5⟩=>fun x hx=>by
  rcases List.mem_cons.1 hx with rfl | hx
  ·exact Ah h1
  ·exact pS h5 x hx
theorem Gv {s:ByteArray} {i j:Nat} {ss:List (List cO)} (h:mJ s i j ss):∀ cs∈ss,∀ x∈cs,∀ p∈x.ps,p.fine:=by
 obtain ⟨pre,l,cs,rfl,h2,h3,_⟩:=h
 intro x hx
 rcases List.mem_append.1 hx with hx | hx
 ·exact pS h2 x hx
 ·rw [List.mem_singleton] at hx
  subst hx
  exact Ah h3
theorem xJ {s:ByteArray} {i j:Nat} {d:PDc} (h:kC s i j d):d.fine:=by
 obtain ⟨_,h2,_,k,hv,_⟩:=h
 have b1:=xH s i
 have b2:=xH s (i+2+1)
 refine ⟨by rw [h2];omega,?_⟩
 rcases hv with h | h | h | h | h
 ·rw [h.2.2.2.1];omega
 ·rw [h.2.2.2.1];omega
 ·rw [h.2.2.2.1];omega
 ·rw [h.2.2.2.1];omega
 ·rw [h.2.2.1];omega
theorem tF {s:ByteArray}:∀ {ds:List PDc} {i j:Nat},DcPre s i j ds→i+ds.length≤j∧∀ d∈ds,d.fine
 | [],_,_,h=>⟨by simp only [DcPre] at h;simp;omega,fun x hx=>by cases hx⟩
 | d :: ds,i,j,⟨l,h1,h2,_,h5⟩=>by
  obtain ⟨a,b⟩:=tF h5
  refine ⟨by rw [List.length_cons];omega,fun x hx=>?_⟩
  rcases List.mem_cons.1 hx with rfl | hx
  ·exact xJ h1
  ·exact b x hx
theorem Jk {s:ByteArray} {i j:Nat} {ds:List PDc} (h:BC s i j ds) (hj:j≤400):ds.length≤400∧∀ d∈ds,d.fine:=by
 rcases h.2 with ⟨_,rfl,_⟩ | ⟨_,k,⟨pre,l,d,rfl,h2,h3,h4,_⟩,_,rfl⟩
 ·exact ⟨by simp,fun x hx=>by cases hx⟩
 ·obtain ⟨a,b⟩:=tF h2
  refine ⟨by simp;omega,fun x hx=>?_⟩
  rcases List.mem_append.1 hx with hx | hx
  ·exact b x hx
  ·rw [List.mem_singleton] at hx
   subst hx
   exact xJ h3
theorem xl {s:ByteArray}:∀ {rs:List cQ} {i j:Nat},RulsAt s i j rs→j≤400→(∀ r∈rs,∀ cs∈r.ss,∀ x∈cs,∀ p∈x.ps,p.fine)∧∀ r∈rs,r.ds.length≤400∧∀ d∈r.ds,d.fine
 | [],_,_,_,_=>⟨fun x hx=>(by cases hx),fun x hx=>by cases hx⟩
 | r :: rs,i,j,⟨l,h1,h2,h5⟩,hj=>by
  have hl:=nT h5
  obtain ⟨a,b⟩:=xl h5 hj
  obtain ⟨p,q,_,a2,_,_,_,_,_,a9⟩:=h1
  refine ⟨fun x hx=>?_,fun x hx=>?_⟩
  ·rcases List.mem_cons.1 hx with rfl | hx
   ·exact Gv a2
   ·exact a x hx
  ·rcases List.mem_cons.1 hx with rfl | hx
   ·exact Jk a9 (by omega)
   ·exact b x hx
def bK (T:aA) (n:Int) (s:ByteArray):Int:=match bn T n with | none=>5 | some _=>if ax s=false then 4 else 0
def bM (T:aA) (n:Int) (s:ByteArray):Int:=match bn T n with | none=>5 | some _=>if s.size≠0∧ax s=false then 4 else 0
def SheetIn (w:World) (G:Nat→Prop) (v:Value) (rs:List cQ):Prop:=
 ∃ (ar:Option Addr) (cr:Nat) (xs:List Value),v=.slice ar rs.length cr∧∀ w':World,(∀ k,G k→k<w.heap.size→w'.heap[k]?=w.heap[k]?)→RsRow w' ar cr xs rs
theorem SheetIn.keep {w w':World} {G:Nat→Prop} {v:Value} {rs:List cQ} (h:SheetIn w G v rs) (hk:∀ k,G k→k<w.heap.size→w'.heap[k]?=w.heap[k]?) (hz:w.heap.size≤w'.heap.size):SheetIn w' G v rs:=by
 obtain ⟨ar,cr,xs,hv,h⟩:=h
 exact ⟨ar,cr,xs,hv,fun w2 h2=>h w2 (fun k hg hl=>(h2 k hg (by omega)).trans (hk k hg hl))⟩
theorem SheetIn.row {w:World} {G:Nat→Prop} {v:Value} {rs:List cQ} (h:SheetIn w G v rs):∃ (ar:Option Addr) (cr:Nat) (xs:List Value),v=.slice ar rs.length cr∧RsRow w ar cr xs rs:=by
 obtain ⟨ar,cr,xs,hv,h⟩:=h
 exact ⟨ar,cr,xs,hv,h w (fun _ _ _=>rfl)⟩
theorem NM {s:ByteArray} (h:(fa s).1=0):s.size≤400:=by
 unfold fa at h
 split at h
 ·cases h
 ·omega
theorem AA {w w':World} {s:ByteArray} {a:Option Addr} {n c:Nat} {rs:List cQ} {xs:List Value} (hc:(fa s).1=0) (hn:n=rs.length) (ho:w'.ownsRow w.heap.size 138 3 (.slice a n c) n xs) (hr:Ruls w' w.heap.size xs rs) (ht:RulsAt s 0 s.size rs):SheetIn w' (fun k=>w.heap.size≤k∧k<w'.heap.size) (.slice a n c) (dQ s):=by
 have h4:=NM hc
 rw [xz h4 ht]
 subst hn
 obtain ⟨hl,hs⟩:=ub ht h4
 obtain ⟨hf,hd⟩:=xl ht h4
 refine ⟨a,c,xs,rfl,fun w2 h2=>?_⟩
 have hk:∀ e,Keeps w' w2 w.heap.size e:=fun e g eU hg hh=>by
  have db:=(Array.getElem?_eq_some_iff.1 hh).1
  exact (h2 g ⟨hg,db⟩ db).trans hh
 exact ⟨aG ((hk _).owns ho) (Nat.zero_le _),(hr.keep (fun e _=>hk e)).mono (Nat.zero_le _),by omega,hs,hf,hd⟩
end Go.Proofs.YtblfffbmklkhmaaGreat
