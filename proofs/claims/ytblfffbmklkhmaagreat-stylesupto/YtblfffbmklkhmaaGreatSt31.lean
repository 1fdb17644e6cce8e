import Derived.Test.YtblfffbmklkhmaaGreatSt19
import Derived.Test.YtblfffbmklkhmaaGreatSt30
import Derived.Test.YtblfffbmklkhmaaGreatSt20
namespace Go.Proofs.YtblfffbmklkhmaaGreat
open Go.RowKit
structure RM (els:List REl) (M:Nat→Mk):Prop where
 kd:∀ y∈els,ax y.kd=true∧(M y.num).kd=bt y.kd 0
 cl:∀ y∈els,∀ c,qy c y.cl=(decide (97≤c∧c≤122)&&(M y.num).cl (c - 97))
 nm:∀ y∈els,(y.nm.size=0∧(M y.num).nm=0)∨(ax y.nm=true∧(M y.num).nm=bt y.nm 0)
theorem wD {l:List Nat} (hn:l.Nodup) {k j:Nat} (hj:l[j]?=some k):∀ i,gj l k i=if j<i then j+1 else 0
 | 0=>by rw [if_neg (by omega)];rfl
 | i+1=>by
  unfold gj
  by_cases h:(l[i]?.map fun k:Nat=>(k:Int))=some (k:Int)
  ·rw [if_pos h]
   have h1:l[i]?=some k:=by
    cases hl:l[i]? with
    | none=>rw [hl] at h;cases h
    | some x=>
     rw [hl] at h
     have h':(x:Int)=(k:Int):=Option.some.inj h
     rw [show x=k from by omega]
   have h2:i=j:=by
    obtain ⟨hi,e1⟩:=List.getElem?_eq_some_iff.1 h1
    obtain ⟨sb,e2⟩:=List.getElem?_eq_some_iff.1 hj
    rcases Nat.lt_trichotomy i j with h3 | h3 | h3
    ·exact absurd (e1.trans e2.symm) (List.pairwise_iff_getElem.1 hn i j hi sb h3)
    ·exact h3
    ·exact absurd (e2.trans e1.symm) (List.pairwise_iff_getElem.1 hn j i sb hi h3)
   rw [if_pos (by omega),h2]
  ·rw [if_neg h,wD hn hj i]
   have h2:i≠j:=fun e=>h (by rw [e,hj];rfl)
   by_cases h3:j<i
   ·rw [if_pos h3,if_pos (by omega)]
   ·rw [if_neg h3,if_neg (by omega)]
theorem Be {l:List Nat} (hn:l.Nodup) {k j:Nat} (hj:l[j]?=some k):(l.takeWhile fun (x:Nat)=>decide (¬ (x:Int)=(k:Int)))=l.take j∧(l.dropWhile fun (x:Nat)=>decide (¬ (x:Int)=(k:Int)))=l.drop j:=by
 induction l generalizing j with
 | nil=>simp at hj
 | cons y l ih=>
  rw [List.nodup_cons] at hn
  rw [List.takeWhile_cons,List.dropWhile_cons]
  cases j with
  | zero=>
   have h1:y=k:=by simpa using hj
   rw [h1]
   simp
  | succ j=>
   have h1:l[j]?=some k:=by simpa using hj
   have h2:decide (¬ (y:Int)=(k:Int))=true:=by
    rw [decide_eq_true_eq]
    intro e
    exact hn.1 (by rw [show y=k from by omega];exact List.mem_of_getElem? h1)
   obtain ⟨h3,h4⟩:=ih hn.2 h1
   rw [h2,if_pos rfl,if_pos rfl,h3,h4]
   exact ⟨rfl,rfl⟩
section
variable {els:List REl} {made:Nat} {M:Nat→Mk}
theorem iE {y:REl} (h:y∈els):(y.num,y.kids)∈aB els:=List.mem_map.2 ⟨y,h,rfl⟩
theorem vb {k:Nat} {l:List Nat} (h:(k,l)∈aB els):∃ y∈els,y.num=k∧y.kids=l:=by
 obtain ⟨y,hy,he⟩:=List.mem_map.1 h
 injection he with h1 h2
 exact ⟨y,hy,h1,h2⟩
theorem lH (hw:TW (aB els) made) {y:REl} (h:y∈els):bn (aB els) y.num=some y.kids:=dt hw.nums (iE h)
theorem BO (T:aA):bn T (-1)=none:=by
 unfold bn
 rw [List.find?_eq_none.2 (fun x _=>by simp)]
 rfl
theorem qB (hw:TW (aB els) made) {y:REl} (hy:y∈els):((bV els y.num).1:Int)=((cE (aB els) y.num).length:Int)+1∧(decide ((bV els y.num).1=(bV els y.num).2)=oi (aB els) y.num):=by
 have hf:=lH hw hy
 unfold bV cE oi
 rw [hf,Option.isSome_some,if_pos rfl,Bool.true_and,←dk]
 by_cases h0:y.num=0
 ·have hp:aU (aB els) y.num=-1:=by rw [h0];exact hw.root_par
  rw [hp,if_pos (by decide)]
  unfold dA
  rw [BO]
  exact ⟨rfl,rfl⟩
 ·obtain ⟨q,hq,hm,hp⟩:=hw.up (iE hy) h0
  rw [hp,if_neg (by omega)]
  obtain ⟨z,hz,fO,nX⟩:=vb (k:=q.1) (l:=q.2) hq
  have hH:aZ els (q.1:Int)=some z∨∃ z',aZ els (q.1:Int)=some z'∧z'.kids=q.2:=by
   have h1:=pD els (q.1:Int)
   rw [dt hw.nums hq] at h1
   cases Y8:aZ els (q.1:Int) with
   | none=>rw [Y8] at h1;cases h1
   | some z'=>
    rw [Y8] at h1
    injection h1 with h1
    exact Or.inr ⟨z',rfl,h1.symm⟩
  have hk:dA (aB els) (q.1:Int)=q.2:=by unfold dA;rw [dt hw.nums hq];rfl
  have UB:=hw.kdup q hq
  obtain ⟨j,hj,hje⟩:=List.getElem_of_mem hm
  have sb:q.2[j]?=some y.num:=by rw [List.getElem?_eq_getElem hj,hje]
  obtain ⟨w1,w2⟩:=Be UB sb
  have ol:∀ z':REl,z'.kids=q.2→(((gj z'.kids y.num z'.kids.length:Nat):Int)=((((q.2.takeWhile fun (k:Nat)=>decide (¬ (k:Int)=(y.num:Int))).map fun (k:Nat)=>(k:Int)).reverse).length:Int)+1)∧(decide (gj z'.kids y.num z'.kids.length=z'.kids.length)=decide ((q.2.dropWhile fun (k:Nat)=>decide (¬ (k:Int)=(y.num:Int))).length≤1)):=fun z' Yg=>by
   rw [Yg,wD UB sb,if_pos hj,w1,w2,List.length_reverse,List.length_map,List.length_take,List.length_drop]
   refine ⟨by omega,?_⟩
   rw [decide_eq_decide]
   omega
  rw [hk]
  rcases hH with h1 | ⟨z',h1,h2⟩
  ·rw [h1];exact ol z nX
  ·rw [h1];exact ol z' h2
theorem G5 {at' a b:Nat}:j3 at' a b=ld (at':Int) (a:Int) (b:Int):=by
 rw [Bool.eq_iff_iff,oM]
 unfold ld JI
 by_cases h:(a:Int)≤0∨(at':Int)<(b:Int)
 ·rw [if_pos h,beq_iff_eq]
  constructor
  ·rintro ⟨k,hk,he⟩
   rcases h with h | h
   ·have:a=0:=by omega
    subst this
    omega
   ·have:b≤a*k+b:=Nat.le_add_left _ _
    omega
  ·intro e
   exact ⟨0,Nat.zero_le _,by omega⟩
 ·rw [if_neg h,beq_iff_eq]
  have ha:0<a:=by omega
  have hb:b≤at':=by omega
  have hz:((at':Int) - (b:Int))=((at' - b:Nat):Int):=by omega
  rw [hz]
  constructor
  ·rintro ⟨k,hk,he⟩
   have h1:at' - b=a*k:=by omega
   rw [h1,Int.natCast_mul,Int.mul_emod_right]
  ·intro e
   have h1:(at' - b) % a=0:=by
    exact_mod_cast e
   refine ⟨(at' - b) / a,?_,?_⟩
   ·have:=Nat.div_le_self (at' - b) a
    omega
   ·have:=Nat.div_add_mod (at' - b) a
    omega
theorem tu {s:ByteArray} (h:s.size=1):s=⟨#[UInt8.ofNat (bt s 0)]⟩:=by
 apply ByteArray.ext
 apply Array.ext
 ·exact h
 ·intro i h1 h2
  have:i=0:=by
   have:s.data.size=1:=h
   omega
  subst this
  show s.data[0]=UInt8.ofNat (bt s 0)
  rw [bq s 0 (by omega)]
  simp
  rfl
theorem Aa {s t:ByteArray}:(s.toList==t.toList)=true↔s=t:=by
 rw [beq_iff_eq]
 constructor
 ·intro h
  apply ByteArray.ext
  rw [ko,ko] at h
  exact Array.toList_inj.1 h
 ·intro h;rw [h]
theorem yE {s t:ByteArray} (h1:s.size=1) (h2:t.size=1):(s.toList==t.toList)=((bt s 0:Int)==(bt t 0:Int)):=by
 rw [Bool.eq_iff_iff,Aa,beq_iff_eq]
 constructor
 ·intro h;rw [h]
 ·intro h
  rw [tu h1,tu h2,show bt s 0=bt t 0 from by omega]
end
end Go.Proofs.YtblfffbmklkhmaaGreat
namespace Go.Proofs.YtblfffbmklkhmaaGreat
open Go.RowKit
section
variable {els:List REl} {made:Nat} {M:Nat→Mk} {s:ByteArray}
theorem GF {c:Nat} (h:fl c=true):97≤c∧c≤122:=by simpa [fl] using h
theorem vW {c:Nat} (h:fk c=true):48≤c∧c≤57:=by simpa [fk] using h
theorem cW {i j:Nat} (h:j≤s.size):(s.extract i j).size=j - i:=by rw [ByteArray.size_extract];omega
theorem wH (hw:TW (aB els) made) (hm:RM els M) {y:REl} (hy:y∈els) {i:Nat} (hj:i+1≤s.size) (hl:fl (bt s i)=true):dh els y (s.extract i (i+1))=(aY (aB els) M).ty y.num (bt s i)∧mI (s.extract i (i+1)):=by
 have h0:bt (s.extract i (i+1)) 0=bt s i:=by rw [aV hj (by omega)];rfl
 have hb:=GF hl
 have hz:=cW (i:=i) hj
 refine ⟨?_,⟨by omega,fun h=>by omega,fun h=>by omega,fun h=>by omega,by omega⟩⟩
 unfold dh
 rw [h0,if_neg (by omega),if_neg (by omega),if_neg (by omega),if_neg (by omega)]
 obtain ⟨k1,k2⟩:=hm.kd y hy
 have hk:y.kd.size=1:=by
  unfold ax at k1
  rw [Bool.and_eq_true,decide_eq_true_eq] at k1
  exact k1.1
 rw [yE hk (by omega),h0]
 show _=gF (aB els) M y.num (bt s i)
 unfold gF
 rw [lH hw hy,Option.isSome_some,Bool.true_and,Int.toNat_natCast,k2]
theorem rG (hw:TW (aB els) made) (hm:RM els M) {y:REl} (hy:y∈els) {i j:Nat} (hs:s.size≤400) (hj:j≤s.size) {p:PPt} (h:ic s i p j):dh els y (s.extract i j)=nj (aY (aB els) M) p y.num∧mI (s.extract i j)∧(bt s i=46∨bt s i=35∨bt s i=58):=by
 obtain ⟨hp,_,_,Il,hb,_,oE⟩:=h
 have UH:2≤sl s i:=by unfold sl;split<;>omega
 have h0:bt (s.extract i j) 0=bt s i:=by rw [aV hj (by omega)];rfl
 have h1:bt (s.extract i j) 1=bt s (i+1):=by rw [aV hj (by omega)]
 have hz:=cW (i:=i) hj
 have hf:=lH hw hy
 obtain ⟨sp1,sp2⟩:=qB hw hy
 rcases hb with hb | hb | hb
 ·
  have hl:fl (bt s (i+1))=true:=by
   rcases oE with h | h
   ·exact h.2
   ·omega
  have hlb:=GF hl
  refine ⟨?_,⟨by omega,fun _=>by omega,fun h=>by omega,fun h=>by omega,by omega⟩,Or.inl hb⟩
  unfold dh
  rw [h0,hb,if_neg (by decide),if_pos rfl,h1,hm.cl y hy]
  rw [hp]
  unfold iJ
  rw [if_pos hb]
  show _=e9 (aB els) M y.num (bt s (i+1):Nat)
  unfold e9
  rw [hf,Option.isSome_some,Bool.true_and,Int.toNat_natCast]
  congr 1
  ·rw [decide_eq_decide];omega
  ·rw [show (((bt s (i+1):Nat):Int) - 97).toNat=bt s (i+1) - 97 from by omega]
 ·
  have hl:fl (bt s (i+1))=true:=by
   rcases oE with h | h
   ·exact h.2
   ·omega
  have hlb:=GF hl
  have afJ:sl s i=2:=by unfold sl;rw [if_neg (by omega)]
  refine ⟨?_,⟨by omega,fun h=>by omega,fun _=>by omega,fun h=>by omega,by omega⟩,Or.inr (Or.inl hb)⟩
  unfold dh
  rw [h0,hb,if_neg (by decide),if_neg (by decide),if_pos rfl]
  have he:(s.extract i j).extract 1 (s.extract i j).size=s.extract (i+1) j:=mH hj
  have nX:(s.extract (i+1) j).size=1:=by rw [cW hj];omega
  have BY:bt (s.extract (i+1) j) 0=bt s (i+1):=by rw [aV hj (by omega)]
  rw [he,hp]
  unfold iJ
  rw [if_neg (by omega),if_pos hb]
  show _=gJ (aB els) M y.num (bt s (i+1):Nat)
  unfold gJ
  rw [hf,Option.isSome_some,Bool.true_and,Int.toNat_natCast]
  rcases hm.nm y hy with ⟨n1,n2⟩ | ⟨n1,n2⟩
  ·rw [n2,Bool.eq_iff_iff,Aa,beq_iff_eq]
   constructor
   ·intro e
    rw [e] at n1
    omega
   ·intro e
    omega
  ·have hk:y.nm.size=1:=by
    unfold ax at n1
    rw [Bool.and_eq_true,decide_eq_true_eq] at n1
    exact n1.1
   rw [yE hk nX,BY,n2]
 ·
  have hpk:TG s (i+1):=by
   rcases oE with h | h
   ·omega
   ·exact h.2
  have Oz:iJ s i=gR s (i+1):=by unfold iJ;rw [if_neg (by omega),if_neg (by omega)]
  have hc:1<(s.extract i j).size∧(bt (s.extract i j) 1=102∨bt (s.extract i j) 1=108∨bt (s.extract i j) 1=101∨(3<(s.extract i j).size∧48≤bt (s.extract i j) 2∧bt (s.extract i j) 2≤57∧48≤bt (s.extract i j) 3∧bt (s.extract i j) 3≤57)):=by
   refine ⟨by omega,?_⟩
   rw [h1]
   rcases hpk with h | h | h | ⟨h,d1,d2⟩
   ·exact Or.inl h
   ·exact Or.inr (Or.inl h)
   ·exact Or.inr (Or.inr (Or.inl h))
   ·have XR:sl s i=4:=by unfold sl;rw [if_pos ⟨hb,h⟩]
    have e1:=vW d1
    have e2:=vW d2
    refine Or.inr (Or.inr (Or.inr ⟨by omega,?_⟩))
    rw [aV hj (by omega),aV hj (by omega),show i+2=i+1+1 from rfl,show i+3=i+1+2 from rfl]
    omega
  refine ⟨?_,⟨by omega,fun h=>by omega,fun h=>by omega,fun _=>hc,by omega⟩,Or.inr (Or.inr hb)⟩
  unfold dh
  rw [h0,hb,if_neg (by decide),if_neg (by decide),if_neg (by decide),if_pos rfl,h1,hp,Oz]
  unfold gR
  by_cases k1:bt s (i+1)=102
  ·rw [if_pos k1,if_pos k1]
   show decide ((bV els y.num).1=1)=decide (((cE (aB els) y.num).length:Int)+1=1)
   rw [decide_eq_decide]
   omega
  rw [if_neg k1,if_neg k1]
  by_cases k2:bt s (i+1)=108
  ·rw [if_pos k2,if_pos k2]
   exact sp2
  rw [if_neg k2,if_neg k2]
  by_cases k3:bt s (i+1)=101
  ·rw [if_pos k3,if_pos k3]
   show decide (y.kids.length=0)=kD (aB els) y.num
   unfold kD dA
   rw [hf,Option.isSome_some,Bool.true_and]
   show _=y.kids.isEmpty
   cases y.kids<;>rfl
  rw [if_neg k3,if_neg k3]
  rcases hpk with h | h | h | ⟨h,d1,d2⟩
  ·exact absurd h k1
  ·exact absurd h k2
  ·exact absurd h k3
  ·have XR:sl s i=4:=by unfold sl;rw [if_pos ⟨hb,h⟩]
   have e1:=vW d1
   have e2:=vW d2
   rw [aV hj (by omega),aV hj (by omega),show i+2=i+1+1 from rfl,show i+3=i+1+2 from rfl,G5]
   show _=ld (((cE (aB els) y.num).length:Int)+1) ((bt s (i+1+1):Int) - 48) ((bt s (i+1+2):Int) - 48)
   rw [sp1,show ((bt s (i+1+1) - 48:Nat):Int)=(bt s (i+1+1):Int) - 48 from by omega,show ((bt s (i+1+2) - 48:Nat):Int)=(bt s (i+1+2):Int) - 48 from by omega]
theorem GT (hw:TW (aB els) made) (hm:RM els M) {y:REl} (hy:y∈els) {i j:Nat} (hs:s.size≤400) (hj:j≤s.size) {p:PPt} (h:jc s i p j):mc els y (s.extract i j)=(nj (aY (aB els) M) p y.num != p.nt)∧PartOK (s.extract i j):=by
 have aN:=lN h
 have h0:bt (s.extract i j) 0=bt s i:=by rw [aV hj (by omega)];rfl
 have hz:=cW (i:=i) hj
 have he:(s.extract i j).extract 1 (s.extract i j).size=s.extract (i+1) j:=mH hj
 obtain ⟨hp,h2⟩:=h
 unfold mc
 rw [h0]
 by_cases gu:bt s i=33
 ·rw [if_pos gu] at h2 ⊢
  rw [he]
  by_cases hl:fl (bt s (i+1))=true
  ·rw [if_pos hl] at h2
   obtain ⟨k1,k2⟩:=h2
   subst k2
   obtain ⟨t1,t2⟩:=wH hw hm hy (i:=i+1) hj hl
   refine ⟨?_,⟨by omega,fun _=>by rw [he];exact t2,fun h=>absurd gu (by rw [h0] at h;exact h)⟩⟩
   rw [t1,hp]
   unfold kz
   rw [if_pos gu,if_pos hl]
   show _=((aY (aB els) M).ty y.num (bt s (i+1):Nat) != true)
   cases (aY (aB els) M).ty y.num (bt s (i+1):Nat)<;>rfl
  ·rw [if_neg hl] at h2
   obtain ⟨t1,t2,_⟩:=rG hw hm hy hs hj h2
   refine ⟨?_,⟨by omega,fun _=>by rw [he];exact t2,fun h=>absurd gu (by rw [h0] at h;exact h)⟩⟩
   have Nr:p.nt=true:=by rw [hp];unfold kz;rw [if_pos gu,if_neg hl];rfl
   have hsv:nj (aY (aB els) M) ⟨false,p.kd,p.lt,p.st,p.sr⟩ y.num=nj (aY (aB els) M) p y.num:=rfl
   rw [t1,hsv,Nr]
   cases nj (aY (aB els) M) p y.num<;>rfl
 ·rw [if_neg gu] at h2 ⊢
  obtain ⟨t1,t2,_⟩:=rG hw hm hy hs hj h2
  refine ⟨?_,⟨by omega,fun h=>absurd (by rw [h0] at h;exact h) gu,fun _=>t2⟩⟩
  have Nr:p.nt=false:=by rw [h2.1];exact EV s i
  rw [t1,Nr]
  cases nj (aY (aB els) M) p y.num<;>rfl
theorem p8 {i j q:Nat} (hjq:j≤q) (hq:q≤s.size) (hcut:i+bS s i=j):bS (s.extract i q) 0=j - i∧(s.extract i q).extract 0 (j - i)=s.extract i j∧(s.extract i q).extract (j - i) (s.extract i q).size=s.extract j q:=by
 obtain ⟨e1,_⟩:=E2 (s:=s) (i:=i) (q:=q) (by omega) hq
 refine ⟨by omega,?_,?_⟩
 ·apply ByteArray.ext
  simp only [ByteArray.data_extract,Array.extract_extract]
  congr 1<;>omega
 ·rw [mH hq,show i+(j - i)=j from by omega]
theorem lE (hw:TW (aB els) made) (hm:RM els M) {y:REl} (hy:y∈els) (hs:s.size≤400) {q:Nat} (hq:q≤s.size):∀ {ks:List PPt} {i:Nat} (f:Nat),PartsAt s i q ks→q - i≤f→eM els y f (s.extract i q)=(ks.all fun p=>nj (aY (aB els) M) p y.num != p.nt)∧kT f (s.extract i q)
 | [],i,f,h,hf=>by
  simp only [PartsAt] at h
  subst h
  have hz:(s.extract i i).size=0:=by rw [cW hq];omega
  cases f with
  | zero=>exact ⟨rfl,hz⟩
  | succ f=>
   refine ⟨?_,Or.inl hz⟩
   unfold eM
   rw [if_pos hz]
   rfl
 | p :: ks,i,f,⟨_,l,hg,hr⟩,hf=>by
  have aN:=lN hg
  have oz:l≤q:=(nw hr).1
  obtain ⟨hc,_⟩:=A4 hg
  obtain ⟨c1,c2,c3⟩:=p8 oz hq hc
  have hz:(s.extract i q).size=q - i:=cW hq
  cases f with
  | zero=>omega
  | succ f=>
   obtain ⟨Td,OE⟩:=lE hw hm hy hs hq (i:=l) f hr (by omega)
   obtain ⟨t1,t2⟩:=GT hw hm hy hs (by omega) hg
   refine ⟨?_,Or.inr ⟨by omega,by omega,by rw [c1,c2];exact t2,by rw [c1,c3];exact OE⟩⟩
   unfold eM
   rw [if_neg (by omega),c1,c2,c3,t1,Td,List.all_cons]
theorem wO (hw:TW (aB els) made) (hm:RM els M) {y:REl} (hy:y∈els) (hs:s.size≤400) {p q ty:Nat} (hq:q≤s.size) (lC:p<q) {ks:List PPt} (h:eC s p q ty ks) (sg:Int):eM els y 400 (s.extract p q)=ke (aY (aB els) M) ⟨sg,ty,ks⟩ y.num∧kT 400 (s.extract p q):=by
 have hz:(s.extract p q).size=q - p:=cW hq
 have h0:bt (s.extract p (p+1)) 0=bt s p:=by rw [aV (by omega) (by omega)];rfl
 have fO:(s.extract p (p+1)).size=1:=by rw [cW (by omega)];omega
 unfold ke
 rcases h with ⟨h1,rfl,h2⟩ | ⟨h1,ql,rfl,h2⟩ | ⟨_,_,rfl,h2,_⟩
 ·have hb:=GF h1
  have mf:p+bS s p=p+1:=by
   have MM:fo s p=0:=by unfold fo;rw [if_neg (by omega)]
   unfold bS
   rw [MM,Nat.add_zero]
   unfold kX
   rw [if_neg (by omega),if_neg (by omega)]
  obtain ⟨c1,c2,c3⟩:=p8 (j:=p+1) (by omega) hq mf
  obtain ⟨Td,OE⟩:=lE hw hm hy hs hq (i:=p+1) 399 h2 (by omega)
  obtain ⟨t1,t2⟩:=wH hw hm hy (i:=p) (by omega) h1
  have KH:mc els y (s.extract p (p+1))=(aY (aB els) M).ty y.num (bt s p):=by
   unfold mc
   rw [h0,if_neg (by omega)]
   exact t1
  refine ⟨?_,Or.inr ⟨by omega,by omega,?_,?_⟩⟩
  ·unfold eM
   rw [if_neg (by omega),c1,c2,c3,KH,Td]
   have eV:((bt s p:Nat)==0)=false:=by rw [beq_eq_false_iff_ne];omega
   show _=((((bt s p:Nat)==0)||(aY (aB els) M).ty y.num (bt s p:Nat))&&_)
   rw [eV,Bool.false_or]
  ·rw [c1,c2]
   exact ⟨by omega,fun h=>by omega,fun _=>t2⟩
  ·rw [c1,c3]
   exact OE
 ·have mf:p+bS s p=p+1:=by
   have MM:fo s p=0:=by unfold fo;rw [if_neg (by omega)]
   unfold bS
   rw [MM,Nat.add_zero]
   unfold kX
   rw [if_neg (by omega),if_neg (by omega)]
  obtain ⟨c1,c2,c3⟩:=p8 (j:=p+1) (by omega) hq mf
  obtain ⟨Td,OE⟩:=lE hw hm hy hs hq (i:=p+1) 399 h2 (by omega)
  have KH:mc els y (s.extract p (p+1))=true:=by
   unfold mc
   rw [h0,if_neg (by omega)]
   unfold dh
   rw [h0,if_pos ql]
  refine ⟨?_,Or.inr ⟨by omega,by omega,?_,?_⟩⟩
  ·unfold eM
   rw [if_neg (by omega),c1,c2,c3,KH,Td]
   rfl
  ·rw [c1,c2]
   exact ⟨by omega,fun h=>by omega,fun _=>⟨by omega,fun h=>by omega,fun h=>by omega,fun h=>by omega,by omega⟩⟩
  ·rw [c1,c3]
   exact OE
 ·obtain ⟨Td,OE⟩:=lE hw hm hy hs hq (i:=p) 400 h2 (by omega)
  refine ⟨?_,OE⟩
  rw [Td]
  rfl
end
end Go.Proofs.YtblfffbmklkhmaaGreat
namespace Go.Proofs.YtblfffbmklkhmaaGreat
open Go.RowKit
section
variable {els:List REl} {made:Nat} {M:Nat→Mk}
theorem xt {T:aA} (hw:TW T made) (a:Nat):∀ (j:Nat) {k:Nat} {l:List Nat},(k,l)∈T→jm T (j+1) k<0→((a:Int)∈aW T j k↔0≤aU T k∧dR T a (aU T k))
 | 0,k,l,hk,hj=>by
  have h1:aU T k<0:=hj
  constructor
  ·intro h;cases h
  ·intro h;omega
 | j+1,k,l,hk,hj=>by
  show (a:Int)∈(if aU T k=-1 then [] else aU T k :: aW T j (aU T k))↔_
  rcases cB T k with ⟨h1,_⟩ | ⟨q,hq,h1,h2⟩
  ·rw [h1,if_pos rfl]
   constructor
   ·intro h;cases h
   ·intro h;omega
  ·have hm:=gN.1 h1
   rw [h2,if_neg (by omega),List.mem_cons]
   have ih:=xt hw a j (k:=q.1) (l:=q.2) hq (by
    have:jm T (j+1+1) k=jm T (j+1) (aU T k):=rfl
    rw [this,h2] at hj
    exact hj)
   rw [ih]
   constructor
   ·rintro (h3 | ⟨h3,h4⟩)
    ·refine ⟨by omega,?_⟩
     rw [←h3]
     exact hE T a
    ·refine ⟨by omega,?_⟩
     rcases cB T q.1 with ⟨h5,_⟩ | ⟨q2,C3,h5,h6⟩
     ·omega
     ·rw [h6] at h4
      exact (hw.under_kid C3 (gN.1 h5) a).2 (Or.inr h4)
   ·rintro ⟨_,h4⟩
    rcases cB T q.1 with ⟨h5,_⟩ | ⟨q2,C3,h5,h6⟩
    ·left
     obtain ⟨_,t,ht⟩:=h4
     cases t with
     | zero=>exact ht.symm
     | succ t=>
      have h7:jm T t (aU T q.1)=a:=ht
      have h8:=sH T (n:=aU T q.1) (by omega) t
      omega
    ·rcases (hw.under_kid C3 (gN.1 h5) a).1 h4 with h7 | h7
     ·left;omega
     ·right
      rw [h6]
      exact ⟨by omega,h7⟩
theorem ou {T:aA} (hw:TW T made) (a:Nat) {k:Nat} {l:List Nat} (hk:(k,l)∈T):(a:Int)∈aW T T.length k↔0≤aU T k∧dR T a (aU T k):=xt hw a T.length hk (hw.up_end hk (by omega))
theorem wf {T:aA} (a:Nat) {k:Nat} {l:List Nat} (hk:(k,l)∈T):(a:Int)∈(aW T T.length k).take 1↔aU T k=a:=by
 obtain ⟨n,hn⟩:∃ n,T.length=n+1:=by
  have:=List.length_pos_of_mem hk
  exact ⟨T.length - 1,by omega⟩
 rw [hn]
 show (a:Int)∈(if aU T k=-1 then [] else aU T k :: aW T n (aU T k)).take 1↔_
 by_cases h:aU T k=-1
 ·rw [if_pos h,h]
  constructor
  ·intro h;cases h
  ·intro h;omega
 ·rw [if_neg h,List.take_succ_cons,List.take_zero,List.mem_singleton]
  exact ⟨fun h=>h.symm,fun h=>h.symm⟩
theorem Mw {T:aA} {k:Nat} {l:List Nat} (hk:(k,l)∈T):∀ x∈aW T T.length k,∃ j lj,x=((j:Nat):Int)∧(j,lj)∈T:=by
 have ol:∀ (n:Nat) {k:Nat} {l:List Nat},(k,l)∈T→∀ x∈aW T n k,∃ j lj,x=((j:Nat):Int)∧(j,lj)∈T:=fun n=>by
  induction n with
  | zero=>intro k l _ x hx;cases hx
  | succ n ih=>
   intro k l hk x hx
   have BP:x∈(if aU T k=-1 then [] else aU T k :: aW T n (aU T k)):=hx
   rcases cB T k with ⟨h1,_⟩ | ⟨q,hq,h1,h2⟩
   ·rw [h1,if_pos rfl] at BP;cases BP
   ·rw [h2,if_neg (by omega)] at BP
    rcases List.mem_cons.1 BP with rfl | h3
    ·exact ⟨q.1,q.2,rfl,hq⟩
    ·exact ih (k:=q.1) (l:=q.2) hq x h3
 exact ol T.length hk
theorem qv {T:aA} (hw:TW T made) {q:Nat × List Nat} (hq:q∈T) {j k:Nat} (hj:q.2[j]?=some k) {l:List Nat} (hk:(k,l)∈T):cE T k=((q.2.take j).map fun (x:Nat)=>(x:Int)).reverse:=by
 unfold cE
 rw [dt hw.nums hk,Option.isSome_some,if_pos rfl,hw.parent hq (List.mem_of_getElem? hj)]
 unfold dA
 rw [dt hw.nums hq]
 show (((q.2.takeWhile fun (x:Nat)=>decide (¬ (x:Int)=(k:Int))).map fun (x:Nat)=>(x:Int)).reverse)=_
 rw [(Be (hw.kdup q hq) hj).1]
theorem rU {T:aA} (hw:TW T made):cE T (0:Nat)=[]:=by
 unfold cE
 have h0:aU T ((0:Nat):Int)=-1:=hw.root_par
 rw [h0]
 unfold dA
 rw [BO]
 split<;>rfl
theorem Dd (hw:TW (aB els) made) {a b:REl} (ha:a∈els) (hb:b∈els) :
  ((aJ els b.num<0∨aJ els b.num≠aJ els a.num)→∀ n,(a.num:Int) ∉ (cE (aB els) b.num).take n)∧
  (¬ (aJ els b.num<0∨aJ els b.num≠aJ els a.num)→1≤(bV els a.num).1∧(bV els b.num).1=(cE (aB els) b.num).length+1∧∀ n,(a.num:Int)∈(cE (aB els) b.num).take n↔(bV els a.num).1<(bV els b.num).1∧(bV els b.num).1≤(bV els a.num).1+n):=by
 have E5:=iE hb
 have hka:=iE ha
 rw [←dk,←dk]
 by_cases mr:b.num=0
 ·have Cc:aU (aB els) b.num=-1:=by rw [mr];exact hw.root_par
  have IZ:cE (aB els) b.num=[]:=by rw [mr];exact rU hw
  rw [Cc,IZ]
  exact ⟨fun _ n h=>by simp at h,fun h=>absurd (Or.inl (by decide)) h⟩
 ·obtain ⟨q,hq,KV,hqp⟩:=hw.up E5 mr
  rw [hqp]
  obtain ⟨jb,YO,Qo⟩:=List.getElem_of_mem KV
  have Yj:q.2[jb]?=some b.num:=by rw [List.getElem?_eq_getElem YO,Qo]
  have UB:=hw.kdup q hq
  have UJ:cE (aB els) b.num=((q.2.take jb).map fun (x:Nat)=>(x:Int)).reverse:=qv hw hq Yj E5
  have ZX:(bV els b.num).1=jb+1:=by
   have h1:=(qB hw hb).1
   rw [UJ,List.length_reverse,List.length_map,List.length_take] at h1
   omega
  rw [UJ]
  refine ⟨fun eV n h=>?_,fun Xf=>?_⟩
  ·have h2:=List.mem_of_mem_take h
   rw [List.mem_reverse,List.mem_map] at h2
   obtain ⟨x,hx,mZ⟩:=h2
   have Ps:x=a.num:=by omega
   subst Ps
   rcases eV with h3 | h3
   ·omega
   ·exact h3 (hw.parent hq (List.mem_of_mem_take hx)).symm
  ·have hpa:(q.1:Int)=aU (aB els) a.num:=by
    rcases Int.lt_trichotomy (q.1:Int) (aU (aB els) a.num) with h | h | h
    ·exact absurd (Or.inr (by omega)) Xf
    ·exact h
    ·exact absurd (Or.inr (by omega)) Xf
   have haq:a.num∈q.2:=by
    rcases cB (aB els) a.num with ⟨h1,_⟩ | ⟨q2,C3,h1,h2⟩
    ·omega
    ·have:q2=q:=pY hw.nums C3 hq (by omega)
     rw [this] at h1
     exact gN.1 h1
   obtain ⟨ja,TO,OF⟩:=List.getElem_of_mem haq
   have ZA:q.2[ja]?=some a.num:=by rw [List.getElem?_eq_getElem TO,OF]
   have Zv:(bV els a.num).1=ja+1:=by
    have h1:=(qB hw ha).1
    have h2:cE (aB els) a.num=((q.2.take ja).map fun (x:Nat)=>(x:Int)).reverse:=qv hw hq ZA hka
    rw [h2,List.length_reverse,List.length_map,List.length_take] at h1
    omega
   rw [Zv,ZX]
   refine ⟨by omega,by rw [List.length_reverse,List.length_map,List.length_take];omega,fun n=>?_⟩
   rw [←List.map_reverse,←List.map_take,List.mem_map]
   constructor
   ·rintro ⟨x,hx,mZ⟩
    have Ps:x=a.num:=by omega
    subst Ps
    obtain ⟨t,ht,hte⟩:=List.getElem_of_mem hx
    rw [List.length_take,List.length_reverse,List.length_take] at ht
    rw [List.getElem_take,List.getElem_reverse,List.getElem_take] at hte
    have h5:q.2[(q.2.take jb).length - 1 - t]?=some a.num:=by rw [List.getElem?_eq_getElem (by rw [List.length_take];omega),hte]
    have h6:ja=(q.2.take jb).length - 1 - t:=by
     rcases Nat.lt_trichotomy ja ((q.2.take jb).length - 1 - t) with h7 | h7 | h7
     ·obtain ⟨g1,g2⟩:=List.getElem?_eq_some_iff.1 h5
      exact absurd (OF.trans g2.symm) (List.pairwise_iff_getElem.1 UB _ _ TO g1 h7)
     ·exact h7
     ·obtain ⟨g1,g2⟩:=List.getElem?_eq_some_iff.1 h5
      exact absurd (g2.trans OF.symm) (List.pairwise_iff_getElem.1 UB _ _ g1 TO h7)
    rw [List.length_take] at h6
    omega
   ·rintro ⟨h5,h6⟩
    refine ⟨a.num,?_,rfl⟩
    have hl:(q.2.take jb).length=jb:=by rw [List.length_take];omega
    have ht:jb - 1 - ja<((q.2.take jb).reverse.take n).length:=by rw [List.length_take,List.length_reverse,hl];omega
    have h8:((q.2.take jb).reverse.take n)[jb - 1 - ja]'ht=a.num:=by
     rw [List.getElem_take,List.getElem_reverse,List.getElem_take]
     rw [←OF]
     congr 1
     omega
    rw [←h8]
    exact List.getElem_mem ht
theorem uB (hw:TW (aB els) made) {a b:REl} (ha:a∈els) (hb:b∈els) {sg:Nat} (hs:fM sg=true):cA els a.num sg b.num=true↔(a.num:Int)∈ek (aY (aB els) M) (sg:Int) b.num:=by
 have hs4:sg=32∨sg=62∨sg=43∨sg=126:=by simpa [fM] using hs
 have E5:=iE hb
 obtain ⟨s1,s2⟩:=Dd hw ha hb
 rcases hs4 with rfl | rfl | rfl | rfl
 ·unfold cA ek
  rw [if_neg (by decide),if_pos rfl,if_pos (by decide)]
  show _↔(a.num:Int)∈aW (aB els) (aB els).length b.num
  rw [ou hw a.num E5,Bool.and_eq_true,decide_eq_true_eq,←dk,←oT,bE]
 ·unfold cA ek
  rw [if_pos rfl,if_neg (by decide),if_pos (by decide)]
  show _↔(a.num:Int)∈(aW (aB els) (aB els).length b.num).take 1
  rw [wf a.num E5,decide_eq_true_eq,←dk]
 ·have e1:ek (aY (aB els) M) ((43:Nat):Int) b.num=(cE (aB els) b.num).take 1:=rfl
  rw [e1]
  unfold cA
  rw [if_neg (by decide),if_neg (by decide)]
  by_cases hc:aJ els b.num<0∨aJ els b.num≠aJ els a.num
  ·rw [if_pos hc]
   exact ⟨fun h=>(by cases h),fun h=>absurd h (s1 hc 1)⟩
  ·rw [if_neg hc,(s2 hc).2.2 1]
   simp
   omega
 ·have e1:ek (aY (aB els) M) ((126:Nat):Int) b.num=(cE (aB els) b.num):=rfl
  rw [e1]
  unfold cA
  rw [if_neg (by decide),if_neg (by decide)]
  by_cases hc:aJ els b.num<0∨aJ els b.num≠aJ els a.num
  ·rw [if_pos hc]
   have h1:=s1 hc (cE (aB els) b.num).length
   rw [List.take_length] at h1
   exact ⟨fun h=>(by cases h),fun h=>absurd h h1⟩
  ·rw [if_neg hc]
   obtain ⟨h1,h2,h3⟩:=s2 hc
   have h4:=h3 (cE (aB els) b.num).length
   rw [List.take_length] at h4
   rw [h4]
   simp
   omega
theorem Hr (hw:TW (aB els) made) {b:REl} (hb:b∈els) (sg:Int):∀ x∈ek (aY (aB els) M) sg b.num,∃ a∈els,(a.num:Int)=x:=by
 have E5:=iE hb
 have ab:∀ x∈(aY (aB els) M).ab b.num,∃ a∈els,(a.num:Int)=x:=fun x hx=>by
  obtain ⟨j,lj,rfl,hj⟩:=Mw E5 x hx
  obtain ⟨y,hy,h1,_⟩:=vb hj
  exact ⟨y,hy,by omega⟩
 have ah:∀ x∈(aY (aB els) M).ah b.num,∃ a∈els,(a.num:Int)=x:=fun x hx=>by
  have BP:x∈cE (aB els) b.num:=hx
  by_cases mr:b.num=0
  ·rw [mr,rU hw] at BP
   cases BP
  ·obtain ⟨q,hq,KV,hqp⟩:=hw.up E5 mr
   obtain ⟨jb,YO,Qo⟩:=List.getElem_of_mem KV
   rw [qv hw hq (by rw [List.getElem?_eq_getElem YO,Qo]) E5,List.mem_reverse,List.mem_map] at BP
   obtain ⟨y,hy,rfl⟩:=BP
   obtain ⟨ly,PU⟩:=hw.kin q hq y (List.mem_of_mem_take hy)
   obtain ⟨z,hz,h1,_⟩:=vb PU
   exact ⟨z,hz,by omega⟩
 intro x hx
 unfold ek at hx
 split at hx
 ·exact ab x hx
 ·split at hx
  ·exact ab x (List.mem_of_mem_take hx)
  ·split at hx
   ·exact ah x hx
   ·split at hx
    ·exact ah x (List.mem_of_mem_take hx)
    ·cases hx
end
end Go.Proofs.YtblfffbmklkhmaaGreat
namespace Go.Proofs.YtblfffbmklkhmaaGreat
open Go.RowKit
def Rel2 {α β:Type} (R:α→β→Prop) (l:List α) (m:List β):Prop:=l.length=m.length∧∀ (i:Nat) (a:α) (b:β),l[i]?=some a→m[i]?=some b→R a b
theorem Rel2.at' {α β:Type} {R:α→β→Prop} {l:List α} {m:List β} (h:Rel2 R l m) {i:Nat} (hi:i<l.length):R l[i] (m[i]'(by rw [←h.1];exact hi)):=h.2 i _ _ (List.getElem?_eq_getElem hi) (List.getElem?_eq_getElem _)
def VA (rc:ex) (c:cO):Prop:=(rc.sg:Int)=c.sg∧∃ (s:ByteArray) (p q:Nat),s.size≤400∧p<q∧q≤s.size∧rc.tx=s.extract p q∧eC s p q c.ty c.ps
structure DE (qV:List ex) (cs:List cO):Prop where
 rel:Rel2 VA qV cs
 pos:0<qV.length
 few:qV.length≤400
 sg:∀ (i:Nat) (rc:ex),0<i→qV[i]?=some rc→fM rc.sg=true
section
variable {els:List REl} {made:Nat} {M:Nat→Mk}
theorem wE {on:List Bool} {sg:Nat} {b:Int}:∀ n,ej els on sg b n=true↔∃ a,a<n∧(on[a]?).getD false=true∧cA els (FA els a) sg b=true
 | 0=>by
  constructor
  ·intro h;cases h
  ·rintro ⟨a,h,_⟩;omega
 | n+1=>by
  unfold ej
  rw [Bool.or_eq_true,Bool.and_eq_true,wE n]
  constructor
  ·rintro (⟨a,h1,h2⟩ | h)
   ·exact ⟨a,by omega,h2⟩
   ·exact ⟨n,by omega,h⟩
  ·rintro ⟨a,h1,h2⟩
   by_cases e:a=n
   ·rw [e] at h2;exact Or.inr h2
   ·exact Or.inl ⟨a,by omega,h2⟩
theorem Bk (v:Vw) (x:cO) {L:List cO} (h:L≠[]) (e:Int):js v (x :: L) e=(ke v x e&&(ek v x.sg e).any (js v L)):=by
 cases L with
 | nil=>exact absurd rfl h
 | cons d r=>rfl
theorem Mo {cs:List cO} {c:Nat} (h:c<cs.length):(cs.take (c+1)).reverse=cs[c] :: (cs.take c).reverse:=by
 rw [List.take_succ_eq_append_getElem h,List.reverse_append]
 rfl
theorem tr (hw:TW (aB els) made) (hm:RM els M) {qV:List ex} {cs:List cO} (h:DE qV cs):∀ c,c<qV.length→∀ {i:Nat} {y:REl},els[i]?=some y→(gg els qV (c+1))[i]?=some (js (aY (aB els) M) ((cs.take (c+1)).reverse) y.num)
 | c,hc,i,y,hy=>by
  have jy:c<cs.length:=by rw [←h.rel.1];exact hc
  have WC:=List.mem_of_getElem? hy
  obtain ⟨V7,s,p,q,hs,lC,hq,Pp,zU⟩:=h.rel.at' hc
  have Kc:=(wO hw hm WC hs hq lC zU cs[c].sg).1
  unfold gg
  rw [List.getElem?_map,hy,List.getElem?_eq_getElem hc,Mo jy]
  show some (eM els y 400 qV[c].tx&&(decide (c=0)||ej els (gg els qV c) qV[c].sg y.num els.length))=_
  rw [Pp,Kc]
  congr 1
  show (ke (aY (aB els) M) cs[c] y.num&&_)=_
  cases c with
  | zero=>
   rw [List.take_zero]
   show (ke (aY (aB els) M) cs[0] y.num&&(true||_))=ke (aY (aB els) M) cs[0] y.num
   rw [Bool.true_or,Bool.and_true]
  | succ c=>
   have eV:(cs.take (c+1)).reverse≠[]:=by
    intro e
    have:(cs.take (c+1)).reverse.length=0:=by rw [e];rfl
    rw [List.length_reverse,List.length_take] at this
    omega
   rw [Bk _ _ eV]
   congr 1
   show (false||_)=_
   rw [Bool.false_or,Bool.eq_iff_iff,wE,List.any_eq_true]
   have hss:=h.sg (c+1) qV[c+1] (by omega) (List.getElem?_eq_getElem hc)
   constructor
   ·rintro ⟨a,ha,h1,h2⟩
    rw [tV ha] at h2
    have ZC:els[a]?=some els[a]:=List.getElem?_eq_getElem ha
    rw [tr hw hm h c (by omega) ZC] at h1
    refine ⟨(els[a].num:Int),?_,h1⟩
    rw [←V7]
    exact (uB hw (List.getElem_mem ha) WC hss).1 h2
   ·rintro ⟨x,hx,h1⟩
    obtain ⟨a,ha,hax⟩:=Hr hw WC _ x hx
    obtain ⟨ia,X8,Ve⟩:=List.getElem_of_mem ha
    have ZC:els[ia]?=some a:=by rw [List.getElem?_eq_getElem X8,Ve]
    refine ⟨ia,X8,?_,?_⟩
    ·rw [tr hw hm h c (by omega) ZC,hax]
     exact h1
    ·rw [tV X8,Ve]
     refine (uB (M:=M) hw ha WC hss).2 ?_
     rw [hax,V7]
     exact hx
theorem Lu (hw:TW (aB els) made) (hm:RM els M) {qV:List ex} {cs:List cO} (h:DE qV cs) {i:Nat} {y:REl} (hy:els[i]?=some y):(gg els qV qV.length)[i]?=some (oL (aY (aB els) M) cs y.num):=by
 have hp:=h.pos
 have h1:=tr hw hm h (qV.length - 1) (by omega) hy
 rw [show qV.length - 1+1=qV.length from by omega] at h1
 rw [h1]
 unfold oL
 rw [List.take_of_length_le (by have:=h.rel.1;omega)]
theorem Su {els:List REl} {made:Nat} {M:Nat→Mk} (hw:TW (aB els) made) (hm:RM els M) {qV:List ex} {cs:List cO} (h:DE qV cs):xX qV:=by
 refine ⟨h.pos,h.few,fun x hx=>?_⟩
 obtain ⟨i,hi,rfl⟩:=List.getElem_of_mem hx
 obtain ⟨_,s,p,q,hs,lC,hq,Pp,zU⟩:=h.rel.at' hi
 obtain ⟨l,hl⟩:=hw.root
 obtain ⟨y,hy,_,_⟩:=vb hl
 rw [Pp]
 exact (wO hw hm hy hs hq lC zU 0).2
set_option maxHeartbeats 1000000 in
theorem BH {s:ByteArray} {q:Nat} (hq:q≤s.size):∀ {xs:List Nat} {i:Nat} (f:Nat),De s i q xs→q - i≤f→EO f (s.extract i q)=xs.sum
 | [],i,f,h,hf=>by
  simp only [De] at h
  subst h
  have hz:(s.extract i i).size=0:=by rw [cW hq];omega
  cases f with
  | zero=>rfl
  | succ f=>unfold EO;rw [if_pos hz];rfl
 | x :: xs,i,f,⟨h1,h2,h3⟩,hf=>by
  have hp:=sS s i
  have oz:=NJ h3
  obtain ⟨c1,c2,c3⟩:=p8 (s:=s) (i:=i) (j:=i+bS s i) (q:=q) h1 hq rfl
  have hz:(s.extract i q).size=q - i:=cW hq
  cases f with
  | zero=>omega
  | succ f=>
   have e1:=(E2 (s:=s) (i:=i) (q:=i+bS s i) (Nat.le_refl _) (by omega)).2
   have e2:=BH hq f h3 (by omega)
   unfold EO
   rw [if_neg (by omega),c1,c2,c3,e2,e1,List.sum_cons,h2]
theorem Jl {qV:List ex} {cs:List cO} (h:Rel2 VA qV cs):iK qV=vq cs:=by
 unfold iK vq
 congr 1
 apply List.ext_getElem?
 intro i
 rw [List.getElem?_map,List.getElem?_map]
 by_cases hi:i<qV.length
 ·obtain ⟨_,s,p,q,hs,lC,hq,Pp,zU⟩:=h.at' hi
  rw [List.getElem?_eq_getElem hi,List.getElem?_eq_getElem (by rw [←h.1];exact hi)]
  obtain ⟨xs,Xz,Ce,_,_⟩:=G9 zU lC
  show some (EO 400 qV[i].tx)=some (cw _ _)
  rw [Pp,BH hq 400 Xz (by omega),Ce]
 ·rw [List.getElem?_eq_none (by omega),List.getElem?_eq_none (by have:=h.1;omega)]
  rfl
theorem td (v:Vw) (e:Int) {ss:List (List cO)} {k:Nat} (h:k<ss.length):ew v e (ss.take (k+1))=gX v e (ew v e (ss.take k)) ss[k]:=by
 unfold ew
 rw [List.take_succ_eq_append_getElem h,List.foldl_append]
 rfl
theorem rh (v:Vw) (e:Int) (ss:List (List cO)):∀ k,0≤(ew v e (ss.take k)).1∧((ew v e (ss.take k)).2=false→(ew v e (ss.take k)).1=0)
 | 0=>⟨by rw [List.take_zero];exact Int.le_refl _,fun _=>by rw [List.take_zero];rfl⟩
 | k+1=>by
  obtain ⟨h1,h2⟩:=rh v e ss k
  by_cases hk:k<ss.length
  ·rw [td v e hk]
   unfold gX
   split
   ·exact ⟨by show 0≤max _ _;omega,fun h=>by cases h⟩
   ·exact ⟨h1,h2⟩
  ·rw [List.take_of_length_le (by omega)] at h1 h2 ⊢
   exact ⟨h1,h2⟩
theorem vc (hw:TW (aB els) made) (hm:RM els M) {sels:List (List ex)} {ss:List (List cO)} (h:Rel2 DE sels ss) {i:Nat} {y:REl} (hy:els[i]?=some y):∀ k,k≤sels.length→(br els sels k)[i]?=some (if (ew (aY (aB els) M) y.num (ss.take k)).2=true then (ew (aY (aB els) M) y.num (ss.take k)).1 else -1)
 | 0,_=>by
  have hi:=(List.getElem?_eq_some_iff.1 hy).1
  unfold br
  rw [List.getElem?_replicate,if_pos hi,List.take_zero]
  rfl
 | k+1,hk=>by
  have hi:=(List.getElem?_eq_some_iff.1 hy).1
  have qj:k<ss.length:=by rw [←h.1];omega
  have hr:=h.at' (i:=k) (by omega)
  have ih:=vc hw hm h hy k (by omega)
  have hp:=rh (aY (aB els) M) y.num ss k
  have hmt:=Lu hw hm hr hy
  unfold br
  rw [List.getElem?_map,List.getElem?_range hi,List.getElem?_eq_getElem (by omega:k<sels.length),td _ _ qj]
  show some (if (gg els sels[k] sels[k].length)[i]?.getD false=true∧(br els sels k)[i]?.getD 0<(iK sels[k]:Int) then (iK sels[k]:Int) else (br els sels k)[i]?.getD 0)=_
  rw [ih,hmt,Jl hr.rel]
  simp only [Option.getD_some]
  unfold gX
  generalize ew (aY (aB els) M) y.num (ss.take k)=a at hp ⊢
  congr 1
  by_cases KG:oL (aY (aB els) M) ss[k] y.num=true
  ·rw [if_pos KG]
   show _=max a.1 ((vq ss[k]:Nat):Int)
   by_cases ha:a.2=true
   ·rw [if_pos ha]
    by_cases aN:a.1<((vq ss[k]:Nat):Int)
    ·rw [if_pos ⟨KG,aN⟩];omega
    ·rw [if_neg (fun h=>aN h.2)];omega
   ·have Qc:a.2=false:=by simpa using ha
    have h0:=hp.2 Qc
    rw [if_neg ha,if_pos ⟨KG,by omega⟩,h0]
    omega
  ·rw [if_neg KG,if_neg (fun h=>KG h.1)]
end
end Go.Proofs.YtblfffbmklkhmaaGreat
