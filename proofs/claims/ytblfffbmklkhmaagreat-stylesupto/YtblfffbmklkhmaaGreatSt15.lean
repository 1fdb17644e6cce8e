import Derived.Test.YtblfffbmklkhmaaGreatSt14
import Derived.Test.YtblfffbmklkhmaaGreatSt10
import Derived.Deep.RegionHeld3
namespace Go.Proofs.YtblfffbmklkhmaaGreat
abbrev aA:=List (Nat × List Nat)
def tE (e:Nat × List Nat) (n:Int):Bool:=e.2.any fun k=>decide ((k:Int)=n)
def bn (T:aA) (n:Int):Option (List Nat):=(T.find? fun e=>decide ((e.1:Int)=n)).map (·.2)
def aU (T:aA) (n:Int):Int:=match T.find? fun e=>tE e n with | some e=>e.1 | none=>-1
def jm (T:aA):Nat→Int→Int
 | 0,n=>n
 | k+1,n=>jm T k (aU T n)
def dR (T:aA) (a n:Int):Prop:=0≤a∧∃ k,jm T k n=a
open Classical in
noncomputable def bI (T:aA) (a n:Int):Bool:=decide (dR T a n)
def pW (p:Nat) (f:List Nat→List Nat) (T:aA):aA:=T.map fun e=>if e.1=p then (e.1,f e.2) else e
def jG (T:aA) (p k n:Nat):aA:=pW p (fun l=>bN l k n) T++[(n,[])]
noncomputable def oR (T:aA) (a:Nat):aA:=pW (aU T a).toNat (af a) (T.filter fun e=>!bI T a e.1)
def jY (T:aA) (a p k:Nat):aA:=pW p (fun l=>bN (af a l) k a) (pW (aU T a).toNat (af a) T)
def aB (els:List REl):aA:=els.map fun e=>(e.num,e.kids)
theorem dk (els:List REl) (n:Int):aU (aB els) n=aJ els n:=by
 unfold aU aJ Cq aB
 rw [List.find?_map]
 have h:(els.find? ((fun e:Nat × List Nat=>tE e n) ∘ fun e:REl=>(e.num,e.kids)))=els.find? fun e=>ig e n:=rfl
 rw [h]
 cases els.find? fun e=>ig e n<;>rfl
theorem Jn (els:List REl):∀ (k:Nat) (n:Int),jm (aB els) k n=up els k n
 | 0,_=>rfl
 | k+1,n=>by
  show jm _ k (aU _ n)=up els k (aJ els n)
  rw [dk,Jn els k]
theorem lB (els:List REl) (a n:Int):dR (aB els) a n↔mg els a n:=by
 unfold dR mg
 simp only [Jn]
theorem bE {T:aA} {a n:Int}:bI T a n=true↔dR T a n:=by simp [bI]
theorem oT (els:List REl) (a n:Int):bI (aB els) a n=fB els a n:=by
 have h:=lB els a n
 rw [←bE,←jV] at h
 cases h1:bI (aB els) a n<;>cases h2:fB els a n<;>simp_all
theorem pD (els:List REl) (n:Int):bn (aB els) n=(aZ els n).map REl.kids:=by
 unfold bn aZ aB
 rw [List.find?_map,Option.map_map]
 rfl
structure TW (T:aA) (made:Nat):Prop where
 nums:(T.map Prod.fst).Nodup
 lt:∀ e∈T,e.1<made
 root:∃ l,(0,l)∈T
 top:∀ e∈T,0 ∉ e.2
 kin:∀ e∈T,∀ k∈e.2,∃ l,(k,l)∈T
 kdup:∀ e∈T,e.2.Nodup
 one:∀ e∈T,∀ f∈T,∀ k,k∈e.2→k∈f.2→e=f
 par:∀ e∈T,e.1≠0→∃ f∈T,e.1∈f.2
 rank:∃ rk:Nat→Nat,∀ e∈T,∀ k∈e.2,rk e.1<rk k
theorem pY {T:aA} (h:(T.map Prod.fst).Nodup) {e f:Nat × List Nat} (he:e∈T) (hf:f∈T) (hn:e.1=f.1):e=f:=by
 induction T with
 | nil=>cases he
 | cons x T ih=>
  rw [List.map_cons,List.nodup_cons] at h
  rcases List.mem_cons.1 he with xB | xB<;>rcases List.mem_cons.1 hf with sk | sk
  ·rw [xB,sk]
  ·rw [xB] at hn
   exact absurd (List.mem_map.2 ⟨f,sk,hn.symm⟩) h.1
  ·rw [sk] at hn
   exact absurd (List.mem_map.2 ⟨e,xB,hn⟩) h.1
  ·exact ih h.2 xB sk
theorem sY {e:Nat × List Nat} {n:Int}:tE e n=true↔∃ k∈e.2,(k:Int)=n:=by simp [tE]
theorem gN {e:Nat × List Nat} {n:Nat}:tE e n=true↔n∈e.2:=by
 rw [sY]
 constructor
 ·rintro ⟨k,hk,h⟩
  rw [show n=k from by omega]
  exact hk
 ·intro h
  exact ⟨n,h,rfl⟩
theorem TW.parent {T:aA} {made:Nat} (h:TW T made) {e:Nat × List Nat} (he:e∈T) {k:Nat} (hk:k∈e.2):aU T k=e.1:=by
 unfold aU
 cases hf:T.find? fun e=>tE e (k:Int) with
 | none=>
  rw [List.find?_eq_none] at hf
  exact absurd (gN.2 hk) (hf e he)
 | some f=>
  have h1:k∈f.2:=gN.1 (List.find?_some (p:=fun e=>tE e (k:Int)) hf)
  have h2:=h.one e he f (List.mem_of_find?_eq_some hf) k hk h1
  subst h2
  rfl
theorem cB (T:aA) (n:Int):aU T n=-1∧(∀ e∈T,tE e n=false)∨∃ e∈T,tE e n=true∧aU T n=e.1:=by
 unfold aU
 cases h:T.find? fun e=>tE e n with
 | none=>
  rw [List.find?_eq_none] at h
  exact Or.inl ⟨rfl,fun e he=>by simpa using h e he⟩
 | some e=>exact Or.inr ⟨e,List.mem_of_find?_eq_some h,List.find?_some (p:=fun e=>tE e n) h,rfl⟩
theorem TW.len {T:aA} {made:Nat} (h:TW T made) {e:Nat × List Nat} (he:e∈T):e.2.length<T.length:=by
 obtain ⟨rk,hr⟩:=h.rank
 have hs:(e.1 :: e.2).Nodup:=List.nodup_cons.2 ⟨fun hx=>by have:=hr e he _ hx;omega,h.kdup e he⟩
 have:=fc hs (m:=T.map Prod.fst) (fun k hk=>by
  rcases List.mem_cons.1 hk with rfl | hk
  ·exact List.mem_map.2 ⟨e,he,rfl⟩
  ·obtain ⟨l,hl⟩:=h.kin e he k hk
   exact List.mem_map.2 ⟨_,hl,rfl⟩)
 simp at this
 omega
theorem uT {l:List Nat} {k n x:Nat}:x∈bN l k n↔x=n∨x∈l:=by
 unfold bN
 rw [List.mem_append,List.mem_append,List.mem_singleton]
 constructor
 ·rintro ((h | h) | h)
  ·exact Or.inr (List.mem_of_mem_take h)
  ·exact Or.inl h
  ·exact Or.inr (List.mem_of_mem_drop h)
 ·rintro (h | h)
  ·exact Or.inl (Or.inr h)
  ·rw [←List.take_append_drop k l,List.mem_append] at h
   exact h.elim (fun x=>Or.inl (Or.inl x)) Or.inr
theorem oG {l:List Nat} {k n:Nat} (h:l.Nodup) (hn:n ∉ l):(bN l k n).Nodup:=by
 have h2:(l.take k++l.drop k).Nodup:=by rw [List.take_append_drop];exact h
 rw [List.nodup_append] at h2
 unfold bN
 rw [List.nodup_append,List.nodup_append]
 refine ⟨⟨h2.1,by simp,fun a ha b hb=>?_⟩,h2.2.1,fun a ha b hb=>?_⟩
 ·rw [List.mem_singleton] at hb
  rw [hb]
  exact fun e=>hn (e▸List.mem_of_mem_take ha)
 ·rcases List.mem_append.1 ha with ha | ha
  ·exact h2.2.2 a ha b hb
  ·rw [List.mem_singleton] at ha
   rw [ha]
   exact fun e=>hn (e▸List.mem_of_mem_drop hb)
theorem ox {l:List Nat} {a x:Nat}:x∈af a l↔x∈l∧x≠a:=by
 unfold af
 rw [List.mem_filter,decide_eq_true_eq]
 exact ⟨fun ⟨h1,h2⟩=>⟨h1,fun e=>h2 (by omega)⟩,fun ⟨h1,h2⟩=>⟨h1,fun e=>h2 (by omega)⟩⟩
theorem lD {l:List Nat} {a:Int} (h:l.Nodup):(af a l).Nodup:=h.filter _
theorem kQ {p:Nat} {f:List Nat→List Nat} {T:aA} {e:Nat × List Nat}:e∈pW p f T↔∃ x∈T,e.1=x.1∧e.2=if x.1=p then f x.2 else x.2:=by
 unfold pW
 rw [List.mem_map]
 constructor
 ·rintro ⟨x,hx,rfl⟩
  refine ⟨x,hx,?_⟩
  split<;>exact ⟨rfl,rfl⟩
 ·rintro ⟨x,hx,h1,h2⟩
  refine ⟨x,hx,?_⟩
  split at h2
  ·rename_i h
   rw [if_pos h,←h1,←h2]
  ·rename_i h
   rw [if_neg h]
   exact (Prod.ext h1 h2).symm
theorem iQ (p:Nat) (f:List Nat→List Nat) (T:aA):(pW p f T).map Prod.fst=T.map Prod.fst:=by
 unfold pW
 rw [List.map_map]
 refine List.map_congr_left fun e _=>?_
 show (if e.1=p then (e.1,f e.2) else e).1=e.1
 split<;>rfl
end Go.Proofs.YtblfffbmklkhmaaGreat
namespace Go.Proofs.YtblfffbmklkhmaaGreat
theorem TW.klt {T:aA} {made:Nat} (h:TW T made) {x:Nat × List Nat} (hx:x∈T) {k:Nat} (hk:k∈x.2):k<made:=by
 obtain ⟨l,hl⟩:=h.kin x hx k hk
 exact h.lt _ hl
theorem cj {T:aA} {p k n:Nat} {e:Nat × List Nat}:e∈jG T p k n↔(∃ x∈T,e.1=x.1∧e.2=if x.1=p then bN x.2 k n else x.2)∨e=(n,[]):=by
 unfold jG
 rw [List.mem_append,kQ,List.mem_singleton]
theorem TW.ins {T:aA} {made p k:Nat} (h:TW T made) (hp:∃ l,(p,l)∈T):TW (jG T p k made) (made+1):=by
 obtain ⟨l0,IX⟩:=h.root
 have h0:0<made:=h.lt _ IX
 obtain ⟨lp,NL⟩:=hp
 have eP:∀ x∈T,∀ y,y∈(if x.1=p then bN x.2 k made else x.2)↔(y=made∧x.1=p)∨y∈x.2:=by
  intro x hx y
  split
  ·rename_i nK
   rw [uT]
   exact ⟨fun h=>h.imp (fun e=>⟨e,nK⟩) id,fun h=>h.imp (fun e=>e.1) id⟩
  ·rename_i nK
   exact ⟨Or.inr,fun h=>h.elim (fun e=>absurd e.2 nK) id⟩
 have Fk:∀ x∈T,(x.1,if x.1=p then bN x.2 k made else x.2)∈jG T p k made:=fun x hx=>cj.2 (Or.inl ⟨x,hx,rfl,rfl⟩)
 refine ⟨?_,?_,⟨_,Fk _ IX⟩,?_,?_,?_,?_,?_,?_⟩
 ·unfold jG
  rw [List.map_append,iQ,List.nodup_append]
  refine ⟨h.nums,by simp,fun a ha b hb=>?_⟩
  simp only [List.map_cons,List.map_nil,List.mem_singleton] at hb
  obtain ⟨x,hx,rfl⟩:=List.mem_map.1 ha
  have:=h.lt x hx
  omega
 ·intro e he
  rcases cj.1 he with ⟨x,hx,h1,_⟩ | rfl
  ·have:=h.lt x hx
   omega
  ·exact Nat.lt_succ_self _
 ·intro e he h1
  rcases cj.1 he with ⟨x,hx,_,h2⟩ | rfl
  ·rw [h2,eP x hx] at h1
   rcases h1 with ⟨h3,_⟩ | h3
   ·omega
   ·exact h.top x hx h3
  ·cases h1
 ·intro e he y hy
  rcases cj.1 he with ⟨x,hx,_,h2⟩ | rfl
  ·rw [h2,eP x hx] at hy
   rcases hy with ⟨rfl,_⟩ | hy
   ·exact ⟨[],cj.2 (Or.inr rfl)⟩
   ·obtain ⟨l,hl⟩:=h.kin x hx y hy
    exact ⟨_,Fk _ hl⟩
  ·cases hy
 ·intro e he
  rcases cj.1 he with ⟨x,hx,_,h2⟩ | rfl
  ·rw [h2]
   split
   ·exact oG (h.kdup x hx) (fun hm=>by have:=h.klt hx hm;omega)
   ·exact h.kdup x hx
  ·exact List.nodup_nil
 ·intro e he f hf y IY IQ
  rcases cj.1 he with ⟨x,hx,a1,a2⟩ | rfl
  ·rcases cj.1 hf with ⟨z,hz,b1,b2⟩ | rfl
   ·have XO:x=z:=by
     rw [a2,eP x hx] at IY
     rw [b2,eP z hz] at IQ
     rcases IY with ⟨c1,c2⟩ | IY<;>rcases IQ with ⟨d1,d2⟩ | IQ
     ·exact pY h.nums hx hz (c2.trans d2.symm)
     ·have:=h.klt hz IQ;omega
     ·have:=h.klt hx IY;omega
     ·exact h.one x hx z hz y IY IQ
    subst XO
    exact Prod.ext (a1.trans b1.symm) (a2.trans b2.symm)
   ·cases IQ
  ·cases IY
 ·intro e he eV
  rcases cj.1 he with ⟨x,hx,a1,_⟩ | rfl
  ·rw [a1] at eV ⊢
   obtain ⟨f,hf,hm⟩:=h.par x hx eV
   exact ⟨_,Fk f hf,(eP f hf _).2 (Or.inr hm)⟩
  ·exact ⟨_,Fk _ NL,(eP _ NL _).2 (Or.inl ⟨rfl,rfl⟩)⟩
 ·obtain ⟨rk,hr⟩:=h.rank
  refine ⟨fun n=>if n=made then rk p+1 else rk n,fun e he y hy=>?_⟩
  rcases cj.1 he with ⟨x,hx,a1,a2⟩ | rfl
  ·rw [a2,eP x hx] at hy
   have EJ:=h.lt x hx
   rw [a1]
   show (if x.1=made then _ else _)<(if y=made then _ else _)
   rw [if_neg (by omega)]
   rcases hy with ⟨c1,c2⟩ | hy
   ·rw [if_pos c1,c2];omega
   ·have:=h.klt hx hy
    rw [if_neg (by omega)]
    exact hr x hx y hy
  ·cases hy
theorem zh (T:aA) (n:Int):∀ (t k:Nat),jm T (t+k) n=jm T k (jm T t n)
 | 0,k=>by rw [Nat.zero_add];rfl
 | t+1,k=>by
  rw [show t+1+k=(t+k)+1 from by omega]
  exact zh T (aU T n) t k
theorem Me (T:aA) {n:Int} (hn:n<0):aU T n=-1:=by
 rcases cB T n with h | ⟨e,_,h,_⟩
 ·exact h.1
 ·obtain ⟨k,_,hk⟩:=sY.1 h
  omega
theorem sH (T:aA) {n:Int} (hn:n<0):∀ k,jm T k n<0
 | 0=>hn
 | k+1=>by
  show jm T k (aU T n)<0
  rw [Me T hn]
  exact sH T (by omega) k
theorem TW.under_kid {T:aA} {made:Nat} (h:TW T made) {e:Nat × List Nat} (he:e∈T) {k:Nat} (hk:k∈e.2) (a:Nat):dR T a k↔k=a∨dR T a e.1:=by
 have hp:=h.parent he hk
 constructor
 ·rintro ⟨h0,t,ht⟩
  cases t with
  | zero=>exact Or.inl (by have:(k:Int)=a:=ht;omega)
  | succ t=>
   refine Or.inr ⟨h0,t,?_⟩
   rw [←hp]
   exact ht
 ·rintro (rfl | ⟨h0,t,ht⟩)
  ·exact ⟨by omega,0,rfl⟩
  ·refine ⟨h0,t+1,?_⟩
   show jm T t (aU T k)=a
   rw [hp]
   exact ht
theorem hE (T:aA) (a:Nat):dR T a a:=⟨by omega,0,rfl⟩
end Go.Proofs.YtblfffbmklkhmaaGreat
namespace Go.Proofs.YtblfffbmklkhmaaGreat
theorem TW.up {T:aA} {made:Nat} (h:TW T made) {a:Nat} {la:List Nat} (ha:(a,la)∈T) (h0:a≠0):∃ q∈T,a∈q.2∧aU T a=q.1:=by
 obtain ⟨q,hq,hm⟩:=h.par _ ha h0
 exact ⟨q,hq,hm,h.parent hq hm⟩
theorem TW.root_par {T:aA} {made:Nat} (h:TW T made):aU T 0=-1:=by
 rcases cB T 0 with h1 | ⟨e,he,h1,_⟩
 ·exact h1.1
 ·exact absurd (gN.1 h1) (h.top e he)
theorem TW.root_not {T:aA} {made:Nat} (h:TW T made) {a:Nat} (h0:a≠0):¬ dR T a (0:Nat):=by
 rintro ⟨_,t,ht⟩
 cases t with
 | zero=>have:((0:Nat):Int)=a:=ht;omega
 | succ t=>
  have Ts:jm T t (aU T 0)=a:=ht
  rw [h.root_par] at Ts
  have:=sH T (n:=-1) (by omega) t
  omega
theorem TW.less {T:aA} {made:Nat} (h:TW T made) {a:Nat} {q:Nat × List Nat} (hq:q∈T) (hm:a∈q.2) {x:Nat × List Nat} (hx:x∈T) (y:Nat):y∈(if x.1=q.1 then af a x.2 else x.2)↔y∈x.2∧y≠a:=by
 split
 ·exact ox
 ·rename_i hn
  refine ⟨fun hy=>⟨hy,fun e=>?_⟩,fun hy=>hy.1⟩
  subst e
  exact hn (by rw [h.one x hx q hq y hy hm])
theorem eE {T:aA} {a:Nat} {q:Nat × List Nat} (hp:aU T a=q.1) {e:Nat × List Nat}:e∈oR T a↔∃ x∈T,¬ dR T a x.1∧e.1=x.1∧e.2=if x.1=q.1 then af a x.2 else x.2:=by
 unfold oR
 rw [hp,Int.toNat_natCast,kQ]
 constructor
 ·rintro ⟨x,hx,h1⟩
  rw [List.mem_filter] at hx
  refine ⟨x,hx.1,fun hu=>?_,h1⟩
  rw [bE.2 hu] at hx
  simp at hx
 ·rintro ⟨x,hx,hu,h1⟩
  refine ⟨x,List.mem_filter.2 ⟨hx,?_⟩,h1⟩
  cases hb:bI T a x.1 with
  | false=>rfl
  | true=>exact absurd (bE.1 hb) hu
theorem TW.rem {T:aA} {made a:Nat} {la:List Nat} (h:TW T made) (ha:(a,la)∈T) (h0:a≠0):TW (oR T a) made:=by
 obtain ⟨q,hq,hm,hp⟩:=h.up ha h0
 have eP:=fun {x:Nat × List Nat} (hx:x∈T) (y:Nat)=>h.less hq hm hx y
 have Fk:∀ x∈T,¬ dR T a x.1→(x.1,if x.1=q.1 then af a x.2 else x.2)∈oR T a:=fun x hx hu=>(eE hp).2 ⟨x,hx,hu,rfl,rfl⟩
 refine ⟨?_,?_,?_,?_,?_,?_,?_,?_,?_⟩
 ·unfold oR
  rw [iQ]
  exact h.nums.sublist (List.filter_sublist.map _)
 ·intro e he
  obtain ⟨x,hx,_,h1,_⟩:=(eE hp).1 he
  rw [h1]
  exact h.lt x hx
 ·obtain ⟨l0,IX⟩:=h.root
  exact ⟨_,Fk _ IX (h.root_not h0)⟩
 ·intro e he hy
  obtain ⟨x,hx,_,_,h2⟩:=(eE hp).1 he
  rw [h2,eP hx] at hy
  exact h.top x hx hy.1
 ·intro e he y hy
  obtain ⟨x,hx,hu,_,h2⟩:=(eE hp).1 he
  rw [h2,eP hx] at hy
  obtain ⟨l,hl⟩:=h.kin x hx y hy.1
  exact ⟨_,Fk _ hl (fun Ce=>((h.under_kid hx hy.1 a).1 Ce).elim hy.2 hu)⟩
 ·intro e he
  obtain ⟨x,hx,_,_,h2⟩:=(eE hp).1 he
  rw [h2]
  split
  ·exact lD (h.kdup x hx)
  ·exact h.kdup x hx
 ·intro e he f hf y IY IQ
  obtain ⟨x,hx,_,a1,a2⟩:=(eE hp).1 he
  obtain ⟨z,hz,_,b1,b2⟩:=(eE hp).1 hf
  rw [a2,eP hx] at IY
  rw [b2,eP hz] at IQ
  have:=h.one x hx z hz y IY.1 IQ.1
  subst this
  exact Prod.ext (a1.trans b1.symm) (a2.trans b2.symm)
 ·intro e he eV
  obtain ⟨x,hx,hu,a1,_⟩:=(eE hp).1 he
  rw [a1] at eV ⊢
  obtain ⟨f,hf,WQ⟩:=h.par x hx eV
  refine ⟨_,Fk f hf (fun Ce=>hu ((h.under_kid hf WQ a).2 (Or.inr Ce))),(eP hf _).2 ⟨WQ,fun e=>hu ?_⟩⟩
  rw [e]
  exact hE T a
 ·obtain ⟨rk,hr⟩:=h.rank
  refine ⟨rk,fun e he y hy=>?_⟩
  obtain ⟨x,hx,_,a1,a2⟩:=(eE hp).1 he
  rw [a2,eP hx] at hy
  rw [a1]
  exact hr x hx y hy.1
theorem dP {T:aA} {a p k:Nat} {q:Nat × List Nat} (hp:aU T a=q.1) {e:Nat × List Nat} :
  e∈jY T a p k↔∃ x∈T,e.1=x.1∧e.2=if x.1=p then bN (af a (if x.1=q.1 then af a x.2 else x.2)) k a else if x.1=q.1 then af a x.2 else x.2:=by
 unfold jY
 rw [hp,Int.toNat_natCast,kQ]
 constructor
 ·rintro ⟨x,hx,h1,h2⟩
  obtain ⟨y,hy,h3,h4⟩:=kQ.1 hx
  refine ⟨y,hy,h1.trans h3,?_⟩
  rw [h2,h3,h4]
 ·rintro ⟨x,hx,h1,h2⟩
  exact ⟨(x.1,if x.1=q.1 then af a x.2 else x.2),kQ.2 ⟨x,hx,rfl,rfl⟩,h1,h2⟩
theorem TW.mov {T:aA} {made a p k:Nat} {la lp:List Nat} (h:TW T made) (ha:(a,la)∈T) (h0:a≠0) (Dv:(p,lp)∈T) (MJ:¬ dR T a p):TW (jY T a p k) made:=by
 obtain ⟨q,hq,hm,hp⟩:=h.up ha h0
 have eP:∀ x∈T,∀ y,y∈(if x.1=p then bN (af a (if x.1=q.1 then af a x.2 else x.2)) k a else if x.1=q.1 then af a x.2 else x.2)↔(y=a∧x.1=p)∨(y∈x.2∧y≠a):=by
  intro x hx y
  have h1:=h.less hq hm hx y
  by_cases nK:x.1=p
  ·rw [if_pos nK,uT,ox,h1]
   exact ⟨fun h=>h.imp (fun e=>⟨e,nK⟩) (fun e=>e.1),fun h=>h.imp (fun e=>e.1) (fun e=>⟨e,e.2⟩)⟩
  ·rw [if_neg nK,h1]
   exact ⟨Or.inr,fun h=>h.elim (fun e=>absurd e.2 nK) id⟩
 have Fk:∀ x∈T,(x.1,if x.1=p then bN (af a (if x.1=q.1 then af a x.2 else x.2)) k a else if x.1=q.1 then af a x.2 else x.2)∈jY T a p k:=fun x hx=>(dP hp).2 ⟨x,hx,rfl,rfl⟩
 refine ⟨?_,?_,?_,?_,?_,?_,?_,?_,?_⟩
 ·unfold jY
  rw [iQ,iQ]
  exact h.nums
 ·intro e he
  obtain ⟨x,hx,h1,_⟩:=(dP hp).1 he
  rw [h1]
  exact h.lt x hx
 ·obtain ⟨l0,IX⟩:=h.root
  exact ⟨_,Fk _ IX⟩
 ·intro e he hy
  obtain ⟨x,hx,_,h2⟩:=(dP hp).1 he
  rw [h2,eP x hx] at hy
  rcases hy with hy | hy
  ·exact h0 hy.1.symm
  ·exact h.top x hx hy.1
 ·intro e he y hy
  obtain ⟨x,hx,_,h2⟩:=(dP hp).1 he
  rw [h2,eP x hx] at hy
  rcases hy with ⟨rfl,_⟩ | hy
  ·exact ⟨_,Fk _ ha⟩
  ·obtain ⟨l,hl⟩:=h.kin x hx y hy.1
   exact ⟨_,Fk _ hl⟩
 ·intro e he
  obtain ⟨x,hx,_,h2⟩:=(dP hp).1 he
  have hd:(if x.1=q.1 then af a x.2 else x.2).Nodup:=by
   split
   ·exact lD (h.kdup x hx)
   ·exact h.kdup x hx
  rw [h2]
  split
  ·exact oG (lD hd) (fun Ce=>(ox.1 Ce).2 rfl)
  ·exact hd
 ·intro e he f hf y IY IQ
  obtain ⟨x,hx,a1,a2⟩:=(dP hp).1 he
  obtain ⟨z,hz,b1,b2⟩:=(dP hp).1 hf
  have XO:x=z:=by
   rw [a2,eP x hx] at IY
   rw [b2,eP z hz] at IQ
   rcases IY with ⟨c1,c2⟩ | ⟨c1,c2⟩<;>rcases IQ with ⟨d1,d2⟩ | ⟨d1,d2⟩
   ·exact pY h.nums hx hz (c2.trans d2.symm)
   ·exact absurd c1 d2
   ·exact absurd d1 c2
   ·exact h.one x hx z hz y c1 d1
  subst XO
  exact Prod.ext (a1.trans b1.symm) (a2.trans b2.symm)
 ·intro e he eV
  obtain ⟨x,hx,a1,_⟩:=(dP hp).1 he
  rw [a1] at eV ⊢
  by_cases Ps:x.1=a
  ·exact ⟨_,Fk _ Dv,(eP _ Dv _).2 (Or.inl ⟨Ps,rfl⟩)⟩
  ·obtain ⟨f,hf,WQ⟩:=h.par x hx eV
   exact ⟨_,Fk f hf,(eP f hf _).2 (Or.inr ⟨WQ,Ps⟩)⟩
 ·obtain ⟨rk,hr⟩:=h.rank
  refine ⟨fun n=>if bI T a n=true then rk n+(rk p+1) else rk n,fun e he y hy=>?_⟩
  obtain ⟨x,hx,a1,a2⟩:=(dP hp).1 he
  rw [a2,eP x hx] at hy
  rw [a1]
  show (if bI T a x.1=true then _ else _)<(if bI T a y=true then _ else _)
  rcases hy with ⟨rfl,c2⟩ | ⟨c1,c2⟩
  ·rw [c2,if_neg (fun hb=>MJ (bE.1 hb)),if_pos (bE.2 (hE T y))]
   omega
  ·have hk:=h.under_kid hx c1 a
   have aN:=hr x hx y c1
   by_cases hu:dR T a x.1
   ·rw [if_pos (bE.2 hu),if_pos (bE.2 (hk.2 (Or.inr hu)))]
    omega
   ·rw [if_neg (fun hb=>hu (bE.1 hb)),if_neg (fun hb=>(hk.1 (bE.1 hb)).elim c2 hu)]
    exact aN
end Go.Proofs.YtblfffbmklkhmaaGreat
namespace Go.Proofs.YtblfffbmklkhmaaGreat
open Go.RowKit
theorem C5 {els:List REl} (h:(els.map REl.num).Nodup) {e f:REl} (he:e∈els) (hf:f∈els) (hn:e.num=f.num):e=f:=by
 induction els with
 | nil=>cases he
 | cons x T ih=>
  rw [List.map_cons,List.nodup_cons] at h
  rcases List.mem_cons.1 he with xB | xB<;>rcases List.mem_cons.1 hf with sk | sk
  ·rw [xB,sk]
  ·rw [xB] at hn
   exact absurd (List.mem_map.2 ⟨f,sk,hn.symm⟩) h.1
  ·rw [sk] at hn
   exact absurd (List.mem_map.2 ⟨e,xB,hn⟩) h.1
  ·exact ih h.2 xB sk
theorem kR (els:List REl):(aB els).map Prod.fst=els.map REl.num:=by
 unfold aB
 rw [List.map_map]
 rfl
theorem pR (els:List REl):(aB els).length=els.length:=by simp [aB]
theorem RD.same {w:World} {d:Nat} {els:List REl} {made:Nat} {hp:Option Addr} {vT:Value} {aR:Bool} {vL:Value} (h:RD w d els made hp vT aR vL) {e f:REl} (he:e∈els) (hf:f∈els) (hb:e.blk=f.blk):e.num=f.num:=by
 have h1:=h.el e he
 have h2:=h.el f hf
 rw [hb,h2] at h1
 injection h1 with h1
 injection h1 with h1 _ _
 unfold REl.cells at h1
 injection h1 with h1
 injection h1 with h1 _
 injection h1 with _ h1
 omega
def AC (els:List REl):Prop:=∀ e∈els,∀ f∈els,e.blk=f.blk↔e.num=f.num
theorem RD.apart {w:World} {d:Nat} {els:List REl} {made:Nat} {hp:Option Addr} {vT:Value} {aR:Bool} {vL:Value} (h:RD w d els made hp vT aR vL) (hn:(els.map REl.num).Nodup):AC els:=
 fun e he f hf=>⟨h.same he hf,fun x=>by rw [C5 hn he hf x]⟩
theorem pg {els l:List REl} (ha:AC els) (hl:∀ e∈l,e∈els) {p:REl} (hp:p∈els) (kids:List Nat) (ks:Value):aB (l.map (cP p.blk kids ks))=pW p.num (fun _=>kids) (aB l):=by
 unfold aB pW
 rw [List.map_map,List.map_map]
 refine List.map_congr_left fun e he=>?_
 show ((cP p.blk kids ks e).num,(cP p.blk kids ks e).kids)=if e.num=p.num then (e.num,kids) else (e.num,e.kids)
 unfold cP
 by_cases hb:e.blk=p.blk
 ·rw [if_pos hb,if_pos ((ha e (hl e he) p hp).1 hb)]
 ·rw [if_neg hb,if_neg (fun x=>hb ((ha e (hl e he) p hp).2 x))]
theorem sE {T:aA} (hn:(T.map Prod.fst).Nodup) {p:Nat} {l:List Nat} (hp:(p,l)∈T) {U:aA} (hU:∀ e∈U,e∈T) (f:List Nat→List Nat):pW p (fun _=>f l) U=pW p f U:=by
 unfold pW
 refine List.map_congr_left fun e he=>?_
 by_cases h:e.1=p
 ·rw [if_pos h,if_pos h]
  have:=pY hn (hU e he) hp h
  rw [this]
 ·rw [if_neg h,if_neg h]
theorem RD.keep {w w':World} {d:Nat} {els:List REl} {made:Nat} {hp:Option Addr} {vT:Value} {aR:Bool} {vL:Value} (h:RD w d els made hp vT aR vL) (hk:∀ k,gQ d els vL k→k<w.heap.size→w'.heap[k]?=w.heap[k]?):RD w' d els made hp vT aR vL:=by
 have own:∀ {e:TypeId} {v:Value} {n:Nat} {xs:List Value},w.ownsRow 0 e 1 v n xs→(∀ k,v.ownBlock=some k→gQ d els vL k)→w'.ownsRow 0 e 1 v n xs:=by
  intro e v n xs ho hf
  refine ⟨ho.1,?_⟩
  rcases ho.2 with hn | ⟨g,fL,eU,hv,hb,hg,rest⟩
  ·exact Or.inl hn
  ·exact Or.inr ⟨g,fL,eU,hv,hb,(hk g (hf g (by rw [hv];rfl)) (Array.getElem?_eq_some_iff.1 hg).1).trans hg,rest⟩
 exact ⟨(hk d (Or.inl rfl) (Array.getElem?_eq_some_iff.1 h.doc).1).trans h.doc,own h.row (fun k hk=>Or.inr (Or.inr (Or.inl hk))),fun e he=>(hk _ (Or.inr (Or.inl ⟨e,he,rfl⟩)) (Array.getElem?_eq_some_iff.1 (h.el e he)).1).trans (h.el e he),fun e he=>own (h.kid e he) (fun k hk=>Or.inr (Or.inr (Or.inr ⟨e,he,hk⟩))),h.few,h.kfew⟩
theorem Fr.mono {w w':World} {S S':Nat→Prop} (h:Fr w w' S) (hs:∀ k,S k→S' k):Fr w w' S':=⟨h.os,h.tape,h.output,h.size,fun k hk hn=>h.block k hk (fun x=>hn (hs k x))⟩
def bu (F:Nat→Prop) (w:World) (k:Nat):Prop:=F k∨w.heap.size≤k
def iD (T:aA) (par at':Int) (kind:ByteArray):Int:=
 match bn T par with
 | none=>5
 | some l=>if at'<0∨(l.length:Int)<at' then 8 else if ax kind=false then 4 else if 24≤T.length then 9 else 0
theorem FU (els:List REl) (par at':Int) (kind:ByteArray):gW els par at' kind=iD (aB els) par at' kind:=by
 unfold gW iD
 rw [pD,pR]
 cases aZ els par<;>rfl
def TIns (T:aA) (made:Nat) (par at':Int) (kind:ByteArray) (y:Int) (T':aA) (made':Nat) (n:Int):Prop:=
 y=iD T par at' kind∧((y≠0∧n=0∧T'=T∧made'=made)∨(y=0∧n=made∧made'=made+1∧∃ p k:Nat,par=p∧at'=k∧(∃ l,(p,l)∈T∧k≤l.length)∧T'=jG T p k made))
theorem sG {d:Nat} {els:List REl} {b:Nat} {kids:List Nat} {ks:Value} {vL vL':Value} {S:Nat→Prop} (h1:∀ k,gQ d els vL k→S k) (h2:∀ k,ks.ownBlock=some k→S k) (h3:∀ k,vL'.ownBlock=some k→S k):∀ k,gQ d (els.map (cP b kids ks)) vL' k→S k:=by
 rintro k (rfl | ⟨e,he,rfl⟩ | hk | ⟨e,he,hk⟩)
 ·exact h1 _ (Or.inl rfl)
 ·obtain ⟨f,hf,rfl⟩:=List.mem_map.1 he
  rw [jf]
  exact h1 _ (Or.inr (Or.inl ⟨f,hf,rfl⟩))
 ·exact h3 k hk
 ·obtain ⟨f,hf,rfl⟩:=List.mem_map.1 he
  unfold cP at hk
  split at hk
  ·exact h2 k hk
  ·exact h1 k (Or.inr (Or.inr (Or.inr ⟨f,hf,hk⟩)))
end Go.Proofs.YtblfffbmklkhmaaGreat
namespace Go.Proofs.YtblfffbmklkhmaaGreat
open Go.RowKit
theorem fx {T:aA} {n:Int} {l:List Nat} (h:bn T n=some l):∃ k:Nat,n=k∧(k,l)∈T:=by
 unfold bn at h
 cases hf:T.find? fun e=>decide ((e.1:Int)=n) with
 | none=>rw [hf] at h;cases h
 | some e=>
  rw [hf] at h
  have h1:(e.1:Int)=n:=by simpa using List.find?_some hf
  have h2:e.2=l:=by simpa using h
  exact ⟨e.1,h1.symm,h2▸List.mem_of_find?_eq_some hf⟩
theorem bT {els:List REl} {n:Int} {y:REl} (h:aZ els n=some y):bn (aB els) n=some y.kids:=by rw [pD,h];rfl
theorem co {els:List REl} {n:Int} (h:aZ els n=none):bn (aB els) n=none:=by rw [pD,h];rfl
theorem Ha (els:List REl) (a:Int) (l:List REl):aB (bD els a l)=(aB l).filter fun e=>!bI (aB els) a e.1:=by
 unfold aB bD
 rw [List.filter_map]
 congr 1
 refine List.filter_congr fun e _=>?_
 show (!fB els a e.num)=(!bI (aB els) a e.num)
 rw [oT]
open Classical in
noncomputable def jD (T:aA) (n:Int):Int:=match bn T n with | none=>5 | some _=>if aU T n<0 then 6 else 0
def TRem (T:aA) (n:Int) (y:Int) (T':aA):Prop:=
 y=jD T n∧((y≠0∧T'=T)∨(y=0∧∃ a:Nat,n=a∧a≠0∧(∃ l,(a,l)∈T)∧T'=oR T a))
theorem pL {els:List REl} {made:Nat} (h:TW (aB els) made):∃ rk,lM els rk:=by
 obtain ⟨rk,hr⟩:=h.rank
 exact ⟨rk,fun e he k hk=>hr (e.num,e.kids) (List.mem_map.2 ⟨e,he,rfl⟩) k hk⟩
noncomputable def gU (T:aA) (n m at':Int):Int:=
 match bn T n,bn T m with
 | some _,some l=>if aU T n<0 then 6 else if bI T n m=true then 7 else if at'<0∨((af n l).length:Int)<at' then 8 else 0
 | _,_=>5
def TMov (T:aA) (n m at':Int) (y:Int) (T':aA):Prop:=
 y=gU T n m at'∧((y≠0∧T'=T)∨(y=0∧∃ a p k:Nat,n=a∧m=p∧at'=k∧a≠0∧(∃ l,(a,l)∈T)∧(∃ l,(p,l)∈T∧k≤(af a l).length)∧¬ dR T a p∧T'=jY T a p k))
theorem pB (a:Int) (l:List Nat):af a (af a l)=af a l:=by
 unfold af
 rw [List.filter_filter]
 congr 1
 funext k
 simp
theorem FL:TW [(0,[])] 1:=by
 refine ⟨by simp,?_,⟨[],by simp⟩,?_,?_,?_,?_,?_,⟨fun _=>0,?_⟩⟩<;>intro e he<;>(rw [List.mem_singleton] at he;subst he)<;>simp
end Go.Proofs.YtblfffbmklkhmaaGreat
namespace Go.Proofs.YtblfffbmklkhmaaGreat
open Go.RowKit
theorem TIns.one {T:aA} {made:Nat} {par at':Int} {kind:ByteArray} {y y':Int} {U U':aA} {m m':Nat} {n n':Int} (h:TIns T made par at' kind y U m n) (h':TIns T made par at' kind y' U' m' n'):y=y'∧U=U'∧m=m'∧n=n':=by
 have hy:y=y':=h.1.trans h'.1.symm
 subst hy
 refine ⟨rfl,?_⟩
 rcases h.2 with ⟨h1,h2,h3,h4⟩ | ⟨h1,h2,h3,p,k,hp,hk,_,h4⟩<;>rcases h'.2 with ⟨g1,g2,g3,g4⟩ | ⟨g1,g2,g3,p',k',sB,PY,_,g4⟩
 ·exact ⟨h3.trans g3.symm,h4.trans g4.symm,h2.trans g2.symm⟩
 ·exact absurd g1 h1
 ·exact absurd h1 g1
 ·have e1:p=p':=by omega
  have e2:k=k':=by omega
  subst e1 e2
  exact ⟨h4.trans g4.symm,h3.trans g3.symm,h2.trans g2.symm⟩
theorem TRem.one {T:aA} {n:Int} {y y':Int} {U U':aA} (h:TRem T n y U) (h':TRem T n y' U'):y=y'∧U=U':=by
 have hy:y=y':=h.1.trans h'.1.symm
 subst hy
 refine ⟨rfl,?_⟩
 rcases h.2 with ⟨h1,h2⟩ | ⟨h1,a,ha,_,_,h2⟩<;>rcases h'.2 with ⟨g1,g2⟩ | ⟨g1,a',Qc,_,_,g2⟩
 ·exact h2.trans g2.symm
 ·exact absurd g1 h1
 ·exact absurd h1 g1
 ·have e1:a=a':=by omega
  subst e1
  exact h2.trans g2.symm
theorem TMov.one {T:aA} {n m at':Int} {y y':Int} {U U':aA} (h:TMov T n m at' y U) (h':TMov T n m at' y' U'):y=y'∧U=U':=by
 have hy:y=y':=h.1.trans h'.1.symm
 subst hy
 refine ⟨rfl,?_⟩
 rcases h.2 with ⟨h1,h2⟩ | ⟨h1,a,p,k,ha,hp,hk,_,_,_,_,h2⟩<;>rcases h'.2 with ⟨g1,g2⟩ | ⟨g1,a',p',k',Qc,sB,PY,_,_,_,_,g2⟩
 ·exact h2.trans g2.symm
 ·exact absurd g1 h1
 ·exact absurd h1 g1
 ·have e1:a=a':=by omega
  have e2:p=p':=by omega
  have e3:k=k':=by omega
  subst e1 e2 e3
  exact h2.trans g2.symm
theorem TIns.tw {T:aA} {made:Nat} {par at':Int} {kind:ByteArray} {y:Int} {U:aA} {m:Nat} {n:Int} (h:TIns T made par at' kind y U m n) (hw:TW T made):TW U m∧m≤made+1:=by
 rcases h.2 with ⟨_,_,rfl,rfl⟩ | ⟨_,_,rfl,p,k,_,_,⟨l,hl,_⟩,rfl⟩
 ·exact ⟨hw,Nat.le_succ _⟩
 ·exact ⟨hw.ins ⟨l,hl⟩,Nat.le_refl _⟩
def LT (T:aA) (l:List Nat):Prop:=l.Nodup∧∀ k∈l,∃ c,(k,c)∈T
theorem Uz {els:List REl} {l:List Nat}:LT (aB els) l↔LS els l:=by
 unfold LT LS aB
 constructor
 ·rintro ⟨h1,h2⟩
  refine ⟨h1,fun k hk=>?_⟩
  obtain ⟨c,hc⟩:=h2 k hk
  obtain ⟨e,he,h3⟩:=List.mem_map.1 hc
  injection h3 with h3 _
  exact ⟨e,he,h3⟩
 ·rintro ⟨h1,h2⟩
  refine ⟨h1,fun k hk=>?_⟩
  obtain ⟨e,he,rfl⟩:=h2 k hk
  exact ⟨e.kids,List.mem_map.2 ⟨e,he,rfl⟩⟩
def n6 (F:Nat→Prop) (w w':World) (k:Nat):Prop:=bu F w k∧k<w'.heap.size
theorem bZ {w w':World} {e:TypeId} {v:Value} {n:Nat} {xs:List Value} (h:w.ownsRow 0 e 1 v n xs) (hk:∀ k,v.ownBlock=some k→k<w.heap.size→w'.heap[k]?=w.heap[k]?):w'.ownsRow 0 e 1 v n xs:=by
 refine ⟨h.1,?_⟩
 rcases h.2 with hn | ⟨g,fL,eU,hv,hb,hg,rest⟩
 ·exact Or.inl hn
 ·exact Or.inr ⟨g,fL,eU,hv,hb,(hk g (by rw [hv];rfl) (Array.getElem?_eq_some_iff.1 hg).1).trans hg,rest⟩
section
variable {PS:World→Value→aA→Nat→(Nat→Prop)→Prop} {w:World} {b:Nat} {Tx:aA} {mx:Nat} {Ty:aA} {my:Nat} {px:Value} {d:Nat} {vm vy vs:Value} {cnt:Int} {held:Bool} {lm ly:List Nat} {Fp Fx Fy:Nat→Prop}
end
end Go.Proofs.YtblfffbmklkhmaaGreat
namespace Go.Proofs.YtblfffbmklkhmaaGreat
open Go.RowKit
abbrev an (kd at' X Y Z:Int) (S Tt:ByteArray) (on:Bool):Obj:=.cells #[.int .i64 kd,.int .i64 at',.int .i64 X,.int .i64 Y,.int .i64 Z,.string S,.string Tt,.bool on] 69
theorem Fr.comp {a w w1:World} {G S:Nat→Prop} (h:Fr a w G) (k:Fr w w1 S) (hs:∀ j,S j→G j∨a.heap.size≤j):Fr a w1 G:=
 ⟨k.os.trans h.os,k.tape.trans h.tape,k.output.trans h.output,Nat.le_trans h.size k.size,fun i hi hn=>(k.block i (Nat.lt_of_lt_of_le hi h.size) (fun x=>(hs i x).elim hn (fun y=>by omega))).trans (h.block i hi hn)⟩
set_option maxHeartbeats 1000000 in
theorem bF (w:World) (y:Int):Calls Tryz.prog 93 #[.int .i64 y,.int .i64 y] w fun e w'=>e=.returned (.bool true)∧w'=w:=by
 go_enter Tryz.func93,Tryz.ntmps93
 go_wp2_with fail
 refine (nU _ y).mono ?_
 rintro e w1 ⟨rfl,rfl⟩
 obtain ⟨w,rfl⟩:∃ w,w=w1:=⟨_,rfl⟩
 go_wp2_with fail
 refine (nU _ y).mono ?_
 rintro e w1 ⟨rfl,rfl⟩
 obtain ⟨w,rfl⟩:∃ w,w=w1:=⟨_,rfl⟩
 go_wp2
 go_ret
 exact ⟨by simp,rfl⟩
section
variable {PS:World→Value→aA→Nat→(Nat→Prop)→Prop} {w0:World} {G:Nat→Prop} {w:World} {b:Nat} {Tx:aA} {mx:Nat} {Ty:aA} {my:Nat} {px:Value} {d:Nat} {vm vy vs:Value} {cnt:Int} {held:Bool} {lm ly:List Nat}
end
theorem LT.len {T:aA} {l:List Nat} (h:LT T l):l.length≤T.length:=by
 have:=fc h.1 (m:=T.map Prod.fst) (fun k hk=>by
  obtain ⟨c,hc⟩:=h.2 k hk
  exact List.mem_map.2 ⟨_,hc,rfl⟩)
 simpa using this
theorem LT.ins {T:aA} {l:List Nat} (h:LT T l) (p k n:Nat):LT (jG T p k n) l:=by
 refine ⟨h.1,fun x hx=>?_⟩
 obtain ⟨c,hc⟩:=h.2 x hx
 exact ⟨if x=p then bN c k n else c,cj.2 (Or.inl ⟨(x,c),hc,rfl,rfl⟩)⟩
theorem LT.with {T:aA} {l:List Nat} (h:LT T l) {n:Nat} {c:List Nat} (hn:(n,c)∈T):LT T (dw l n):=by
 unfold dw
 split
 ·exact h
 ·rename_i hx
  rw [A3] at hx
  refine ⟨?_,fun k hk=>?_⟩
  ·rw [List.nodup_append]
   refine ⟨h.1,by simp,fun a ha b hb=>?_⟩
   rw [List.mem_singleton] at hb
   rw [hb]
   exact fun e=>hx (e▸ha)
  ·rcases List.mem_append.1 hk with hk | hk
   ·exact h.2 k hk
   ·rw [List.mem_singleton] at hk
    rw [hk]
    exact ⟨c,hn⟩
end Go.Proofs.YtblfffbmklkhmaaGreat
namespace Go.Proofs.YtblfffbmklkhmaaGreat
open Go.RowKit
theorem LT.of_nums {T U:aA} {l:List Nat} (h:LT T l) (hn:U.map Prod.fst=T.map Prod.fst):LT U l:=by
 refine ⟨h.1,fun k hk=>?_⟩
 obtain ⟨c,hc⟩:=h.2 k hk
 have h1:k∈U.map Prod.fst:=by rw [hn];exact List.mem_map.2 ⟨_,hc,rfl⟩
 obtain ⟨x,hx,rfl⟩:=List.mem_map.1 h1
 exact ⟨x.2,hx⟩
theorem Gz (T:aA) (a p k:Nat):(jY T a p k).map Prod.fst=T.map Prod.fst:=by
 unfold jY
 rw [iQ,iQ]
section
variable {PS:World→Value→aA→Nat→(Nat→Prop)→Prop}
end
end Go.Proofs.YtblfffbmklkhmaaGreat
namespace Go.Proofs.YtblfffbmklkhmaaGreat
open Go.RowKit
theorem TMov.nums {T:aA} {n m at':Int} {y:Int} {U:aA} (h:TMov T n m at' y U):U.map Prod.fst=T.map Prod.fst:=by
 rcases h.2 with ⟨_,rfl⟩ | ⟨_,a,p,k,_,_,_,_,_,_,_,rfl⟩
 ·rfl
 ·exact Gz T a p k
end Go.Proofs.YtblfffbmklkhmaaGreat
namespace Go.Proofs.YtblfffbmklkhmaaGreat
open Go.RowKit
structure ml where
 b:Nat
 made:Nat
 G:Nat→Prop
def rX (B:Nat) (vD vI vM:Value) (es:List vj) (k:Nat):Prop:=k=B∨vD.ownBlock=some k∨vI.ownBlock=some k∨vM.ownBlock=some k∨∃ e∈es,e.v.ownBlock=some k
section
variable {PS:World→Value→aA→Nat→(Nat→Prop)→Prop} {ae:Nat} {w:World} {B:Nat} {vD vI vM:Value} {nx:Nat} {ps:List ml} {es:List vj}
end
end Go.Proofs.YtblfffbmklkhmaaGreat
namespace Go.Proofs.YtblfffbmklkhmaaGreat
open Go.RowKit
section
variable {PS:World→Value→aA→Nat→(Nat→Prop)→Prop} {w:World} {b:Nat} {Tx:aA} {mx:Nat} {Ty:aA} {my:Nat} {px:Value} {d:Nat} {vm vy vs:Value} {cnt:Int} {held:Bool} {lm ly:List Nat} {Fp Fx Fy:Nat→Prop}
end
theorem Fr.toBelow {w w':World} {S:Nat→Prop} {ae:Nat} (h:Fr w w' S) (hb:ae≤w.heap.size) (hs:∀ k,S k→ae≤k):Below ae w w':=by
 refine ⟨h.os,h.tape,h.output,h.size,fun k hk=>h.block k (by omega) (fun x=>by have:=hs k x;omega)⟩
end Go.Proofs.YtblfffbmklkhmaaGreat
namespace Go.Proofs.YtblfffbmklkhmaaGreat
open Go.RowKit
theorem Tryz.info112:(Tryz.prog.info? 112).map (fun i=>(i.zero,i.size,i.bytes))=some (some (.pointer none),1,8):=by kernel_rfl
section
variable {PS:World→Value→aA→Nat→(Nat→Prop)→Prop} {ae:Nat} {w:World} {B:Nat} {vD vI vM:Value} {nx:Nat} {ps:List ml} {es:List vj}
end
abbrev nV (pa:Addr) (d m1 m2:Nat):Obj:=.cells #[.pointer (some pa),.pointer (some ⟨d,0,none⟩),.slice (some ⟨m1,0,none⟩) 1 1,.slice (some ⟨m2,0,none⟩) 1 1,.int .i64 1,.slice none 0 0,.bool false] 124
theorem E9:LT [(0,[])] [0]:=⟨by simp,fun k hk=>by rw [List.mem_singleton] at hk;rw [hk];exact ⟨[],by simp⟩⟩
theorem EY (w:World) (x:Value) (t:TypeId):(w.alloc (.cells #[x] t)).ownsRow 0 t 1 (.slice (some ⟨w.heap.size,0,none⟩) 1 1) 1 [x]:=
 ⟨rfl,Or.inr ⟨w.heap.size,1,#[x],rfl,Nat.zero_le _,heap_alloc_new w _,Nat.le_refl _,by unfold maxLen;omega,rfl,rfl⟩⟩
end Go.Proofs.YtblfffbmklkhmaaGreat
namespace Go.Proofs.YtblfffbmklkhmaaGreat
open Go.RowKit
def mh (k:Int) (n:Nat):Nat:=if k<0∨(n:Int)≤k then 0 else k.toNat
theorem LW {k:Int} {n:Nat} (h:0<n):mh k n<n:=by
 unfold mh
 split<;>omega
set_option maxHeartbeats 1000000 in
theorem LV (w:World) (k:Int) (n:Nat):Calls Tryz.prog 58 #[.int .i64 k,.int .i64 n] w fun e w'=>e=.returned (.int .i64 (mh k n))∧w'=w:=by
 by_cases h1:k<0
 ·have HE:Hid (mh k n=0):=by unfold Hid mh;rw [if_pos (Or.inl h1)]
  go_enter Tryz.func58,Tryz.ntmps58
  go_wp2
  go_ret
  rw [HE.out]
  exact ⟨rfl,rfl⟩
 ·have hd1:decide (k<0)=false:=by simpa using h1
  by_cases h2:(n:Int)≤k
  ·have HE:Hid (mh k n=0):=by unfold Hid mh;rw [if_pos (Or.inr h2)]
   clear h1
   go_enter Tryz.func58,Tryz.ntmps58
   go_wp2
   go_ret
   rw [HE.out]
   exact ⟨rfl,rfl⟩
  ·have iL:decide ((n:Int)≤k)=false:=by simpa using h2
   have HE:Hid (((mh k n:Nat):Int)=k):=by unfold Hid mh;rw [if_neg (fun h=>h.elim h1 h2)];omega
   clear h1 h2
   go_enter Tryz.func58,Tryz.ntmps58
   go_wp2
   go_ret
   rw [HE.out]
   exact ⟨rfl,rfl⟩
theorem A0 {ps:List ml} {i:Nat} {p:ml} {M:Nat} (h:∀ q∈ps,q.made≤M) (hp:p.made≤M+1):∀ q∈ps.set i p,q.made≤M+1:=by
 intro q hq
 rcases List.mem_or_eq_of_mem_set hq with hq | rfl
 ·exact Nat.le_succ_of_le (h q hq)
 ·exact hp
section
variable {PS:World→Value→aA→Nat→(Nat→Prop)→Prop}
end
end Go.Proofs.YtblfffbmklkhmaaGreat
