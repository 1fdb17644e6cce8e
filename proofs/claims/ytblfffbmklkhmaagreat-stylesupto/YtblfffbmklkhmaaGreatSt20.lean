import Derived.Test.YtblfffbmklkhmaaGreatSt19
import Derived.Test.YtblfffbmklkhmaaGreatSt17
namespace Go.Proofs.YtblfffbmklkhmaaGreat
open Go.RowKit
structure ns (v v':Vw) (ok:PPt→Prop) (S:Int→Prop):Prop where
 ty:∀ e,S e→∀ l,v.ty e l=v'.ty e l
 sm:∀ e,S e→∀ p,ok p→nj v p e=nj v' p e
 ab:∀ e,S e→v.ab e=v'.ab e
 ah:∀ e,S e→v.ah e=v'.ah e
 sab:∀ e,S e→∀ x∈v.ab e,S x
 sah:∀ e,S e→∀ x∈v.ah e,S x
section
variable {v v':Vw} {ok:PPt→Prop} {S:Int→Prop}
theorem uG {α:Type} {f g:α→Bool}:∀ {l:List α},(∀ x∈l,f x=g x)→l.all f=l.all g
 | [],_=>rfl
 | x :: l,h=>by
  rw [List.all_cons,List.all_cons,h x List.mem_cons_self,uG (fun y hy=>h y (List.mem_cons_of_mem _ hy))]
theorem um {α:Type} {f g:α→Bool}:∀ {l:List α},(∀ x∈l,f x=g x)→l.any f=l.any g
 | [],_=>rfl
 | x :: l,h=>by
  rw [List.any_cons,List.any_cons,h x List.mem_cons_self,um (fun y hy=>h y (List.mem_cons_of_mem _ hy))]
theorem lQ {α β:Type} {f g:β→α→β}:∀ {l:List α} {b:β},(∀ x∈l,∀ b,f b x=g b x)→l.foldl f b=l.foldl g b
 | [],_,_=>rfl
 | x :: l,b,h=>by
  rw [List.foldl_cons,List.foldl_cons,h x List.mem_cons_self b,lQ (fun y hy=>h y (List.mem_cons_of_mem _ hy))]
theorem pJ {α β:Type} {f g:α→β→β}:∀ {l:List α} {b:β},(∀ x∈l,∀ b,f x b=g x b)→l.foldr f b=l.foldr g b
 | [],_,_=>rfl
 | x :: l,b,h=>by
  rw [List.foldr_cons,List.foldr_cons,pJ (fun y hy=>h y (List.mem_cons_of_mem _ hy)),h x List.mem_cons_self]
theorem Bg (h:ns v v' ok S) {e:Int} (he:S e) {c:cO} (hc:∀ p∈c.ps,ok p):ke v c e=ke v' c e:=by
 unfold ke
 rw [h.ty e he,uG (fun p hp=>by rw [h.sm e he p (hc p hp)])]
theorem uf (h:ns v v' ok S) {e:Int} (he:S e) (sg:Int):ek v sg e=ek v' sg e∧∀ x∈ek v sg e,S x:=by
 refine ⟨?_,fun x hx=>?_⟩
 ·unfold ek
  rw [h.ab e he,h.ah e he]
 ·unfold ek at hx
  split at hx
  ·exact h.sab e he x hx
  ·split at hx
   ·exact h.sab e he x (List.mem_of_mem_take hx)
   ·split at hx
    ·exact h.sah e he x hx
    ·split at hx
     ·exact h.sah e he x (List.mem_of_mem_take hx)
     ·cases hx
theorem wk (h:ns v v' ok S):∀ (cs:List cO),(∀ c∈cs,∀ p∈c.ps,ok p)→∀ e,S e→js v cs e=js v' cs e
 | [],_,_,_=>rfl
 | [c],hc,_,he=>Bg h he (hc c List.mem_cons_self)
 | c :: d :: r,hc,e,he=>by
  show (ke v c e&&(ek v c.sg e).any (js v (d :: r)))=(ke v' c e&&(ek v' c.sg e).any (js v' (d :: r)))
  rw [Bg h he (hc c List.mem_cons_self),←(uf h he c.sg).1,um (fun x hx=>wk h (d :: r) (fun c' MB=>hc c' (List.mem_cons_of_mem _ MB)) x ((uf h he c.sg).2 x hx))]
theorem Hl (h:ns v v' ok S) {cs:List cO} (hc:∀ c∈cs,∀ p∈c.ps,ok p) {e:Int} (he:S e):oL v cs e=oL v' cs e:=wk h _ (fun c hx=>hc c (List.mem_reverse.1 hx)) e he
theorem F7 (h:ns v v' ok S) {ss:List (List cO)} (hc:∀ cs∈ss,∀ c∈cs,∀ p∈c.ps,ok p) {e:Int} (he:S e):ew v e ss=ew v' e ss:=by
 unfold ew
 refine lQ fun cs jy a=>?_
 unfold gX
 rw [Hl h (hc cs jy) he]
theorem Bv (h:ns v v' ok S) {rs:List cQ} (hc:∀ r∈rs,∀ cs∈r.ss,∀ c∈cs,∀ p∈c.ps,ok p) {e:Int} (he:S e):eo v rs e=eo v' rs e:=by
 unfold eo
 refine lQ fun r hr W=>?_
 unfold fg
 rw [F7 h (hc r hr) he]
theorem K6 (h:ns v v' ok S) {rs:List cQ} (hc:∀ r∈rs,∀ cs∈r.ss,∀ c∈cs,∀ p∈c.ps,ok p) {e:Int} (he:S e) (comes:List Int):CM v rs e comes=CM v' rs e comes:=by
 unfold CM
 rw [Bv h hc he]
theorem wR (h:ns v v' ok S) {rs:List cQ} (hc:∀ r∈rs,∀ cs∈r.ss,∀ c∈cs,∀ p∈c.ps,ok p) {e:Int} (he:S e):dj v rs e=dj v' rs e:=by
 unfold dj
 rw [h.ab e he,K6 h hc he,pJ (fun x hx b=>K6 h hc (h.sab e he x (by rw [h.ab e he];exact hx)) b)]
end
theorem tO (T:aA):∀ (j i:Nat) (e:Int),jm T (j+1) e<0→aW T j e=aW T (j+i) e
 | 0,0,_,_=>rfl
 | 0,i+1,e,h=>by
  have h1:aU T e<0:=h
  have h2:aU T e=-1:=by
   rcases cB T e with ⟨h3,_⟩ | ⟨q,_,_,h3⟩
   ·exact h3
   ·omega
  rw [Nat.zero_add]
  show []=if aU T e=-1 then [] else _
  rw [if_pos h2]
 | j+1,i,e,h=>by
  have e1:j+1+i=(j+i)+1:=by omega
  rw [e1]
  show (if aU T e=-1 then [] else aU T e :: aW T j (aU T e))=(if aU T e=-1 then [] else aU T e :: aW T (j+i) (aU T e))
  rw [tO T j i (aU T e) h]
theorem TW.up_end {T:aA} {made:Nat} (h:TW T made) {k:Nat} {l:List Nat} (hk:(k,l)∈T) {j:Nat} (hj:T.length≤j):jm T j k<0:=by
 obtain ⟨rk,hr⟩:=h.rank
 rcases Int.lt_or_le (jm T j k) 0 with h1 | h1
 ·exact h1
 ·obtain ⟨L,hL,hd,jF,_⟩:=h.chain hr h1 j k ⟨l,hk⟩ rfl
  have:=fc hd (m:=T.map Prod.fst) (fun x hx=>by
   obtain ⟨c,hc⟩:=jF x hx
   exact List.mem_map.2 ⟨_,hc,rfl⟩)
  simp at this
  omega
theorem TW.above_any {T:aA} {made:Nat} (h:TW T made) {k:Nat} {l:List Nat} (hk:(k,l)∈T) {j:Nat} (hj:T.length≤j):aW T T.length k=aW T j k:=by
 have:=tO T T.length (j - T.length) k (h.up_end hk (by omega))
 rw [this]
 congr 1
 omega
def xr (T:aA) (p:Nat):List Nat:=if aU T p<0 then [p] else (dA T (aU T p)).dropWhile fun (k:Nat)=>decide (¬ k=p)
def kH (T:aA) (p:Nat) (x:Nat):Prop:=∃ t∈xr T p,dR T t x
theorem q8 {l:List Nat} {p:Nat} (hp:p∈l):∃ A B,l=A++p :: B∧p ∉ A∧(l.dropWhile fun (k:Nat)=>decide (¬ k=p))=p :: B:=by
 induction l with
 | nil=>cases hp
 | cons x l ih=>
  by_cases h:x=p
  ·subst h
   exact ⟨[],l,rfl,by simp,by simp⟩
  ·rcases List.mem_cons.1 hp with h1 | h1
   ·exact absurd h1.symm h
   ·obtain ⟨A,B,h2,h3,h4⟩:=ih h1
    refine ⟨x :: A,B,by rw [h2];rfl,by rw [List.mem_cons];exact fun h5=>h5.elim (fun h6=>h h6.symm) h3,?_⟩
    rw [List.dropWhile_cons_of_pos (by simpa using h)]
    exact h4
theorem LI {l:List Nat} (hn:l.Nodup) {p j k:Nat} (hp:p∈l) (hk:k∈l) (hj:j∈l.takeWhile fun (x:Nat)=>decide (¬ (x:Int)=(k:Int))) (hjd:j∈l.dropWhile fun (x:Nat)=>decide (¬ x=p)):k∈l.dropWhile fun (x:Nat)=>decide (¬ x=p):=by
 obtain ⟨A,B,h1,_,h2⟩:=q8 hp
 rw [h2] at hjd ⊢
 rw [h1,List.mem_append] at hk
 rcases hk with hk | hk
 ·exfalso
  obtain ⟨C,D,h3,_,_⟩:=q8 hk
  have h4:∀ x∈(l.takeWhile fun (x:Nat)=>decide (¬ (x:Int)=(k:Int))),x∈C:=by
   intro x hx
   rw [h1,h3,List.append_assoc] at hx
   have:∀ (C:List Nat) (E:List Nat),x∈((C++(k :: E)).takeWhile fun (x:Nat)=>decide (¬ (x:Int)=(k:Int)))→x∈C:=by
    intro C E
    induction C with
    | nil=>intro h;simp at h
    | cons c C ih=>
     intro h
     rw [List.cons_append,List.takeWhile_cons] at h
     split at h
     ·rcases List.mem_cons.1 h with rfl | h
      ·exact List.mem_cons_self
      ·exact List.mem_cons_of_mem _ (ih h)
     ·cases h
   exact this C _ hx
  have h5:j∈A:=by rw [h3];exact List.mem_append_left _ (h4 j hj)
  rw [h1,List.nodup_append] at hn
  exact hn.2.2 j h5 j hjd rfl
 ·exact hk
section
variable {T T':aA} {made made':Nat}
theorem eT (h:TW T made) {q:Nat} {l:List Nat} (hq:(q,l)∈T):dA T q=l:=by
 unfold dA
 rw [dt h.nums hq]
 rfl
theorem wn (h:TW T made) {p:Nat} {l:List Nat} (_hp:(p,l)∈T):p∈xr T p:=by
 unfold xr
 split
 ·simp
 ·rename_i h0
  rcases cB T p with ⟨h1,_⟩ | ⟨q,hq,h1,h2⟩
  ·omega
  ·rw [h2,eT h (q:=q.1) (l:=q.2) hq]
   obtain ⟨A,B,_,_,h3⟩:=q8 (gN.1 h1)
   rw [h3]
   exact List.mem_cons_self
theorem mF (h:TW T made) {p:Nat} {l:List Nat} (hp:(p,l)∈T):kH T p p:=⟨p,wn h hp,hE T p⟩
theorem Fs (h:TW T made) {p:Nat} {q:Nat × List Nat} (hq:q∈T) {k:Nat} (hk:k∈q.2) (hr:kH T p q.1):kH T p k:=by
 obtain ⟨t,ht,hu⟩:=hr
 exact ⟨t,ht,(h.under_kid hq hk t).2 (Or.inr hu)⟩
theorem GI (h:TW T made) {p:Nat} {l:List Nat} (hp:(p,l)∈T) {q:Nat × List Nat} (hq:q∈T) {j k:Nat} (hk:k∈q.2) (hj:j∈q.2.takeWhile fun (x:Nat)=>decide (¬ (x:Int)=(k:Int))) (hr:kH T p j):kH T p k:=by
 have Z8:j∈q.2:=(List.takeWhile_sublist _).subset hj
 obtain ⟨t,ht,hu⟩:=hr
 rcases (h.under_kid hq Z8 t).1 hu with h1 | h1
 ·subst h1
  unfold xr at ht
  split at ht
  ·rename_i h0
   rw [List.mem_singleton] at ht
   subst ht
   have:=h.parent hq Z8
   omega
  ·rename_i h0
   rcases cB T p with ⟨h1,_⟩ | ⟨f,hf,h1,h2⟩
   ·omega
   ·have zK:=gN.1 h1
    have hfq:f=q:=by
     rw [h2,eT h (q:=f.1) (l:=f.2) hf] at ht
     exact h.one f hf q hq j ((List.dropWhile_sublist _).subset ht) Z8
    subst hfq
    rw [h2,eT h (q:=f.1) (l:=f.2) hf] at ht
    refine ⟨k,?_,hE T k⟩
    unfold xr
    rw [if_neg h0,h2,eT h (q:=f.1) (l:=f.2) hf]
    exact LI (h.kdup f hf) zK hk hj ht
 ·exact ⟨t,ht,(h.under_kid hq hk t).2 (Or.inr h1)⟩
structure yL (T:aA) (R:Nat→Prop):Prop where
 kid:∀ q∈T,∀ k∈q.2,R q.1→R k
 next:∀ q∈T,∀ k∈q.2,∀ j∈q.2.takeWhile (fun (x:Nat)=>decide (¬ (x:Int)=(k:Int))),R j→R k
theorem mK (h:TW T made) {p:Nat} {l:List Nat} (hp:(p,l)∈T):yL T (kH T p):=⟨fun _ hq _ hk hr=>Fs h hq hk hr,fun _ hq _ hk _ hj hr=>GI h hp hq hk hj hr⟩
theorem N6 {R R':Nat→Prop} (h:yL T R) (h':yL T R'):yL T (fun k=>R k∨R' k):=⟨fun q hq k hk hr=>hr.imp (h.kid q hq k hk) (h'.kid q hq k hk),fun q hq k hk j hj hr=>hr.imp (h.next q hq k hk j hj) (h'.next q hq k hk j hj)⟩
theorem zc:yL T (fun _=>False):=⟨fun _ _ _ _ h=>h,fun _ _ _ _ _ _ h=>h⟩
variable {M M':Nat→Mk} {R:Nat→Prop} {ok:PPt→Prop}
def MV (T:aA) (R:Nat→Prop) (e:Int):Prop:=∃ k l,e=(k:Nat)∧(k,l)∈T∧¬ R k
theorem tT (h:TW T made) (h':TW T' made') (hs:yL T R) (jF:∀ k l,(k,l)∈T→¬ R k→(k,l)∈T') {k:Nat} {l:List Nat} (hk:(k,l)∈T) (hr:¬ R k):aU T' k=aU T k∧(aU T k=-1∨∃ q∈T,k∈q.2∧aU T k=q.1∧¬ R q.1∧q∈T'):=by
 by_cases h0:k=0
 ·subst h0
  exact ⟨h'.root_par.trans h.root_par.symm,Or.inl h.root_par⟩
 ·obtain ⟨q,hq,hm,hp⟩:=h.up hk h0
  have Ox:¬ R q.1:=fun hx=>hr (hs.kid q hq k hm hx)
  have zF:q∈T':=jF q.1 q.2 hq Ox
  exact ⟨by rw [hp];exact h'.parent zF hm,Or.inr ⟨q,hq,hm,hp,Ox,zF⟩⟩
theorem oD (h:TW T made) (h':TW T' made') (hs:yL T R) (jF:∀ k l,(k,l)∈T→¬ R k→(k,l)∈T'):∀ (n k:Nat) (l:List Nat),(k,l)∈T→¬ R k→aW T n k=aW T' n k∧∀ x∈aW T n k,MV T R x
 | 0,_,_,_,_=>⟨rfl,fun x hx=>by cases hx⟩
 | n+1,k,l,hk,hr=>by
  obtain ⟨h1,h2⟩:=tT h h' hs jF hk hr
  show (if aU T k=-1 then [] else aU T k :: aW T n (aU T k))=(if aU T' k=-1 then [] else aU T' k :: aW T' n (aU T' k))∧∀ x∈(if aU T k=-1 then [] else aU T k :: aW T n (aU T k)),MV T R x
  rw [h1]
  rcases h2 with h2 | ⟨q,hq,hm,hp,Ox,zF⟩
  ·rw [if_pos h2,if_pos h2]
   exact ⟨rfl,fun x hx=>by cases hx⟩
  ·have eV:¬ aU T k=-1:=by omega
   rw [if_neg eV,if_neg eV,hp]
   obtain ⟨h3,h4⟩:=oD h h' hs jF n q.1 q.2 hq Ox
   refine ⟨by rw [h3],fun x hx=>?_⟩
   rcases List.mem_cons.1 hx with rfl | hx
   ·exact ⟨q.1,q.2,rfl,hq,Ox⟩
   ·exact h4 x hx
theorem Bf (h:TW T made) (h':TW T' made') (hs:yL T R) (jF:∀ k l,(k,l)∈T→¬ R k→(k,l)∈T') {k:Nat} {l:List Nat} (hk:(k,l)∈T) (hr:¬ R k):dA T (aU T k)=dA T' (aU T' k):=by
 obtain ⟨h1,h2⟩:=tT h h' hs jF hk hr
 rw [h1]
 rcases h2 with h2 | ⟨q,hq,hm,hp,Ox,zF⟩
 ·rw [h2]
  have:∀ T:aA,dA T (-1)=[]:=fun T=>by
   unfold dA
   cases ht:bn T (-1) with
   | none=>rfl
   | some l=>
    obtain ⟨k,hk,_⟩:=fx ht
    omega
  rw [this,this]
 ·rw [hp,eT h (q:=q.1) (l:=q.2) hq,eT h' (q:=q.1) (l:=q.2) zF]
theorem iR (h:TW T made) (h':TW T' made') (hs:yL T R) (jF:∀ k l,(k,l)∈T→¬ R k→(k,l)∈T')
  (QH:∀ k l,(k,l)∈T→¬ R k→(M k).kd=(M' k).kd) (kI:∀ k l,(k,l)∈T→¬ R k→∀ p,ok p→p.kd=2→97≤p.lt→p.lt≤122→(M k).cl (p.lt - 97).toNat=(M' k).cl (p.lt - 97).toNat) (Cb:∀ k l,(k,l)∈T→¬ R k→∀ p,ok p→p.kd=3→((M k).nm==p.lt)=((M' k).nm==p.lt)) :
  ns (aY T M) (aY T' M') ok (MV T R):=by
 have hty:∀ e,MV T R e→∀ l,gF T M e l=gF T' M' e l:=by
  rintro _ ⟨k,l,rfl,hk,hr⟩ x
  unfold gF
  rw [dt h.nums hk,dt h'.nums (jF k l hk hr),Int.toNat_natCast,QH k l hk hr]
 have hah:∀ e,MV T R e→cE T e=cE T' e:=by
  rintro _ ⟨k,l,rfl,hk,hr⟩
  unfold cE
  rw [dt h.nums hk,dt h'.nums (jF k l hk hr),Bf h h' hs jF hk hr]
 refine ⟨hty,?_,?_,hah,?_,?_⟩
 ·rintro _ ⟨k,l,rfl,hk,hr⟩ p hp
  have ht:=dt h.nums hk
  have Ts:=dt h'.nums (jF k l hk hr)
  have e1:=hty k ⟨k,l,rfl,hk,hr⟩ p.lt
  have e4:=hah k ⟨k,l,rfl,hk,hr⟩
  have e2:p.kd=2→e9 T M k p.lt=e9 T' M' k p.lt:=fun h2=>by
   unfold e9
   rw [ht,Ts,Int.toNat_natCast]
   by_cases hl:97≤p.lt∧p.lt≤122
   ·rw [kI k l hk hr p hp h2 hl.1 hl.2]
   ·rw [decide_eq_false hl]
    rfl
  have e3:p.kd=3→gJ T M k p.lt=gJ T' M' k p.lt:=fun h3=>by
   unfold gJ
   rw [ht,Ts,Int.toNat_natCast,Cb k l hk hr p hp h3]
  have e5:oi T k=oi T' k:=by
   unfold oi
   rw [ht,Ts,Bf h h' hs jF hk hr]
  have e6:kD T k=kD T' k:=by
   unfold kD
   rw [ht,Ts,eT h hk,eT h' (jF k l hk hr)]
  unfold nj
  show (if p.kd=1 then gF T M k p.lt else if p.kd=2 then e9 T M k p.lt else if p.kd=3 then gJ T M k p.lt else if p.kd=4 then decide (((cE T k).length:Int)+1=1) else if p.kd=5 then oi T k else if p.kd=6 then kD T k else if p.kd=7 then ld (((cE T k).length:Int)+1) p.st p.sr else false)=(if p.kd=1 then gF T' M' k p.lt else if p.kd=2 then e9 T' M' k p.lt else if p.kd=3 then gJ T' M' k p.lt else if p.kd=4 then decide (((cE T' k).length:Int)+1=1) else if p.kd=5 then oi T' k else if p.kd=6 then kD T' k else if p.kd=7 then ld (((cE T' k).length:Int)+1) p.st p.sr else false)
  rw [e1,e4,e5,e6]
  by_cases h2:p.kd=2
  ·rw [e2 h2]
   by_cases h3:p.kd=3
   ·omega
   ·rw [if_neg h3,if_neg h3]
  ·rw [if_neg h2,if_neg h2]
   by_cases h3:p.kd=3
   ·rw [e3 h3]
   ·rw [if_neg h3,if_neg h3]
 ·rintro _ ⟨k,l,rfl,hk,hr⟩
  show aW T T.length k=aW T' T'.length k
  rw [h.above_any hk (j:=T.length+T'.length) (by omega),h'.above_any (jF k l hk hr) (j:=T.length+T'.length) (by omega)]
  exact (oD h h' hs jF _ k l hk hr).1
 ·rintro _ ⟨k,l,rfl,hk,hr⟩
  exact (oD h h' hs jF T.length k l hk hr).2
 ·rintro _ ⟨k,l,rfl,hk,hr⟩ x hx
  have BP:x∈cE T k:=hx
  unfold cE at BP
  rw [dt h.nums hk,Option.isSome_some,if_pos rfl,List.mem_reverse,List.mem_map] at BP
  obtain ⟨j,hj,rfl⟩:=BP
  obtain ⟨_,h2⟩:=tT h h' hs jF hk hr
  rcases h2 with h2 | ⟨q,hq,hm,hp,Ox,zF⟩
  ·rw [h2] at hj
   have:dA T (-1)=[]:=by
    unfold dA
    cases ht:bn T (-1) with
    | none=>rfl
    | some l=>
     obtain ⟨k,hk,_⟩:=fx ht
     omega
   rw [this] at hj
   cases hj
  ·rw [hp,eT h (q:=q.1) (l:=q.2) hq] at hj
   obtain ⟨lj,C9⟩:=h.kin q hq j ((List.takeWhile_sublist _).subset hj)
   exact ⟨j,lj,rfl,C9,fun hx=>hr (hs.next q hq k hm j hj hx)⟩
end
def FR (els:List PEl) (n:Int) (k:Nat):Prop:=∃ i x,els[i]?=some x∧(x.num:Int)=n∧∃ t∈els.drop i,t.par=x.par∧∃ y∈els,y.num=k∧∃ j,j<els.length∧upP els j y.num=t.num
theorem Lk (l:List Nat) (p:Nat):(l.dropWhile fun (k:Nat)=>decide (¬ k=p))=l.dropWhile fun (k:Nat)=>decide (¬ (k:Int)=(p:Int)):=by
 congr 1
 funext k
 congr 1
 rw [eq_iff_iff]
 omega
theorem J4 {els:List PEl} {T:aA} {made:Nat} (h:PT els T) (hw:TW T made) {p k:Nat} {l lk:List Nat} (hp:(p,l)∈T) (hk:(k,lk)∈T) (hr:kH T p k):FR els p k:=by
 obtain ⟨t,ht,hu⟩:=hr
 obtain ⟨x,hx,Pw⟩:=h.of' p l hp
 obtain ⟨i,hi,hxi⟩:=List.getElem_of_mem hx
 have hix:els[i]?=some x:=by rw [List.getElem?_eq_getElem hi,hxi]
 obtain ⟨y,hy,xE⟩:=h.of' k lk hk
 have hxd:x∈els.drop i:=by
  rw [List.drop_eq_getElem_cons hi,hxi]
  exact List.mem_cons_self
 refine ⟨i,x,hix,by rw [Pw],?_⟩
 have ol:∃ z∈els.drop i,z.par=x.par∧z.num=t:=by
  unfold xr at ht
  split at ht
  ·rw [List.mem_singleton] at ht
   exact ⟨x,hxd,rfl,by rw [Pw,ht]⟩
  ·rename_i h0
   have eg:=h.par hw hx
   have eV:x.par≠-1:=by rw [eg,Pw];omega
   have e1:=oy h hw hx eV
   rw [Pw] at e1
   rw [e1,Lk,←Pw,(j6 h.nums hix).2] at ht
   rcases List.mem_cons.1 ht with h1 | h1
   ·exact ⟨x,hxd,rfl,h1.symm⟩
   ·rw [eB] at h1
    obtain ⟨z,hz,h2,h3⟩:=h1
    exact ⟨z,List.mem_of_mem_drop (i:=1) (by rw [List.drop_drop];exact hz),h2,h3⟩
 obtain ⟨z,hz,h1,h2⟩:=ol
 refine ⟨z,hz,h1,y,hy,xE,?_⟩
 rw [←xE] at hu
 rw [h2]
 exact (qG h hw hy (a:=t) (by omega)).2 hu
end Go.Proofs.YtblfffbmklkhmaaGreat
namespace Go.Proofs.YtblfffbmklkhmaaGreat
open Go.RowKit
structure KOK (T:aA) (M:Nat→Mk) (rs:List cQ) (kl:List (Int × List Int)):Prop where
 nums:(kl.map Prod.fst).Nodup
 els:∀ x∈kl,∃ k l,x.1=((k:Nat):Int)∧(k,l)∈T
 right:∀ x∈kl,x.2=dj (aY T M) rs x.1
theorem jO (v:Vw) (rs:List cQ) (e:Int):(dj v rs e).length=9:=by
 unfold dj CM
 rw [List.length_map,List.length_range]
section
variable {T T':aA} {made made':Nat} {M M':Nat→Mk} {rs:List cQ} {kl iN:List (Int × List Int)} {R:Nat→Prop} {ok:PPt→Prop}
theorem FD:KOK T M rs []:=⟨by simp,fun _ h=>(by cases h),fun _ h=>by cases h⟩
theorem KOK.len (h:KOK T M rs kl):kl.length≤T.length:=by
 have h1:(kl.map fun x=>x.1.toNat).Nodup:=by
  have h2:=h.nums
  have h3:=h.els
  clear h
  induction kl with
  | nil=>simp
  | cons x l ih=>
   rw [List.map_cons,List.nodup_cons] at h2 ⊢
   refine ⟨fun hm=>?_,ih h2.2 (fun y hy=>h3 y (List.mem_cons_of_mem _ hy))⟩
   obtain ⟨y,hy,he⟩:=List.mem_map.1 hm
   obtain ⟨k,_,hk,_⟩:=h3 x List.mem_cons_self
   obtain ⟨j,_,hj,_⟩:=h3 y (List.mem_cons_of_mem _ hy)
   exact h2.1 (List.mem_map.2 ⟨y,hy,by omega⟩)
 have:=fc h1 (m:=T.map Prod.fst) (fun k hk=>by
  obtain ⟨x,hx,rfl⟩:=List.mem_map.1 hk
  obtain ⟨j,l,hj,hl⟩:=h.els x hx
  exact List.mem_map.2 ⟨_,hl,by show j=_;omega⟩)
 simpa using this
theorem KOK.sub (h:KOK T M rs kl) (hs:iN.Sublist kl):KOK T M rs iN:=⟨h.nums.sublist (hs.map _),fun x hx=>h.els x (hs.subset hx),fun x hx=>h.right x (hs.subset hx)⟩
theorem KOK.fwd (h:KOK T M rs kl) (hv:ns (aY T' M') (aY T M) ok (MV T' R)) (oE:∀ r∈rs,∀ cs∈r.ss,∀ c∈cs,∀ p∈c.ps,ok p) (hs:iN.Sublist kl) (ho:∀ x∈iN,MV T' R x.1):KOK T' M' rs iN:=
 ⟨h.nums.sublist (hs.map _),fun x hx=>by obtain ⟨k,l,h1,h2,_⟩:=ho x hx;exact ⟨k,l,h1,h2⟩,fun x hx=>by rw [h.right x (hs.subset hx),wR hv oE (ho x hx)]⟩
theorem KOK.bwd (h:KOK T M rs kl) (hv:ns (aY T M) (aY T' M') ok (MV T R)) (oE:∀ r∈rs,∀ cs∈r.ss,∀ c∈cs,∀ p∈c.ps,ok p) (hs:iN.Sublist kl) (ho:∀ x∈iN,MV T R x.1) (ht:∀ x∈iN,∃ k l,x.1=((k:Nat):Int)∧(k,l)∈T'):KOK T' M' rs iN:=
 ⟨h.nums.sublist (hs.map _),ht,fun x hx=>by rw [h.right x (hs.subset hx),wR hv oE (ho x hx)]⟩
theorem KOK.marks (h:KOK T M rs kl) (hw:TW T made) (hm:∀ k l,(k,l)∈T→M k=M' k):KOK T M' rs kl:=
 h.fwd (iR (ok:=fun _=>True) hw hw zc (fun _ _ hk _=>hk) (fun k l hk _=>by rw [hm k l hk]) (fun k l hk _ p _ _ _ _=>by rw [hm k l hk]) (fun k l hk _ p _ _=>by rw [hm k l hk])) (fun _ _ _ _ _ _ _ _=>trivial) (List.Sublist.refl _) (fun x hx=>by
  obtain ⟨k,l,h1,h2⟩:=h.els x hx
  exact ⟨k,l,h1,h2,id⟩)
theorem KOK.ins (h:KOK T M rs kl) (hw:TW T made) {p k:Nat} {l:List Nat} (hp:(p,l)∈T) (mk:Mk) (hs:iN.Sublist kl) (ho:∀ x∈iN,∀ j:Nat,x.1=j→¬ kH (jG T p k made) p j):KOK (jG T p k made) (bQ M made mk) rs iN:=by
 have we:TW (jG T p k made) (made+1):=hw.ins ⟨l,hp⟩
 have kL:p<made:=hw.lt _ hp
 have sB:(p,bN l k made)∈jG T p k made:=cj.2 (Or.inl ⟨(p,l),hp,rfl,by simp⟩)
 have FK:=mF we sB
 have lz:kH (jG T p k made) p made:=Fs we sB (uT.2 (Or.inl rfl)) FK
 have jF:∀ k' l',(k',l')∈jG T p k made→¬ kH (jG T p k made) p k'→(k',l')∈T:=by
  intro k' l' hk hr
  rcases cj.1 hk with ⟨x,hx,h1,h2⟩ | h1
  ·have tR:k'=x.1:=h1
   have C7:l'=if x.1=p then bN x.2 k made else x.2:=h2
   have eV:¬ x.1=p:=fun e=>hr (by rw [tR,e];exact FK)
   rw [if_neg eV] at C7
   rw [tR,C7]
   exact hx
  ·injection h1 with h1 _
   exact absurd (by rw [h1];exact lz) hr
 have Ci:∀ k' l',(k',l')∈jG T p k made→¬ kH (jG T p k made) p k'→bQ M made mk k'=M k':=fun k' l' _ hr=>by
  unfold bQ
  rw [if_neg (fun e=>hr (by rw [e];exact lz))]
 refine h.fwd (iR (ok:=fun _=>True) we hw (mK we sB) jF (fun k' l' h1 h2=>by rw [Ci k' l' h1 h2]) (fun k' l' h1 h2 p _ _ _ _=>by rw [Ci k' l' h1 h2]) (fun k' l' h1 h2 p _ _=>by rw [Ci k' l' h1 h2])) (fun _ _ _ _ _ _ _ _=>trivial) hs (fun x hx=>?_)
 obtain ⟨j,lj,h1,h2⟩:=h.els x (hs.subset hx)
 exact ⟨j,if j=p then bN lj k made else lj,h1,cj.2 (Or.inl ⟨(j,lj),h2,rfl,rfl⟩),ho x hx j h1⟩
theorem AW {a b c:Nat} (h1:dR T a b) (h2:dR T b c):dR T a c:=by
 obtain ⟨h0,k,hk⟩:=h1
 obtain ⟨_,j,hj⟩:=h2
 exact ⟨h0,j+k,by rw [zh,hj,hk]⟩
theorem KOK.rem (h:KOK T M rs kl) (hw:TW T made) {a:Nat} {la:List Nat} (ha:(a,la)∈T) (h0:a≠0) {q:Nat × List Nat} (hq:q∈T) (hm:a∈q.2) (hs:iN.Sublist kl) (ho:∀ x∈iN,∀ j:Nat,x.1=j→¬ kH T q.1 j):KOK (oR T a) M rs iN:=by
 have we:TW (oR T a) made:=hw.rem ha h0
 have hp:aU T a=q.1:=hw.parent hq hm
 have FK:=mF hw (p:=q.1) (l:=q.2) hq
 have jF:∀ k' l',(k',l')∈T→¬ kH T q.1 k'→(k',l')∈oR T a:=by
  intro k' l' hk hr
  refine (eE hp).2 ⟨(k',l'),hk,fun hu=>hr ?_,rfl,?_⟩
  ·refine ⟨q.1,wn hw (l:=q.2) hq,AW ?_ hu⟩
   exact (hw.under_kid hq hm q.1).2 (Or.inr (hE T q.1))
  ·show l'=if k'=q.1 then _ else l'
   rw [if_neg (fun e=>hr (by rw [e];exact FK))]
 have Iy:∀ x∈iN,MV T (kH T q.1) x.1:=fun x hx=>by
  obtain ⟨j,lj,h1,h2⟩:=h.els x (hs.subset hx)
  exact ⟨j,lj,h1,h2,ho x hx j h1⟩
 refine h.bwd (iR (ok:=fun _=>True) hw we (mK hw (l:=q.2) hq) jF (fun _ _ _ _=>rfl) (fun _ _ _ _ _ _ _ _ _=>rfl) (fun _ _ _ _ _ _ _=>rfl)) (fun _ _ _ _ _ _ _ _=>trivial) hs Iy (fun x hx=>?_)
 obtain ⟨j,lj,h1,h2,h3⟩:=Iy x hx
 exact ⟨j,lj,h1,jF j lj h2 h3⟩
theorem KOK.mov (h:KOK T M rs kl) (hw:TW T made) {a p k:Nat} {la lp:List Nat} (ha:(a,la)∈T) (h0:a≠0) (Dv:(p,lp)∈T) (MJ:¬ dR T a p) {q:Nat × List Nat} (hq:q∈T) (hm:a∈q.2) (hs:iN.Sublist kl) (ho:∀ x∈iN,∀ j:Nat,x.1=j→¬ kH (jY T a p k) q.1 j∧¬ kH (jY T a p k) p j):KOK (jY T a p k) M rs iN:=by
 have we:TW (jY T a p k) made:=hw.mov ha h0 Dv MJ
 have lC:aU T a=q.1:=hw.parent hq hm
 have mem:∀ j lj,(j,lj)∈T→∃ l,(j,l)∈jY T a p k:=fun j lj hj=>⟨if j=p then bN (af a (if j=q.1 then af a lj else lj)) k a else if j=q.1 then af a lj else lj,(dP lC).2 ⟨(j,lj),hj,rfl,rfl⟩⟩
 obtain ⟨lq,zF⟩:=mem q.1 q.2 hq
 obtain ⟨lp',sB⟩:=mem p lp Dv
 have jF:∀ k' l',(k',l')∈jY T a p k→¬ (kH (jY T a p k) q.1 k'∨kH (jY T a p k) p k')→(k',l')∈T:=by
  intro k' l' hk hr
  obtain ⟨x,hx,h1,h2⟩:=(dP lC).1 hk
  have tR:k'=x.1:=h1
  have Cd:¬ x.1=p:=fun e=>hr (Or.inr (by rw [tR,e];exact mF we sB))
  have DI:¬ x.1=q.1:=fun e=>hr (Or.inl (by rw [tR,e];exact mF we zF))
  have C7:l'=x.2:=by
   have h3:l'=if x.1=p then bN (af a (if x.1=q.1 then af a x.2 else x.2)) k a else if x.1=q.1 then af a x.2 else x.2:=h2
   rw [if_neg Cd,if_neg DI] at h3
   exact h3
  rw [tR,C7]
  exact hx
 refine h.fwd (iR (ok:=fun _=>True) we hw (N6 (mK we zF) (mK we sB)) jF (fun _ _ _ _=>rfl) (fun _ _ _ _ _ _ _ _ _=>rfl) (fun _ _ _ _ _ _ _=>rfl)) (fun _ _ _ _ _ _ _ _=>trivial) hs (fun x hx=>?_)
 obtain ⟨j,lj,h1,h2⟩:=h.els x (hs.subset hx)
 obtain ⟨l,hl⟩:=mem j lj h2
 have:=ho x hx j h1
 exact ⟨j,l,h1,hl,fun h3=>h3.elim this.1 this.2⟩
theorem KOK.mark (h:KOK T M rs kl) (hw:TW T made) {p:Nat} {l:List Nat} (hp:(p,l)∈T) (mk:Mk) (hs:iN.Sublist kl) (ho:∀ x∈iN,∀ j:Nat,x.1=j→¬ kH T p j):KOK T (bQ M p mk) rs iN:=by
 have Ci:∀ k' l',(k',l')∈T→¬ kH T p k'→bQ M p mk k'=M k':=fun k' l' _ hr=>by
  unfold bQ
  rw [if_neg (fun e=>hr (by rw [e];exact mF hw hp))]
 refine h.fwd (iR (ok:=fun _=>True) hw hw (mK hw hp) (fun _ _ hk _=>hk) (fun k' l' h1 h2=>by rw [Ci k' l' h1 h2]) (fun k' l' h1 h2 p _ _ _ _=>by rw [Ci k' l' h1 h2]) (fun k' l' h1 h2 p _ _=>by rw [Ci k' l' h1 h2])) (fun _ _ _ _ _ _ _ _=>trivial) hs (fun x hx=>?_)
 obtain ⟨j,lj,h1,h2⟩:=h.els x (hs.subset hx)
 exact ⟨j,lj,h1,h2,ho x hx j h1⟩
def eI (rs:List cQ) (kd lt:Int):Bool:=rs.any fun r=>r.ss.any fun cs=>cs.any fun c=>c.ps.any fun p=>decide (p.kd=kd)&&decide (p.lt=lt)
theorem tD {kd lt:Int} (h:eI rs kd lt=false):∀ r∈rs,∀ cs∈r.ss,∀ c∈cs,∀ p∈c.ps,¬ (p.kd=kd∧p.lt=lt):=by
 intro r hr cs jy c hc p hp hx
 unfold eI at h
 rw [List.any_eq_false] at h
 have h1:=h r hr
 rw [Bool.not_eq_true,List.any_eq_false] at h1
 have h2:=h1 cs jy
 rw [Bool.not_eq_true,List.any_eq_false] at h2
 have h3:=h2 c hc
 rw [Bool.not_eq_true,List.any_eq_false] at h3
 have h4:=h3 p hp
 rw [hx.1,hx.2] at h4
 simp at h4
theorem KOK.cls (h:KOK T M rs kl) (hw:TW T made) {p:Nat} (s:ByteArray) (on:Bool) (mm:eI rs 2 (bt s 0)=false∨(97≤bt s 0∧(M p).cl (bt s 0 - 97)=on)):KOK T (bQ M p (jz (M p) s on)) rs kl:=by
 have QH:∀ k,(bQ M p (jz (M p) s on) k).kd=(M k).kd:=fun k=>by
  unfold bQ
  split
  ·rename_i e;rw [e];rfl
  ·rfl
 have Cb:∀ k,(bQ M p (jz (M p) s on) k).nm=(M k).nm:=fun k=>by
  unfold bQ
  split
  ·rename_i e;rw [e];rfl
  ·rfl
 refine h.fwd (R:=fun _=>False) (iR (ok:=fun x=>eI rs 2 (bt s 0)=false→¬ (x.kd=2∧x.lt=bt s 0)) hw hw zc (fun _ _ hk _=>hk) (fun k l _ _=>QH k) (fun k l _ _ x hx h2 h3 h4=>?_) (fun k l _ _ x _ _=>by rw [Cb])) (fun r hr cs jy c hc x hx hf=>tD hf r hr cs jy c hc x hx) (List.Sublist.refl _) (fun x hx=>by
  obtain ⟨k,l,h1,h2⟩:=h.els x hx
  exact ⟨k,l,h1,h2,id⟩)
 unfold bQ
 split
 ·rename_i e
  rw [e]
  show (if (x.lt - 97).toNat+97=bt s 0 then on else (M p).cl (x.lt - 97).toNat)=_
  split
  ·rename_i e2
   rcases mm with mm | ⟨_,mm⟩
   ·exact absurd ⟨h2,by omega⟩ (hx mm)
   ·rw [←mm]
    congr 1
    omega
  ·rfl
 ·rfl
theorem KOK.nam (h:KOK T M rs kl) (hw:TW T made) {p:Nat} (s:ByteArray) (mm:(M p).nm=(fy (M p) s).nm∨(eI rs 3 (M p).nm=false∧eI rs 3 (fy (M p) s).nm=false)):KOK T (bQ M p (fy (M p) s)) rs kl:=by
 have QH:∀ k,(bQ M p (fy (M p) s) k).kd=(M k).kd:=fun k=>by
  unfold bQ
  split
  ·rename_i e;rw [e];rfl
  ·rfl
 have kI:∀ k,(bQ M p (fy (M p) s) k).cl=(M k).cl:=fun k=>by
  unfold bQ
  split
  ·rename_i e;rw [e];rfl
  ·rfl
 refine h.fwd (R:=fun _=>False) (iR (ok:=fun x=>(eI rs 3 (M p).nm=false→¬ (x.kd=3∧x.lt=(M p).nm))∧(eI rs 3 (fy (M p) s).nm=false→¬ (x.kd=3∧x.lt=(fy (M p) s).nm))) hw hw zc (fun _ _ hk _=>hk) (fun k l _ _=>QH k) (fun k l _ _ x hx h2 h3 h4=>by rw [kI]) (fun k l _ _ x hx h3=>?_)) (fun r hr cs jy c hc x hx=>⟨fun hf=>tD hf r hr cs jy c hc x hx,fun hf=>tD hf r hr cs jy c hc x hx⟩) (List.Sublist.refl _) (fun x hx=>by
  obtain ⟨k,l,h1,h2⟩:=h.els x hx
  exact ⟨k,l,h1,h2,id⟩)
 unfold bQ
 split
 ·rename_i e
  rw [e]
  rcases mm with mm | ⟨h1,h2⟩
  ·rw [mm]
  ·have e1:((fy (M p) s).nm==x.lt)=false:=by
    rw [beq_eq_false_iff_ne]
    exact fun e=>hx.2 h2 ⟨h3,e.symm⟩
   have e2:((M p).nm==x.lt)=false:=by
    rw [beq_eq_false_iff_ne]
    exact fun e=>hx.1 h1 ⟨h3,e.symm⟩
   rw [e1,e2]
 ·rfl
end
theorem KOK.more {T:aA} {M:Nat→Mk} {rs:List cQ} {kl:List (Int × List Int)} (h:KOK T M rs kl) {k:Nat} {l:List Nat} (hk:(k,l)∈T) (hn:∀ x∈kl,x.1≠((k:Nat):Int)):KOK T M rs (kl++[((k:Int),dj (aY T M) rs k)]):=by
 refine ⟨?_,fun x hx=>?_,fun x hx=>?_⟩
 ·rw [List.map_append,List.nodup_append]
  refine ⟨h.nums,by simp,fun a ha b hb=>?_⟩
  obtain ⟨x,hx,rfl⟩:=List.mem_map.1 ha
  have:b=(k:Int):=by simpa using hb
  rw [this]
  exact hn x hx
 ·rcases List.mem_append.1 hx with hx | hx
  ·exact h.els x hx
  ·rw [List.mem_singleton] at hx
   rw [hx]
   exact ⟨k,l,rfl,hk⟩
 ·rcases List.mem_append.1 hx with hx | hx
  ·exact h.right x hx
  ·rw [List.mem_singleton] at hx
   rw [hx]
def fZ (T:aA) (M:Nat→Mk) (rs:List cQ):List Int→List Int
 | []=>dO
 | x :: _=>dj (aY T M) rs x
theorem l9 {T:aA} {made:Nat} (h:TW T made) {k:Nat} {l:List Nat} (hk:(k,l)∈T):aW T T.length k=[]∨∃ q∈T,k∈q.2∧aW T T.length k=(q.1:Int) :: aW T T.length q.1:=by
 by_cases h0:k=0
 ·left
  subst h0
  cases hl:T.length with
  | zero=>rfl
  | succ n=>
   show (if aU T 0=-1 then [] else _)=_
   rw [if_pos h.root_par]
 ·obtain ⟨q,hq,hm,hp⟩:=h.up hk h0
  refine Or.inr ⟨q,hq,hm,?_⟩
  rw [h.above_any hk (j:=T.length+1) (by omega)]
  show (if aU T k=-1 then [] else aU T k :: aW T T.length (aU T k))=_
  rw [hp,if_neg (by omega)]
theorem ue {T:aA} {made:Nat} (h:TW T made) {M:Nat→Mk} {rs:List cQ} {k:Nat} {l:List Nat} (hk:(k,l)∈T):dj (aY T M) rs k=CM (aY T M) rs k (fZ T M rs (aW T T.length k)):=by
 have e1:dj (aY T M) rs k=CM (aY T M) rs k ((aW T T.length k).foldr (fun x comes=>CM (aY T M) rs x comes) dO):=rfl
 rw [e1]
 congr 1
 rcases l9 h hk with h1 | ⟨q,hq,_,h1⟩
 ·rw [h1]
  rfl
 ·rw [h1]
  rfl
theorem oK {T:aA} {made:Nat} (h:TW T made):∀ (i:Nat) {k:Nat} {l:List Nat},(k,l)∈T→∀ {x:Int},(aW T T.length k)[i]?=some x→∃ j lj,x=((j:Nat):Int)∧(j,lj)∈T∧aW T T.length x=(aW T T.length k).drop (i+1)
 | 0,k,l,hk,x,hx=>by
  rcases l9 h hk with h1 | ⟨q,hq,_,h1⟩
  ·rw [h1] at hx;cases hx
  ·rw [h1] at hx ⊢
   have:(q.1:Int)=x:=by simpa using hx
   subst this
   exact ⟨q.1,q.2,rfl,hq,rfl⟩
 | i+1,k,l,hk,x,hx=>by
  rcases l9 h hk with h1 | ⟨q,hq,_,h1⟩
  ·rw [h1] at hx;cases hx
  ·rw [h1] at hx ⊢
   rw [List.getElem?_cons_succ] at hx
   obtain ⟨j,lj,h2,h3,h4⟩:=oK h i (k:=q.1) (l:=q.2) hq hx
   exact ⟨j,lj,h2,h3,h4⟩
end Go.Proofs.YtblfffbmklkhmaaGreat
namespace Go.Proofs.YtblfffbmklkhmaaGreat
open Go.RowKit
structure TRd (w:World) (b:Nat) (a:Option Addr) (c:Nat) (els:List PEl):Prop where
 cell:w.cell? ⟨b,1,none⟩=some (.slice a els.length c)
 pl:PL w (.slice a els.length c) els
 few:els.length≤24
 nums:(els.map PEl.num).Nodup
 shp:∀ e∈els,Shp e
theorem TRd.lt {w:World} {b:Nat} {a:Option Addr} {c:Nat} {els:List PEl} (h:TRd w b a c els):b<w.heap.size:=World.block_lt_of_cell? w _ h.cell
theorem TRd.below {w w':World} {b:Nat} {a:Option Addr} {c:Nat} {els:List PEl} (h:TRd w b a c els) (hB:Below w.heap.size w w'):TRd w' b a c els:=
 ⟨(hB.cell (p:=⟨b,1,none⟩) h.lt).trans h.cell,⟨aQ h.pl.row hB,h.pl.ok⟩,h.few,h.nums,h.shp⟩
def bh (w:World) (r:Bool) (e:Ending) (w':World):Prop:=e=.returned (.bool r)∧Below w.heap.size w w'
section
set_option maxRecDepth 100000
set_option maxHeartbeats 2000000
variable (w:World) (b:Nat) (a:Option Addr) (c:Nat) (els:List PEl) (n:Int)
theorem Af (h:TRd w b a c els):Calls Tryz.prog 113 #[.pointer (some ⟨b,1,none⟩),.int .i64 n] w fun e w'=>bh w (bU els n).isSome e w':=by
 have HT:Hid (TRd w b a c els):=h
 clear h
 go_enter Tryz.func113,Tryz.ntmps113
 go_wp2_with fail
 refine (dq w b _ els n HT.out.cell HT.out.pl HT.out.few).mono ?_
 rintro e w1 ⟨hB,⟨hf,rfl⟩ | ⟨i,x,hx,hf,rfl⟩⟩
 ·have HE:Hid (bh w (bU els n).isSome (.returned (.bool false)) w1):=by rw [hf];exact ⟨rfl,hB⟩
  clear hf hB
  go_wp2
  go_ret
  exact HE.out
 ·have HE:Hid (bh w (bU els n).isSome (.returned (.bool true)) w1):=by rw [hf];exact ⟨rfl,hB⟩
  clear hf hB hx
  go_wp2
  go_ret
  exact HE.out
theorem p7 (l:Int) (h:TRd w b a c els):Calls Tryz.prog 220 #[.pointer (some ⟨b,1,none⟩),.int .i64 n,.int .u8 l] w fun e w'=>bh w (dn els n l) e w':=by
 have HT:Hid (TRd w b a c els):=h
 clear h
 go_enter Tryz.func220,Tryz.ntmps220
 go_wp2_with fail
 refine (dq w b _ els n HT.out.cell HT.out.pl HT.out.few).mono ?_
 rintro e w1 ⟨hB,⟨hf,rfl⟩ | ⟨i,x,hx,hf,rfl⟩⟩
 ·have HE:Hid (bh w (dn els n l) (.returned (.bool false)) w1):=by unfold dn;rw [hf];exact ⟨rfl,hB⟩
  clear hf hB
  go_wp2
  go_ret
  exact HE.out
 ·have HE:Hid (bh w (dn els n l) (.returned (.bool (je x==l))) w1):=by unfold dn;rw [hf];exact ⟨rfl,hB⟩
  have T1:=HT.out.below hB
  have hi:i<els.length:=(List.getElem?_eq_some_iff.1 hx).1
  have mZ:els[i]=x:=(List.getElem?_eq_some_iff.1 hx).2
  obtain ⟨g,hg,db,hr⟩:=T1.pl.at' hi
  subst hg
  have q2:w1.cell? ⟨g,i*31+2,none⟩=some (.int .u8 (je x)):=by rw [←mZ];exact hr 2 _ (T1.shp _ (List.getElem_mem hi)).kd
  have q0:=T1.cell
  have jC:(i:Int)<(els.length:Int):=by omega
  clear hf hB hx mZ hr T1
  generalize je x=kx at q2 HE
  go_wp2
  go_ret
  exact HE.out
theorem zD (l:Int) (h:TRd w b a c els):Calls Tryz.prog 227 #[.pointer (some ⟨b,1,none⟩),.int .i64 n,.int .u8 l] w fun e w'=>bh w (eW els n l) e w':=by
 have HT:Hid (TRd w b a c els):=h
 clear h
 go_enter Tryz.func227,Tryz.ntmps227
 go_wp2_with fail
 refine (dq w b _ els n HT.out.cell HT.out.pl HT.out.few).mono ?_
 rintro e w1 ⟨hB,⟨hf,rfl⟩ | ⟨i,x,hx,hf,rfl⟩⟩
 ·have HE:Hid (bh w (eW els n l) (.returned (.bool false)) w1):=by unfold eW;rw [hf];exact ⟨rfl,hB⟩
  clear hf hB
  go_wp2
  go_ret
  exact HE.out
 ·have HE:Hid (bh w (eW els n l) (.returned (.bool (iA x==l))) w1):=by unfold eW;rw [hf];exact ⟨rfl,hB⟩
  have T1:=HT.out.below hB
  have hi:i<els.length:=(List.getElem?_eq_some_iff.1 hx).1
  have mZ:els[i]=x:=(List.getElem?_eq_some_iff.1 hx).2
  obtain ⟨g,hg,db,hr⟩:=T1.pl.at' hi
  subst hg
  have q2:w1.cell? ⟨g,i*31+29,none⟩=some (.int .u8 (iA x)):=by rw [←mZ];exact hr 29 _ (T1.shp _ (List.getElem_mem hi)).nm
  have q0:=T1.cell
  have jC:(i:Int)<(els.length:Int):=by omega
  clear hf hB hx mZ hr T1
  generalize iA x=kx at q2 HE
  go_wp2
  go_ret
  exact HE.out
theorem vN (l:Int) (h:TRd w b a c els):Calls Tryz.prog 226 #[.pointer (some ⟨b,1,none⟩),.int .i64 n,.int .u8 l] w fun e w'=>bh w (dC els n l) e w':=by
 have HT:Hid (TRd w b a c els):=h
 clear h
 go_enter Tryz.func226,Tryz.ntmps226
 go_wp2_with fail
 refine (dq w b _ els n HT.out.cell HT.out.pl HT.out.few).mono ?_
 rintro e w1 ⟨hB,⟨hf,rfl⟩ | ⟨i,x,hx,hf,rfl⟩⟩
 ·have HE:Hid (bh w (dC els n l) (.returned (.bool false)) w1):=by unfold dC;rw [hf];exact ⟨rfl,hB⟩
  clear hf hB
  go_wp2
  go_ret
  exact HE.out
 ·by_cases hl:97≤l∧l≤122
  ·have HE:Hid (bh w (dC els n l) (.returned (.bool (dT x (l - 97).toNat))) w1):=by unfold dC;rw [hf];simp only [if_pos hl];exact ⟨rfl,hB⟩
   have T1:=HT.out.below hB
   have hi:i<els.length:=(List.getElem?_eq_some_iff.1 hx).1
   have mZ:els[i]=x:=(List.getElem?_eq_some_iff.1 hx).2
   obtain ⟨g,hg,db,hr⟩:=T1.pl.at' hi
   subst hg
   obtain ⟨k,rfl⟩:∃ k:Nat,l=97+k:=⟨(l - 97).toNat,by omega⟩
   have hk:k<26:=by omega
   have e1:((97:Int)+k - 97).toNat=k:=by omega
   rw [e1] at HE
   have q2:w1.cell? ⟨g,i*31+3+k,none⟩=some (.bool (dT x k)):=by rw [←mZ,Nat.add_assoc];exact hr (3+k) _ ((T1.shp _ (List.getElem_mem hi)).cl hk)
   have q0:=T1.cell
   have jC:(i:Int)<(els.length:Int):=by omega
   have d1:decide ((97:Int)+k<97)=false:=by rw [decide_eq_false_iff_not];omega
   have d2:decide ((122:Int)<97+k)=false:=by rw [decide_eq_false_iff_not];omega
   clear hf hB hx mZ hr T1 hl e1
   generalize dT x k=kx at q2 HE
   go_wp2
   go_ret
   exact HE.out
  ·have HE:Hid (bh w (dC els n l) (.returned (.bool false)) w1):=by unfold dC;rw [hf];simp only [if_neg hl];exact ⟨rfl,hB⟩
   clear hf hB hx
   by_cases h1:l<97
   ·have d1:decide (l<97)=true:=by simpa using h1
    clear hl h1
    go_wp2
    go_ret
    exact HE.out
   ·have d1:decide (l<97)=false:=by simpa using h1
    have d2:decide (122<l)=true:=by simp;omega
    clear hl h1
    go_wp2
    go_ret
    exact HE.out
end
end Go.Proofs.YtblfffbmklkhmaaGreat
