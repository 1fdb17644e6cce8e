/- Own work. -/
import Derived.Test.YtblfffbmklkhmaaGreatPi1
import Derived.Test.YtblfffbmklkhmaaGreatPi5
import Derived.Test.YtblfffbmklkhmaaGreatPi2
import Derived.Test.YtblfffbmklkhmaaGreatPi3
set_option maxRecDepth 100000
set_option maxHeartbeats 40000000
namespace Go.Proofs.YtblfffbmklkhmaaGreat
open Go.RowKit Go.Proofs.Tryz
section
variable {T:aJ}{e:Int}{j k made p:Nat}{l:List Nat}{q:Nat × List Nat}{rs:List dF}
structure oG (v v':Vw)(ok:PPt->Prop)(S:Int->Prop):Prop where
 ty:∀e,S e->∀l,v.ty e l=v'.ty e l
 sm:∀e,S e->∀p,ok p->pC v p e=pC v' p e
 ab:∀e,S e->v.ab e=v'.ab e
 ah:∀e,S e->v.ah e=v'.ah e
 sab:∀e,S e->∀x∈v.ab e,S x
 sah:∀e,S e->∀x∈v.ah e,S x
section
variable {v v':Vw}{ok:PPt->Prop}{S:Int->Prop}
theorem wf {α:Type}{f g:α->Bool}:∀{l:List α},(∀x∈l,f x=g x)->l.all f=l.all g
 | [],_=>rfl
 | x :: l,h=>by
  rw[List.all_cons,List.all_cons,h x List.mem_cons_self,wf (λy hy=>h y (List.mem_cons_of_mem _ hy))]
theorem wg {α:Type}{f g:α->Bool}:∀{l:List α},(∀x∈l,f x=g x)->l.any f=l.any g
 | [],_=>rfl
 | x :: l,h=>by
  rw[List.any_cons,List.any_cons,h x List.mem_cons_self,wg (λy hy=>h y (List.mem_cons_of_mem _ hy))]
theorem nT {α β:Type}{f g:β->α->β}:∀{l:List α} {b:β},(∀x∈l,∀b,f b x=g b x)->l.foldl f b=l.foldl g b
 | [],_,_=>rfl
 | x :: l,b,h=>by
  rw[List.foldl_cons,List.foldl_cons,h x List.mem_cons_self b,nT (λy hy=>h y (List.mem_cons_of_mem _ hy))]
theorem rD {α β:Type}{f g:α->β->β}:∀{l:List α} {b:β},(∀x∈l,∀b,f x b=g x b)->l.foldr f b=l.foldr g b
 | [],_,_=>rfl
 | x :: l,b,h=>by
  rw[List.foldr_cons,List.foldr_cons,rD (λy hy=>h y (List.mem_cons_of_mem _ hy)),h x List.mem_cons_self]
theorem C1 (h:oG v v' ok S)(he:S e){c:d9}(hc:∀p∈c.ps,ok p):lP v c e=lP v' c e:=by
 unfold lP;rw[h.ty e he,wf (λp hp=>by rw[h.sm e he p (hc p hp)])]
theorem x0 (h:oG v v' ok S)(he:S e)(sg:Int):fh v sg e=fh v' sg e/\∀x∈fh v sg e,S x:=by
 refine⟨?_,λx hx=>?_⟩
 ·unfold fh;rw[h.ab e he,h.ah e he]
 ·unfold fh at hx;split at hx
  ·exact h.sab e he x hx
  ·split at hx
   ·exact h.sab e he x (List.mem_of_mem_take hx)
   ·split at hx
    ·exact h.sah e he x hx
    ·split at hx
     ·exact h.sah e he x (List.mem_of_mem_take hx)
     ·cases hx
theorem zr (h:oG v v' ok S):∀(cs:List d9),(∀c∈cs,∀p∈c.ps,ok p)->∀e,S e->kC v cs e=kC v' cs e
 | [],_,_,_=>rfl
 | [c],hc,_,he=>C1 h he (hc c List.mem_cons_self)
 | c :: d :: r,hc,e,he=>by
  show(lP v c e&&(fh v c.sg e).any (kC v (d :: r)))=(lP v' c e&&(fh v' c.sg e).any (kC v' (d :: r)));rw[C1 h he (hc c List.mem_cons_self),<-(x0 h he c.sg).1,wg (λx hx=>zr h (d :: r) (λc' QE=>hc c' (List.mem_cons_of_mem _ QE)) x ((x0 h he c.sg).2 x hx))]
theorem Kw (h:oG v v' ok S){cs:List d9}(hc:∀c∈cs,∀p∈c.ps,ok p)(he:S e):qG v cs e=qG v' cs e:=zr h _ (λc hx=>hc c (List.mem_reverse.1 hx)) e he
theorem LC (h:oG v v' ok S){ss:List (List d9)}(hc:∀cs∈ss,∀c∈cs,∀p∈c.ps,ok p)(he:S e):fq v e ss=fq v' e ss:=by
 unfold fq;refine nT λcs kf a=>?_;unfold jq;rw[Kw h (hc cs kf) he]
theorem E4 (h:oG v v' ok S)(hc:∀r∈rs,∀cs∈r.ss,∀c∈cs,∀p∈c.ps,ok p)(he:S e):fi v rs e=fi v' rs e:=by
 unfold fi;refine nT λr hr W=>?_;unfold gM;rw[LC h (hc r hr) he]
theorem Pa (h:oG v v' ok S)(hc:∀r∈rs,∀cs∈r.ss,∀c∈cs,∀p∈c.ps,ok p)(he:S e)(akc:List Int):GD v rs e akc=GD v' rs e akc:=by
 unfold GD;rw[E4 h hc he]
theorem AR (h:oG v v' ok S)(hc:∀r∈rs,∀cs∈r.ss,∀c∈cs,∀p∈c.ps,ok p)(he:S e):dM v rs e=dM v' rs e:=by
 unfold dM;rw[h.ab e he,Pa h hc he,rD (λx hx b=>Pa h hc (h.sab e he x (by rw[h.ab e he];exact hx)) b)]
end
theorem vZ (T:aJ):∀(j i:Nat) (e:Int),gY T (j+1) e<0->aX T j e=aX T (j+i) e
 | 0,0,_,_=>rfl
 | 0,i+1,e,h=>by
  have h1:aY T e<0:=h
  have h2:aY T e=-1:=by
   rcases cP T e with⟨h3,_⟩ | ⟨q,_,_,h3⟩
   ·exact h3
   ·omega
  rw[Nat.zero_add];show[]=if aY T e=-1 then[] else _
  rw[aq h2]
 | j+1,i,e,h=>by
  have e1:j+1+i=(j+i)+1:=by omega
  rw[e1];show(if aY T e=-1 then[] else aY T e :: aX T j (aY T e))=(if aY T e=-1 then[] else aY T e :: aX T (j+i) (aY T e));rw[vZ T j i (aY T e) h]
theorem TW.up_end (h:TW T made)(hk:(k,l)∈T)(hj:T.length<=j):gY T j k<0:=by
 obtain⟨rk,hr⟩:=h.rank;rcases Int.lt_or_le (gY T j k) 0 with h1 | h1
 ·exact h1
 ·obtain⟨L,hL,hd,jS,_⟩:=h.chain hr h1 j k ⟨l,hk⟩ rfl
  have:=dw hd (m:=T.map Prod.fst) (λx hx=>by
   obtain⟨c,hc⟩:=jS x hx;exact bm.2 ⟨_,hc,rfl⟩)
  simp at this;omega
theorem TW.above_any (h:TW T made)(hk:(k,l)∈T)(hj:T.length<=j):aX T T.length k=aX T j k:=by
 have:=vZ T T.length (j - T.length) k (h.up_end hk (by omega));rw[this]
 congr 1
 omega
def AS (T:aJ)(p:Nat):List Nat:=if aY T p<0 then[p] else(ec T (aY T p)).dropWhile λ(k:Nat)=>decide (¬k=p)
def mh (T:aJ)(p:Nat)(x:Nat):Prop:=∃t∈AS T p,dD T t x
theorem ti (hp:p∈l):∃A B,l=A++p :: B/\p ∉ A/\(l.dropWhile λ(k:Nat)=>decide (¬k=p))=p :: B:=by
 induction l with
 | nil=>cases hp
 | cons x l ih=>
  by_cases h:x=p
  ·subst h;exact⟨[],l,rfl,by simp,by simp⟩
  ·rcases List.mem_cons.1 hp with h1 | h1
   ·exact absurd h1.symm h
   ·obtain⟨A,B,h2,h3,h4⟩:=ih h1;refine⟨x :: A,B,by rw[h2];rfl,by rw[List.mem_cons];exact λh5=>h5.elim (λh6=>h h6.symm) h3,?_⟩;rw[List.dropWhile_cons_of_pos (by simpa using h)];exact h4
theorem MJ (hn:l.Nodup)(hp:p∈l)(hk:k∈l)(hj:j∈l.takeWhile λ(x:Nat)=>decide (¬(x:Int)=(k:Int)))(hjd:j∈l.dropWhile λ(x:Nat)=>decide (¬x=p)):k∈l.dropWhile λ(x:Nat)=>decide (¬x=p):=by
 obtain⟨A,B,h1,_,h2⟩:=ti hp;rw[h2] at hjd ⊢;rw[h1,List.mem_append] at hk;rcases hk with hk | hk
 ·exfalso;obtain⟨C,D,h3,_,_⟩:=ti hk
  have h4:∀x∈(l.takeWhile λ(x:Nat)=>decide (¬(x:Int)=(k:Int))),x∈C:=by
   intro x hx;rw[h1,h3,List.append_assoc] at hx
   have:∀(C:List Nat) (E:List Nat),x∈((C++(k :: E)).takeWhile λ(x:Nat)=>decide (¬(x:Int)=(k:Int)))->x∈C:=by
    intro C E
    induction C with
    | nil=>intro h;simp at h
    | cons c C ih=>
     intro h;rw[List.cons_append,List.takeWhile_cons] at h;split at h
     ·rcases List.mem_cons.1 h with rfl | h
      ·exact List.mem_cons_self
      ·exact List.mem_cons_of_mem _ (ih h)
     ·cases h
   exact this C _ hx
  have h5:j∈A:=by rw[h3];exact List.mem_append_left _ (h4 j hj)
  rw[h1,List.nodup_append] at hn;exact hn.2.2 j h5 j hjd rfl
 ·exact hk
section
variable {T T':aJ}{made made':Nat}
theorem fZ (h:TW T made){q:Nat}(hq:(q,l)∈T):ec T q=l:=by
 unfold ec;rw[dZ h.nums hq];rfl
theorem AT (h:TW T made)(_hp:(p,l)∈T):p∈AS T p:=by
 unfold AS;split
 ·simp
 ·rename_i h0;rcases cP T p with⟨h1,_⟩ | ⟨q,hq,h1,h2⟩
  ·omega
  ·rw[h2,fZ h (q:=q.1) (l:=q.2) hq];obtain⟨A,B,_,_,h3⟩:=ti (it.1 h1);rw[h3];exact List.mem_cons_self
theorem pn (h:TW T made)(hp:(p,l)∈T):mh T p p:=⟨p,AT h hp,iu T p⟩
theorem IQ (h:TW T made)(hq:q∈T)(hk:k∈q.2)(hr:mh T p q.1):mh T p k:=by
 obtain⟨t,ht,hu⟩:=hr;exact⟨t,ht,(h.under_kid hq hk t).2 (ai hu)⟩
theorem K8 (h:TW T made)(hp:(p,l)∈T)(hq:q∈T)(hk:k∈q.2)(hj:j∈q.2.takeWhile λ(x:Nat)=>decide (¬(x:Int)=(k:Int)))(hr:mh T p j):mh T p k:=by
 have hjm:j∈q.2:=(List.takeWhile_sublist _).subset hj;obtain⟨t,ht,hu⟩:=hr;rcases(h.under_kid hq hjm t).1 hu with h1 | h1
 ·subst h1;unfold AS at ht;split at ht
  ·rename_i h0;rw[fg] at ht;subst ht;have:=h.parent hq hjm;omega
  ·rename_i h0;rcases cP T p with⟨h1,_⟩ | ⟨f,hf,h1,h2⟩
   ·omega
   ·have Cs:=it.1 h1
    have hfq:f=q:=by
     rw[h2,fZ h (q:=f.1) (l:=f.2) hf] at ht;exact h.one f hf q hq j ((List.dropWhile_sublist _).subset ht) hjm
    subst hfq;rw[h2,fZ h (q:=f.1) (l:=f.2) hf] at ht;refine⟨k,?_,iu T k⟩;unfold AS;rw[aj h0,h2,fZ h (q:=f.1) (l:=f.2) hf];exact MJ (h.kdup f hf) Cs hk hj ht
 ·exact⟨t,ht,(h.under_kid hq hk t).2 (ai h1)⟩
structure Bf (T:aJ)(R:Nat->Prop):Prop where
 kid:∀q∈T,∀k∈q.2,R q.1->R k
 next:∀q∈T,∀k∈q.2,∀j∈q.2.takeWhile (λ(x:Nat)=>decide (¬(x:Int)=(k:Int))),R j->R k
theorem pB (h:TW T made)(hp:(p,l)∈T):Bf T (mh T p):=⟨λ_ hq _ hk hr=>IQ h hq hk hr,λ_ hq _ hk _ hj hr=>K8 h hp hq hk hj hr⟩
theorem S5 {R R':Nat->Prop}(h:Bf T R)(h':Bf T R'):Bf T (λk=>R k∨R' k):=⟨λq hq k hk hr=>hr.imp (h.kid q hq k hk) (h'.kid q hq k hk),λq hq k hk j hj hr=>hr.imp (h.next q hq k hk j hj) (h'.next q hq k hk j hj)⟩
theorem Cc:Bf T (λ_=>False):=⟨λ_ _ _ _ h=>h,λ_ _ _ _ _ _ h=>h⟩
variable {M M':Nat->Mk}{R:Nat->Prop}{ok:PPt->Prop}
def Qz (T:aJ)(R:Nat->Prop)(e:Int):Prop:=∃k l,e=(k:Nat)/\(k,l)∈T/\¬R k
theorem xt (h:TW T made)(h':TW T' made')(hs:Bf T R)(jS:∀k l,(k,l)∈T->¬R k->(k,l)∈T')(hk:(k,l)∈T)(hr:¬R k):aY T' k=aY T k/\(aY T k=-1∨∃q∈T,k∈q.2/\aY T k=q.1/\¬R q.1/\q∈T'):=by
 by_cases h0:k=0
 ·subst h0;exact⟨h'.root_par.trans h.root_par.symm,af h.root_par⟩
 ·obtain⟨q,hq,hm,hp⟩:=h.up hk h0;have Sp:¬R q.1:=λhx=>hr (hs.kid q hq k hm hx);have zV:=jS q.1 q.2 hq Sp;exact⟨by rw[hp];exact h'.parent zV hm,ai ⟨q,hq,hm,hp,Sp,zV⟩⟩
theorem qr (h:TW T made)(h':TW T' made')(hs:Bf T R)(jS:∀k l,(k,l)∈T->¬R k->(k,l)∈T'):∀(n k:Nat) (l:List Nat),(k,l)∈T->¬R k->aX T n k=aX T' n k/\∀x∈aX T n k,Qz T R x
 | 0,_,_,_,_=>⟨rfl,λx hx=>by cases hx⟩
 | n+1,k,l,hk,hr=>by
  obtain⟨h1,h2⟩:=xt h h' hs jS hk hr;show(if aY T k=-1 then[] else aY T k :: aX T n (aY T k))=(if aY T' k=-1 then[] else aY T' k :: aX T' n (aY T' k))/\∀x∈(if aY T k=-1 then[] else aY T k :: aX T n (aY T k)),Qz T R x;rw[h1];rcases h2 with h2 | ⟨q,hq,hm,hp,Sp,zV⟩
  ·rw[aq h2,aq h2];exact⟨rfl,λx hx=>by cases hx⟩
  ·have fY:¬aY T k=-1:=by omega
   rw[aj fY,aj fY,hp];obtain⟨h3,h4⟩:=qr h h' hs jS n q.1 q.2 hq Sp;refine⟨by rw[h3],λx hx=>?_⟩;rcases List.mem_cons.1 hx with rfl | hx
   ·exact⟨q.1,q.2,rfl,hq,Sp⟩
   ·exact h4 x hx
theorem EO (h:TW T made)(h':TW T' made')(hs:Bf T R)(jS:∀k l,(k,l)∈T->¬R k->(k,l)∈T')(hk:(k,l)∈T)(hr:¬R k):ec T (aY T k)=ec T' (aY T' k):=by
 obtain⟨h1,h2⟩:=xt h h' hs jS hk hr;rw[h1];rcases h2 with h2 | ⟨q,hq,hm,hp,Sp,zV⟩
 ·rw[h2]
  have:∀T:aJ,ec T (-1)=[]:=λT=>by
   unfold ec;cases ht:bw T (-1) with
   | none=>rfl
   | some l=>
    obtain⟨k,hk,_⟩:=gj ht;omega
  rw[this,this]
 ·rw[hp,fZ h (q:=q.1) (l:=q.2) hq,fZ h' (q:=q.1) (l:=q.2) zV]
theorem j6 (h:TW T made)(h':TW T' made')(hs:Bf T R)(jS:∀k l,(k,l)∈T->¬R k->(k,l)∈T')
  (VF:∀k l,(k,l)∈T->¬R k->(M k).kd=(M' k).kd) (lL:∀k l,(k,l)∈T->¬R k->∀p,ok p->p.kd=2->97<=p.lt->p.lt<=122->(M k).cl (p.lt - 97).toNat=(M' k).cl (p.lt - 97).toNat) (uf:∀k l,(k,l)∈T->¬R k->∀p,ok p->p.kd=3->((M k).nm==p.lt)=((M' k).nm==p.lt)) :
  oG (bg T M) (bg T' M') ok (Qz T R):=by
 have hty:∀e,Qz T R e->∀l,fJ T M e l=fJ T' M' e l:=by
  rintro _ ⟨k,l,rfl,hk,hr⟩ x;unfold fJ;rw[dZ h.nums hk,dZ h'.nums (jS k l hk hr),Int.toNat_natCast,VF k l hk hr]
 have hah:∀e,Qz T R e->dG T e=dG T' e:=by
  rintro _ ⟨k,l,rfl,hk,hr⟩;unfold dG;rw[dZ h.nums hk,dZ h'.nums (jS k l hk hr),EO h h' hs jS hk hr]
 refine⟨hty,?_,?_,hah,?_,?_⟩
 ·rintro _ ⟨k,l,rfl,hk,hr⟩ p hp;have ht:=dZ h.nums hk;have QL:=dZ h'.nums (jS k l hk hr);have e1:=hty k ⟨k,l,rfl,hk,hr⟩ p.lt;have e4:=hah k ⟨k,l,rfl,hk,hr⟩
  have e2:p.kd=2->eN T M k p.lt=eN T' M' k p.lt:=λh2=>by
   unfold eN;rw[ht,QL,Int.toNat_natCast]
   by_cases hl:97<=p.lt/\p.lt<=122
   ·rw[lL k l hk hr p hp h2 hl.1 hl.2]
   ·rw[decide_eq_false hl];rfl
  have e3:p.kd=3->fI T M k p.lt=fI T' M' k p.lt:=λh3=>by
   unfold fI;rw[ht,QL,Int.toNat_natCast,uf k l hk hr p hp h3]
  have e5:qe T k=qe T' k:=by
   unfold qe;rw[ht,QL,EO h h' hs jS hk hr]
  have e6:mm T k=mm T' k:=by
   unfold mm;rw[ht,QL,fZ h hk,fZ h' (jS k l hk hr)]
  unfold pC;show(if p.kd=1 then fJ T M k p.lt else if p.kd=2 then eN T M k p.lt else if p.kd=3 then fI T M k p.lt else if p.kd=4 then decide (((dG T k).length:Int)+1=1) else if p.kd=5 then qe T k else if p.kd=6 then mm T k else if p.kd=7 then m9 (((dG T k).length:Int)+1) p.st p.sr else false)=(if p.kd=1 then fJ T' M' k p.lt else if p.kd=2 then eN T' M' k p.lt else if p.kd=3 then fI T' M' k p.lt else if p.kd=4 then decide (((dG T' k).length:Int)+1=1) else if p.kd=5 then qe T' k else if p.kd=6 then mm T' k else if p.kd=7 then m9 (((dG T' k).length:Int)+1) p.st p.sr else false);rw[e1,e4,e5,e6]
  by_cases h2:p.kd=2
  ·rw[e2 h2]
   by_cases h3:p.kd=3
   ·omega
   ·rw[aj h3,aj h3]
  ·rw[aj h2,aj h2]
   by_cases h3:p.kd=3
   ·rw[e3 h3]
   ·rw[aj h3,aj h3]
 ·rintro _ ⟨k,l,rfl,hk,hr⟩;show aX T T.length k=aX T' T'.length k;rw[h.above_any hk (j:=T.length+T'.length) (by omega),h'.above_any (jS k l hk hr) (j:=T.length+T'.length) (by omega)];exact(qr h h' hs jS _ k l hk hr).1
 ·rintro _ ⟨k,l,rfl,hk,hr⟩;exact(qr h h' hs jS T.length k l hk hr).2
 ·rintro _ ⟨k,l,rfl,hk,hr⟩ x hx;have DK:x∈dG T k:=hx;unfold dG at DK;rw[dZ h.nums hk,Option.isSome_some,aq rfl,List.mem_reverse,bm] at DK;obtain⟨j,hj,rfl⟩:=DK;obtain⟨_,h2⟩:=xt h h' hs jS hk hr;rcases h2 with h2 | ⟨q,hq,hm,hp,Sp,zV⟩
  ·rw[h2] at hj
   have:ec T (-1)=[]:=by
    unfold ec;cases ht:bw T (-1) with
    | none=>rfl
    | some l=>
     obtain⟨k,hk,_⟩:=gj ht;omega
   rw[this] at hj;cases hj
  ·rw[hp,fZ h (q:=q.1) (l:=q.2) hq] at hj;obtain⟨lj,Gk⟩:=h.kin q hq j ((List.takeWhile_sublist _).subset hj);exact⟨j,lj,rfl,Gk,λhx=>hr (hs.next q hq k hm j hj hx)⟩
end
def Ht (els:List PEl)(n:Int)(k:Nat):Prop:=∃i x,els[i]?=some x/\(x.num:Int)=n/\∃t∈els.drop i,t.par=x.par/\∃y∈els,y.num=k/\∃j,j<els.length/\upP els j y.num=t.num
theorem NQ (l:List Nat)(p:Nat):(l.dropWhile λ(k:Nat)=>decide (¬k=p))=l.dropWhile λ(k:Nat)=>decide (¬(k:Int)=(p:Int)):=by
 congr 1
 funext k
 congr 1
 rw[eq_iff_iff];omega
theorem PQ {els:List PEl}(h:PT els T)(hw:TW T made){lk:List Nat}(hp:(p,l)∈T)(hk:(k,lk)∈T)(hr:mh T p k):Ht els p k:=by
 obtain⟨t,ht,hu⟩:=hr;obtain⟨x,hx,L7⟩:=h.of' p l hp;obtain⟨i,hi,hxi⟩:=List.getElem_of_mem hx;have hix:els[i]?=some x:=by rw[bO hi,hxi]
 obtain⟨y,hy,zY⟩:=h.of' k lk hk
 have hxd:x∈els.drop i:=by
  rw[List.drop_eq_getElem_cons hi,hxi];exact List.mem_cons_self
 refine⟨i,x,hix,by rw[L7],?_⟩
 have nF:∃z∈els.drop i,z.par=x.par/\z.num=t:=by
  unfold AS at ht;split at ht
  ·rw[fg] at ht;exact⟨x,hxd,rfl,by rw[L7,ht]⟩
  ·rename_i h0;have eZ:=h.par hw hx;have fY:x.par≠-1:=by rw[eZ,L7];omega
   have e1:=qD h hw hx fY;rw[L7] at e1;rw[e1,NQ,<-L7,(lJ h.nums hix).2] at ht;rcases List.mem_cons.1 ht with h1 | h1
   ·exact⟨x,hxd,rfl,h1.symm⟩
   ·rw[fK] at h1;obtain⟨z,hz,h2,h3⟩:=h1;exact⟨z,List.mem_of_mem_drop (i:=1) (by rw[List.drop_drop];exact hz),h2,h3⟩
 obtain⟨z,hz,h1,h2⟩:=nF;refine⟨z,hz,h1,y,hy,zY,?_⟩;rw[<-zY] at hu;rw[h2];exact(nf h hw hy (a:=t) (by omega)).2 hu
end
section
variable {M:Nat->Mk}{T:aJ}{a k made p:Nat}{l la:List Nat}{q:Nat × List Nat}{rs:List dF}
structure KOK (T:aJ)(M:Nat->Mk)(rs:List dF)(kl:List (Int × List Int)):Prop where
 nums:(kl.map Prod.fst).Nodup
 els:∀x∈kl,∃k l,x.1=((k:Nat):Int)/\(k,l)∈T
 right:∀x∈kl,x.2=dM (bg T M) rs x.1
theorem lG (v:Vw)(rs:List dF)(e:Int):(dM v rs e).length=9:=by
 unfold dM GD;rw[List.length_map,List.length_range]
section
variable {T T':aJ}{made made':Nat}{M M':Nat->Mk}{rs:List dF}{kl dh:List (Int × List Int)}{R:Nat->Prop}{ok:PPt->Prop}
theorem Iu:KOK T M rs []:=⟨by simp,λ_ h=>(by cases h),λ_ h=>by cases h⟩
theorem KOK.len (h:KOK T M rs kl):kl.length<=T.length:=by
 have h1:(kl.map λx=>x.1.toNat).Nodup:=by
  have h2:=h.nums;have h3:=h.els;clear h
  induction kl with
  | nil=>simp
  | cons x l ih=>
   rw[List.map_cons,List.nodup_cons] at h2 ⊢;refine⟨λhm=>?_,ih h2.2 (λy hy=>h3 y (List.mem_cons_of_mem _ hy))⟩;obtain⟨y,hy,he⟩:=bm.1 hm;obtain⟨k,_,hk,_⟩:=h3 x List.mem_cons_self;obtain⟨j,_,hj,_⟩:=h3 y (List.mem_cons_of_mem _ hy);exact h2.1 (bm.2 ⟨y,hy,by omega⟩)
 have:=dw h1 (m:=T.map Prod.fst) (λk hk=>by
  obtain⟨x,hx,rfl⟩:=bm.1 hk;obtain⟨j,l,hj,hl⟩:=h.els x hx;exact bm.2 ⟨_,hl,by show j=_;omega⟩)
 simpa using this
theorem KOK.sub (h:KOK T M rs kl)(hs:dh.Sublist kl):KOK T M rs dh:=⟨h.nums.sublist (hs.map _),λx hx=>h.els x (hs.subset hx),λx hx=>h.right x (hs.subset hx)⟩
theorem KOK.fwd (h:KOK T M rs kl)(hv:oG (bg T' M') (bg T M) ok (Qz T' R))(qA:∀r∈rs,∀cs∈r.ss,∀c∈cs,∀p∈c.ps,ok p)(hs:dh.Sublist kl)(ho:∀x∈dh,Qz T' R x.1):KOK T' M' rs dh:=
 ⟨h.nums.sublist (hs.map _),λx hx=>by obtain⟨k,l,h1,h2,_⟩:=ho x hx;exact⟨k,l,h1,h2⟩,λx hx=>by rw[h.right x (hs.subset hx),AR hv qA (ho x hx)]⟩
theorem KOK.bwd (h:KOK T M rs kl)(hv:oG (bg T M) (bg T' M') ok (Qz T R))(qA:∀r∈rs,∀cs∈r.ss,∀c∈cs,∀p∈c.ps,ok p)(hs:dh.Sublist kl)(ho:∀x∈dh,Qz T R x.1)(ht:∀x∈dh,∃k l,x.1=((k:Nat):Int)/\(k,l)∈T'):KOK T' M' rs dh:=
 ⟨h.nums.sublist (hs.map _),ht,λx hx=>by rw[h.right x (hs.subset hx),AR hv qA (ho x hx)]⟩
theorem KOK.marks (h:KOK T M rs kl)(hw:TW T made)(hm:∀k l,(k,l)∈T->M k=M' k):KOK T M' rs kl:=
 h.fwd (j6 (ok:=λ_=>True) hw hw Cc (λ_ _ hk _=>hk) (λk l hk _=>by rw[hm k l hk]) (λk l hk _ p _ _ _ _=>by rw[hm k l hk]) (λk l hk _ p _ _=>by rw[hm k l hk])) (λ_ _ _ _ _ _ _ _=>trivial) (List.Sublist.refl _) (λx hx=>by
  obtain⟨k,l,h1,h2⟩:=h.els x hx;exact⟨k,l,h1,h2,id⟩)
theorem KOK.ins (h:KOK T M rs kl)(hw:TW T made)(hp:(p,l)∈T)(mk:Mk)(hs:dh.Sublist kl)(ho:∀x∈dh,∀j:Nat,x.1=j->¬mh (lH T p k made) p j):KOK (lH T p k made) (bM M made mk) rs dh:=by
 have vb:TW (lH T p k made) (made+1):=hw.ins ⟨l,hp⟩;have lU:p<made:=hw.lt _ hp;have ui:(p,cY l k made)∈lH T p k made:=cE.2 (af ⟨(p,l),hp,rfl,by simp⟩);have Io:=pn vb ui;have mW:mh (lH T p k made) p made:=IQ vb ui (xf.2 (af rfl)) Io
 have jS:∀k' l',(k',l')∈lH T p k made->¬mh (lH T p k made) p k'->(k',l')∈T:=by
  intro k' l' hk hr;rcases cE.1 hk with⟨x,hx,h1,h2⟩ | h1
  ·have sJ:k'=x.1:=h1;have F8:l'=if x.1=p then cY x.2 k made else x.2:=h2
   have fY:¬x.1=p:=λe=>hr (by rw[sJ,e];exact Io);rw[aj fY] at F8;rw[sJ,F8];exact hx
  ·injection h1 with h1 _
   exact absurd (by rw[h1];exact mW) hr
 have Fi:∀k' l',(k',l')∈lH T p k made->¬mh (lH T p k made) p k'->bM M made mk k'=M k':=λk' l' _ hr=>by
  unfold bM;rw[aj (λe=>hr (by rw[e];exact mW))]
 refine h.fwd (j6 (ok:=λ_=>True) vb hw (pB vb ui) jS (λk' l' h1 h2=>by rw[Fi k' l' h1 h2]) (λk' l' h1 h2 p _ _ _ _=>by rw[Fi k' l' h1 h2]) (λk' l' h1 h2 p _ _=>by rw[Fi k' l' h1 h2])) (λ_ _ _ _ _ _ _ _=>trivial) hs (λx hx=>?_);obtain⟨j,lj,h1,h2⟩:=h.els x (hs.subset hx);exact⟨j,if j=p then cY lj k made else lj,h1,cE.2 (af ⟨(j,lj),h2,rfl,rfl⟩),ho x hx j h1⟩
theorem EW {b c:Nat}(h1:dD T a b)(h2:dD T b c):dD T a c:=by
 obtain⟨h0,k,hk⟩:=h1;obtain⟨_,j,hj⟩:=h2;exact⟨h0,j+k,by rw[pV,hj,hk]⟩
theorem KOK.rem (h:KOK T M rs kl)(hw:TW T made)(ha:(a,la)∈T)(h0:a≠0)(hq:q∈T)(hm:a∈q.2)(hs:dh.Sublist kl)(ho:∀x∈dh,∀j:Nat,x.1=j->¬mh T q.1 j):KOK (j8 T a) M rs dh:=by
 have vb:=hw.rem ha h0;have hp:=hw.parent hq hm;have Io:=pn hw (p:=q.1) (l:=q.2) hq
 have jS:∀k' l',(k',l')∈T->¬mh T q.1 k'->(k',l')∈j8 T a:=by
  intro k' l' hk hr;refine(ed hp).2 ⟨(k',l'),hk,λhu=>hr ?_,rfl,?_⟩
  ·refine⟨q.1,AT hw (l:=q.2) hq,EW ?_ hu⟩;exact(hw.under_kid hq hm q.1).2 (ai (iu T q.1))
  ·show l'=if k'=q.1 then _ else l'
   rw[aj (λe=>hr (by rw[e];exact Io))]
 have DE:∀x∈dh,Qz T (mh T q.1) x.1:=λx hx=>by
  obtain⟨j,lj,h1,h2⟩:=h.els x (hs.subset hx);exact⟨j,lj,h1,h2,ho x hx j h1⟩
 refine h.bwd (j6 (ok:=λ_=>True) hw vb (pB hw (l:=q.2) hq) jS (λ_ _ _ _=>rfl) (λ_ _ _ _ _ _ _ _ _=>rfl) (λ_ _ _ _ _ _ _=>rfl)) (λ_ _ _ _ _ _ _ _=>trivial) hs DE (λx hx=>?_);obtain⟨j,lj,h1,h2,h3⟩:=DE x hx;exact⟨j,lj,h1,jS j lj h2 h3⟩
theorem KOK.mov (h:KOK T M rs kl)(hw:TW T made){lp:List Nat}(ha:(a,la)∈T)(h0:a≠0)(yO:(p,lp)∈T)(Kd:¬dD T a p)(hq:q∈T)(hm:a∈q.2)(hs:dh.Sublist kl)(ho:∀x∈dh,∀j:Nat,x.1=j->¬mh (lI T a p k) q.1 j/\¬mh (lI T a p k) p j):KOK (lI T a p k) M rs dh:=by
 have vb:TW (lI T a p k) made:=hw.mov ha h0 yO Kd;have kA:=hw.parent hq hm;have mem:∀j lj,(j,lj)∈T->∃l,(j,l)∈lI T a p k:=λj lj hj=>⟨if j=p then cY (aw a (if j=q.1 then aw a lj else lj)) k a else if j=q.1 then aw a lj else lj,(dX kA).2 ⟨(j,lj),hj,rfl,rfl⟩⟩;obtain⟨lq,zV⟩:=mem q.1 q.2 hq;obtain⟨lp',ui⟩:=mem p lp yO
 have jS:∀k' l',(k',l')∈lI T a p k->¬(mh (lI T a p k) q.1 k'∨mh (lI T a p k) p k')->(k',l')∈T:=by
  intro k' l' hk hr;obtain⟨x,hx,h1,h2⟩:=(dX kA).1 hk;have sJ:k'=x.1:=h1;have Cq:¬x.1=p:=λe=>hr (ai (by rw[sJ,e];exact pn vb ui));have zR:¬x.1=q.1:=λe=>hr (af (by rw[sJ,e];exact pn vb zV))
  have F8:l'=x.2:=by
   have h3:l'=if x.1=p then cY (aw a (if x.1=q.1 then aw a x.2 else x.2)) k a else if x.1=q.1 then aw a x.2 else x.2:=h2
   rw[aj Cq,aj zR] at h3;exact h3
  rw[sJ,F8];exact hx
 refine h.fwd (j6 (ok:=λ_=>True) vb hw (S5 (pB vb zV) (pB vb ui)) jS (λ_ _ _ _=>rfl) (λ_ _ _ _ _ _ _ _ _=>rfl) (λ_ _ _ _ _ _ _=>rfl)) (λ_ _ _ _ _ _ _ _=>trivial) hs (λx hx=>?_);obtain⟨j,lj,h1,h2⟩:=h.els x (hs.subset hx);obtain⟨l,hl⟩:=mem j lj h2;have:=ho x hx j h1;exact⟨j,l,h1,hl,λh3=>h3.elim this.1 this.2⟩
theorem KOK.mark (h:KOK T M rs kl)(hw:TW T made)(hp:(p,l)∈T)(mk:Mk)(hs:dh.Sublist kl)(ho:∀x∈dh,∀j:Nat,x.1=j->¬mh T p j):KOK T (bM M p mk) rs dh:=by
 have Fi:∀k' l',(k',l')∈T->¬mh T p k'->bM M p mk k'=M k':=λk' l' _ hr=>by
  unfold bM;rw[aj (λe=>hr (by rw[e];exact pn hw hp))]
 refine h.fwd (j6 (ok:=λ_=>True) hw hw (pB hw hp) (λ_ _ hk _=>hk) (λk' l' h1 h2=>by rw[Fi k' l' h1 h2]) (λk' l' h1 h2 p _ _ _ _=>by rw[Fi k' l' h1 h2]) (λk' l' h1 h2 p _ _=>by rw[Fi k' l' h1 h2])) (λ_ _ _ _ _ _ _ _=>trivial) hs (λx hx=>?_);obtain⟨j,lj,h1,h2⟩:=h.els x (hs.subset hx);exact⟨j,lj,h1,h2,ho x hx j h1⟩
def dt (rs:List dF)(kd lt:Int):Bool:=rs.any λr=>r.ss.any λcs=>cs.any λc=>c.ps.any λp=>decide (p.kd=kd)&&decide (p.lt=lt)
theorem xg {kd lt:Int}(h:dt rs kd lt=false):∀r∈rs,∀cs∈r.ss,∀c∈cs,∀p∈c.ps,¬(p.kd=kd/\p.lt=lt):=by
 intro r hr cs kf c hc p hp hx;unfold dt at h;rw[List.any_eq_false] at h;have h1:=h r hr;rw[Bool.not_eq_true,List.any_eq_false] at h1;have h2:=h1 cs kf;rw[Bool.not_eq_true,List.any_eq_false] at h2;have h3:=h2 c hc;rw[Bool.not_eq_true,List.any_eq_false] at h3;have h4:=h3 p hp;rw[hx.1,hx.2] at h4;simp at h4
theorem KOK.cls (h:KOK T M rs kl)(hw:TW T made)(s:ByteArray)(on:Bool)(nU:dt rs 2 (bt s 0)=false∨(97<=bt s 0/\(M p).cl (bt s 0 - 97)=on)):KOK T (bM M p (kj (M p) s on)) rs kl:=by
 have VF:∀k,(bM M p (kj (M p) s on) k).kd=(M k).kd:=λk=>by
  unfold bM;split
  ·rename_i e;rw[e];rfl
  ·rfl
 have uf:∀k,(bM M p (kj (M p) s on) k).nm=(M k).nm:=λk=>by
  unfold bM;split
  ·rename_i e;rw[e];rfl
  ·rfl
 refine h.fwd (R:=λ_=>False) (j6 (ok:=λx=>dt rs 2 (bt s 0)=false->¬(x.kd=2/\x.lt=bt s 0)) hw hw Cc (λ_ _ hk _=>hk) (λk l _ _=>VF k) (λk l _ _ x hx h2 h3 h4=>?_) (λk l _ _ x _ _=>by rw[uf])) (λr hr cs kf c hc x hx hf=>xg hf r hr cs kf c hc x hx) (List.Sublist.refl _) (λx hx=>by
  obtain⟨k,l,h1,h2⟩:=h.els x hx;exact⟨k,l,h1,h2,id⟩)
 unfold bM;split
 ·rename_i e;rw[e];show(if(x.lt - 97).toNat+97=bt s 0 then on else(M p).cl (x.lt - 97).toNat)=_;split
  ·rename_i e2;rcases nU with nU | ⟨_,nU⟩
   ·exact absurd ⟨h2,by omega⟩ (hx nU)
   ·rw[<-nU]
    congr 1
    omega
  ·rfl
 ·rfl
theorem KOK.nam (h:KOK T M rs kl)(hw:TW T made)(s:ByteArray)(nU:(M p).nm=(fM (M p) s).nm∨(dt rs 3 (M p).nm=false/\dt rs 3 (fM (M p) s).nm=false)):KOK T (bM M p (fM (M p) s)) rs kl:=by
 have VF:∀k,(bM M p (fM (M p) s) k).kd=(M k).kd:=λk=>by
  unfold bM;split
  ·rename_i e;rw[e];rfl
  ·rfl
 have lL:∀k,(bM M p (fM (M p) s) k).cl=(M k).cl:=λk=>by
  unfold bM;split
  ·rename_i e;rw[e];rfl
  ·rfl
 refine h.fwd (R:=λ_=>False) (j6 (ok:=λx=>(dt rs 3 (M p).nm=false->¬(x.kd=3/\x.lt=(M p).nm))/\(dt rs 3 (fM (M p) s).nm=false->¬(x.kd=3/\x.lt=(fM (M p) s).nm))) hw hw Cc (λ_ _ hk _=>hk) (λk l _ _=>VF k) (λk l _ _ x hx h2 h3 h4=>by rw[lL]) (λk l _ _ x hx h3=>?_)) (λr hr cs kf c hc x hx=>⟨λhf=>xg hf r hr cs kf c hc x hx,λhf=>xg hf r hr cs kf c hc x hx⟩) (List.Sublist.refl _) (λx hx=>by
  obtain⟨k,l,h1,h2⟩:=h.els x hx;exact⟨k,l,h1,h2,id⟩)
 unfold bM;split
 ·rename_i e;rw[e];rcases nU with nU | ⟨h1,h2⟩
  ·rw[nU]
  ·have e1:((fM (M p) s).nm==x.lt)=false:=by
    rw[ff];exact λe=>hx.2 h2 ⟨h3,e.symm⟩
   have e2:((M p).nm==x.lt)=false:=by
    rw[ff];exact λe=>hx.1 h1 ⟨h3,e.symm⟩
   rw[e1,e2]
 ·rfl
end
theorem KOK.more {kl:List (Int × List Int)}(h:KOK T M rs kl)(hk:(k,l)∈T)(hn:∀x∈kl,x.1≠((k:Nat):Int)):KOK T M rs (kl++[((k:Int),dM (bg T M) rs k)]):=by
 refine⟨?_,λx hx=>?_,λx hx=>?_⟩
 ·rw[List.map_append,List.nodup_append];refine⟨h.nums,by simp,λa ha b hb=>?_⟩;obtain⟨x,hx,rfl⟩:=bm.1 ha;have:b=(k:Int):=by simpa using hb
  rw[this];exact hn x hx
 ·rcases List.mem_append.1 hx with hx | hx
  ·exact h.els x hx
  ·rw[fg] at hx;rw[hx];exact⟨k,l,rfl,hk⟩
 ·rcases List.mem_append.1 hx with hx | hx
  ·exact h.right x hx
  ·rw[fg] at hx;rw[hx]
def iP (T:aJ)(M:Nat->Mk)(rs:List dF):List Int->List Int
 | []=>eC
 | x :: _=>dM (bg T M) rs x
theorem nJ (h:TW T made)(hk:(k,l)∈T):aX T T.length k=[]∨∃q∈T,k∈q.2/\aX T T.length k=(q.1:Int) :: aX T T.length q.1:=by
 by_cases h0:k=0
 ·left;subst h0;cases hl:T.length with
  | zero=>rfl
  | succ n=>
   show(if aY T 0=-1 then[] else _)=_;rw[aq h.root_par]
 ·obtain⟨q,hq,hm,hp⟩:=h.up hk h0;refine ai ⟨q,hq,hm,?_⟩;rw[h.above_any hk (j:=T.length+1) (by omega)];show(if aY T k=-1 then[] else aY T k :: aX T T.length (aY T k))=_;rw[hp,aj (by omega)]
theorem yd (h:TW T made)(hk:(k,l)∈T):dM (bg T M) rs k=GD (bg T M) rs k (iP T M rs (aX T T.length k)):=by
 have e1:dM (bg T M) rs k=GD (bg T M) rs k ((aX T T.length k).foldr (λx akc=>GD (bg T M) rs x akc) eC):=rfl;rw[e1]
 congr 1
 rcases nJ h hk with h1 | ⟨q,hq,_,h1⟩
 ·rw[h1];rfl
 ·rw[h1];rfl
theorem qp (h:TW T made):∀(i:Nat) {k:Nat} {l:List Nat},(k,l)∈T->∀{x:Int},(aX T T.length k)[i]?=some x->∃j lj,x=((j:Nat):Int)/\(j,lj)∈T/\aX T T.length x=(aX T T.length k).drop (i+1)
 | 0,k,l,hk,x,hx=>by
  rcases nJ h hk with h1 | ⟨q,hq,_,h1⟩
  ·rw[h1] at hx;cases hx
  ·rw[h1] at hx ⊢;have:(q.1:Int)=x:=by simpa using hx
   subst this;exact⟨q.1,q.2,rfl,hq,rfl⟩
 | i+1,k,l,hk,x,hx=>by
  rcases nJ h hk with h1 | ⟨q,hq,_,h1⟩
  ·rw[h1] at hx;cases hx
  ·rw[h1] at hx ⊢;rw[List.getElem?_cons_succ] at hx;obtain⟨j,lj,h2,h3,h4⟩:=qp h i (k:=q.1) (l:=q.2) hq hx;exact⟨j,lj,h2,h3,h4⟩
end
section
variable {a:Option Addr}{b c:Nat}{els:List PEl}{w:World}
structure TRd (w:World)(b:Nat)(a:Option Addr)(c:Nat)(els:List PEl):Prop where
 cell:w.cell? ⟨b,1,none⟩=some (.slice a els.length c)
 pl:PL w (.slice a els.length c) els
 few:els.length<=24
 nums:(els.map PEl.num).Nodup
 shp:∀e∈els,Shp e
theorem TRd.lt (h:TRd w b a c els):b<w.heap.size:=World.block_lt_of_cell? w _ h.cell
theorem TRd.below {w':World}(h:TRd w b a c els)(hB:Below w.heap.size w w'):TRd w' b a c els:=
 ⟨(hB.cell (p:=⟨b,1,none⟩) h.lt).trans h.cell,⟨aN h.pl.row hB,h.pl.ok⟩,h.few,h.nums,h.shp⟩
def bD (w:World)(r:Bool)(e:Ending)(w':World):Prop:=e=.returned (.bool r)/\Below w.heap.size w w'
section
variable (w:World)(b:Nat)(a:Option Addr)(c:Nat)(els:List PEl)(n:Int)
theorem Ea (h:TRd w b a c els):Calls prog 113 #[.pointer (some ⟨b,1,none⟩),.int .i64 n] w λe w'=>bD w (dk els n).isSome e w':=by
 have HT:=ae h;clear h;go_enter func113,ntmps113;go_wp2_with fail;refine(dP w b _ els n HT.out.cell HT.out.pl HT.out.few).mono ?_;rintro e w1 ⟨hB,⟨hf,rfl⟩ | ⟨i,x,hx,hf,rfl⟩⟩
 ·have HE:Hid (bD w (dk els n).isSome (.returned (.bool false)) w1):=by rw[hf];exact⟨rfl,hB⟩
  clear hf hB;go_wp2;go_ret;exact HE.out
 ·have HE:Hid (bD w (dk els n).isSome (.returned (.bool true)) w1):=by rw[hf];exact⟨rfl,hB⟩
  clear hf hB hx;go_wp2;go_ret;exact HE.out
theorem r9 (l:Int)(h:TRd w b a c els):Calls prog 220 #[.pointer (some ⟨b,1,none⟩),.int .i64 n,.int .u8 l] w λe w'=>bD w (dW els n l) e w':=by
 have HT:=ae h;clear h;go_enter func220,ntmps220;go_wp2_with fail;refine(dP w b _ els n HT.out.cell HT.out.pl HT.out.few).mono ?_;rintro e w1 ⟨hB,⟨hf,rfl⟩ | ⟨i,x,hx,hf,rfl⟩⟩
 ·have HE:Hid (bD w (dW els n l) (.returned (.bool false)) w1):=by unfold dW;rw[hf];exact⟨rfl,hB⟩
  clear hf hB;go_wp2;go_ret;exact HE.out
 ·have HE:Hid (bD w (dW els n l) (.returned (.bool (kn x==l))) w1):=by unfold dW;rw[hf];exact⟨rfl,hB⟩
  have T1:=HT.out.below hB;have hi:=(dY.1 hx).1;have om:=(dY.1 hx).2;obtain⟨g,hg,dn,hr⟩:=T1.pl.at' hi;subst hg;have q2:w1.cell? ⟨g,i*31+2,none⟩=some (.int .u8 (kn x)):=by rw[<-om];exact hr 2 _ (T1.shp _ (bK hi)).kd
  have q0:=T1.cell;have jJ:(i:Int)<(els.length:Int):=by omega
  clear hf hB hx om hr T1;generalize kn x=kx at q2 HE;go_wp2;go_ret;exact HE.out
theorem BV (l:Int)(h:TRd w b a c els):Calls prog 227 #[.pointer (some ⟨b,1,none⟩),.int .i64 n,.int .u8 l] w λe w'=>bD w (gG els n l) e w':=by
 have HT:=ae h;clear h;go_enter func227,ntmps227;go_wp2_with fail;refine(dP w b _ els n HT.out.cell HT.out.pl HT.out.few).mono ?_;rintro e w1 ⟨hB,⟨hf,rfl⟩ | ⟨i,x,hx,hf,rfl⟩⟩
 ·have HE:Hid (bD w (gG els n l) (.returned (.bool false)) w1):=by unfold gG;rw[hf];exact⟨rfl,hB⟩
  clear hf hB;go_wp2;go_ret;exact HE.out
 ·have HE:Hid (bD w (gG els n l) (.returned (.bool (ju x==l))) w1):=by unfold gG;rw[hf];exact⟨rfl,hB⟩
  have T1:=HT.out.below hB;have hi:=(dY.1 hx).1;have om:=(dY.1 hx).2;obtain⟨g,hg,dn,hr⟩:=T1.pl.at' hi;subst hg;have q2:w1.cell? ⟨g,i*31+29,none⟩=some (.int .u8 (ju x)):=by rw[<-om];exact hr 29 _ (T1.shp _ (bK hi)).nm
  have q0:=T1.cell;have jJ:(i:Int)<(els.length:Int):=by omega
  clear hf hB hx om hr T1;generalize ju x=kx at q2 HE;go_wp2;go_ret;exact HE.out
theorem yY (l:Int)(h:TRd w b a c els):Calls prog 226 #[.pointer (some ⟨b,1,none⟩),.int .i64 n,.int .u8 l] w λe w'=>bD w (ei els n l) e w':=by
 have HT:=ae h;clear h;go_enter func226,ntmps226;go_wp2_with fail;refine(dP w b _ els n HT.out.cell HT.out.pl HT.out.few).mono ?_;rintro e w1 ⟨hB,⟨hf,rfl⟩ | ⟨i,x,hx,hf,rfl⟩⟩
 ·have HE:Hid (bD w (ei els n l) (.returned (.bool false)) w1):=by unfold ei;rw[hf];exact⟨rfl,hB⟩
  clear hf hB;go_wp2;go_ret;exact HE.out
 ·by_cases hl:97<=l/\l<=122
  ·have HE:Hid (bD w (ei els n l) (.returned (.bool (eE x (l - 97).toNat))) w1):=by unfold ei;rw[hf];simp only[aq hl];exact⟨rfl,hB⟩
   have T1:=HT.out.below hB;have hi:=(dY.1 hx).1;have om:=(dY.1 hx).2;obtain⟨g,hg,dn,hr⟩:=T1.pl.at' hi;subst hg;obtain⟨k,rfl⟩:∃k:Nat,l=97+k:=⟨(l - 97).toNat,by omega⟩;have hk:k<26:=by omega
   have e1:((97:Int)+k - 97).toNat=k:=by omega
   rw[e1] at HE;have q2:w1.cell? ⟨g,i*31+3+k,none⟩=some (.bool (eE x k)):=by rw[<-om,Nat.add_assoc];exact hr (3+k) _ ((T1.shp _ (bK hi)).cl hk)
   have q0:=T1.cell;have jJ:(i:Int)<(els.length:Int):=by omega
   have d1:decide ((97:Int)+k<97)=false:=by rw[gU];omega
   have d2:decide ((122:Int)<97+k)=false:=by rw[gU];omega
   clear hf hB hx om hr T1 hl e1;generalize eE x k=kx at q2 HE;go_wp2;go_ret;exact HE.out
  ·have HE:Hid (bD w (ei els n l) (.returned (.bool false)) w1):=by unfold ei;rw[hf];simp only[aj hl];exact⟨rfl,hB⟩
   clear hf hB hx
   by_cases h1:l<97
   ·have d1:decide (l<97)=true:=by simpa using h1
    clear hl h1;go_wp2;go_ret;exact HE.out
   ·have d1:decide (l<97)=false:=by simpa using h1
    have d2:decide (122<l)=true:=by simp;omega
    clear hl h1;go_wp2;go_ret;exact HE.out
end
end
section
variable {a:Option Addr}{an c k n sz:Nat}{e:Int}{els:List PEl}{l:List Int}{w:World}{xs:List Value}
abbrev az (l:List Int):List Value:=l.map (Value.int .i64)
def RowI (w:World)(a:Option Addr)(l:List Int):Prop:=∀i (_:i<l.length),∃g,a=some ⟨g,0,none⟩/\g<w.heap.size/\w.cell? ⟨g,i,none⟩=l[i]?.map (Value.int .i64)
theorem RowI.below {w':World}(h:RowI w a l)(hB:Below w.heap.size w w'):RowI w' a l:=λi hi=>by
 obtain⟨g,h1,h2,h3⟩:=h i hi;exact⟨g,h1,Nat.lt_of_lt_of_le h2 hB.size,(hB.cell (p:=⟨g,i,none⟩) h2).trans h3⟩
theorem RowI.own (h:w.ownsRow an 3 1 (.slice a l.length c) l.length (az l)):RowI w a l:=λi hi=>by
 obtain⟨g,hg,dn,hc⟩:=aR h (by omega);refine⟨g,hg,dn,?_⟩;have:=hc i (.int .i64 l[i]) (by simp[hi]);rw[this,bO hi];rfl
theorem lX {e:TypeId}(h:w.ownsRow an e sz (.slice a n c) n xs):n<=c:=by
 rcases h.2 with⟨h1,h2⟩ | ⟨g,gV,fV,hv,_,hh,hc,_⟩
 ·omega
 ·injection hv with h1 h2 h3
  omega
theorem na {e:TypeId}(h:w.ownsRow an e sz (.slice a n c) n xs):c<=maxLen:=by
 rcases h.2 with⟨h1,h2⟩ | ⟨g,gV,fV,hv,_,hh,hc,hm,_⟩
 ·injection h1 with _ _ h3
  rw[h3];exact aZ
 ·injection hv with h1 h2 h3
  rw[h3];exact hm
def kY (w:World)(l:List Int)(e:Ending)(w':World):Prop:=∃(a:Option Addr) (c:Nat),e=.returned (.slice a l.length c)/\l.length<=c/\c<=maxLen/\RowI w' a l/\Below w.heap.size w w'
def uJ (w:World)(r:Int)(e:Ending)(w':World):Prop:=e=.returned (.int .i64 r)/\Below w.heap.size w w'
theorem rZ (x:Int):∀u∈[Value.int .i64 x],u.oneCell'=true:=by
 intro u hu;simp only[List.mem_cons,List.not_mem_nil,or_false] at hu;rcases hu with rfl;rfl
theorem CQ (h:parP els e≠-1):bQ els (k+1) e=parP els e :: bQ els k (parP els e):=by
 show(if parP els e=-1 then[] else _)=_;rw[aj h]
theorem v9 (h:parP els e=-1):bQ els k e=[]:=by
 cases k with
 | zero=>rfl
 | succ k=>
  show(if parP els e=-1 then[] else _)=_;rw[aq h]
theorem FF {par:Int}(h:k<els.length):eY els (k+1) par=(if els[k].par=par then[(els[k].num:Int)] else[])++eY els k par:=by
 unfold eY;rw[fU h,List.filter_append,List.map_append,List.reverse_append]
 congr 1
 by_cases hp:els[k].par=par
 ·simp[hp]
 ·simp[hp]
section
variable (w:World)(b:Nat)(a:Option Addr)(c:Nat)(els:List PEl)(n:Int)
theorem xr (h:TRd w b a c els):Calls prog 84 #[.pointer (some ⟨b,1,none⟩),.int .i64 n] w λe w'=>kY w (bQ els els.length n) e w':=by
 obtain⟨i0,hi,gx,gA,gB⟩:=info_parts Tryz.info3;have HT:=ae h;have bC:=h.few;have q0:=h.cell;clear h;go_enter func84,ntmps84;go_wp2_with fail
 go_loopg [1,5,11] els.length (λgk nv v iv wr=>∃(i:Nat) (m:Int) (L:List Int),iv=.int .i64 i/\nv=.int .i64 m/\i<=els.length/\els.length - i<=gk/\L.length<=i/\Hid (wr.ownsRow w.heap.size 3 1 v L.length (az L)/\Below w.heap.size w wr/\bQ els els.length n=L++bQ els (els.length - i) m))
 case atStart=>exact⟨0,n,[],rfl,rfl,aZ,by omega,by simp,er,bd,by simp⟩
 case round=>
  obtain⟨i,m,L,rfl,rfl,jJ,fS,hL,HN⟩:=hrel;obtain⟨a2,c2,jC⟩:=aA HN.out.1;subst jC;have iW:=HN.out.2.1.size
  by_cases aU:i<els.length
  ·have hd:decide ((i:Int)<(els.length:Int))=true:=by simp;omega
   have LW:=ae (HT.out.below HN.out.2.1);clear q0;go_wp2_with fail;refine(i8 wr b _ els m LW.out.cell LW.out.pl bC).mono ?_;rintro e w1 ⟨rfl,cq⟩;have dq:=HN.out.2.1.trans (cq.mono iW);have HO:=ae (aN HN.out.1 (cq.mono au));have Gb:=dq.size;have eD:=ae dq;clear cq dq
   by_cases hp:parP els m=-1
   ·have gp:(parP els m==-1)=true:=by simp[hp]
    have HE:Hid (kY w (bQ els els.length n) (.returned (.slice a2 L.length c2)) w1):=by
     have e1:bQ els els.length n=L:=by rw[HN.out.2.2,v9 hp,List.append_nil]
     unfold Hid;rw[e1];exact⟨a2,c2,rfl,lX HO.out,na HO.out,RowI.own HO.out,eD.out⟩
    clear hp;generalize parP els m=p at gp ⊢;go_wp2;go_ret;exact HE.out
   ·have gp:(parP els m==-1)=false:=by simp[hp]
    have HA:Hid (bQ els els.length n=(L++[parP els m])++bQ els (els.length - (i+1)) (parP els m)):=by
     unfold Hid;rw[HN.out.2.2,show els.length - i=els.length - (i+1)+1 from by omega,CQ hp];simp
    clear hp HN;generalize parP els m=p at gp HA ⊢;go_wp2_with (at_builtin;refine wpList_append_own _ rfl (.tmp 19) (.tmp 21) 40 rfl w.heap.size 3 i0 (.int .i64 0) 1 8 underlying40 hi gx gA gB rfl (by decide) _ _ _ rfl (HO.out.alloc _) ⟨w1.heap.size,0,none⟩ 1 1 [.int .i64 p] rfl rfl ?c1 ?c2 ?c3 ?c4 ?c5 ?_)
    case c1=>exact aW w1 _ rfl _ _ _ rfl
    case c2=>exact rZ p
    case c3=>unfold maxLen;omega
    case c4=>omega
    case c5=>simp;omega
    intro v5 w5 bR jf _
    have tX:Hid (w5.ownsRow w.heap.size 3 1 v5 (L++[p]).length (az (L++[p]))/\Below w.heap.size w w5/\bQ els els.length n=(L++[p])++bQ els (els.length - (i+1)) p):=
     ⟨by simpa using bR,(eD.out.alloc Gb _).grown jf (by simp;omega) (λk hk=>(HO.out.lt k hk).1),HA.out⟩
    have TN:(L++[p]).length<=i+1:=by simp;omega
    clear bR jf HO eD HA LW;generalize L++[p]=L2 at tX TN;go_wp2;go_roundg (els.length - (i+1))
    case measure=>omega
    case rel=>exact⟨i+1,p,L2,by go_num,rfl,by omega,au,TN,tX⟩
  ·have hd:decide ((i:Int)<(els.length:Int))=false:=by simp;omega
   obtain rfl:i=els.length:=by omega
   have HE:Hid (kY w (bQ els els.length n) (.returned (.slice a2 L.length c2)) wr):=by
    have e1:bQ els els.length n=L:=by rw[HN.out.2.2,Nat.sub_self];exact List.append_nil _
    unfold Hid;rw[e1];exact⟨a2,c2,rfl,lX HN.out.1,na HN.out.1,RowI.own HN.out.1,HN.out.2.1⟩
   go_wp2;go_ret;exact HE.out
theorem qJ (h:TRd w b a c els):Calls prog 223 #[.pointer (some ⟨b,1,none⟩),.int .i64 n] w λe w'=>kY w (cB els n) e w':=by
 obtain⟨i0,hi,gx,gA,gB⟩:=info_parts Tryz.info3;have HT:=ae h;have bC:=h.few;clear h;go_enter func223,ntmps223;go_wp2_with fail;refine(dP w b _ els n HT.out.cell HT.out.pl HT.out.few).mono ?_;rintro e w1 ⟨hB,⟨hf,rfl⟩ | ⟨ip,x,hx,hf,rfl⟩⟩
 ·have HE:Hid (kY w (cB els n) (.returned (.slice none 0 0)) w1):=by unfold cB;rw[hf];exact⟨none,0,rfl,au,aZ,λi hi=>absurd hi (by simp),hB⟩
  clear hf hB;go_wp2;go_ret;exact HE.out
 ·have nD:=(dY.1 hx).1;have om:=(dY.1 hx).2
  have HA:Hid (cB els n=eY els ip x.par):=by
   unfold Hid cB;rw[hf];have h1:=(dI hf).2;have h2:=qC HT.out.nums hx;rw[h1] at h2;show eY els (mX els n) x.par=_;rw[h2]
  have T1:=HT.out.below hB;obtain⟨g,hg,dn,he⟩:=T1.pl.el nD;subst hg;have q1:=he.cell1;rw[om] at q1;have q0:=T1.cell;have jJ:(ip:Int)<(els.length:Int):=by omega
  have eg:=ae hB;clear hf hB hx om he T1;generalize x.par=par at HA q1;go_wp2_with fail
  go_loopg [8,9] ip (λgk v iv wr=>∃(k:Nat) (iz:Int) (L:List Int),iv=.int .i64 iz/\iz=(k:Int) - 1/\k<=ip/\k<=gk/\L.length+k<=ip/\Hid (wr.ownsRow w.heap.size 3 1 v L.length (az L)/\Below w.heap.size w wr/\cB els n=L++eY els k par))
  case atStart=>exact⟨ip,_,[],rfl,by go_num,au,au,by simp,er,eg.out,HA.out⟩
  case round=>
   obtain⟨k,iz,L,rfl,hiz,WO,fS,hL,HN⟩:=hrel;obtain⟨a2,c2,jC⟩:=aA HN.out.1;subst jC;have iW:=HN.out.2.1.size;cases k with
   | zero=>
    have hd:decide ((0:Int)<=iz)=false:=by rw[gU];omega
    clear hiz
    have HE:Hid (kY w (cB els n) (.returned (.slice a2 L.length c2)) wr):=by
     have e1:cB els n=L:=by rw[HN.out.2.2];unfold eY;simp
     unfold Hid;rw[e1];exact⟨a2,c2,rfl,lX HN.out.1,na HN.out.1,RowI.own HN.out.1,HN.out.2.1⟩
    go_wp2;go_ret;exact HE.out
   | succ k=>
    obtain rfl:iz=(k:Int):=by omega
    clear hiz q0 q1;have hk:k<els.length:=by omega
    have p8:(k:Int)<(els.length:Int):=by omega
    have T2:=HT.out.below HN.out.2.1;obtain⟨g2,ij,lM,Ge⟩:=T2.pl.el hk;injection ij with ij
    injection ij with ij _ _
    subst ij;have q0:=T2.cell;have q1:=Ge.cell1;have q2:wr.cell? ⟨g,k*31,none⟩=some (.int .i64 els[k].num):=Ge.rng 0 _ Ge.c0;have HS:Hid (eY els (k+1) par=(if els[k].par=par then[(els[k].num:Int)] else[])++eY els k par):=FF hk;clear T2 Ge;generalize els[k].par=py at q1 HS;obtain⟨ny,T5⟩:∃ny:Int,ny=(els[k].num:Int):=⟨_,rfl⟩;rw[<-T5] at q2 HS;clear T5
    by_cases hp:py=par
    ·have gp:(py==par)=true:=by simp[hp]
     have HA2:Hid (cB els n=(L++[ny])++eY els k par):=by
      unfold Hid;rw[HN.out.2.2,HS.out,aq hp];simp
     clear hp HS;have HO:=bT HN.out.1 HN.out.2.1;clear HN;go_wp2_with (at_builtin;refine wpList_append_own _ rfl (.tmp 42) (.tmp 51) 40 rfl w.heap.size 3 i0 (.int .i64 0) 1 8 underlying40 hi gx gA gB rfl (by decide) _ _ _ rfl (HO.out.1.alloc _) ⟨wr.heap.size,0,none⟩ 1 1 [.int .i64 ny] rfl rfl ?c1 ?c2 ?c3 ?c4 ?c5 ?_)
     case c2=>first | exact rZ ny | rfl
     case c3=>unfold maxLen;omega
     case c4=>omega
     case c5=>first | (simp;omega) | omega
     intro v5 w5 bR jf _
     have tX:Hid (w5.ownsRow w.heap.size 3 1 v5 (L++[ny]).length (az (L++[ny]))/\Below w.heap.size w w5/\cB els n=(L++[ny])++eY els k par):=
      ⟨by simpa using bR,(HO.out.2.alloc iW _).grown jf (by simp;omega) (λk hk=>(HO.out.1.lt k hk).1),HA2.out⟩
     have TN:(L++[ny]).length+k<=ip:=by simp;omega
     clear bR jf HO HA2 q0 q1 q2;generalize L++[ny]=L2 at tX TN;go_wp2;go_roundg k
     case measure=>omega
     case rel=>exact⟨k,_,L2,rfl,by go_num,by omega,au,TN,tX⟩
    ·have gp:(py==par)=false:=by simp[hp]
     have tX:Hid (wr.ownsRow w.heap.size 3 1 (.slice a2 L.length c2) L.length (az L)/\Below w.heap.size w wr/\cB els n=L++eY els k par):=⟨HN.out.1,HN.out.2.1,by rw[HN.out.2.2,HS.out,aj hp];rfl⟩;clear hp HS HN;go_wp2;go_roundg k
     case measure=>omega
     case rel=>exact⟨k,_,L,rfl,by go_num,by omega,au,by omega,tX⟩
theorem CR (i:Nat)(par:Int):(eY els i par).length<=els.length:=by
 unfold eY;rw[List.length_reverse,List.length_map];refine Nat.le_trans (List.length_filter_le _ _) ?_;exact List.length_take_le' _ _
theorem nL:(cB els n).length<=els.length:=by
 unfold cB;split
 ·exact CR els _ _
 ·simp
theorem se (h:TRd w b a c els):Calls prog 228 #[.pointer (some ⟨b,1,none⟩),.int .i64 n] w λe w'=>uJ w (((cB els n).length:Int)+1) e w':=by
 have HT:=ae h;have bC:=h.few;have hl:=nL els n;clear h;go_enter func228,ntmps228;go_wp2_with fail;refine(qJ w b a c els n HT.out).mono ?_;rintro e w1 ⟨a2,c2,rfl,_,_,_,hB⟩;obtain⟨k,hk⟩:∃k,(cB els n).length=k:=⟨_,rfl⟩;have HE:Hid (uJ w (((cB els n).length:Int)+1) (.returned (.int .i64 ((k:Int)+1))) w1):=⟨by rw[hk],hB⟩;rw[hk] at hl ⊢;clear hB hk;go_wp2;go_ret;exact HE.out
end
end
section
variable {an i:Nat}{kl:List (Int × List Int)}{v:Value}{w wr:World}{x:Int × List Int}
def kD (x:Int × List Int):List Value:=.int .i64 x.1 :: az x.2
def oj (kl:List (Int × List Int)):List Value:=kl.flatMap kD
theorem wX (h:x.2.length=9):(kD x).length=10:=by
 unfold kD;rw[List.length_cons,List.length_map,h]
theorem wY (x:Int × List Int):∀v∈kD x,v.oneCell'=true:=by
 intro v hv;unfold kD at hv;rcases List.mem_cons.1 hv with rfl | hv
 ·rfl
 ·obtain⟨y,_,rfl⟩:=bm.1 hv;rfl
theorem N5 (h:∀x∈kl,x.2.length=9){j:Nat}(hi:i<kl.length)(hj:j<10):(oj kl)[i*10+j]?=(kD kl[i])[j]?:=by
 induction kl generalizing i with
 | nil=>simp at hi
 | cons x l ih=>
  have h1:=wX (h x List.mem_cons_self);unfold oj;rw[List.flatMap_cons];cases i with
  | zero=>
   rw[List.getElem?_append_left (by omega)];simp
  | succ i=>
   rw[List.getElem?_append_right (by omega),h1,show(i+1)*10+j - 10=i*10+j from by omega];have:=ih (λe he=>h e (List.mem_cons_of_mem _ he)) (i:=i) (by simpa using hi);unfold oj at this;rw[this];simp
theorem wK (L:List (Int × List Int))(x:Int × List Int):oj (L++[x])=oj L++kD x:=by simp[oj]
structure KL (w:World)(v:Value)(kl:List (Int × List Int)):Prop where
 row:w.ownsRow 0 196 10 v kl.length (oj kl)
 nine:∀x∈kl,x.2.length=9
theorem KL.below {w':World}(h:KL w v kl)(hB:Below w.heap.size w w'):KL w' v kl:=⟨aN h.row hB,h.nine⟩
theorem KL.shape (h:KL w v kl):∃a c,v=.slice a kl.length c:=aA h.row
theorem Tryz.sizeK:(Tryz.prog.info? 196).map (·.size)=some 10:=by kernel_rfl
theorem Tryz.infoK:∃(i:TypeInfo) (z:Value),Tryz.prog.info? 196=some i/\i.zero=some z/\i.size=10/\i.bytes=80/\z.cells.size=10:=by
 have h:(prog.info? 196).map (λi=>(i.zero.map (·.cells.size),i.size,i.bytes))=some (some 10,10,80):=by kernel_rfl
 cases hq:prog.info? 196 with
 | none=>rw[hq] at h;cases h
 | some i=>
  rw[hq] at h;simp only[Option.map_some,Option.some.injEq,Prod.mk.injEq] at h;cases hz:i.zero with
  | none=>rw[hz] at h;cases h.1
  | some z=>
   rw[hz] at h;simp only[Option.map_some,Option.some.injEq] at h;exact⟨i,z,rfl,hz,h.2.1,h.2.2,h.1⟩
structure KAt (w:World)(g o:Nat)(cs:List Value)(n:Int):Prop where
 rng:w.rangeAt g o cs
 len:cs.length=10
 one:∀v∈cs,v.oneCell'=true
 c0:cs[0]?=some (.int .i64 n)
section
variable {w:World}{g o:Nat}{cs:List Value}{n:Int}
theorem KAt.size (h:KAt w g o cs n):(prog.info? 196).map (·.size)=some cs.length:=by rw[h.len];exact Tryz.sizeK
theorem KAt.size' (h:KAt w g o cs n):(prog.info? 196).map (·.size)=some cs.toArray.size:=by rw[List.size_toArray];exact h.size
theorem KAt.same (h:KAt w g o cs n):10=cs.toArray.size:=by rw[List.size_toArray,h.len]
theorem KAt.all (h:KAt w g o cs n):cs.toArray.all (·.oneCell')=true:=all_oneCell_toArray h.one
theorem KAt.info (h:KAt w g o cs n){m:Nat}(hn:m=10):m=cs.toArray.size:=by rw[hn];exact h.same
theorem KAt.pos (h:KAt w g o cs n):0<cs.toArray.size:=by rw[<-h.same];omega
theorem KAt.small (h:KAt w g o cs n):cs.toArray.size<=1000:=by rw[<-h.same];omega
theorem KAt.len1 (h:KAt w g o cs n):cs.length=1*10:=by rw[h.len]
theorem KAt.below (h:KAt w g o cs n)(hB:Below an w wr)(hg:g<an):KAt wr g o cs n:=⟨bo hB hg h.rng,h.len,h.one,h.c0⟩
theorem KAt.new (h:KAt w g o cs n)(w':World):KAt (w'.alloc (.cells cs.toArray 196)) w'.heap.size 0 cs n:=by
 refine⟨λj v hv=>?_,h.len,h.one,h.c0⟩;rw[Nat.zero_add,cell_of_row _ _ j cs.toArray 196 (0,0) (heap_alloc_new w' _)];simpa using hv
end
theorem KL.el {a:Option Addr}{c:Nat}(h:KL w (.slice a kl.length c) kl)(hi:i<kl.length):∃g,a=some ⟨g,0,none⟩/\g<w.heap.size/\KAt w g (i*10) (kD kl[i]) kl[i].1:=by
 obtain⟨g,hg,dn,hc⟩:=aR h.row (by omega);have hl:=wX (h.nine _ (bK hi));refine⟨g,hg,dn,λj v hv=>hc _ _ ?_,hl,wY _,rfl⟩
 have hj:j<10:=by
  have:=(dY.1 hv).1;omega
 rw[N5 h.nine hi hj];exact hv
section
theorem KM (w:World)(al:Option Addr)(cl:Nat)(L:List Int)(n:Int)(h:RowI w al L)(hL:L.length<=1000):Calls prog 121 #[.slice al L.length cl,.int .i64 n] w λe w'=>bD w (L.contains n) e w':=by
 have HI:=ae h;clear h;go_enter func121,ntmps121;go_wp2_with fail
 go_loopg [9] L.length (λgk iv wr=>∃i:Nat,iv=.int .i64 i/\i<=L.length/\L.length - i<=gk/\Hid (Below w.heap.size w wr/\∀j (_:j<L.length),j<i->¬L[j]=n))
 case atStart=>exact⟨0,rfl,aZ,by omega,bd,λj _ h=>by omega⟩
 case round=>
  obtain⟨i,rfl,hi,fS,HN⟩:=hrel
  by_cases hli:i<L.length
  ·have hd:decide ((i:Int)<(L.length:Int))=true:=by simp;omega
   obtain⟨g2,ij,lM,yP⟩:=HI.out i hli;subst ij;have q1:=(HN.out.1.cell (p:=⟨g2,i,none⟩) lM).trans yP;rw[bO hli] at q1;replace q1:wr.cell? ⟨g2,i,none⟩=some (.int .i64 L[i]):=q1
   have iH:Hid (¬L[i]=n->∀j (_:j<L.length),j<i+1->¬L[j]=n):=λhm j hj h1=>by
    by_cases e:j=i
    ·subst e;exact hm
    ·exact HN.out.2 j hj (by omega)
   have HY:Hid (L[i]=n->L.contains n=true):=λh=>by
    rw[List.contains_iff_mem];exact h▸bK hli
   clear yP;generalize L[i]=o at q1 iH HY
   by_cases ho:o=n
   ·have go:(o==n)=true:=by simp[ho]
    have HR:Hid (bD w (L.contains n) (.returned (.bool true)) wr):=⟨by rw[HY.out ho],HN.out.1⟩;clear ho;go_wp2;go_ret;exact HR.out
   ·have go:(o==n)=false:=by simp[ho]
    have e9:Hid (Below w.heap.size w wr/\∀j (_:j<L.length),j<i+1->¬L[j]=n):=⟨HN.out.1,iH.out ho⟩;clear ho;go_wp2;go_roundg (L.length - (i+1))
    case measure=>omega
    case rel=>exact⟨i+1,by go_num,by omega,au,e9⟩
  ·have hd:decide ((i:Int)<(L.length:Int))=false:=by simp;omega
   have HR:Hid (bD w (L.contains n) (.returned (.bool false)) wr):=by
    refine⟨?_,HN.out.1⟩
    have:L.contains n=false:=by
     rw[Bool.eq_false_iff];intro h;rw[List.contains_iff_mem] at h;obtain⟨j,hj,h1⟩:=List.getElem_of_mem h;exact HN.out.2 j hj (by omega) h1
    rw[this]
   go_wp2;go_ret;exact HR.out
def eh (L:List Int)(kl:List (Int × List Int)):List (Int × List Int):=kl.filter λx=>!L.contains x.1
theorem FM {L:List Int}(h:i<kl.length):eh L (kl.take (i+1))=if L.contains kl[i].1=true then eh L (kl.take i) else eh L (kl.take i)++[kl[i]]:=by
 unfold eh;rw[fU h,List.filter_append];cases hu:L.contains kl[i].1 with
 | true=>simp only[List.filter_cons,hu,Bool.not_true];simp
 | false=>simp only[List.filter_cons,hu,Bool.not_false];simp
theorem zG (L:List Int)(kl:List (Int × List Int)):(eh L kl).length<=kl.length:=List.length_filter_le _ _
structure KI (an:Nat)(W wr:World)(v:Value)(L:List (Int × List Int)):Prop where
 own:wr.ownsRow an 196 10 v L.length (oj L)
 below:Below an W wr
theorem KI.app {W:World}{L:List (Int × List Int)}(h:KI an W wr v L){w2 w3:World}{v3:Value}(hb:Below an W w2)(hz:an<=w2.heap.size)(hg:w2.grownBy w3 v.ownBlock)(ho:w3.ownsRow an 196 10 v3 (L.length+1) (oj L++kD x)):KI an W w3 v3 (L++[x]):=by
 refine⟨?_,hb.grown hg hz (λk hk=>(h.own.lt k hk).1)⟩;rw[wK,List.length_append];exact ho
def sT (w:World)(b:Nat)(kl:List (Int × List Int))(e:Ending)(w':World):Prop:=
 e=.returned (.tuple #[])/\∃(w1:World) (a:Option Addr) (c:Nat),Below w.heap.size w w1/\w1.ownsRow w.heap.size 196 10 (.slice a kl.length c) kl.length (oj kl)/\w'=w1.setCell ⟨b,3,none⟩ (.slice a kl.length c)
theorem Ar (w:World)(b:Nat)(fV:Array Value)(v:Value)(kl:List (Int × List Int))(al:Option Addr)(cl:Nat)(L:List Int)(hb:w.heap[b]?=some (.cells fV 90 (0,0)))(yS:fV[3]?=some v)(h:KL w v kl)(bC:kl.length<=24)(hI:RowI w al L)(hL:L.length<=1000):
  Calls prog 76 #[.pointer (some ⟨b,3,none⟩),.slice al L.length cl] w λe w'=>sT w b (eh L kl) e w':=by
 obtain⟨i0,z0,hi,iz,is,ib,Kn⟩:=Tryz.infoK;obtain⟨a,c,hv⟩:=h.shape;subst hv;have qT:=ae hb;have HP:=ae h;have HIL:=ae hI;have jF:=(bx.1 hb).1;have q3:=aa hb yS;have HV3:=ae yS;clear h hI hb yS;have Hq:Hid (KI w.heap.size w w (.slice none 0 0) (eh L (kl.take 0))):=⟨er,bd⟩;go_enter func76,ntmps76;go_wp2_with fail
 go_loopg [4,12] kl.length (λgk v iv wr=>∃i:Nat,iv=.int .i64 i/\i<=kl.length/\kl.length - i<=gk/\Hid (KI w.heap.size w wr v (eh L (kl.take i))))
 case atStart=>exact⟨0,rfl,aZ,by omega,Hq⟩
 case round=>
  obtain⟨i,rfl,jJ,fS,HN⟩:=hrel;obtain⟨a2,c2,jC⟩:=aA HN.out.own;subst jC
  have Gl:(eh L (kl.take i)).length<=24:=by
   have h1:=zG L (kl.take i);have h2:(kl.take i).length<=kl.length:=List.length_take_le' _ _;omega
  have iW:=HN.out.below.size
  by_cases aU:i<kl.length
  ·have hd:decide ((i:Int)<(kl.length:Int))=true:=by simp;omega
   obtain⟨g,hg,dn,he⟩:=HP.out.el aU;subst hg;have HE:=ae (he.below HN.out.below dn);have fy:Hid (eh L (kl.take (i+1))=if L.contains kl[i].1=true then eh L (kl.take i) else eh L (kl.take i)++[kl[i]]):=FM aU;clear he;generalize kl[i]=y at HE fy;obtain⟨cs,kf⟩:∃cs,kD y=cs:=⟨_,rfl⟩;have Tj:=ae kf;rw[kf] at HE;clear kf;have c0:cs[0]?=some (.int .i64 y.1):=HE.out.c0;generalize eh L (kl.take i)=R at HN fy Gl ⊢;have kB:=ae (HE.out.new wr);have QR:Hid (RowI (wr.alloc (.cells cs.toArray 196)) al L):=HIL.out.below (HN.out.below.alloc iW _);go_wp2_with (first | (refine wpList_load_mid rfl 196 _ rfl g (i*10) rfl cs _ HE.out.rng underlying196 rfl HE.out.size ?_) | (refine aE rfl 196 _ _ rfl _ cs.toArray 196 rfl rfl HE.out.size' HE.out.same HE.out.all ?_));refine(KM (wr.alloc (.cells cs.toArray 196)) al cl L y.1 QR.out hL).mono ?_;rintro e w3 ⟨rfl,fj⟩;have Gu:wr.heap.size+1<=w3.heap.size:=by have:=fj.size;simpa using this
   have iG:Hid (Below (wr.heap.size+1) (wr.alloc (.cells cs.toArray 196)) w3):=by simpa[Hid] using fj
   have og:Hid (KI w.heap.size w w3 (.slice a2 R.length c2) R):=⟨aN (HN.out.own.alloc _) fj,(HN.out.below.alloc iW _).trans (fj.mono (by simp;omega))⟩;have jA:Hid (KAt w3 wr.heap.size 0 cs y.1):=kB.out.below iG.out (by omega);clear fj HN kB HE iG QR c0;cases hr:L.contains y.1 with
   | true=>
    have yu:Hid (KI w.heap.size w w3 (.slice a2 R.length c2) (eh L (kl.take (i+1)))):=by
     rw[fy.out,aq hr];exact og.out
    clear fy hr;go_wp2;go_roundg (kl.length - (i+1))
    case measure=>omega
    case rel=>exact⟨i+1,by go_num,by omega,au,yu⟩
   | false=>
    have fX:Hid (eh L (kl.take (i+1))=R++[y]):=by
     unfold Hid;rw[fy.out,aj (by rw[hr];decide)]
    clear fy hr;go_wp2_with (first | (refine wpList_load_mid rfl 196 _ rfl (wr.heap.size) (0) rfl cs _ jA.out.rng underlying196 rfl jA.out.size ?_) | (refine cU w3.heap.size rfl rfl 86 196 _ rfl cs.toArray rfl i0 z0 underlying86 hi iz (jA.out.info is) (jA.out.pos) (jA.out.small) ?_) | (at_builtin;refine wpList_append_own _ rfl (.tmp 21) (.tmp 23) 86 rfl (w.heap.size) 196 i0 z0 10 80 underlying86 hi iz is ib Kn (by decide) _ _ _ rfl (og.out.own.alloc _) ⟨w3.heap.size,0,none⟩ 1 1 cs rfl jA.out.len1 ?c1 jA.out.one ?c3 ?c4 ?c5 ?_))
    case c1=>exact aW w3 _ rfl _ _ _ (by simp)
    case c3=>unfold maxLen;omega
    case c4=>omega
    case c5=>simp;omega
    intro v5 w5 bR jf _
    have yu:Hid (KI w.heap.size w w5 v5 (eh L (kl.take (i+1)))):=by
     rw[fX.out];exact og.out.app (og.out.below.alloc (by omega) _) (by simp;omega) jf (by rw[Tj.out];exact bR)
    clear bR jf og jA;go_wp2;go_roundg (kl.length - (i+1))
    case measure=>omega
    case rel=>exact⟨i+1,by go_num,by omega,au,yu⟩
  ·have hd:decide ((i:Int)<(kl.length:Int))=false:=by simp;omega
   obtain rfl:i=kl.length:=by omega
   rw[List.take_length] at HN Gl ⊢;have qW:=(HN.out.below.block b jF).trans qT.out;have e1:=aa qW HV3.out;have ez:wr.frozen? ⟨b,3,none⟩=false:=ax qW;have HE:Hid (sT w b (eh L kl) (.returned (.tuple #[])) (wr.setCell ⟨b,3,none⟩ (.slice a2 (eh L kl).length c2))):=⟨rfl,wr,a2,c2,HN.out.below,HN.out.own,rfl⟩;clear qW q3;generalize (eh L kl).length=n5 at HE Gl ⊢;go_wp2;go_end0;exact HE.out
end
end
section
variable {els l:List PEl}{i:Nat}
def ki (els:List PEl)(y t:Int):Bool:=(List.range els.length).any λj=>decide (upP els j y=t)
theorem iw {y t:Int}:ki els y t=true↔∃k,k<els.length/\upP els k y=t:=by
 unfold ki;rw[List.any_eq_true];constructor
 ·rintro⟨j,hj,h⟩;exact⟨j,List.mem_range.1 hj,by simpa using h⟩
 ·rintro⟨j,hj,h⟩;exact⟨j,List.mem_range.2 hj,by simpa using h⟩
def cF (els l:List PEl)(t:Int):List Int:=(l.filter λy=>ki els y.num t).map λy=>(y.num:Int)
def ew (els l:List PEl)(par:Int):List Int:=l.flatMap λt=>if t.par=par then cF els els t.num else[]
def ex (els:List PEl)(n:Int):List Int:=match dk els n with | none=>[] | some x=>ew els (els.drop (mX els n)) x.par
theorem B5 (h:i<l.length)(t:Int):cF els (l.take (i+1)) t=if ki els l[i].num t=true then cF els (l.take i) t++[(l[i].num:Int)] else cF els (l.take i) t:=by
 unfold cF;rw[fU h,List.filter_append];cases hu:ki els l[i].num t<;>simp[hu]
theorem En (h:i<l.length)(par:Int):ew els (l.take (i+1)) par=if l[i].par=par then ew els (l.take i) par++cF els els l[i].num else ew els (l.take i) par:=by
 unfold ew;rw[fU h,List.flatMap_append];split
 ·rename_i h1;simp[h1]
 ·rename_i h1;simp[h1]
theorem uu (els l:List PEl)(t:Int):(cF els l t).length<=l.length:=by
 unfold cF;rw[List.length_map];exact List.length_filter_le _ _
theorem qM (els:List PEl)(par:Int):∀l:List PEl,(ew els l par).length<=l.length*els.length
 | []=>aZ
 | t :: l=>by
  have ih:=qM els par l;have h1:=uu els els t.num;have e:(t :: l).length*els.length=els.length+l.length*els.length:=by rw[List.length_cons,Nat.succ_mul,Nat.add_comm]
  have e2:ew els (t :: l) par=(if t.par=par then cF els els t.num else[])++ew els l par:=rfl;rw[e,e2,List.length_append];split
  ·omega
  ·simp only[List.length_nil];omega
theorem xK (h:els.length<=24)(n:Int):(ex els n).length<=1000:=by
 unfold ex;split
 ·simp
 ·rename_i x _;have h1:=qM els x.par (els.drop (mX els n));have h2:(els.drop (mX els n)).length*els.length<=24*24:=Nat.mul_le_mul (by rw[List.length_drop];omega) h;omega
theorem GU (hn:(els.map PEl.num).Nodup){n:Int}{k:Nat}(h:Ht els n k):(k:Int)∈ex els n:=by
 obtain⟨i,x,hx,L7,t,ht,htp,y,hy,hyk,hw⟩:=h
 have hf:dk els n=some x:=by
  cases hf:dk els n with
  | none=>exact absurd L7 (qv hf (List.mem_of_getElem? hx))
  | some z=>
   obtain⟨hz,hzn⟩:=dI hf;rw[BU hn hz (List.mem_of_getElem? hx) (by omega)]
 have hi:=qC hn hx;rw[L7] at hi;unfold ex;rw[hf];show(k:Int)∈ew els (els.drop (mX els n)) x.par;rw[hi];unfold ew;rw[List.mem_flatMap];refine⟨t,ht,?_⟩;rw[aq htp];unfold cF;rw[bm];exact⟨y,dA.2 ⟨hy,iw.2 hw⟩,by rw[hyk]⟩
def oh (w:World)(l:List Int)(e:Ending)(w':World):Prop:=∃(a:Option Addr) (c:Nat),e=.returned (.slice a l.length c)/\w'.ownsRow w.heap.size 3 1 (.slice a l.length c) l.length (az l)/\Below w.heap.size w w'
section
variable (w:World)(b:Nat)(a:Option Addr)(c:Nat)(els:List PEl)(n:Int)
theorem xB (h:TRd w b a c els):Calls prog 75 #[.pointer (some ⟨b,1,none⟩),.int .i64 n] w λe w'=>oh w (ex els n) e w':=by
 obtain⟨i0,Gj,gx,gA,gB⟩:=info_parts Tryz.info3;have HT:=ae h;have bC:=h.few;clear h;go_enter func75,ntmps75;go_wp2_with fail;refine(dP w b _ els n HT.out.cell HT.out.pl HT.out.few).mono ?_;rintro e w1 ⟨hB,⟨hf,rfl⟩ | ⟨ip,x,hx,hf,rfl⟩⟩
 ·have HE:Hid (oh w (ex els n) (.returned (.slice none 0 0)) w1):=by
   have:ex els n=[]:=by unfold ex;rw[hf]
   rw[this];exact⟨none,0,rfl,er,hB⟩
  clear hf hB;go_wp2;go_ret;exact HE.out
 ·have nD:=(dY.1 hx).1;have om:=(dY.1 hx).2
  have HA:Hid (ex els n=ew els (els.drop ip) x.par):=by
   unfold Hid ex;rw[hf];have h1:=(dI hf).2;have h2:=qC HT.out.nums hx;rw[h1] at h2;show ew els (els.drop (mX els n)) x.par=_;rw[h2]
  have T1:=HT.out.below hB;have J4:=lX T1.pl.row;have Ig:=na T1.pl.row;obtain⟨g,hg,dn,he⟩:=T1.pl.el nD;subst hg;have q1:=he.cell1;rw[om] at q1;have q0:=T1.cell;have jJ:(ip:Int)<(els.length:Int):=by omega
  have eg:=ae hB;have iA:(prog.info? 134).map (·.size)=some 31:=Tryz.size134;unfold maxLen at Ig;clear hf hB hx om he T1;generalize x.par=par at HA q1;have jF:=HT.out.lt;go_wp2_with fail
  ·obtain⟨m,hm⟩:∃m,els.length - ip=m:=⟨_,rfl⟩;have hml:m<=24:=by omega
   have HM:=ae hm;have HDL:Hid ((els.drop ip).length=m):=by unfold Hid;rw[List.length_drop];exact hm
   rw[hm];clear hm q0 q1
   go_loopg [8,36] m (λgk v iv wr=>∃i:Nat,iv=.int .i64 i/\i<=m/\m - i<=gk/\Hid (wr.ownsRow w.heap.size 3 1 v (ew els ((els.drop ip).take i) par).length (az (ew els ((els.drop ip).take i) par))/\Below w.heap.size w wr))
   case atStart=>exact⟨0,rfl,aZ,by omega,er,eg.out⟩
   case round=>
    obtain⟨i,rfl,hi,fS,HN⟩:=hrel;obtain⟨wo,rfl⟩:∃wo,wo=wr:=⟨_,rfl⟩;obtain⟨a2,c2,jC⟩:=aA HN.out.1;subst jC
    have WH:(ew els ((els.drop ip).take i) par).length<=576:=by
     have h1:=qM els par ((els.drop ip).take i);have h2:((els.drop ip).take i).length*els.length<=24*24:=Nat.mul_le_mul (by rw[List.length_take];omega) bC;omega
    have iW:=HN.out.2.size
    by_cases aU:i<m
    ·have hd:decide ((i:Int)<(m:Int))=true:=by simp;omega
     have Gm:ip+i<els.length:=by have:=HM.out;omega
     obtain⟨g2,ij,lM,he⟩:=HT.out.pl.el Gm;injection ij with ij
     injection ij with ij _ _
     subst ij
     have HE:Hid (ElAt wo g (ip*31+i*31) els[ip+i].cells els[ip+i].num els[ip+i].par):=by
      rw[show ip*31+i*31=(ip+i)*31 from by omega];exact he.below HN.out.2 lM
     have fy:Hid (ew els ((els.drop ip).take (i+1)) par=if els[ip+i].par=par then ew els ((els.drop ip).take i) par++cF els els els[ip+i].num else ew els ((els.drop ip).take i) par):=by
      have h1:=En (els:=els) (l:=els.drop ip) (i:=i) (by rw[HDL.out];exact aU) par;rw[List.getElem_drop] at h1;exact h1
     have q0:wo.cell? ⟨b,1,none⟩=some (.slice (some ⟨g,0,none⟩) els.length c):=(HN.out.2.cell (p:=⟨b,1,none⟩) jF).trans HT.out.cell;have Vv:b<wo.heap.size:=by omega
     clear he;generalize els[ip+i].par=py at HE fy;generalize els[ip+i].num=ny at HE fy;generalize els[ip+i].cells=cs at HE;have c0:cs[0]?=some (.int .i64 ny):=HE.out.c0;have c1:cs[1]?=some (.int .i64 py):=HE.out.c1;generalize ew els ((els.drop ip).take i) par=R at HN fy WH ⊢
     by_cases hp:py=par
     ·have gp:(py != par)=false:=by simp[hp]
      have fX:Hid (ew els ((els.drop ip).take (i+1)) par=R++cF els els ny):=by unfold Hid;rw[fy.out,aq hp]
      have qT:Hid ((wo.alloc (.cells cs.toArray 134)).heap[wo.heap.size]?=some (.cells cs.toArray 134)):=heap_alloc_new wo _
      have kJ:Hid ((wo.alloc (.cells cs.toArray 134)).ownsRow w.heap.size 3 1 (.slice a2 R.length c2) (R++cF els (els.take 0) ny).length (az (R++cF els (els.take 0) ny))/\Below w.heap.size w (wo.alloc (.cells cs.toArray 134))):=by
       have:R++cF els (els.take 0) ny=R:=by simp[cF]
       rw[this];exact⟨HN.out.1.alloc _,HN.out.2.alloc iW _⟩
      clear hp fy HN;go_wp2_with (first | (refine wpList_load_mid rfl 134 _ rfl g (ip*31+i*31) rfl cs _ HE.out.rng underlying134 rfl HE.out.size ?_) | (refine aE rfl 134 _ _ rfl _ cs.toArray 134 rfl rfl HE.out.size' HE.out.same HE.out.all ?_))
      go_loopg [8,49] els.length (λgk v kv wr=>∃k:Nat,kv=.int .i64 k/\k<=els.length/\els.length - k<=gk/\Hid ((wr.ownsRow w.heap.size 3 1 v (R++cF els (els.take k) ny).length (az (R++cF els (els.take k) ny))/\Below w.heap.size w wr)/\wr.heap[wo.heap.size]?=some (.cells cs.toArray 134)))
      case atStart=>exact⟨0,rfl,aZ,by omega,kJ.out,qT.out⟩
      case round=>
       obtain⟨k,rfl,hk,rG,HJ⟩:=hrel;obtain⟨a3,c3,yS⟩:=aA HJ.out.1.1;subst yS
       have Vq:(R++cF els (els.take k) ny).length<=600:=by
        have h1:=uu els (els.take k) ny;have h2:(els.take k).length<=els.length:=List.length_take_le' _ _;rw[List.length_append];omega
       have Sf:=HJ.out.1.2.size;obtain⟨L,Vp⟩:∃L,R++cF els (els.take k) ny=L:=⟨_,rfl⟩;have UI:=ae Vp;rw[Vp] at HJ Vq ⊢;clear Vp
       by_cases ln:k<els.length
       ·have iR:decide ((k:Int)<(els.length:Int))=true:=by simp;omega
        obtain⟨g3,fk,Z1,he3⟩:=HT.out.pl.el ln;injection fk with fk
        injection fk with fk _ _
        subst fk;have Mg:=ae (he3.below HJ.out.1.2 Z1);have Mo:Hid (cF els (els.take (k+1)) ny=if ki els els[k].num ny=true then cF els (els.take k) ny++[(els[k].num:Int)] else cF els (els.take k) ny):=B5 ln ny;have q10:wr.cell? ⟨wo.heap.size,0,none⟩=some (.int .i64 ny):=aa HJ.out.2 (by simpa using c0);have WQ:=(bx.1 HJ.out.2).1;clear he3;generalize els[k].num=nk at Mg Mo;generalize els[k].par=pk at Mg;generalize els[k].cells=cs3 at Mg;have c03:cs3[0]?=some (.int .i64 nk):=Mg.out.c0;have jB:Hid (TRd (wr.alloc (.cells cs3.toArray 134)) b (some ⟨g,0,none⟩) c els):=HT.out.below (HJ.out.1.2.alloc Sf _);have HEY:=ae (Mg.out.new wr);go_wp2_with (first | (refine wpList_load_mid rfl 134 _ rfl g (k*31) rfl cs3 _ Mg.out.rng underlying134 rfl Mg.out.size ?_) | (refine aE rfl 134 _ _ rfl _ cs3.toArray 134 rfl rfl Mg.out.size' Mg.out.same Mg.out.all ?_));refine(mb (wr.alloc (.cells cs3.toArray 134)) b _ els nk ny jB.out.cell jB.out.pl bC).mono ?_;rintro e w3 ⟨fj,r,rfl,hr⟩;have HR:=ae (hr.trans iw.symm);have Gu:wr.heap.size+1<=w3.heap.size:=by have:=fj.size;simpa using this
        have iG:Hid (Below (wr.heap.size+1) (wr.alloc (.cells cs3.toArray 134)) w3):=by simpa[Hid] using fj
        have Hm:Hid ((w3.ownsRow w.heap.size 3 1 (.slice a3 L.length c3) L.length (az L)/\Below w.heap.size w w3)/\w3.heap[wo.heap.size]?=some (.cells cs.toArray 134)):=
         ⟨⟨aN (HJ.out.1.1.alloc _) fj,(HJ.out.1.2.alloc Sf _).trans (fj.mono (by simp;omega))⟩,(fj.block wo.heap.size (by simp;omega)).trans ((Below.heap_alloc _ _ _ WQ).trans HJ.out.2)⟩
        have jA:Hid (ElAt w3 wr.heap.size 0 cs3 nk pk):=HEY.out.below iG.out (by omega);have q12:w3.cell? ⟨wr.heap.size,0,none⟩=some (.int .i64 nk):=jA.out.rng 0 _ jA.out.c0;clear fj hr iG HJ HEY jB Mg q10 c03 jA;cases r with
        | false=>
         have UG:Hid ((w3.ownsRow w.heap.size 3 1 (.slice a3 L.length c3) (R++cF els (els.take (k+1)) ny).length (az (R++cF els (els.take (k+1)) ny))/\Below w.heap.size w w3)/\w3.heap[wo.heap.size]?=some (.cells cs.toArray 134)):=by
          rw[Mo.out,aj (λhx=>by have:=HR.out.2 hx;cases this),UI.out];exact Hm.out
         clear Mo HR Hm;go_wp2;go_roundg (els.length - (k+1))
         case measure=>omega
         case rel=>exact⟨k+1,by go_num,by omega,au,UG⟩
        | true=>
         have acd:Hid (R++cF els (els.take (k+1)) ny=L++[(nk:Int)]):=by
          unfold Hid;rw[Mo.out,aq (HR.out.1 rfl),<-UI.out,List.append_assoc]
         clear Mo HR;go_wp2_with (first | (at_builtin;refine wpList_append_own _ rfl (.tmp 59) (.tmp 62) 40 rfl w.heap.size 3 i0 (.int .i64 0) 1 8 underlying40 Gj gx gA gB rfl (by decide) _ _ _ rfl (Hm.out.1.1.alloc _) ⟨w3.heap.size,0,none⟩ 1 1 [.int .i64 (nk:Int)] rfl rfl ?c1 ?c2 ?c3 ?c4 ?c5 ?_))
         case c1=>exact aW w3 _ rfl _ _ _ rfl
         case c2=>exact rZ nk
         case c3=>unfold maxLen;omega
         case c4=>omega
         case c5=>simp;omega
         intro v5 w5 bR jf _
         have UG:Hid ((w5.ownsRow w.heap.size 3 1 v5 (R++cF els (els.take (k+1)) ny).length (az (R++cF els (els.take (k+1)) ny))/\Below w.heap.size w w5)/\w5.heap[wo.heap.size]?=some (.cells cs.toArray 134)):=by
          rw[acd.out];refine⟨⟨by simpa[az] using bR,(Hm.out.1.2.alloc (by omega) _).grown jf (by simp;omega) (λk hk=>(Hm.out.1.1.lt k hk).1)⟩,?_⟩;exact(jf.block wo.heap.size (by simp;omega) (λe=>aB Hm.out.1.1 Hm.out.2 (by decide) e.symm)).trans ((Below.heap_alloc _ _ _ (by omega)).trans Hm.out.2)
         clear bR jf Hm q12;go_wp2;go_roundg (els.length - (k+1))
         case measure=>omega
         case rel=>exact⟨k+1,by go_num,by omega,au,UG⟩
       ·have iR:decide ((k:Int)<(els.length:Int))=false:=by simp;omega
        obtain rfl:k=els.length:=by omega
        have tX:Hid (wr.ownsRow w.heap.size 3 1 (.slice a3 L.length c3) (ew els ((els.drop ip).take (i+1)) par).length (az (ew els ((els.drop ip).take (i+1)) par))/\Below w.heap.size w wr):=by
         have h1:=UI.out;rw[List.take_length] at h1;rw[fX.out,h1];exact HJ.out.1
        clear HJ;go_wp2;go_roundg (m - (i+1))
        case measure=>omega
        case rel=>exact⟨i+1,by go_num,by omega,au,tX⟩
     ·have gp:(py != par)=true:=by simp[hp]
      have tX:Hid ((wo.alloc (.cells cs.toArray 134)).ownsRow w.heap.size 3 1 (.slice a2 R.length c2) (ew els ((els.drop ip).take (i+1)) par).length (az (ew els ((els.drop ip).take (i+1)) par))/\Below w.heap.size w (wo.alloc (.cells cs.toArray 134))):=by
       rw[fy.out,aj hp];exact⟨HN.out.1.alloc _,HN.out.2.alloc iW _⟩
      clear hp fy;go_wp2_with (first | (refine wpList_load_mid rfl 134 _ rfl g (ip*31+i*31) rfl cs _ HE.out.rng underlying134 rfl HE.out.size ?_) | (refine aE rfl 134 _ _ rfl _ cs.toArray 134 rfl rfl HE.out.size' HE.out.same HE.out.all ?_));go_roundg (m - (i+1))
      case measure=>omega
      case rel=>exact⟨i+1,by go_num,by omega,au,tX⟩
    ·have hd:decide ((i:Int)<(m:Int))=false:=by simp;omega
     obtain rfl:i=m:=by omega
     have HDT:Hid ((els.drop ip).take i=els.drop ip):=by
      unfold Hid;rw[List.take_of_length_le (by rw[HDL.out];exact au)]
     rw[HDT.out,<-HA.out] at HN WH ⊢;go_wp2;go_ret;exact⟨a2,c2,rfl,HN.out.1,HN.out.2⟩
end
end
section
variable {cs:List d9}{d:PDc}{ds:List PDc}{i j l n ty:Nat}{ks:List PPt}{s:ByteArray}
def vf (s:ByteArray)(i:Nat):Nat:=if bt s i=33 then(if gw (bt s (i+1))=true then 2 else 1+sl s (i+1)) else sl s i
theorem Dn {p:PPt}(h:jI s i p j):p=mu s i/\j=i+vf s i:=by
 refine⟨h.1,?_⟩;have h2:=h.2;unfold vf
 by_cases iV:bt s i=33
 ·rw[aq iV] at h2 ⊢
  by_cases hl:gw (bt s (i+1))=true
  ·rw[aq hl] at h2 ⊢;exact h2.2
  ·rw[aj hl] at h2 ⊢;have:=h2.2.2.2.1;omega
 ·rw[aj iV] at h2 ⊢;exact h2.2.2.2.1
def tF (s:ByteArray):Nat->Nat->List PPt × Nat
 | 0,i=>([],i)
 | f+1,i=>if oB (bt s i)=true then(mu s i :: (tF s f (i+vf s i)).1,(tF s f (i+vf s i)).2) else([],i)
theorem pR:∀{ks:List PPt} {i j:Nat} (f:Nat),PartsAt s i j ks->oB (bt s j)=false->ks.length<=f->tF s f i=(ks,j)
 | [],i,j,f,h,hA,_=>by
  simp only[PartsAt] at h;subst h;cases f with
  | zero=>rfl
  | succ f=>unfold tF;rw[aj (by rw[hA];simp)]
 | k :: ks,i,j,f,⟨h1,l,h2,h3⟩,hA,hf=>by
  cases f with
  | zero=>simp at hf
  | succ f=>
   obtain⟨rfl,rfl⟩:=Dn h2;unfold tF;rw[aq h1,pR f h3 hA (by simpa using hf)]
def NK (s:ByteArray)(i:Nat):Nat × Nat:=if gw (bt s i)=true then(bt s i,i+1) else if bt s i=42 then(0,i+1) else(0,i)
def qb (s:ByteArray)(f i:Nat):Nat × List PPt × Nat:=((NK s i).1,tF s f (NK s i).2)
theorem lY:∀{ks:List PPt} {i j:Nat},PartsAt s i j ks->ks.length<=j - i
 | [],_,_,_=>by simp
 | _ :: _,_,_,⟨_,_,h1,h2⟩=>by
  have:=kP h1;have:=lY h2;have:=(pe h2).1;simp only[List.length_cons];omega
theorem CZ {f:Nat}(h:fl s i j ty ks)(hA:oB (bt s j)=false)(hf:j<=f):qb s f i=(ty,ks,j):=by
 unfold qb NK;rcases h with⟨h1,h2,h3⟩ | ⟨h0,h1,h2,h3⟩ | ⟨h0,h1,h2,h3,_⟩
 ·have:=lY h3;rw[aq h1,pR f h3 hA (by omega),h2]
 ·have:=lY h3;rw[aj (by rw[h0];simp),aq h1,pR f h3 hA (by omega),h2]
 ·have:=lY h3;rw[aj (by rw[h0];simp),aj h1,pR f h3 hA (by omega),h2]
def uS (s:ByteArray)(n i0:Nat):Nat->Nat->List d9 × Nat
 | 0,i=>([],i)
 | f+1,i=>if i6 (bt s (qb s n i).2.2)=true then(⟨oz s i0 i,(qb s n i).1,(qb s n i).2.1⟩ :: (uS s n i0 f ((qb s n i).2.2+1)).1,(uS s n i0 f ((qb s n i).2.2+1)).2) else([⟨oz s i0 i,(qb s n i).1,(qb s n i).2.1⟩],(qb s n i).2.2)
theorem IW {i0:Nat}(hc:fl s l j ty ks)(hA:oB (bt s j)=false)(hS:i6 (bt s j)=false)(Gk:l<j)(hn:j<=n):∀{pre:List d9} {i:Nat} (f:Nat),SelPre s i0 i l pre->pre.length<f->uS s n i0 f i=(pre++[⟨oz s i0 l,ty,ks⟩],j)
 | [],i,f,h,hf=>by
  simp only[SelPre] at h;subst h;cases f with
  | zero=>simp at hf
  | succ f=>
   unfold uS;rw[CZ hc hA hn,aj (by rw[hS];simp)];rfl
 | x :: cs,i,f,⟨l',h1,h2,h3,h4,h5,h6⟩,hf=>by
  cases f with
  | zero=>simp at hf
  | succ f=>
   have:=j7 h5;unfold uS;rw[CZ h1 h3 (by omega:l'<=n),aq h4,IW hc hA hS Gk hn f h5 (by simpa using hf)];obtain⟨sg,tx,px⟩:=x;replace h6:sg=oz s i0 i:=h6;rw[h6];rfl
theorem sk:∀{cs:List d9} {i0 i j:Nat},SelPre s i0 i j cs->cs.length<=j - i
 | [],_,_,_,_=>by simp
 | _ :: _,_,_,_,⟨l,_,h2,_,_,h5,_⟩=>by
  have:=sk h5;have:=j7 h5;simp only[List.length_cons];omega
theorem AF (h:lb s i j cs)(hn:j<=n):uS s n i n i=(cs,j):=by
 obtain⟨pre,l,ty,ks,rfl,h2,h3,h4,h5,h6⟩:=h;have:=sk h2;exact IW h3 h5 h6 h4 hn n h2 (by omega)
def sw (s:ByteArray)(n:Nat):Nat->Nat->List (List d9) × Nat
 | 0,i=>([],i)
 | f+1,i=>if bt s (uS s n i n i).2=44 then((uS s n i n i).1 :: (sw s n f ((uS s n i n i).2+1)).1,(sw s n f ((uS s n i n i).2+1)).2) else([(uS s n i n i).1],(uS s n i n i).2)
theorem EH (hc:lb s l j cs)(Ic:bt s j≠44)(hn:j<=n)(Gk:l<j):∀{pre:List (List d9)} {i:Nat} (f:Nat),SelsPre s i l pre->pre.length<f->sw s n f i=(pre++[cs],j)
 | [],i,f,h,hf=>by
  simp only[SelsPre] at h;subst h;cases f with
  | zero=>simp at hf
  | succ f=>
   unfold sw;rw[AF hc hn,aj Ic];rfl
 | x :: ss,i,f,⟨l',h1,h2,h3,h4⟩,hf=>by
  cases f with
  | zero=>simp at hf
  | succ f=>
   have:=jp h4;unfold sw;rw[AF h1 (by omega:l'<=n),aq h3,EH hc Ic hn Gk f h4 (by simpa using hf)];rfl
theorem qh:∀{ss:List (List d9)} {i j:Nat},SelsPre s i j ss->ss.length<=j - i
 | [],_,_,_=>by simp
 | _ :: _,_,_,⟨l,_,h2,_,h5⟩=>by
  have:=qh h5;have:=jp h5;simp only[List.length_cons];omega
theorem GX {ss:List (List d9)}(h:oH s i j ss)(hn:j<=n):sw s n n i=(ss,j):=by
 obtain⟨pre,l,cs,rfl,h2,h3,h4,h5⟩:=h;have:=qh h2;exact EH h3 h5 hn h4 n h2 (by omega)
def H8 (s:ByteArray)(i:Nat):Nat:=if iJ (bt s (i+1))=true then(if iJ (bt s (i+2))=true then 3 else 2) else 1
def EY (s:ByteArray)(i:Nat):Int × Int × Int × Nat:=
 if bt s i=105 then(2,0,0,i+1) else if bt s i=114 then(3,0,0,i+1) else if bt s i=117 then(4,0,0,i+1) else if bt s i=36 then(5,0,bt s (i+1),i+2) else(1,BO s i (H8 s i),0,i+H8 s i)
theorem Tc {kd nv vr:Int}(h:CP s i j kd nv vr):EY s i=(kd,nv,vr,j):=by
 unfold EY;rcases h with⟨h1,rfl,rfl,rfl,rfl⟩ | ⟨h1,rfl,rfl,rfl,rfl⟩ | ⟨h1,rfl,rfl,rfl,rfl⟩ | ⟨h1,rfl,rfl,rfl,_,rfl⟩ | ⟨rfl,h2,rfl,h4,h5,h6,h7⟩
 ·rw[aq h1]
 ·rw[aj (by omega),aq h1]
 ·rw[aj (by omega),aj (by omega),aq h1]
 ·rw[aj (by omega),aj (by omega),aj (by omega),aq h1]
 ·have h0:=wD (h6 i au h4);rw[aj (by omega),aj (by omega),aj (by omega),aj (by omega)]
  have hd:H8 s i=j - i:=by
   unfold H8
   by_cases a:i+1<j
   ·rw[aq (h6 _ (by omega) a)]
    by_cases b:i+2<j
    ·rw[aq (h6 _ (by omega) b)];omega
    ·obtain rfl:j=i+2:=by omega
     rcases h7 with h7 | h7
     ·omega
     ·rw[aj (by rw[h7];simp)];omega
   ·obtain rfl:j=i+1:=by omega
    rcases h7 with h7 | h7
    ·omega
    ·rw[aj (by rw[h7];simp)];omega
  rw[hd,h2,show i+(j - i)=j from by omega]
def ua (s:ByteArray)(i:Nat):PDc × Nat:=
 (⟨bt s i,(EY s (i+2)).1,(EY s (i+2)).2.1,(EY s (i+2)).2.2.1,decide (bt s (EY s (i+2)).2.2.2=33)⟩,(EY s (i+2)).2.2.2+if bt s (EY s (i+2)).2.2.2=33 then 1 else 0)
theorem C6 (h:mg s i j d):ua s i=(d,j):=by
 obtain⟨_,h2,_,k,h4,_,h6⟩:=h;obtain⟨pr,kd,nu,va,im⟩:=d;unfold ua;rw[Tc h4];replace h2:pr=bt s i:=h2;subst h2;rcases h6 with⟨h7,h8,h9⟩ | ⟨h7,h8,h9⟩
 ·replace h7:im=true:=h7;simp[h7,h8,h9]
 ·replace h7:im=false:=h7;simp[h7,h8,h9]
def C5 (s:ByteArray):Nat->Nat->List PDc × Nat
 | 0,i=>([],i)
 | f+1,i=>if bt s (ua s i).2=59 then((ua s i).1 :: (C5 s f ((ua s i).2+1)).1,(C5 s f ((ua s i).2+1)).2) else([(ua s i).1],(ua s i).2)
theorem H5 (hc:mg s l j d)(J1:bt s j≠59):∀{pre:List PDc} {i:Nat} (f:Nat),DcPre s i l pre->pre.length<f->C5 s f i=(pre++[d],j)
 | [],i,f,h,hf=>by
  simp only[DcPre] at h;subst h;cases f with
  | zero=>simp at hf
  | succ f=>
   unfold C5;rw[C6 hc,aj J1];rfl
 | x :: ss,i,f,⟨l',h1,h2,h3,h4⟩,hf=>by
  cases f with
  | zero=>simp at hf
  | succ f=>
   unfold C5;rw[C6 h1,aq h3,H5 hc J1 f h4 (by simpa using hf)];rfl
theorem t9:∀{ds:List PDc} {i j:Nat},DcPre s i j ds->i<=j/\ds.length<=j - i
 | [],_,_,h=>by simp only[DcPre] at h;subst h;simp
 | _ :: _,_,_,⟨l,_,h2,_,h5⟩=>by
  have:=t9 h5;simp only[List.length_cons];omega
theorem JL (h:CA s i j ds)(hn:j<=n):C5 s n i=(ds,j):=by
 obtain⟨pre,l,d,rfl,h2,h3,h4,h5⟩:=h;have:=t9 h2;exact H5 h3 h5 n h2 (by omega)
def Ro (s:ByteArray)(n i:Nat):List PDc × Nat:=if bt s (i+1)=125 then([],i+2) else((C5 s n (i+1)).1,(C5 s n (i+1)).2+1)
theorem Rp (h:Cv s i j ds)(hn:j<=n):Ro s n i=(ds,j):=by
 unfold Ro;rcases h.2 with⟨h1,rfl,rfl⟩ | ⟨h1,k,h2,h3,rfl⟩
 ·rw[aq h1]
 ·rw[aj h1,JL h2 (by omega)]
def OK (s:ByteArray)(i:Nat):Nat:=if bt s i=64 then i+2 else i
def IT (s:ByteArray)(n i:Nat):dF × Nat:=
 (⟨OL s i,(sw s n n (OK s i)).1,(Ro s n (sw s n n (OK s i)).2).1⟩,(Ro s n (sw s n n (OK s i)).2).2)
theorem PY {r:dF}(h:sV s i j r)(hn:j<=n):IT s n i=(r,j):=by
 obtain⟨l,q,h1,h2,h3,h4,h5,h6,h7,h8⟩:=h
 have hl:OK s i=l:=by
  unfold OK;rcases h1 with⟨a,b⟩ | ⟨a,b⟩
  ·rw[aq a,b]
  ·rw[aj a,b]
 unfold IT;rw[hl,GX h2 (by omega),Rp h8 hn,<-h7]
def Ev (s:ByteArray)(n:Nat):Nat->Nat->List dF
 | 0,_=>[]
 | f+1,i=>if i<s.size then(IT s n i).1 :: Ev s n f (IT s n i).2 else[]
theorem AD:∀{rs:List dF} {i j:Nat},RulsAt s i j rs->i<=j
 | [],_,_,h=>by simp only[RulsAt] at h;omega
 | _ :: _,_,_,⟨_,_,h2,h5⟩=>by have:=AD h5;omega
theorem Ew (hn:s.size<=n):∀{rs:List dF} {i:Nat} (f:Nat),RulsAt s i s.size rs->s.size - i<=f->Ev s n f i=rs
 | [],i,f,h,_=>by
  simp only[RulsAt] at h;subst h;cases f with
  | zero=>rfl
  | succ f=>unfold Ev;rw[aj (Nat.lt_irrefl _)]
 | r :: rs,i,f,⟨l,h1,h2,h3⟩,hf=>by
  have:=AD h3;cases f with
  | zero=>omega
  | succ f=>
   unfold Ev;rw[aq (by omega),PY h1 (by omega),Ew hn f h3 (by omega)]
def eH (s:ByteArray):List dF:=Ev s 400 400 0
theorem AJ (h4:s.size<=400){rs:List dF}(h:RulsAt s 0 s.size rs):eH s=rs:=Ew h4 400 h (by omega)
end
section
variable {an:Nat}{w:World}
theorem rz:∀{xs:List Value} {cs:List d9} {i:Nat},Comps w an xs cs->(h:i<cs.length)->∃(a:Option Addr) (c:Nat) (ps:List Value),xs[i*3]?=some (.int .u8 cs[i].sg)/\xs[i*3+1]?=some (.int .u8 cs[i].ty)/\xs[i*3+2]?=some (.slice a cs[i].ps.length c)/\w.ownsRow an 192 5 (.slice a cs[i].ps.length c) cs[i].ps.length ps/\Kinds ps cs[i].ps
 | _,_ :: cs,0,⟨a,c,ps,ys,h1,h2,h3,_⟩,_=>by subst h1;exact⟨a,c,ps,rfl,rfl,rfl,h2,h3⟩
 | _,_ :: cs,i+1,⟨a,c,ps,ys,h1,h2,h3,h4⟩,h=>by
  obtain⟨a',c',uq,e1,e2,e3,e4,e5⟩:=rz (i:=i) h4 (by simpa using h);subst h1;rw[show(i+1)*3=i*3+3 from by omega];exact⟨a',c',uq,by simpa using e1,by simpa using e2,by simpa using e3,by simpa using e4,by simpa using e5⟩
theorem Cb:∀{xs:List Value} {ss:List (List d9)} {i:Nat},Sels w an xs ss->(h:i<ss.length)->∃(a:Option Addr) (c:Nat) (ps:List Value),xs[i]?=some (.slice a ss[i].length c)/\w.ownsRow an 190 3 (.slice a ss[i].length c) ss[i].length ps/\Comps w an ps ss[i]
 | _,cs :: ss,0,⟨a,c,ps,ys,h1,h2,h3,_⟩,_=>by subst h1;exact⟨a,c,ps,rfl,h2,h3⟩
 | _,cs :: ss,i+1,⟨a,c,ps,ys,h1,h2,h3,h4⟩,h=>by
  obtain⟨a',c',uq,e1,e2,e3⟩:=Cb (i:=i) h4 (by simpa using h);subst h1;exact⟨a',c',uq,by simpa using e1,by simpa using e2,by simpa using e3⟩
theorem B7:∀{xs:List Value} {rs:List dF} {i:Nat},Ruls w an xs rs->(h:i<rs.length)->∃(a:Option Addr) (c:Nat) (ps:List Value),xs[i*3+1]?=some (.slice a rs[i].ss.length c)/\w.ownsRow an 141 1 (.slice a rs[i].ss.length c) rs[i].ss.length ps/\Sels w an ps rs[i].ss
 | _,ss :: rs,0,⟨a,c,a',c',ps,qs,ys,h1,h2,h3,_⟩,_=>by subst h1;exact⟨a,c,ps,rfl,h2,h3⟩
 | _,ss :: rs,i+1,⟨a,c,a',c',ps,qs,ys,h1,h2,h3,h5,h4⟩,h=>by
  obtain⟨a1,c1,ps1,e1,e2,e3⟩:=B7 (i:=i) h4 (by simpa using h);subst h1;rw[show(i+1)*3+1=i*3+1+3 from by omega];exact⟨a1,c1,ps1,by simpa using e1,by simpa using e2,by simpa using e3⟩
theorem tM:∀{xs:List Value} {rs:List dF} {i:Nat},Ruls w an xs rs->(h:i<rs.length)->xs[i*3]?=some (.int .i64 rs[i].ly)/\∃(a:Option Addr) (c:Nat) (qs:List Value),xs[i*3+2]?=some (.slice a rs[i].ds.length c)/\w.ownsRow an 253 5 (.slice a rs[i].ds.length c) rs[i].ds.length qs/\Decs qs rs[i].ds
 | _,ss :: rs,0,⟨a,c,a',c',ps,qs,ys,h1,h2,h3,h5,_⟩,_=>by subst h1;exact⟨rfl,a',c',qs,rfl,h5.1,h5.2⟩
 | _,ss :: rs,i+1,⟨a,c,a',c',ps,qs,ys,h1,h2,h3,h5,h4⟩,h=>by
  obtain⟨e0,a1,c1,ps1,e1,e2,e3⟩:=tM (i:=i) h4 (by simpa using h);subst h1;rw[show(i+1)*3=i*3+3 from by omega];exact⟨by simpa using e0,a1,c1,ps1,by simpa using e1,by simpa using e2,by simpa using e3⟩
theorem H7:∀{xs:List Value} {ks:List PDc} {i:Nat},Decs xs ks->(h:i<ks.length)->xs[i*5]?=some (.int .u8 ks[i].pr)/\xs[i*5+1]?=some (.int .i64 ks[i].kd)/\xs[i*5+2]?=some (.int .i64 ks[i].nu)/\xs[i*5+3]?=some (.int .u8 ks[i].va)/\xs[i*5+4]?=some (.bool ks[i].im)
 | _,k :: ks,0,⟨ys,h1,_⟩,_=>by subst h1;exact⟨rfl,rfl,rfl,rfl,rfl⟩
 | _,k :: ks,i+1,⟨ys,h1,h2⟩,h=>by
  obtain⟨e1,e2,e3,e4,e5⟩:=H7 (i:=i) h2 (by simpa using h);subst h1;rw[show(i+1)*5=i*5+5 from by omega];exact⟨by simpa using e1,by simpa using e2,by simpa using e3,by simpa using e4,by simpa using e5⟩
theorem P2 (w:World)(an:Nat)(a:Option Addr)(c:Nat)(cs:List d9)(xs:List Value)(ho:w.ownsRow an 190 3 (.slice a cs.length c) cs.length xs)(hk:Comps w an xs cs)(hs:rn cs):
  Calls prog 88 #[.agg #[.slice a cs.length c]] w λe w'=>XW w (zC cs) e w':=by
 have HO:=kK ho hk hs;have hl:=hs.1;clear ho hk hs;go_enter func88,ntmps88;go_wp2_with fail
 go_loopg [3,9] cs.length (λgk sv iv wr=>∃i:Nat,iv=.int .i64 i/\i<=cs.length/\cs.length - i<=gk/\sv=.int .i64 ((zC (cs.take i):Nat):Int)/\Below w.heap.size w wr)
 case atStart=>exact⟨0,rfl,aZ,by omega,by simp[zC],bd.alloc au _⟩
 case round=>
  obtain⟨i,rfl,hi,fS,rfl,hB⟩:=hrel
  by_cases aU:i<cs.length
  ·have hd:decide ((i:Int)<(cs.length:Int))=true:=by simp;omega
   obtain⟨g,hg,dn,hc⟩:=aR HO.out.1 (by omega);subst hg;obtain⟨a',c',ps,e0,e1,e2,e3,e4⟩:=rz HO.out.2.1 aU;have c0:=(hB.cell (p:=⟨g,i*3,none⟩) dn).trans (hc _ _ e0);have c1:=(hB.cell (p:=⟨g,i*3+1,none⟩) dn).trans (hc _ _ e1);have c2:=(hB.cell (p:=⟨g,i*3+2,none⟩) dn).trans (hc _ _ e2);have HP:=ae (NN aU);have qW:=oK HO.out.2.2 i;have OC:=HO.out.2.2.2 cs[i] (bK aU);have ud:=TJ cs[i].ty cs[i].ps;have HE:=bT e3 e4;clear e0 e1 e2 e3 e4 hc;generalize cs[i].sg=sg at c0;generalize cs[i].ty=ty at c1 HP ud;generalize cs[i].ps=ks at c2 HP ud HE OC;generalize zC (cs.take i)=p0 at HP qW;go_wp2_with fail;have TX:Keeps w (wr.alloc (.cells #[.int .u8 sg,.int .u8 ty,.slice a' ks.length c'] 190)) an 192:=(ik hB _ _).trans (cQ _ _ _ _);refine(JJ _ an sg ty a' c' ks ps (by exact TX.owns HE.out.1) HE.out.2 OC).mono ?_;rintro e w2 ⟨rfl,hb⟩;generalize cw ty ks=p1 at HP ud;have dq:Below w.heap.size w w2:=(hB.alloc hB.size _).trans (hb.mono (by have:=hB.size;simp;omega));clear c0 c1 c2 hb TX;go_wp2;go_roundg (cs.length - (i+1))
   case measure=>omega
   case rel=>exact⟨i+1,by go_num,by omega,au,by rw[HP.out];congr 1,dq⟩
  ·have hd:decide ((i:Int)<(cs.length:Int))=false:=by simp;omega
   obtain rfl:i=cs.length:=by omega
   go_wp2;go_ret;refine⟨?_,hB⟩;rw[List.take_length];rfl
end
section
variable {M m:Int}{c i j l ty:Nat}{cs:List d9}{k:Cn}{ks:List PPt}{s:ByteArray}
theorem FY {kd:PPt}(h':jI s i kd j):Plain s i j:=by
 have h:=h'.2;split at h
 ·rename_i iV;split at h
  ·rename_i hl;obtain⟨_,rfl⟩:=h;exact(Plain.one (kw (by omega))).cat (Plain.one (vg hl))
  ·exact(Plain.one (kw (by omega))).cat h.2.2.2.2.2.1
 ·exact h.2.2.2.2.2.1
theorem lZ:∀{ks:List PPt} {i j:Nat},PartsAt s i j ks->Plain s i j
 | [],_,_,h=>by simp only[PartsAt] at h;subst h;intro k k1 k2;omega
 | _ :: _,_,_,⟨_,_,h1,h2⟩=>(FY h1).cat (lZ h2)
theorem jW (h:fl s i j ty ks):Plain s i j:=by
 rcases h with⟨h1,_,h2⟩ | ⟨_,h1,_,h2⟩ | ⟨_,_,_,h2,_⟩
 ·exact(Plain.one (vg h1)).cat (lZ h2)
 ·exact(Plain.one (kw (by omega))).cat (lZ h2)
 ·exact lZ h2
theorem vh (h:plain c=true):i6 c=false:=by simp only[plain,bF] at h;exact h.1
theorem SL (h:plain c=true):c≠44/\c≠123:=by simp only[plain,bF] at h;exact h.2
theorem S_n (h:i6 c=true):c≠44/\c≠123:=by simp only[i6,bF] at h;omega
def U0 (s:ByteArray)(i j:Nat):Prop:=∀k,i<=k->k<j->bt s k≠44/\bt s k≠123
theorem Plain.ncb (h:Plain s i j):U0 s i j:=λk k1 k2=>SL (h k k1 k2)
theorem xY:∀{cs:List d9} {i0 i j:Nat},SelPre s i0 i j cs->U0 s i j
 | [],_,_,_,h=>by simp only[SelPre] at h;subst h;intro k k1 k2;omega
 | _ :: _,_,i,j,⟨l,h1,h2,_,h4,h5,_⟩=>λk k1 k2=>by
  by_cases e:k<l
  ·exact(jW h1).ncb k k1 e
  ·by_cases e2:k=l
   ·rw[e2];exact S_n h4
   ·exact xY h5 k (by omega) k2
theorem pU (h:lb s i j cs):U0 s i j:=by
 obtain⟨pre,l,ty,ks,_,h2,h3,_⟩:=h;intro k k1 k2
 by_cases e:k<l
 ·exact xY h2 k k1 e
 ·exact(jW h3).ncb k (by omega) k2
theorem qi:∀{ss:List (List d9)} {i j:Nat},SelsPre s i j ss->∀k,i<=k->k<j->bt s k≠123
 | [],_,_,h=>by simp only[SelsPre] at h;subst h;intro k k1 k2;omega
 | _ :: _,i,j,⟨l,h1,h2,h3,h4⟩=>λk k1 k2=>by
  by_cases e:k<l
  ·exact(pU h1 k k1 e).2
  ·by_cases e2:k=l
   ·rw[e2,h3];omega
   ·exact qi h4 k (by omega) k2
theorem xZ {ss:List (List d9)}(h:oH s i j ss):∀k,i<=k->k<j->bt s k≠123:=by
 obtain⟨pre,l,cs,_,h2,h3,_,_⟩:=h;intro k k1 k2
 by_cases e:k<l
 ·exact qi h2 k k1 e
 ·exact(pU h3 k (by omega) k2).2
def CS (s:ByteArray):List (Nat × Nat)->List d9->Prop
 | [],[]=>True
 | (p,q) :: r,x :: cs=>(fl s p q x.ty x.ps/\p<q/\q<=s.size)/\CS s r cs
 | _,_=>False
def SS (s:ByteArray):List (List (Nat × Nat))->List (List d9)->Prop
 | [],[]=>True
 | a :: r,b :: cs=>CS s a b/\SS s r cs
 | _,_=>False
theorem pT:∀{aQ:List (Nat × Nat)} {i j:Nat},Segs s i j aQ->i<=j
 | [],_,_,h=>by simp only[Segs] at h;omega
 | (_,_) :: _,_,_,⟨h1,_,h3,_,h5⟩=>by have:=pT h5;omega
theorem DT {sg:Int}{i0:Nat}(hc:fl s l j ty ks)(Gk:l<j)(zO:j<=s.size):∀{pre:List d9} {i:Nat} {aQ:List (Nat × Nat)},SelPre s i0 i l pre->mi s i j aQ->CS s aQ (pre++[⟨sg,ty,ks⟩])
 | [],i,aQ,h,⟨pre',p,e1,e2,e3,e4⟩=>by
  simp only[SelPre] at h;subst h e1;cases pre' with
  | nil=>simp only[Segs] at e2;subst e2;exact⟨⟨hc,Gk,zO⟩,trivial⟩
  | cons x r=>
   obtain⟨p',q'⟩:=x;obtain⟨rfl,f2,f3,f4,f5⟩:=e2;have:=pT f5;have:=vh (jW hc q' f3 (by omega));rw[f4] at this;cases this
 | _ :: cs,i,aQ,⟨l',h1,h2,h3,h4,h5,_⟩,⟨pre',p,e1,e2,e3,e4⟩=>by
  have hl:=j7 h5;subst e1;cases pre' with
  | nil=>
   simp only[Segs] at e2;subst e2;have:=e4 l' (by omega) (by omega);rw[h4] at this;cases this
  | cons x r=>
   obtain⟨p',q'⟩:=x;obtain⟨rfl,f2,f3,f4,f5⟩:=e2
   have hq:q'=l':=by
    by_cases a:q'<l'
    ·have:=vh (jW h1 q' f3 a);rw[f4] at this;cases this
    ·by_cases b:l'<q'
     ·have:=f2 l' (by omega) b;rw[h4] at this;cases this
     ·omega
   subst hq;exact⟨⟨h1,h2,by omega⟩,DT hc Gk zO h5 ⟨r,p,rfl,f5,e3,e4⟩⟩
theorem Ah {aQ:List (Nat × Nat)}(h:lb s i j cs)(h':mi s i j aQ)(zO:j<=s.size):CS s aQ cs:=by
 obtain⟨pre,l,ty,ks,rfl,h2,h3,h4,_,_⟩:=h;exact DT h3 h4 zO h2 h'
theorem jz:∀{ss:List (List (Nat × Nat))} {i j:Nat},RSelsPre s i j ss->i<=j
 | [],_,_,h=>by simp only[RSelsPre] at h;omega
 | _ :: _,_,_,⟨_,_,h2,_,_,h5⟩=>by have:=jz h5;omega
theorem Ai (hc:lb s l j cs)(Gk:l<j)(zO:j<=s.size):∀{pre:List (List d9)} {i:Nat} {ss:List (List (Nat × Nat))},SelsPre s i l pre->rj s i j ss->SS s ss (pre++[cs])
 | [],i,ss,h,⟨pre',p,aQ,e1,e2,e3,e4,e5⟩=>by
  simp only[SelsPre] at h;subst h e1;cases pre' with
  | nil=>simp only[RSelsPre] at e2;subst e2;exact⟨Ah hc e3 zO,trivial⟩
  | cons x r=>
   obtain⟨l',f1,f2,f3,f4,f5⟩:=e2;have:=jz f5;exact absurd f3 (pU hc l' f2 (by omega)).1
 | c' :: Va,i,ss,⟨l',h1,h2,h3,h4⟩,⟨pre',p,aQ,e1,e2,e3,e4,e5⟩=>by
  have hl:=jp h4;subst e1;cases pre' with
  | nil=>
   simp only[RSelsPre] at e2;subst e2;exact absurd h3 (e5 l' (by omega) (by omega))
  | cons x r=>
   obtain⟨q',f1,f2,f3,f4,f5⟩:=e2
   have hq:q'=l':=by
    by_cases a:q'<l'
    ·exact absurd f3 (pU h1 q' f2 a).1
    ·by_cases b:l'<q'
     ·exact absurd h3 (f4 l' (by omega) b)
     ·omega
   subst hq;exact⟨Ah h1 f1 (by omega),Ai hc Gk zO h4 ⟨r,p,aQ,rfl,f5,e3,e4,e5⟩⟩
theorem Rh (s:ByteArray):∀(f:Nat) (m:Int) (k k':Cn) (i:Nat),(Vf s f m k i).1=(Vf s f m k' i).1:=by
 intro f
 induction f with
 | zero=>intro m k k' i;simp only[Vf];split<;>rfl
 | succ f ih=>
  intro m k k' i;simp only[Vf];split
  ·rfl
  ·exact ih _ _ _ _
theorem Acc.any (h:Acc s m k i M)(k':Cn):∃M',Acc s m k' i M':=by
 refine⟨(V s m k' i).2,Prod.ext ?_ rfl⟩;show(V s m k' i).1=-1;unfold Acc at h;have:=Rh s (s.size - i) m k' k i;unfold V at h ⊢;rw[this,h]
theorem NH (h:k.mn≠-1):(cnt m c i k).mn=k.mn:=by
 unfold cnt cZ ms;split
 ·simp only[ite_self]
 ·split
  ·rfl
  ·split
   ·split
    ·simp only[ite_self]
    ·split<;>rfl
   ·rfl
theorem U5 (s:ByteArray):∀(f:Nat) (m:Int) (k:Cn) (i:Nat) (M:Int),k.mn≠-1->Vf s f m k i=(-1,M)->M=k.mn:=by
 intro f
 induction f with
 | zero=>
  intro m k i M hk h;simp only[Vf] at h;split at h
  ·injection h with _ h;exact h.symm
  ·injection h with h _;omega
 | succ f ih=>
  intro m k i M hk h;simp only[Vf] at h;split at h
  ·injection h with h _;omega
  ·have e:=NH (m:=m) (c:=bt s i) (i:=i) hk;have:=ih _ _ _ _ (by rw[e];exact hk) h;rw[this,e]
theorem zp {nc:Nat}(h:Acc s 0 ⟨20,nc,-1⟩ i M):(i<s.size->M=i)/\(¬i<s.size->M=-1):=by
 constructor
 ·intro hi;have h2:=h.step hi;have hm:(cnt 0 (bt s i) i ⟨20,nc,-1⟩).mn=i:=by simp[cnt,cZ,ms]
  unfold Acc V at h2;have:=U5 s _ _ _ _ _ (by rw[hm];omega) h2;rw[this,hm]
 ·intro hi;unfold Acc at h;rw[vU (by omega),aq rfl] at h;injection h with _ h
  exact h.symm
theorem SZ:∀(d:Nat) {m:Int} {k:Cn} {p:Nat},iI m->Acc s m k p M->(∀j,p<=j->j<p+d->bt s j≠123)->∃m' k',iI m'/\Acc s m' k' (p+d) M:=by
 intro d
 induction d with
 | zero=>intro m k p hm h _;exact⟨m,k,hm,h⟩
 | succ d ih=>
  intro m k p hm h hn;have hl:=h.lt (by unfold iI at hm;omega);obtain⟨m',k',h1,h2⟩:=ih (xX hm (hn p au (by omega)) (h.ok hl)) (h.step hl) (λj j1 j2=>hn j (by omega) (by omega));exact⟨m',k',h1,by rw[show p+(d+1)=p+1+d from by omega];exact h2⟩
theorem pM {a b:Nat}(h:lO s i a)(h':lO s i b):a=b:=by
 rcases h with⟨h1,h2⟩ | ⟨h1,h2⟩<;>rcases h' with⟨h3,h4⟩ | ⟨h3,h4⟩<;>omega
theorem Kq {ru:dF}{ss':List (List (Nat × Nat))}(ha:Acc s 0 k i M)(hi:i<s.size)(zO:j<=s.size)(BF:l<=s.size)(h:sV s i j ru)(h':ri s i l ss'):
  j=l/\SS s ss' ru.ss/\∃k' M',Acc s 0 k' l M':=by
 obtain⟨p,q,a1,a2,a3,a4,a5,a6,_⟩:=h;obtain⟨ly,ss,ds⟩:=ru;replace a2:oH s p q ss:=a2;obtain⟨p',q',b1,b2,b3,b4,b5,b6,b7⟩:=h';obtain rfl:=pM a1 b1
 have Kh:q=q':=by
  by_cases x:q'<q
  ·have:p<=q':=by
    obtain⟨pre,l',aQ,_,e2,e3,e4,_⟩:=b2;have:=jz e2;omega
   exact absurd b3 (xZ a2 q' this x)
  ·by_cases y:q<q'
   ·exact absurd a4 (b4 q (by omega) y)
   ·omega
 subst Kh;obtain⟨pre,x,cs,e1,e2,e3,e4,_⟩:=a2;subst e1;refine(λ(Fh:j=l/\∃k' M',Acc s 0 k' l M')=>⟨Fh.1,Ai e3 e4 (by omega) e2 b2,Fh.2⟩) ?_;have h18:Acc s 18 ⟨k.nr+1,1,cZ (decide (k.nr=20)) k.mn i⟩ i M:=by unfold Acc at ha ⊢;rw[<-ha,vW hi]
 have h2:∃k2,Acc s 2 k2 p M:=by
  rcases a1 with⟨c1,c2⟩ | ⟨c1,c2⟩
  ·subst c2;have hl:=h18.lt (by omega);have t1:=h18.step hl;rw[show bY 18 (bt s i)=1 from by simp[bY,c1]] at t1;have DA:=t1.lt (by omega);have t2:=t1.step DA;have ho:=t1.ok DA
   have hd:iJ (bt s (i+1))=true:=by
    cases hd:iJ (bt s (i+1)) with
    | true=>rfl
    | false=>exfalso;apply ho;simp[bY,wh,hd]
   rw[show bY 1 (bt s (i+1))=2 from by simp[bY,wh,hd]] at t2;exact⟨_,t2⟩
  ·subst c2;refine⟨⟨k.nr+1,1,cZ (decide (k.nr=20)) k.mn p⟩,?_⟩;unfold Acc at h18 ⊢;rw[<-h18];exact((o7 (s:=s) (i:=p) (by omega)).1 _ 1 _).symm
 obtain⟨k2,h2⟩:=h2;obtain⟨m3,k3,i3,h3⟩:=SZ (q - p) (af rfl) h2 (λx x1 x2=>b4 x x1 (by omega));rw[show p+(q - p)=q from by omega] at h3;have hq:=h3.lt (by unfold iI at i3;omega);obtain rfl:=xW i3 (ai (ai b3)) (h3.ok hq);obtain⟨M1,g3⟩:=h3.any ⟨20,0,-1⟩;have g9:=g3.step hq;rw[b3,show bY 3 123=9 from by decide,show cnt 3 123 q ⟨20,0,-1⟩=⟨20,0,-1⟩ from by simp[cnt,i6]] at g9;obtain⟨m4,i4,h4,_,_⟩:=wB g9 (λx x1 x2=>b7 x (by omega) x2) (by omega) (l - 1 - (q+1)) (by omega);rw[show q+1+(l - 1 - (q+1))=l - 1 from by omega] at h4;have DA:l - 1<s.size:=by omega
 have h5:=h4.step DA;rw[(pH i4 (h4.ok DA)).1 b6,oL i4,show l - 1+1=l from by omega] at h5;have hj:Acc s 0 ⟨20,0,-1⟩ j M1:=by unfold Acc at g3 ⊢;rw[<-g3,a6]
 refine⟨?_,_,_,h5⟩;have p1:=zp h5;have p2:=zp hj
 by_cases c1:j<s.size
 ·by_cases c2:l<s.size
  ·have:=p1.1 c2;have:=p2.1 c1;omega
  ·have:=p1.2 c2;have:=p2.1 c1;omega
 ·by_cases c2:l<s.size
  ·have:=p1.1 c2;have:=p2.2 c1;omega
  ·omega
theorem pS:∀{rs:List dF} {i j:Nat},RulsAt s i j rs->i<=j
 | [],_,_,h=>by simp only[RulsAt] at h;omega
 | _ :: _,_,_,⟨_,_,h2,h5⟩=>by have:=pS h5;omega
theorem xR:∀{rs:List (List (List (Nat × Nat)))} {i j:Nat},RRulsAt s i j rs->i<=j
 | [],_,_,h=>by simp only[RRulsAt] at h;omega
 | _ :: _,_,_,⟨_,_,h2,h5⟩=>by have:=xR h5;omega
end
section
variable {i j:Nat}{s:ByteArray}
theorem j5:∀{ks:List PPt} {i j:Nat},PartsAt s i j ks->ks.length<=j - i
 | [],_,_,_=>by simp
 | _ :: _,_,_,⟨_,_,h1,h2⟩=>by
  have:=kP h1;have:=j5 h2;have:=(pe h2).1;simp only[List.length_cons];omega
theorem C0 {ty:Nat}{ks:List PPt}(h:fl s i j ty ks):ks.length<=j - i:=by
 rcases h with⟨_,_,h2⟩ | ⟨_,_,_,h2⟩ | ⟨_,_,_,h2,_⟩
 ·have:=j5 h2;omega
 ·have:=j5 h2;omega
 ·exact j5 h2
theorem sq:∀{cs:List d9} {i0 i j:Nat},SelPre s i0 i j cs->j<=400->cs.length<=j - i/\∀x∈cs,x.ps.length<=400
 | [],_,_,_,_,_=>⟨by simp,λx hx=>by cases hx⟩
 | y :: cs,_,i,j,⟨l,h1,h2,_,_,h5,_⟩,hj=>by
  obtain⟨a,b⟩:=sq h5 hj;have hl:=j7 h5;have hc:=C0 h1;refine⟨by simp only[List.length_cons];omega,λx hx=>?_⟩;rcases List.mem_cons.1 hx with rfl | hx
  ·omega
  ·exact b x hx
theorem AE {cs:List d9}(h:lb s i j cs)(hj:j<=400):rn cs:=by
 obtain⟨pre,l,ty,ks,rfl,h2,h3,h4,_⟩:=h;obtain⟨a,b⟩:=sq h2 (by omega);have hc:=C0 h3;refine⟨by simp only[List.length_append,List.length_cons,List.length_nil];omega,λx hx=>?_⟩;rcases List.mem_append.1 hx with hx | hx
 ·exact b x hx
 ·rcases List.mem_cons.1 hx with rfl | hx
  ·show ks.length<=400;omega
  ·cases hx
theorem qj:∀{ss:List (List d9)} {i j:Nat},SelsPre s i j ss->j<=400->ss.length<=j - i/\∀cs∈ss,rn cs
 | [],_,_,_,_=>⟨by simp,λx hx=>by cases hx⟩
 | cs :: ss,i,j,⟨l,h1,h2,_,h5⟩,hj=>by
  have hl:=jp h5;obtain⟨a,b⟩:=qj h5 hj;refine⟨by simp only[List.length_cons];omega,λx hx=>?_⟩;rcases List.mem_cons.1 hx with rfl | hx
  ·exact AE h1 (by omega)
  ·exact b x hx
theorem GW {ss:List (List d9)}(h:oH s i j ss)(hj:j<=400):ss.length<=400/\∀cs∈ss,rn cs:=by
 obtain⟨pre,l,cs,rfl,h2,h3,h4,_⟩:=h;obtain⟨a,b⟩:=qj h2 (by omega);refine⟨by simp only[List.length_append,List.length_cons,List.length_nil];omega,λx hx=>?_⟩;rcases List.mem_append.1 hx with hx | hx
 ·exact b x hx
 ·rcases List.mem_cons.1 hx with rfl | hx
  ·exact AE h3 hj
  ·cases hx
theorem xT:∀{rs:List dF} {i j:Nat},RulsAt s i j rs->j<=400->rs.length<=j - i/\∀r∈rs,r.ss.length<=400/\∀cs∈r.ss,rn cs
 | [],_,_,_,_=>⟨by simp,λx hx=>by cases hx⟩
 | ss :: rs,i,j,⟨l,h1,h2,h5⟩,hj=>by
  have hl:=pS h5;obtain⟨a,b⟩:=xT h5 hj;refine⟨by simp only[List.length_cons];omega,λx hx=>?_⟩;rcases List.mem_cons.1 hx with rfl | hx
  ·obtain⟨p,q,_,a2,_,_,a5,_⟩:=h1;exact GW a2 (by omega)
  ·exact b x hx
theorem zu (h:(gP s).1=0):s.size<=400:=by
 unfold gP at h
 by_cases h4:400<s.size
 ·rw[aq h4] at h;simp at h
 ·omega
end
section
variable {G:Nat->Prop}{i j:Nat}{p:PPt}{rs:List dF}{s:ByteArray}{v:Value}{w w':World}{xs:List Value}
def PPt.rng (p:PPt):Prop:=(-48<=p.st/\p.st<=207)/\(-48<=p.sr/\p.sr<=207)
theorem KP (s:ByteArray)(i:Nat):(fC s i).rng:=by
 have h1:=zq s (i+1);have h2:=zq s (i+2);unfold fC
 (repeat' split)<;>(refine⟨⟨?_,?_⟩,⟨?_,?_⟩⟩<;>simp<;>omega)
theorem EQ (s:ByteArray)(i:Nat):(ir s i).rng:=by
 unfold ir;split
 ·refine⟨⟨?_,?_⟩,⟨?_,?_⟩⟩<;>simp
 ·split
  ·refine⟨⟨?_,?_⟩,⟨?_,?_⟩⟩<;>simp
  ·exact KP s _
theorem Pr (s:ByteArray)(i:Nat):(mu s i).rng:=by
 unfold mu;split
 ·split
  ·refine⟨⟨?_,?_⟩,⟨?_,?_⟩⟩<;>simp
  ·exact EQ s _
 ·exact EQ s _
theorem Px (s:ByteArray)(i:Nat):(fC s i).kd≠2/\(fC s i).kd≠3:=by
 unfold fC
 (repeat' split)<;>simp
def uB (kd:Int):Nat:=if kd=2 then 46 else 35
theorem uC (h:ig s i p j)(hk:p.kd=2∨p.kd=3):bt s i=uB p.kd/\p.lt=(bt s (i+1):Int)/\gw (bt s (i+1))=true/\j=i+2:=by
 obtain⟨h1,_,_,h4,h5,_,h7⟩:=h
 have hb:bt s i=46∨bt s i=35:=by
  rcases h5 with e | e | e
  ·exact af e
  ·exact ai e
  ·exfalso;have h8:p=fC s (i+1):=by rw[h1];unfold ir;rw[aj (by omega),aj (by omega)]
   have h9:=Px s (i+1);rw[<-h8] at h9;exact hk.elim h9.1 h9.2
 have hL:gw (bt s (i+1))=true:=by
  rcases h7 with h | h
  ·exact h.2
  ·omega
 have hj:j=i+2:=by rw[h4];unfold sl;rw[aj (by omega)]
 unfold uB;rcases hb with e | e
 ·have h8:p=⟨false,2,bt s (i+1),0,0⟩:=by rw[h1];unfold ir;rw[aq e]
  rw[h8];exact⟨e,rfl,hL,hj⟩
 ·have h8:p=⟨false,3,bt s (i+1),0,0⟩:=by rw[h1];unfold ir;rw[aj (by omega),aq e]
  rw[h8];exact⟨e,rfl,hL,hj⟩
theorem Ap (h:jI s i p j)(hk:p.kd=2∨p.kd=3):∃n,i<=n/\n+2=j/\bt s n=uB p.kd/\p.lt=(bt s (n+1):Int)/\gw (bt s (n+1))=true:=by
 have h2:=h.2;split at h2
 ·split at h2
  ·omega
  ·obtain⟨e1,e2,e3,e4⟩:=uC h2 hk;exact⟨i+1,by omega,by omega,e1,e2,e3⟩
 ·obtain⟨e1,e2,e3,e4⟩:=uC h2 hk;exact⟨i,by omega,by omega,e1,e2,e3⟩
def PPt.fine (p:PPt):Prop:=p.rng/\(p.kd=2∨p.kd=3->p.lt≠0)
theorem xw:∀{ks:List PPt} {i j:Nat},PartsAt s i j ks->∀p∈ks,p.fine
 | [],_,_,_=>λp hp=>by cases hp
 | _ :: _,_,_,⟨_,_,h2,h3⟩=>λp hp=>by
  rcases List.mem_cons.1 hp with rfl | hp
  ·refine⟨by rw[(Dn h2).1];exact Pr s _,λhk=>?_⟩;obtain⟨n,_,_,_,h5,h6⟩:=Ap h2 hk;unfold gw at h6;rw[bF] at h6;omega
  ·exact xw h3 p hp
def PDc.fine (d:PDc):Prop:=(0<=d.pr/\d.pr<=255)/\(0<=d.va/\d.va<=255)
structure RsRow (w:World)(ar:Option Addr)(cr:Nat)(xs:List Value)(rs:List dF):Prop where
 row:w.ownsRow 0 138 3 (.slice ar rs.length cr) rs.length xs
 ruls:Ruls w 0 xs rs
 few:rs.length<=400
 short:∀r∈rs,r.ss.length<=400/\∀cs∈r.ss,rn cs
 fine:∀r∈rs,∀cs∈r.ss,∀x∈cs,∀p∈x.ps,p.fine
 decl:∀r∈rs,r.ds.length<=400/\∀d∈r.ds,d.fine
theorem RsRow.below {ar:Option Addr}{cr:Nat}(h:RsRow w ar cr xs rs)(hB:Below w.heap.size w w'):RsRow w' ar cr xs rs:=
 ⟨aN h.row hB,h.ruls.keep (λ_ _=>ik hB _ _),h.few,h.short,h.fine,h.decl⟩
theorem zy {ty:Nat}{ks:List PPt}(h:fl s i j ty ks):∀p∈ks,p.fine:=by
 rcases h with⟨_,_,h⟩ | ⟨_,_,_,h⟩ | ⟨_,_,_,h,_⟩<;>exact xw h
theorem uz:∀{cs:List d9} {i0 i j:Nat},SelPre s i0 i j cs->∀x∈cs,∀p∈x.ps,p.fine
 | [],_,_,_,_=>λx hx=>by cases hx
 | y :: cs,_,i,j,⟨l,h1,_,_,_,h5,_⟩=>λx hx=>by
  rcases List.mem_cons.1 hx with rfl | hx
  ·exact zy h1
  ·exact uz h5 x hx
theorem Ex {cs:List d9}(h:lb s i j cs):∀x∈cs,∀p∈x.ps,p.fine:=by
 obtain⟨pre,l,ty,ks,rfl,h2,h3,_⟩:=h;intro x hx;rcases List.mem_append.1 hx with hx | hx
 ·exact uz h2 x hx
 ·rw[fg] at hx;subst hx;exact zy h3
theorem sx:∀{ss:List (List d9)} {i j:Nat},SelsPre s i j ss->∀cs∈ss,∀x∈cs,∀p∈x.ps,p.fine
 | [],_,_,_=>λx hx=>by cases hx
 | cs :: ss,i,j,⟨l,h1,_,_,h5⟩=>λx hx=>by
  rcases List.mem_cons.1 hx with rfl | hx
  ·exact Ex h1
  ·exact sx h5 x hx
theorem Le {ss:List (List d9)}(h:oH s i j ss):∀cs∈ss,∀x∈cs,∀p∈x.ps,p.fine:=by
 obtain⟨pre,l,cs,rfl,h2,h3,_⟩:=h;intro x hx;rcases List.mem_append.1 hx with hx | hx
 ·exact sx h2 x hx
 ·rw[fg] at hx;subst hx;exact Ex h3
theorem zD {d:PDc}(h:mg s i j d):d.fine:=by
 obtain⟨_,h2,_,k,hv,_⟩:=h;have b1:=zq s i;have b2:=zq s (i+2+1);refine⟨by rw[h2];omega,?_⟩;rcases hv with h | h | h | h | h
 ·rw[h.2.2.2.1];omega
 ·rw[h.2.2.2.1];omega
 ·rw[h.2.2.2.1];omega
 ·rw[h.2.2.2.1];omega
 ·rw[h.2.2.1];omega
theorem wA:∀{ds:List PDc} {i j:Nat},DcPre s i j ds->i+ds.length<=j/\∀d∈ds,d.fine
 | [],_,_,h=>⟨by simp only[DcPre] at h;simp;omega,λx hx=>by cases hx⟩
 | d :: ds,i,j,⟨l,h1,h2,_,h5⟩=>by
  obtain⟨a,b⟩:=wA h5;refine⟨by rw[List.length_cons];omega,λx hx=>?_⟩;rcases List.mem_cons.1 hx with rfl | hx
  ·exact zD h1
  ·exact b x hx
theorem MP {ds:List PDc}(h:Cv s i j ds)(hj:j<=400):ds.length<=400/\∀d∈ds,d.fine:=by
 rcases h.2 with⟨_,rfl,_⟩ | ⟨_,k,⟨pre,l,d,rfl,h2,h3,h4,_⟩,_,rfl⟩
 ·exact⟨by simp,λx hx=>by cases hx⟩
 ·obtain⟨a,b⟩:=wA h2;refine⟨by simp;omega,λx hx=>?_⟩;rcases List.mem_append.1 hx with hx | hx
  ·exact b x hx
  ·rw[fg] at hx;subst hx;exact zD h3
theorem AC:∀{rs:List dF} {i j:Nat},RulsAt s i j rs->j<=400->(∀r∈rs,∀cs∈r.ss,∀x∈cs,∀p∈x.ps,p.fine)/\∀r∈rs,r.ds.length<=400/\∀d∈r.ds,d.fine
 | [],_,_,_,_=>⟨λx hx=>(by cases hx),λx hx=>by cases hx⟩
 | r :: rs,i,j,⟨l,h1,h2,h5⟩,hj=>by
  have hl:=pS h5;obtain⟨a,b⟩:=AC h5 hj;obtain⟨p,q,_,a2,_,_,_,_,_,a9⟩:=h1;refine⟨λx hx=>?_,λx hx=>?_⟩
  ·rcases List.mem_cons.1 hx with rfl | hx
   ·exact Le a2
   ·exact a x hx
  ·rcases List.mem_cons.1 hx with rfl | hx
   ·exact MP a9 (by omega)
   ·exact b x hx
def cf (T:aJ)(n:Int)(s:ByteArray):Int:=match bw T n with | none=>5 | some _=>if aG s=false then 4 else 0
def ct (T:aJ)(n:Int)(s:ByteArray):Int:=match bw T n with | none=>5 | some _=>if s.size≠0/\aG s=false then 4 else 0
def SheetIn (w:World)(G:Nat->Prop)(v:Value)(rs:List dF):Prop:=
 ∃(ar:Option Addr) (cr:Nat) (xs:List Value),v=.slice ar rs.length cr/\∀w':World,(∀k,G k->k<w.heap.size->w'.heap[k]?=w.heap[k]?)->RsRow w' ar cr xs rs
theorem SheetIn.keep (h:SheetIn w G v rs)(hk:∀k,G k->k<w.heap.size->w'.heap[k]?=w.heap[k]?)(hz:w.heap.size<=w'.heap.size):SheetIn w' G v rs:=by
 obtain⟨ar,cr,xs,hv,h⟩:=h;exact⟨ar,cr,xs,hv,λw2 h2=>h w2 (λk hg hl=>(h2 k hg (by omega)).trans (hk k hg hl))⟩
theorem SheetIn.row (h:SheetIn w G v rs):∃(ar:Option Addr) (cr:Nat) (xs:List Value),v=.slice ar rs.length cr/\RsRow w ar cr xs rs:=by
 obtain⟨ar,cr,xs,hv,h⟩:=h;exact⟨ar,cr,xs,hv,h w (λ_ _ _=>rfl)⟩
theorem RL (h:(gP s).1=0):s.size<=400:=by
 unfold gP at h;split at h
 ·cases h
 ·omega
theorem EK {a:Option Addr}{n c:Nat}(hc:(gP s).1=0)(hn:n=rs.length)(ho:w'.ownsRow w.heap.size 138 3 (.slice a n c) n xs)(hr:Ruls w' w.heap.size xs rs)(ht:RulsAt s 0 s.size rs):SheetIn w' (λk=>w.heap.size<=k/\k<w'.heap.size) (.slice a n c) (eH s):=by
 have h4:=RL hc;rw[AJ h4 ht];subst hn;obtain⟨hl,hs⟩:=xT ht h4;obtain⟨hf,hd⟩:=AC ht h4;refine⟨a,c,xs,rfl,λw2 h2=>?_⟩
 have hk:∀e,Keeps w' w2 w.heap.size e:=λe g fV hg hh=>by
  have dn:=(bx.1 hh).1;exact(h2 g ⟨hg,dn⟩ dn).trans hh
 exact⟨aP ((hk _).owns ho) aZ,(hr.keep (λe _=>hk e)).mono aZ,by omega,hs,hf,hd⟩
end
end Go.Proofs.YtblfffbmklkhmaaGreat
