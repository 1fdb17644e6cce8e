/- Own work. -/
import Derived.Test.YtblfffbmklkhmaaGreatPi1
import Derived.Test.YtblfffbmklkhmaaGreatPi14
import Derived.Test.YtblfffbmklkhmaaGreatPi9
import Derived.Deep.DeepCutAuto
import Derived.BigQuiet
import Derived.Laws.AppendOwnNone
import Derived.Test.YtblfffbmklkhmaaGreatPi3
import Derived.Test.YtblfffbmklkhmaaGreatPi7
import Derived.JoinedCond
set_option maxRecDepth 100000
set_option maxHeartbeats 40000000
namespace Go.Proofs.YtblfffbmklkhmaaGreat
open Go.RowKit Go.Proofs.Tryz
section
variable {H:Int->Prop}{T:aJ}{X:YS}{k made:Nat}{kl dh:List (Int × List Int)}{n:Int}{s:ByteArray}
def oc (X:YS)(n:Int)(on:Bool):YS:=if(bw X.T n).isSome=true then{X with shn:=mz X.shn n.toNat on} else X
def QB (X:YS)(st:List Nat)(n:Int)(s:ByteArray):Bool:=decide (bq X.T n s=0)&&!fH st n
def U2 (X:YS)(st cA:List Nat)(dp:Int)(n:Nat):Prop:=n=min dp.toNat st.length/\cA.length+n=st.length/\LT X.T cA/\(∀k∈cA,k∈st)/\((∃k∈cA,fc X.T X.shn k=true)->∀k∈st,k ∉ cA->fc X.T X.shn k=true)
structure k9 (PS:World->Value->YS->List Nat->(Nat->Prop)->Prop)(Q:fw->YS->List Nat->YS->List Nat->Prop):Prop extends cG PS Q where
 shw:∀(w:World) (px:Value) (X:YS) (st:List Nat) (F:Nat->Prop) (n:Int) (on:Bool),PS w px X st F->Calls prog 106 #[px,.int .i64 n,.bool on] w λe w'=>
  e=.returned (.int .i64 (if(bw X.T n).isSome then 0 else 5))/\PS w' px (oc X n on) st (cJ F w)/\Fr w w' F
 stl:∀(w:World) (px:Value) (X:YS) (st:List Nat) (F:Nat->Prop),PS w px X st F->Calls prog 31 #[px] w λe w'=>
  ∃(L:List Nat) (a:Option Addr) (c:Nat),e=.returned (.slice a L.length c)/\w'.ownsRow w.heap.size 3 1 (.slice a L.length c) L.length (bh L)/\Below w.heap.size w w'/\L.Pairwise (·<·)/\∀k,k∈L↔k∈st
 sto:∀(w:World) (px:Value) (X:YS) (st:List Nat) (F:Nat->Prop) (n:Int) (s:ByteArray),PS w px X st F->Calls prog 51 #[px,.int .i64 n,.string s] w λe w'=>
  e=.returned (.tuple #[.int .i64 (if QB X st n s=true then eu X.T X.M X.rs n s else 0),.bool (QB X st n s),.int .i64 (bq X.T n s)])/\Below w.heap.size w w'
 sli:∀(w:World) (px:Value) (X:YS) (st:List Nat) (F:Nat->Prop) (dp:Int),PS w px X st F->Calls prog 30 #[px,.int .i64 dp] w λe w'=>
  ∃(n:Nat) (cA:List Nat),e=.returned (.int .i64 n)/\U2 X st cA dp n/\PS w' px X cA (cJ F w)/\Fr w w' F
def uD (T:aJ)(kl:List (Int × List Int)):List Nat:=(T.map Prod.fst).filter λk:Nat=>(bn kl k).isNone
theorem eo:k∈uD T kl↔(∃l,(k,l)∈T)/\(bn kl k).isNone=true:=by
 unfold uD;rw[dA,bm];exact⟨λ⟨⟨x,h1,h2⟩,h3⟩=>⟨⟨x.2,by rw[<-h2];exact h1⟩,h3⟩,λ⟨⟨l,h1⟩,h3⟩=>⟨⟨_,h1,rfl⟩,h3⟩⟩
theorem nZ (hw:TW T made)(kl:List (Int × List Int)):LT T (uD T kl):=⟨hw.nums.filter _,λ_ hk=>(eo.1 hk).1⟩
theorem Cf (T:aJ)(kl:List (Int × List Int)):(uD T kl).length=IV T kl:=by
 unfold uD IV;rw[List.filter_map,List.length_map];rfl
theorem mZ:(bn kl n).isSome=true↔∃x∈kl,x.1=n:=by
 constructor
 ·intro h;cases hf:bn kl n with
  | none=>rw[hf] at h;cases h
  | some s=>exact⟨_,nR hf,rfl⟩
 ·rintro⟨x,hx,he⟩;cases hf:bn kl n with
  | none=>exact absurd he (wH hf x hx)
  | some s=>rfl
theorem j4 {o:Option (List Int)}:o.isNone=true↔¬o.isSome=true:=by cases o<;>simp
theorem mL (h:DropT H kl dh)(k:Int):((bn kl k).isNone=true->(bn dh k).isNone=true)/\((bn dh k).isNone=true->(bn kl k).isNone=true∨H k):=by
 rw[j4,j4];refine⟨λh1 h2=>h1 ?_,λh1=>?_⟩
 ·obtain⟨x,hx,he⟩:=mZ.1 h2;exact mZ.2 ⟨x,h.1.subset hx,he⟩
 ·by_cases hH:H k
  ·exact ai hH
  ·refine af λh2=>h1 ?_;obtain⟨x,hx,he⟩:=mZ.1 h2;exact mZ.2 ⟨x,h.2 x hx (by rw[he];exact hH),he⟩
theorem ya {T':aJ}{N:Nat->Prop}(hd:DropT H kl dh)(jS:∀k l,(k,l)∈T->∃l',(k,l')∈T')(DE:∀k l,(k,l)∈T'->(∃l',(k,l')∈T)∨N k):Spo (uD T kl) (uD T' dh) (λk=>N k∨H k):=by
 refine⟨λk hk=>?_,λk hk=>?_⟩
 ·obtain⟨⟨l,h1⟩,h2⟩:=eo.1 hk;exact eo.2 ⟨jS k l h1,(mL hd k).1 h2⟩
 ·obtain⟨⟨l,h1⟩,h2⟩:=eo.1 hk;rcases DE k l h1 with h3 | h3
  ·rcases(mL hd k).2 h2 with h4 | h4
   ·exact af (eo.2 ⟨h3,h4⟩)
   ·exact ai (ai h4)
  ·exact ai (af h3)
theorem Spo.mono {st cA:List Nat}{H H':Nat->Prop}(h:Spo st cA H)(hm:∀k,H k->H' k):Spo st cA H':=⟨h.1,λk hk=>(h.2 k hk).imp id (hm k)⟩
def iD (X:YS):Nat->Mk:=λk=>io (X.M k) (X.shn k)
theorem EN (m:Mk)(on:Bool):QN m (io m on):=⟨rfl,λi hi=>by show _=if i=26 then on else _;rw[aj (by omega)],rfl⟩
theorem OT (X:YS)(T:aJ):bg T (iD X)=bg T X.M:=(I6 λk=>EN (X.M k) (X.shn k)).symm
theorem Iy (X:YS)(T:aJ)(n:Int)(s:ByteArray):eu T (iD X) X.rs n s=eu T X.M X.rs n s:=by
 unfold eu;rw[OT]
theorem I0 (kind:ByteArray):io (d8 kind) false=d8 kind:=by
 unfold io d8
 congr 1
 funext i;split<;>rfl
theorem S6 (h:aG s=true)(m:Mk)(sh on:Bool):io (kj m s on) sh=kj (io m sh) s on:=by
 obtain⟨k,hk,hb⟩:=tA h;unfold io kj
 congr 1
 funext i;show(if i=26 then sh else(if i+97=bt s 0 then on else m.cl i))=(if i+97=bt s 0 then on else(if i=26 then sh else m.cl i))
 by_cases e:i=26
 ·subst e;rw[aq rfl,aj (by omega),aq rfl]
 ·rw[aj e,aj e]
theorem S7 (m:Mk)(a b:Bool):io (io m a) b=io m b:=by
 unfold io
 congr 1
 funext i;show(if i=26 then b else(if i=26 then a else m.cl i))=if i=26 then b else m.cl i
 by_cases e:i=26
 ·rw[aq e,aq e]
 ·rw[aj e,aj e,aj e]
theorem rS {X':YS}{n:Nat}{m:Mk}(h:∀k,k≠n->X'.M k=X.M k/\X'.shn k=X.shn k)(hn:io (X'.M n) (X'.shn n)=m):bM (iD X) n m=iD X':=by
 funext k;unfold bM iD
 by_cases e:k=n
 ·rw[aq e,e,hn]
 ·rw[aj e,(h k e).1,(h k e).2]
def PSs (w:World)(px:Value)(X:YS)(st:List Nat)(F:Nat->Prop):Prop:=∃kl,DSk w px X.T X.made (iD X) X.rs kl F/\st=uD X.T kl
theorem Sz {a:Nat}{la:List Nat}(hw:TW T made)(ha:(a,la)∈T)(h0:a≠0){l:List Nat}(hk:(k,l)∈j8 T a):∃l',(k,l')∈T:=by
 obtain⟨q,hq,Sk,kA⟩:=hw.up ha h0;obtain⟨x,hx,_,h1,_⟩:=(ed kA).1 hk;exact⟨x.2,by rw[show k=x.1 from h1];exact hx⟩
theorem V0 (hw:TW T made){M:Nat->Mk}{rs:List dF}(k:Nat):k∈uD T (if bq T n s=0 then mA T M rs kl n else kl)↔k∈uD T kl/\¬(bq T n s=0/\dD T k n):=by
 by_cases hq:bq T n s=0
 ·rw[aq hq,eo,eo,j4,j4,ye];obtain⟨l,p,ht,_⟩:=ng hq;obtain⟨hm,hn⟩:=mQ ht
  have hu:((k:Int)∈aX T T.length n∨(k:Int)=n)↔dD T k n:=by
   rw[hn,mj hw k hm];constructor
   ·rintro(⟨h1,h2,j,hj⟩ | h1)
    ·exact⟨h2,j+1,hj⟩
    ·exact⟨by omega,0,h1.symm⟩
   ·rintro⟨h1,j,hj⟩;cases j with
    | zero=>exact ai hj.symm
    | succ j=>
     refine af ⟨?_,h1,j,hj⟩;replace hj:gY T j (aY T ((n.toNat:Nat):Int))=(k:Int):=hj
     by_cases h0:0<=aY T ((n.toNat:Nat):Int)
     ·exact h0
     ·have:=me T (Int.not_le.1 h0) j;omega
  rw[hu];constructor
  ·rintro⟨h1,h2⟩;exact⟨⟨h1,λh=>h2 (af h)⟩,λh=>h2 (ai h.2)⟩
  ·rintro⟨⟨h1,h2⟩,h3⟩;exact⟨h1,λh=>h.elim h2 λh=>h3 ⟨hq,h⟩⟩
 ·rw[aj hq];exact⟨λh=>⟨h,λh2=>hq h2.1⟩,λh=>h.1⟩
theorem V5 (hw:TW X.T made){n:Nat}{dp:Int}(h1:n=min dp.toNat (IV X.T kl))(h2:IV X.T dh+n<=IV X.T kl)(h3:XU X.T (iD X) kl dh n):U2 X (uD X.T kl) (uD X.T dh) dp n:=by
 obtain⟨l,g1,g2,g3,g4,g5⟩:=h3
 have hs:∀k,k∈uD X.T dh↔k∈uD X.T kl/\(k:Int) ∉ l.take n:=λk=>by
  rw[eo,eo,j4,j4,g4];exact⟨λ⟨a,b⟩=>⟨⟨a,λh=>b (af h)⟩,λh=>b (ai h)⟩,λ⟨⟨a,b⟩,c⟩=>⟨a,λh=>h.elim b c⟩⟩
 have hl:∀k:Nat,(k:Int)∈l↔k∈uD X.T kl:=λk=>by
  rw[g2,eo];constructor
  ·rintro⟨a,j,lj,e,hj⟩;have:k=j:=by omega
   exact⟨⟨lj,by rw[this];exact hj⟩,a⟩
  ·rintro⟨⟨lk,a⟩,b⟩;exact⟨b,k,lk,rfl,a⟩
 refine⟨by rw[Cf];exact h1,?_,nZ hw _,λk hk=>((hs k).1 hk).1,?_⟩
 ·have h5:(uD X.T kl).length<=(uD X.T dh++(l.take n).map Int.toNat).length:=dw (nZ hw kl).1 λk hk=>by
   rw[List.mem_append]
   by_cases hx:(k:Int)∈l.take n
   ·exact ai (bm.2 ⟨_,hx,by simp⟩)
   ·exact af ((hs k).2 ⟨hk,hx⟩)
  rw[List.length_append,List.length_map,List.length_take] at h5;rw[Cf] at h5 ⊢;rw[Cf] at h5 ⊢;omega
 ·rintro⟨y,hy,hw2⟩ x hx pK;have WR:(x:Int)∈l.take n:=Classical.byContradiction λh=>pK ((hs x).2 ⟨hx,h⟩);obtain⟨Iq,Ir⟩:=(hs y).1 hy
  have hy3:(y:Int)∈l.drop n:=by
   have:=(hl y).2 Iq;rw[<-List.take_append_drop n l,List.mem_append] at this;exact this.resolve_left Ir
  exact g5 x WR y hy3 hw2
theorem OW {l:List Int}(h:∀x∈l,∃k:Nat,x=(k:Int)):∃L:List Nat,l=L.map λ(k:Nat)=>(k:Int):=by
 induction l with
 | nil=>exact⟨[],rfl⟩
 | cons x l ih=>
  obtain⟨L,hL⟩:=ih λy hy=>h y (List.mem_cons_of_mem _ hy);obtain⟨k,rfl⟩:=h x List.mem_cons_self;exact⟨k :: L,by rw[hL];rfl⟩
theorem PG:k9 PSs QSt where
 ptr:=λ⟨_,h,_⟩=>Vc.ptr ⟨_,h⟩
 keep:=λ⟨kl,h,e⟩ hk hz=>⟨kl,h.keep hk hz,e⟩
 here:=λ⟨kl,h,e⟩=>⟨kl,h.here,e⟩
 new:=λw s ake hs=>(Db w s ake hs).mono λe w' h=>⟨h.1,h.2.imp id (λ⟨h1,px,h2,h3⟩=>⟨h1,px,h2,[],by
  refine h3.mark λk l _=>?_;exact(I0 ake).symm,rfl⟩)⟩
 ins:=λw px X st F par at' kind ⟨kl,h,e⟩ hm=>(C8 w px X.T X.made (iD X) X.rs kl F par at' kind h (by omega)).mono λe2 w' ⟨y,T',made',n,dh,h1,h2,h3,h4,h5⟩=>by
  subst e;refine⟨y,⟨T',made',if y=0 then bM X.M X.made (d8 kind) else X.M,if y=0 then mz X.shn X.made false else X.shn,X.rs⟩,uD T' dh,n,h1,⟨h2,rfl,rfl,rfl⟩,⟨nZ h3.tw dh,?_⟩,⟨dh,?_,rfl⟩,h4⟩
  ·rcases h2.2 with⟨hy,_,hT,_⟩ | ⟨hy,_,_,p,j,hp,_,_,hT⟩
   ·rw[hT] at h5 ⊢;exact⟨(ya (N:=λ_=>False) h5 (λk l hk=>⟨l,hk⟩) (λk l hk=>af ⟨l,hk⟩)).mono λk hk=>hk.elim False.elim λh=>absurd h.1 hy,λh=>absurd h hy⟩
   ·have hx:Spo (uD X.T kl) (uD T' dh) (λk=>k=X.made∨(y=0/\dJ T' par k=true)):=ya h5 (λk l hk=>by rw[hT];exact⟨if k=p then cY l j X.made else l,cE.2 (af ⟨(k,l),hk,rfl,rfl⟩)⟩) (λk l hk=>by
     rw[hT] at hk;rcases cE.1 hk with⟨x,hx,h6,_⟩ | h6
     ·exact af ⟨x.2,by rw[show k=x.1 from h6];exact hx⟩
     ·injection h6 with h6 _
      exact ai h6)
    refine⟨hx.mono λk hk=>⟨hy,hk.imp id And.right⟩,λ_=>eo.2 ⟨⟨[],by rw[hT];exact cE.2 (ai rfl)⟩,?_⟩⟩;rw[j4];intro h6;obtain⟨x,hx,he⟩:=mZ.1 h6;obtain⟨j,lj,hj,Fg⟩:=h.kok.els x (h5.1.subset hx);have:=h.tw.lt _ Fg;replace this:j<X.made:=this;omega
  ·by_cases hy:y=0
   ·rw[aq hy] at h3;rw[rS (X:=X) (X':=⟨T',made',if y=0 then bM X.M X.made (d8 kind) else X.M,if y=0 then mz X.shn X.made false else X.shn,X.rs⟩)] at h3
    ·exact h3
    ·intro k hk;simp only[aq hy];unfold bM mz;rw[aj hk,aj hk];exact⟨rfl,rfl⟩
    ·simp only[aq hy];unfold bM mz;rw[aq rfl,aq rfl];exact I0 kind
   ·rw[aj hy] at h3
    have:iD ⟨T',made',if y=0 then bM X.M X.made (d8 kind) else X.M,if y=0 then mz X.shn X.made false else X.shn,X.rs⟩=iD X:=by
     unfold iD;simp only[aj hy]
    rw[this];exact h3
 rem:=λw px X st F n ⟨kl,h,e⟩=>(Dd w px X.T X.made (iD X) X.rs kl F n h).mono λe2 w' ⟨y,T',dh,h1,h2,h3,h4,h5⟩=>by
  subst e;refine⟨y,⟨T',X.made,X.M,X.shn,X.rs⟩,uD T' dh,h1,⟨h2,rfl,rfl,rfl,rfl⟩,⟨nZ h3.tw dh,λk hk hf=>?_,λk hk=>?_⟩,⟨dh,h3,rfl⟩,h4⟩
  ·obtain⟨l,hl⟩:=Option.isSome_iff_exists.1 hf;obtain⟨a,ha,hm⟩:=gj hl;exact eo.2 ⟨⟨l,by rw[show k=a from by omega];exact hm⟩,(mL h5 k).1 (eo.1 hk).2⟩
  ·obtain⟨⟨l,pJ⟩,fT⟩:=eo.1 hk;rcases h2.2 with⟨hy,hT⟩ | ⟨hy,a,ha,h0,⟨la,TY⟩,hT⟩
   ·rw[hT] at pJ;rcases(mL h5 k).2 fT with h6 | h6
    ·exact af (eo.2 ⟨⟨l,pJ⟩,h6⟩)
    ·exact absurd h6.1 hy
   ·rw[hT] at pJ;obtain⟨l',VI⟩:=Sz h.tw TY h0 pJ;rcases(mL h5 k).2 fT with h6 | h6
    ·exact af (eo.2 ⟨⟨l',VI⟩,h6⟩)
    ·refine ai ⟨hy,?_⟩;have h7:=h6.2;rw[ha] at h7 ⊢;show dJ T' _ _=true;rw[hT];exact La h.tw TY h0 pJ h7
 mov:=λw px X st F n m at' ⟨kl,h,e⟩=>(C9 w px X.T X.made (iD X) X.rs kl F n m at' h).mono λe2 w' ⟨y,T',dh,h1,h2,h3,h4,h5⟩=>by
  subst e;refine⟨y,⟨T',X.made,X.M,X.shn,X.rs⟩,uD T' dh,h1,⟨h2,rfl,rfl,rfl,rfl⟩,⟨nZ h3.tw dh,?_⟩,⟨dh,h3,rfl⟩,h4⟩;refine(ya (N:=λ_=>False) h5 (λk l hk=>?_) (λk l hk=>af ?_)).mono λk hk=>hk.elim False.elim id
  ·rcases h2.2 with⟨hy,hT⟩ | ⟨hy,a,p,j,ha,_,_,h0,⟨la,TY⟩,_,_,hT⟩
   ·exact⟨l,by rw[hT];exact hk⟩
   ·obtain⟨q,hq,Sk,kA⟩:=h.tw.up TY h0;rw[hT];exact⟨if k=p then cY (aw a (if k=q.1 then aw a l else l)) j a else if k=q.1 then aw a l else l,(dX kA).2 ⟨(k,l),hk,rfl,rfl⟩⟩
  ·rcases h2.2 with⟨hy,hT⟩ | ⟨hy,a,p,j,ha,_,_,h0,⟨la,TY⟩,_,_,hT⟩
   ·exact⟨l,by rw[<-hT];exact hk⟩
   ·obtain⟨q,hq,Sk,kA⟩:=h.tw.up TY h0;rw[hT] at hk;obtain⟨x,hx,h6,_⟩:=(dX kA).1 hk;exact⟨x.2,by rw[show k=x.1 from h6];exact hx⟩
 chi:=λw px X _ F n ⟨kl,h,_⟩=>JK w px X.T X.made (iD X) X.rs F n ⟨kl,h⟩
 cls:=λw px X st F n s on ⟨kl,h,e⟩=>(C4 w px X.T X.made (iD X) X.rs kl F n s on h).mono λe2 w' ⟨y,dh,h1,h2,h3,h4,h5⟩=>by
  subst e;have hT:(eP X n s on).T=X.T/\(eP X n s on).made=X.made/\(eP X n s on).rs=X.rs:=by unfold eP;split<;>exact⟨rfl,rfl,rfl⟩
  have hM:(if y=0 then bM (iD X) n.toNat (kj (iD X n.toNat) s on) else iD X)=iD (eP X n s on):=by
   unfold eP;rw[<-h2]
   by_cases hy:y=0
   ·rw[aq hy,aq hy]
    have hl:aG s=true:=by
     rw[hy] at h2;unfold cf at h2;split at h2
     ·cases h2
     ·split at h2
      ·cases h2
      ·rename_i h7;cases hb:aG s with
       | true=>rfl
       | false=>exact absurd hb h7
    refine rS (λk hk=>⟨by show bM X.M _ _ k=_;unfold bM;rw[aj hk],rfl⟩) ?_;show io (bM X.M n.toNat _ n.toNat) _=_;unfold bM;rw[aq rfl];exact S6 hl _ _ _
   ·rw[aj hy,aj hy]
  rw[hM] at h3;refine⟨uD X.T dh,by rw[h1,h2],⟨by rw[hT.1];exact nZ h3.tw dh,?_⟩,⟨dh,by rw[hT.1,hT.2.1,hT.2.2];exact h3,by rw[hT.1]⟩,h4⟩;refine(ya (N:=λ_=>False) h5 (λk l hk=>⟨l,hk⟩) (λk l hk=>af ⟨l,hk⟩)).mono λk hk=>hk.elim False.elim λ⟨g1,g2,g3,g4⟩=>⟨by rw[<-h2];exact g2,g1,g3,λg5=>g4 ?_⟩;show(io (X.M n.toNat) (X.shn n.toNat)).cl _=on
  obtain⟨k,hk,hb⟩:∃k,k<26/\bt s 0=97+k:=by
   rw[g2] at h2;unfold cf at h2;split at h2
   ·cases h2
   ·split at h2
    ·cases h2
    ·rename_i h7;refine tA ?_;cases hb:aG s with
     | true=>rfl
     | false=>exact absurd hb h7
  rw[<-g5,(EN (X.M n.toNat) (X.shn n.toNat)).2.1 _ (by omega)]
 nam:=λw px X st F n s ⟨kl,h,e⟩=>(Da w px X.T X.made (iD X) X.rs kl F n s h).mono λe2 w' ⟨y,dh,h1,h2,h3,h4,h5⟩=>by
  subst e;have hT:(eQ X n s).T=X.T/\(eQ X n s).made=X.made/\(eQ X n s).rs=X.rs:=by unfold eQ;split<;>exact⟨rfl,rfl,rfl⟩
  have hM:(if y=0 then bM (iD X) n.toNat (fM (iD X n.toNat) s) else iD X)=iD (eQ X n s):=by
   unfold eQ;rw[<-h2]
   by_cases hy:y=0
   ·rw[aq hy,aq hy];refine rS (λk hk=>⟨by show bM X.M _ _ k=_;unfold bM;rw[aj hk],rfl⟩) ?_;show io (bM X.M n.toNat _ n.toNat) _=_;unfold bM;rw[aq rfl];rfl
   ·rw[aj hy,aj hy]
  rw[hM] at h3;refine⟨uD X.T dh,by rw[h1,h2],⟨by rw[hT.1];exact nZ h3.tw dh,?_⟩,⟨dh,by rw[hT.1,hT.2.1,hT.2.2];exact h3,by rw[hT.1]⟩,h4⟩;exact(ya (N:=λ_=>False) h5 (λk l hk=>⟨l,hk⟩) (λk l hk=>af ⟨l,hk⟩)).mono λk hk=>hk.elim False.elim λ⟨g1,g2,g3,g4⟩=>⟨by rw[<-h2];exact g2,g1,g3,g4⟩
 sht:=λw px X st F s hs ⟨kl,h,e⟩=>(De w px X.T X.made (iD X) X.rs kl F s hs h).mono λe2 w' ⟨y,dh,h1,h2,h3,h4,h5⟩=>by
  subst e
  have hT:(gX X s).T=X.T/\(gX X s).made=X.made/\iD (gX X s)=iD X/\(gX X s).rs=if y=0 then eH s else X.rs:=by
   unfold gX;rw[h2];split
   ·exact⟨rfl,rfl,rfl,rfl⟩
   ·exact⟨rfl,rfl,rfl,rfl⟩
  refine⟨uD X.T dh,by rw[h1,h2],⟨by rw[hT.1];exact nZ h3.tw dh,λk hk=>?_,λhy k hk=>?_⟩,⟨dh,by rw[hT.1,hT.2.1,hT.2.2.1,hT.2.2.2];exact h3,by rw[hT.1]⟩,h4⟩
  ·obtain⟨g1,g2⟩:=eo.1 hk;refine eo.2 ⟨g1,?_⟩;rw[h5];split
   ·rfl
   ·exact g2
  ·rw[h5,aj (by rw[h2];exact hy)] at hk;exact hk
 qry:=λw px X st F n s ⟨kl,h,e⟩=>(Dc w px X.T X.made (iD X) X.rs kl F n s h).mono λe2 w' ⟨h1,h2,h3⟩=>by
  subst e;exact⟨_,by rw[h1,Iy],⟨nZ h.tw _,V0 h.tw⟩,⟨_,h2,rfl⟩,h3⟩
 shw:=λw px X st F n on ⟨kl,h,e⟩=>(NR w px X.T X.made (iD X) X.rs kl F n on h).mono λe2 w' ⟨h1,h2,h3⟩=>by
  refine⟨h1,⟨kl,?_,?_⟩,h3⟩
  ·unfold oc;cases hf:(bw X.T n).isSome with
   | false=>
    rw[hf] at h2;exact h2
   | true=>
    rw[hf] at h2;rw[aq rfl];replace h2:DSk w' px X.T X.made (bM (iD X) n.toNat (io (iD X n.toNat) on)) X.rs kl (cJ F w):=h2;rw[rS (X:=X) (X':={X with shn:=mz X.shn n.toNat on})] at h2
    ·exact h2
    ·intro k hk;exact⟨rfl,by show mz X.shn _ on k=_;unfold mz;rw[aj hk]⟩
    ·show io (X.M n.toNat) (mz X.shn _ on _)=io (io _ _) on;unfold mz;rw[aq rfl,S7]
  ·rw[e];unfold oc;split<;>rfl
 stl:=λw px X st F ⟨kl,h,e⟩=>(NT w px X.T X.made (iD X) X.rs kl F h).mono λe2 w' ⟨l,a,c,h1,_,⟨h2,h3⟩,_,h4,h5⟩=>by
  obtain⟨L,rfl⟩:=OW λx hx=>by
   obtain⟨_,k,_,e,_⟩:=(h2 x).1 hx;exact⟨k,e⟩
  refine⟨L,a,c,by rw[h1,List.length_map],?_,h4,?_,λk=>?_⟩
  ·rw[List.length_map] at h5;rw[show bh L=az (L.map λ(k:Nat)=>(k:Int)) from by unfold bh az;rw[List.map_map];rfl];exact h5
  ·rw[List.pairwise_map] at h3;exact h3.imp λh=>by omega
  ·rw[e,eo];constructor
   ·intro hk;obtain⟨g1,j,lj,e2,hj⟩:=(h2 (k:Int)).1 (bm.2 ⟨k,hk,rfl⟩);have:k=j:=by omega
    exact⟨⟨lj,by rw[this];exact hj⟩,g1⟩
   ·rintro⟨⟨lk,g1⟩,g2⟩;obtain⟨j,hj,e2⟩:=bm.1 ((h2 (k:Int)).2 ⟨g2,k,lk,rfl,g1⟩);have:k=j:=by omega
    rw[this];exact hj
 sto:=λw px X st F n s ⟨kl,h,e⟩=>(NU w px X.T X.made (iD X) X.rs kl F n s h).mono λe2 w' ⟨h1,_,h3⟩=>by
  refine⟨?_,h3⟩
  have ft:(decide (bq X.T n s=0)&&(bn kl n).isSome)=QB X st n s:=by
   unfold QB
   by_cases hq:bq X.T n s=0
   ·obtain⟨l,p,ht,_⟩:=ng hq;obtain⟨hm,hn⟩:=mQ ht;rw[decide_eq_true hq,Bool.true_and,Bool.true_and]
    have hh:fH st n=(bn kl n).isNone:=by
     rw[Bool.eq_iff_iff,hn,ii,e,eo];exact⟨λh=>h.2,λh=>⟨⟨l,hm⟩,h⟩⟩
    rw[hh];cases bn kl n<;>rfl
   ·rw[decide_eq_false hq];rfl
  have hv:n8 X.T kl n s=if QB X st n s=true then eu X.T X.M X.rs n s else 0:=by
   rw[<-ft]
   by_cases hq:bq X.T n s=0
   ·rw[decide_eq_true hq,Bool.true_and];cases hf:(bn kl n).isSome with
    | true=>
     rw[aq rfl,<-Iy];exact Lr h.kok hf
    | false=>
     rw[aj (by decide)];unfold n8;rw[aq hq];cases hk:bn kl n with
     | some s=>rw[hk] at hf;cases hf
     | none=>
      obtain⟨l,p,_,hp⟩:=ng hq;have:=xC hp;rw[hp];show jT.getD p 0=0;unfold jT
      match p,this with
      | 0,_=>rfl
      | 1,_=>rfl
      | 2,_=>rfl
      | 3,_=>rfl
      | 4,_=>rfl
      | 5,_=>rfl
      | 6,_=>rfl
      | 7,_=>rfl
      | 8,_=>rfl
   ·rw[decide_eq_false hq,Bool.false_and,aj (by decide)];unfold n8;rw[aj hq]
  rw[h1,ft,hv]
 sli:=λw px X st F dp ⟨kl,h,e⟩=>(NS w px X.T X.made (iD X) X.rs kl F dp h).mono λe2 w' ⟨n,dh,h1,h2,h3,h4,h5,h6⟩=>by
  subst e;exact⟨n,uD X.T dh,h1,V5 h.tw h2 h3 h4,⟨dh,h5,rfl⟩,h6⟩
end
section
variable {els:List REl}
noncomputable def nB (els l:List REl)(n:Int):Bool:=l.any λe=>e.sh&&eU els n e.num
theorem Hb {l:List REl}{i:Nat}(h:i<l.length)(n:Int):nB els (l.take (i+1)) n=(nB els (l.take i) n||(l[i].sh&&eU els n l[i].num)):=by
 unfold nB;rw[fU h,List.any_append];simp
theorem Qj {M:Nat->Mk}{shn:Nat->Bool}(h:RE els M shn)(n:Int):nB els els n=fc (aK els) shn n:=by
 rw[Bool.eq_iff_iff];unfold nB fc aK;rw[List.any_map,List.any_eq_true,List.any_eq_true];constructor
 ·rintro⟨e,he,h1⟩;refine⟨e,he,?_⟩;show(shn e.num&&bZ (aK els) n e.num)=true;rw[ld,<-h.shw e he];exact h1
 ·rintro⟨e,he,h1⟩;refine⟨e,he,?_⟩;replace h1:(shn e.num&&bZ (aK els) n e.num)=true:=h1;rw[ld,<-h.shw e he] at h1;exact h1
section
theorem Hc (w:World)(d:Nat)(els:List REl)(made:Nat)(hp:Option Addr)(vT:Value)(bi:Bool)(vL:Value)(n:Int)(h:RD w d els made hp vT bi vL)(rk:Nat->Nat)(hr:rl els rk):
  Calls prog 153 #[.pointer (some ⟨d,0,none⟩),.int .i64 n] w λe w'=>e=.returned (.bool (nB els els n))/\w'=w:=by
 obtain⟨aL,cL,uR⟩:=h.shape;subst uR;have bC:=h.few;have HR:=ae h;have HK:=ae hr;have d1:=h.c1;have Q2:Hid (∀i (hi:i<els.length),els[i].sh=true->eU els n els[i].num=true->nB els els n=true):=λi hi h1 h2=>List.any_eq_true.2 ⟨_,bK hi,by rw[h1,h2];rfl⟩;clear h hr;go_enter func153,ntmps153;go_wp2_with fail
 go_loopg [5] els.length (λgk iv wr=>∃i:Nat,iv=.int .i64 i/\i<=els.length/\els.length - i<=gk/\wr=w/\Hid (nB els (els.take i) n=false))
 case atStart=>exact⟨0,rfl,aZ,by omega,rfl,rfl⟩
 case round=>
  obtain⟨i,rfl,jJ,fS,hwr,HN⟩:=hrel;obtain⟨w,rfl⟩:∃w2,w2=w:=⟨_,rfl⟩;subst hwr
  by_cases aU:i<els.length
  ·have hd:decide ((i:Int)<(els.length:Int))=true:=by simp;omega
   obtain⟨g,hg,q1⟩:=HR.out.at' aU;subst hg;have Oi:=HR.out.el els[i] (bK aU);obtain⟨q2,_⟩:=eR Oi;have q3:wr.cell? ⟨els[i].blk,5,none⟩=some (.bool els[i].sh):=aa Oi rfl;have HT:Hid (nB els (els.take (i+1)) n=(nB els (els.take i) n||(els[i].sh&&eU els n els[i].num))):=Hb aU n;have HY:=Q2.out i aU;clear Oi;generalize els[i]=x at q1 q2 q3 HT HY;obtain⟨xb,xn,xk,xd,xc,xm,xs,xh⟩:=x;cases xh with
   | false=>
    have ox:Hid (nB els (els.take (i+1)) n=false):=by unfold Hid;rw[HT.out,HN.out];rfl
    clear HT HY;go_wp2_with fail;go_roundg (els.length - (i+1))
    case measure=>omega
    case rel=>exact⟨i+1,by go_num,by omega,au,rfl,ox⟩
   | true=>
    go_wp2_with fail;refine(nw _ d els made hp vT bi _ n xn HR.out rk HK.out).mono ?_;rintro e w2 ⟨r,rfl,rfl,HU⟩;obtain⟨wr,rfl⟩:∃wr,wr=w2:=⟨_,rfl⟩
    have Ww:Hid (eU els n xn=r):=by
     unfold Hid;rw[Bool.eq_iff_iff,ke,HU.out]
    clear HU;cases r with
    | false=>
     have ox:Hid (nB els (els.take (i+1)) n=false):=by
      unfold Hid;rw[HT.out,HN.out];show(false||(true&&eU els n xn))=false;rw[Ww.out];rfl
     clear HT HY Ww;go_wp2;go_roundg (els.length - (i+1))
     case measure=>omega
     case rel=>exact⟨i+1,by go_num,by omega,au,rfl,ox⟩
    | true=>
     have HE:Hid (nB els els n=true):=HY (by trivial) Ww.out;clear HT HY Ww;go_wp2;go_ret;rw[HE.out];exact⟨rfl,rfl⟩
  ·have hd:decide ((i:Int)<(els.length:Int))=false:=by simp;omega
   obtain rfl:i=els.length:=by omega
   rw[List.take_length] at HN;go_wp2;go_ret;rw[HN.out];exact⟨rfl,rfl⟩
end
section
variable {w:World}{d:Nat}{Y:YS}{F:Nat->Prop}
theorem LI (h:RY w d Y F)(n:Int):Calls prog 153 #[.pointer (some ⟨d,0,none⟩),.int .i64 n] w λe w'=>e=.returned (.bool (fc Y.T Y.shn n))/\w'=w:=by
 obtain⟨els,hp,vT,bi,vL,Rr,Gs,hX,hA,_⟩:=h;obtain⟨rk,Sq⟩:=pj hX.tw;rw[hA,<-Qj hX.re];exact Hc w d els Y.made hp vT bi vL n hX.rd rk Sq
theorem LH (h:RY w d Y F)(n:Int)(on:Bool):Calls prog 107 #[.pointer (some ⟨d,0,none⟩),.int .i64 n,.bool on] w λe w'=>e=.returned (.int .i64 (if(bw Y.T n).isSome then 0 else 5))/\RY w' d (oc Y n on) (cJ F w)/\Fr w w' F:=by
 obtain⟨els,hp,vT,bi,vL,Rr,Gs,hX,hA,h1,h2,h3⟩:=h;refine(K5 w d els Y.made hp vT bi vL Rr Gs Y.M Y.shn Y.rs n on hX).mono ?_;rintro e w' (⟨hf,rfl,rfl⟩ | ⟨rfl,p,hf,Vs,ft⟩)
 ·have hT:bw Y.T n=none:=by rw[hA];exact cK hf
  have hy:oc Y n on=Y:=by unfold oc;rw[hT];rfl
  rw[hT,hy];exact⟨rfl,⟨els,hp,vT,bi,vL,Rr,Gs,hX,hA,λk hk=>af (h1 k hk),λk hk=>af (h2 k hk),λhh k hk=>af (h3 hh k hk)⟩,Fr.refl _ _⟩
 ·have hT:bw Y.T n=some p.kids:=by rw[hA];exact cH hf
  have hy:oc Y n on={Y with shn:=mz Y.shn n.toNat on}:=by unfold oc;rw[hT];rfl
  rw[hT,hy];refine⟨rfl,⟨_,hp,vT,bi,vL,Rr,Gs,Vs,?_,λk hk=>af (h1 k ((rE (mc on) _ k).1 hk)),λk hk=>af (h2 k hk),λhh k hk=>af (h3 hh k hk)⟩,ft.mono h1⟩;show Y.T=_;rw[mE (mc on)];exact hA
theorem yr (h:RY w d Y F)(n:Int)(s:ByteArray):Calls prog 96 #[.pointer (some ⟨d,0,none⟩),.int .i64 n,.string s] w λe w'=>e=.returned (.tuple #[.int .i64 (eu Y.T Y.M Y.rs n s),.int .i64 (bq Y.T n s)])/\RY w' d Y (cJ F w)/\Fr w w' F:=by
 obtain⟨els,hp,vT,bi,vL,Rr,Gs,hX,hA,h1,h2,h3⟩:=h;refine(xH w d els Y.made hp vT bi vL Rr Gs Y.M Y.shn Y.rs n s hX).mono ?_;intro e w' cX;unfold mB at cX;rw[<-hA] at cX;rcases cX with⟨he,rfl,rfl⟩ | ⟨he,rfl,vT2,hX2,jC,bG⟩
 ·have VR:eu Y.T Y.M Y.rs n s=0:=by unfold eu;rw[aj he]
  rw[VR];exact⟨rfl,⟨els,hp,vT,bi,vL,Rr,Gs,hX,hA,λk hk=>af (h1 k hk),λk hk=>af (h2 k hk),λhh k hk=>af (h3 hh k hk)⟩,Fr.refl _ _⟩
 ·rw[he];refine⟨rfl,⟨els,hp,vT2,true,vL,Rr,Gs,hX2,hA,λk hk=>af (h1 k hk),λk hk=>af (h2 k hk),λ_ k hk=>?_⟩,bG.mono h1⟩;rcases jC with⟨e1,e2⟩ | jC
  ·rw[e1] at hk;exact af (h3 e2 k hk)
  ·exact ai (jC k hk)
end
end
section
variable {kd:Int}{s:ByteArray}
theorem Aq:∀{ks:List PPt} {i j:Nat},PartsAt s i j ks->i<=j
 | [],_,_,h=>by simp only[PartsAt] at h;omega
 | _ :: _,_,_,⟨_,_,h2,h3⟩=>by have:=Aq h3;have:=kP h2;omega
theorem nX:∀{ks:List PPt} {i j:Nat},PartsAt s i j ks->∀p∈ks,(p.kd=2∨p.kd=3)->∃n,i<=n/\n+2<=j/\bt s n=uB p.kd/\p.lt=(bt s (n+1):Int)/\gw (bt s (n+1))=true
 | [],_,_,_=>λp hp=>by cases hp
 | _ :: _,_,_,⟨_,_,h2,h3⟩=>λp hp hk=>by
  have h4:=Aq h3;have h5:=kP h2;rcases List.mem_cons.1 hp with rfl | hp
  ·obtain⟨n,e1,e2,e3⟩:=Ap h2 hk;exact⟨n,e1,by omega,e3⟩
  ·obtain⟨n,e1,e2,e3⟩:=nX h3 p hp hk;exact⟨n,by omega,e2,e3⟩
theorem JI {i j ty:Nat}{ks:List PPt}(h:fl s i j ty ks){p:PPt}(hp:p∈ks)(hk:p.kd=2∨p.kd=3):∃n,i<=n/\n+2<=j/\bt s n=uB p.kd/\p.lt=(bt s (n+1):Int)/\gw (bt s (n+1))=true:=by
 rcases h with⟨_,_,h⟩ | ⟨_,_,_,h⟩ | ⟨_,_,_,h,_⟩
 ·obtain⟨n,e1,e2⟩:=nX h p hp hk;exact⟨n,by omega,e2⟩
 ·obtain⟨n,e1,e2⟩:=nX h p hp hk;exact⟨n,by omega,e2⟩
 ·exact nX h p hp hk
theorem U9 {t:ByteArray}(h1:s.size=t.size)(h2:∀i,i<s.size->bt s i=bt t i):s=t:=by
 apply ByteArray.ext;apply Array.ext
 ·exact h1
 ·intro i WL VB;have h:=h2 i WL;rw[bN s i WL,bN t i VB] at h;exact UInt8.toNat_inj.1 h
theorem Rel2.bwd {α β:Type}{R:α->β->Prop}{l:List α}{m:List β}(h:Rel2 R l m){y:β}(hy:y∈m):∃x∈l,R x y:=by
 obtain⟨i,hi,rfl⟩:=List.getElem_of_mem hy;have hl:i<l.length:=by rw[h.1];exact hi
 exact⟨l[i],bK hl,h.2 i _ _ (bO hl) (bO hi)⟩
theorem BI {Rr:List eA}{rs:List dF}(h:Rel2 yE Rr rs){lt:Int}(hk:kd=2∨kd=3)(hn:dt rs kd lt=true):∃c:Nat,lt=(c:Int)/\gw c=true/\∀t u:ByteArray,u.size=1->bt u 0=uB kd->t.size=1->bt t 0=c->fO Rr (u++t)=true:=by
 unfold dt at hn;obtain⟨r,hr,hn⟩:=List.any_eq_true.1 hn;obtain⟨cs,kf,hn⟩:=List.any_eq_true.1 hn;obtain⟨x,hx,hn⟩:=List.any_eq_true.1 hn;obtain⟨p,hp,hn⟩:=List.any_eq_true.1 hn;rw[Bool.and_eq_true,bF,bF] at hn;obtain⟨h1,rfl⟩:=hn;obtain⟨rr,hrr,hR⟩:=h.bwd hr;obtain⟨ut,hrcs,hS⟩:=hR.sels.bwd kf;obtain⟨rc,hrc,_,s,a,b,h4,J3,hb,OF,hC⟩:=hS.rel.bwd hx;obtain⟨n,e1,e2,e3,e4,e5⟩:=JI hC hp (by rw[h1];exact hk);refine⟨bt s (n+1),e4,e5,λt u hu hu0 ht ht0=>List.any_eq_true.2 ⟨rr,hrr,List.any_eq_true.2 ⟨ut,hrcs,List.any_eq_true.2 ⟨rc,hrc,?_⟩⟩⟩⟩;have iA:rc.tx.size=b - a:=by rw[OF,ByteArray.size_extract];omega
 refine Qe (n:=n - a) (by omega) (rx.2 (U9 ?_ λi hi=>?_))
 ·rw[ByteArray.size_extract,ByteArray.size_append,hu,ht];omega
 ·have VB:i<2:=by
   rw[ByteArray.size_extract] at hi;omega
  rw[ba (by omega) (by omega),OF,ba hb (by omega),MU i (by omega),hu]
  by_cases e:i=0
  ·subst e;rw[aq (by omega),hu0,<-h1,<-e3]
   congr 1
   omega
  ·obtain rfl:i=1:=by omega
   rw[aj (by omega),ht0]
   congr 1
   omega
theorem II (c:UInt8)(h:c.toNat=uB kd):(⟨#[c]⟩:ByteArray).size=1/\bt ⟨#[c]⟩ 0=uB kd:=⟨rfl,h⟩
theorem NF {cl:ByteArray}{on:Bool}(hs:aG s=true)(h:sI (bt s 0) cl≠on):(cl.size:Int)≠((i5 cl s on).size:Int):=by
 have VP:s.size=1:=by
  unfold aG at hs;rw[Bool.and_eq_true,bF] at hs;exact hs.1
 have e1:(iT cl (bt s 0) cl.size).size=((qV cl).filter λx=>decide (x≠bt s 0)).length:=by
  rw[<-jd,Bj cl.size au,<-jd cl,List.take_length]
 unfold i5;cases on with
 | true=>
  have hn:bt s 0 ∉ qV cl:=λhm=>h (uY.2 hm)
  have e2:((qV cl).filter λx=>decide (x≠bt s 0))=qV cl:=List.filter_eq_self.2 λx hx=>by
   rw[bF];exact λe=>hn (e▸hx)
  rw[aq rfl,ByteArray.size_append,e1,e2,jd];omega
 | false=>
  have hm:bt s 0∈qV cl:=by
   cases ha:sI (bt s 0) cl with
   | true=>exact uY.1 ha
   | false=>exact absurd ha h
  rw[aj (by decide),e1]
  have h3:((qV cl).filter λx=>decide (x≠bt s 0)).length<(qV cl).length:=by
   rw[List.length_filter_lt_length_iff_exists];exact⟨_,hm,by simp⟩
  rw[jd] at h3;omega
theorem VU:oF QSt ISt where
 ins:=λ{X st K par at' kind X' cA K'} hi hl hr=>by
  obtain⟨y,n,hy,⟨h1,h2,h3⟩,⟨h4,rfl⟩ | ⟨h4,e1,e2,e3,e4,e5⟩⟩:=hr
  ·have hX:X'.T=X.T/\X'.shn=X.shn:=by
    refine⟨?_,by rw[hy.2.2.1,aj h4]⟩;rcases hy.1.2 with⟨_,_,h,_⟩ | ⟨h,_⟩
    ·exact h
    ·exact absurd h h4
   exact(hi.other hX.1 hX.2).same h1 (h2.none λk hk=>h4 hk.1)
  ·refine ISt.spoilt h1 (λk hk=>?_) (λk hk=>?_) e4 e5 (by rw[e3];exact hi.seen)
   ·rw[e1] at hk;rcases jZ.1 hk with hk | rfl
    ·exact h2.1 k (hi.must k hk)
    ·exact h3 h4
   ·rw[e2,lw];rcases h2.2 k hk with fT | ⟨_,fT | fT⟩
    ·exact af (jZ.2 (af (hi.may k fT)))
    ·exact af (jZ.2 (ai fT))
    ·exact ai ⟨h1.2 k hk,fT⟩
 rem:=λ{X st K n X' cA K'} hi hl hr=>by
  obtain⟨y,hy,⟨h1,h2,h3⟩,⟨h4,rfl⟩ | ⟨h4,e1,e2,e3,e4,e5⟩⟩:=hr
  ·have hX:X'.T=X.T:=by
    rcases hy.1.2 with⟨_,h⟩ | ⟨h,_⟩
    ·exact h
    ·exact absurd h h4
   refine(hi.other hX hy.2.2.2.1).same h1 (λk=>⟨λhk=>(h3 k hk).resolve_right λh=>h4 h.1,λhk=>h2 k hk ?_⟩);obtain⟨c,hc⟩:=hi.lt.2 k hk;rw[hX];exact Hr hc
  ·refine ISt.spoilt h1 (λk hk=>?_) (λk hk=>?_) e4 e5 (by rw[e3];exact hi.seen)
   ·rw[e1] at hk;obtain⟨pJ,fT⟩:=Ak.1 hk;exact h2 k (hi.must k pJ) fT
   ·rw[e2,lw];obtain⟨c,hc⟩:=h1.2 k hk;rcases h3 k hk with fT | fT
    ·exact af (Ak.2 ⟨hi.may k fT,Hr hc⟩)
    ·exact ai ⟨⟨c,hc⟩,fT.2⟩
 mov:=λ{X st K n m at' X' cA K'} hi hl hr=>by
  obtain⟨y,hy,⟨h1,h2⟩,⟨h4,rfl⟩ | ⟨h4,e1,e2,e3,e4,e5⟩⟩:=hr
  ·have hX:X'.T=X.T:=by
    rcases hy.1.2 with⟨_,h⟩ | ⟨h,_⟩
    ·exact h
    ·exact absurd h h4
   exact(hi.other hX hy.2.2.2.1).same h1 (h2.none λk hk=>h4 hk.1)
  ·refine ISt.spoilt h1 (λk hk=>h2.1 k (hi.must k (by rw[<-e1];exact hk))) (λk hk=>?_) e4 e5 (by rw[e3];exact hi.seen);rw[e2,lw,lw];rcases h2.2 k hk with fT | ⟨_,fT | fT⟩
   ·exact af (af (hi.may k fT))
   ·exact af (ai ⟨h1.2 k hk,fT⟩)
   ·exact ai ⟨h1.2 k hk,fT⟩
 cls:=λ{X st K n s on X' cA K'} hi hl hr=>by
  obtain⟨rfl,⟨h1,h2⟩,hK⟩:=hr;have hX:(eP X n s on).T=X.T/\(eP X n s on).shn=X.shn:=by unfold eP;split<;>exact⟨rfl,rfl⟩
  rcases hK with⟨h4,rfl⟩ | ⟨h4,hs,Rr,cl,hR,_,ha,hK⟩
  ·exact(hi.other hX.1 hX.2).same h1 (h2.none λk hk=>h4 hk.1)
  ·refine hK.inv hi hX.1 hX.2 h1 h2 (λk ⟨_,pJ,fT,oS⟩=>⟨?_,pJ⟩);obtain⟨c,e1,e2,e3⟩:=BI hR (af rfl) fT;have hb:bt s 0=c:=by omega
   have VP:s.size=1:=by
    unfold aG at hs;rw[Bool.and_eq_true,bF] at hs;exact hs.1
   have ho:=II (kd:=2) 46 rfl;rw[Bool.and_eq_true,bF];refine⟨e3 s _ ho.1 ho.2 VP hb,NF hs ?_⟩;rw[ha];unfold gw at e2;rw[<-hb] at e2;rw[e2,Bool.true_and];exact oS
 nam:=λ{X st K n s X' cA K'} hi hl hr=>by
  obtain⟨rfl,⟨h1,h2⟩,hK⟩:=hr;have hX:(eQ X n s).T=X.T/\(eQ X n s).shn=X.shn:=by unfold eQ;split<;>exact⟨rfl,rfl⟩
  rcases hK with⟨h4,rfl⟩ | ⟨h4,hs,Rr,nm,hR,uf,hK⟩
  ·exact(hi.other hX.1 hX.2).same h1 (h2.none λk hk=>h4 hk.1)
  ·refine hK.inv hi hX.1 hX.2 h1 h2 (λk ⟨_,pJ,fT,oS⟩=>⟨?_,pJ⟩)
   have one:∀t:ByteArray,aG t=true->t.size=1:=λt h=>by
    unfold aG at h;rw[Bool.and_eq_true,bF] at h;exact h.1
   have ho:=II (kd:=3) 35 rfl;have aad:(fM (X.M n.toNat) s).nm=if s.size=0 then 0 else(bt s 0:Int):=by unfold fM;split<;>rfl
   unfold Al;rw[Bool.and_eq_true,Bool.not_eq_true',Bool.or_eq_true,Bool.and_eq_true,Bool.and_eq_true,bF,bF];refine⟨?_,?_⟩
   ·cases hb:(nm.toList==s.toList) with
    | false=>rfl
    | true=>
     have:=rx.1 hb;subst this;exfalso;apply fT;rw[aad];rcases uf with⟨h5,h6⟩ | ⟨h5,h6⟩
     ·rw[h6,aq h5]
     ·rw[h6,aj (by rw[one nm h5];decide)]
   ·rcases oS with oS | oS
    ·obtain⟨c,e1,e2,e3⟩:=BI hR (ai rfl) oS;refine af ?_;unfold gw at e2;rw[bF] at e2;rcases uf with⟨h5,h6⟩ | ⟨h5,h6⟩
     ·omega
     ·have h7:=one nm h5;exact⟨by omega,e3 nm _ ho.1 ho.2 h7 (by omega)⟩
    ·obtain⟨c,e1,e2,e3⟩:=BI hR (ai rfl) oS;refine ai ?_;unfold gw at e2;rw[bF] at e2;rw[aad] at e1
     by_cases h0:s.size=0
     ·rw[aq h0] at e1;omega
     ·rw[aj h0] at e1;have h7:=one s (hs.resolve_left h0);exact⟨h0,e3 s _ ho.1 ho.2 h7 (by omega)⟩
 sht:=λ{X st K s X' cA K'} hi hl hr=>by
  obtain⟨rfl,⟨h1,h2,h3⟩,hK⟩:=hr;have hX:(gX X s).T=X.T/\(gX X s).shn=X.shn:=by unfold gX;split<;>exact⟨rfl,rfl⟩
  rcases hK with⟨h4,rfl⟩ | ⟨h4,e1,e2,e3,e4,e5⟩
  ·exact(hi.other hX.1 hX.2).same h1 (λk=>⟨h3 h4 k,h2 k⟩)
  ·refine ISt.spoilt h1 (λk hk=>h2 k (hi.must k (by rw[<-e1];exact hk))) (λk hk=>?_) e4 e5 (by rw[e3];exact hi.seen);obtain⟨c,hc⟩:=h1.2 k hk;rw[hX.1] at hc;rw[e2];exact bm.2 ⟨_,hc,rfl⟩
 qry:=λ{X st K n s X' cA K'} hi hl hr=>by
  obtain⟨rfl,⟨h1,h2⟩,hK⟩:=hr;rcases hK with⟨h4,rfl⟩ | ⟨h4,e1,e2,j,hj,_,he⟩
  ·exact hi.same h1 (λk=>(h2 k).trans ⟨λh=>h.1,λh=>⟨h,λh5=>h4 h5.1⟩⟩)
  ·obtain⟨g0,g1,g2,g3⟩:=IM X'.T n hi.lt.1 hi.must hi.may hi.cnt j;have hb:=PN X'.T n (K.lm,K.ly,K.cnt) ⟨hi.lo,hi.hi⟩ j;rw[<-he] at g1 g2 g3 hb
   have hs:∀k,k∈cA↔k∈tQ X'.T n st j:=λk=>by
    rw[h2 k,ER];constructor
    ·rintro⟨h5,h6⟩;exact⟨h5,λi VC e=>h6 ⟨h4,(uE hj).2 ⟨i,VC,e⟩⟩⟩
    ·rintro⟨h5,h6⟩;refine⟨h5,λh7=>?_⟩;obtain⟨i,VC,e⟩:=(uE hj).1 h7.2;exact h6 i VC e
   exact⟨h1,λk hk=>(hs k).2 (g1 k hk),λk hk=>g2 k ((hs k).1 hk),λh=>by rw[xU h1.1 g0 hs];exact g3 h,hb.1,hb.2,by rw[e1];exact hi.seen,λh=>by rw[e2] at h;cases h⟩
 cnt:=λh=>⟨h.lo,h.hi⟩
end
def yW (a b:Int):Int:=if a<b then a else b
theorem Af (w:World)(a b:Int):Calls prog 152 #[.int .i64 a,.int .i64 b] w λe w'=>e=.returned (.int .i64 (yW a b))/\w'=w:=by
 unfold yW
 by_cases h:a<b
 ·have hd:decide (a<b)=true:=by simpa using h
  rw[aq h];clear h;go_enter func152,ntmps152;go_wp2;go_ret;exact⟨rfl,rfl⟩
 ·have hd:decide (a<b)=false:=by simpa using h
  rw[aj h];clear h;go_enter func152,ntmps152;go_wp2;go_ret;exact⟨rfl,rfl⟩
section
variable {PS:World->Value->YS->List Nat->(Nat->Prop)->Prop}{Q:fw->YS->List Nat->YS->List Nat->Prop}{w0:World}{G:Nat->Prop}{w:World}{b:Nat}{X Y:YS}{st:List Nat}{px:Value}{d:Nat}{K:gu}
theorem PQ2.noMust (hP:cG PS Q)(h:PQ2 PS w0 G w b X st Y px d K):PQ2 PS w0 G (w.setCell ⟨b,2,none⟩ (.slice none 0 0)) b X st Y px d {K with vm:=.slice none 0 0,lm:=[]}:=
 h.setMust hP (Below.refl _ w) (l':=[]) er (λj hj=>by simp[Value.ownBlock] at hj)
theorem PQ2.noMay (hP:cG PS Q)(h:PQ2 PS w0 G w b X st Y px d K):PQ2 PS w0 G (w.setCell ⟨b,3,none⟩ (.slice none 0 0)) b X st Y px d {K with vy:=.slice none 0 0,ly:=[]}:=
 h.setMay hP (Below.refl _ w) (l':=[]) er (λj hj=>by simp[Value.ownBlock] at hj)
end
theorem ISt.slice {X:YS}{st cA:List Nat}{K K':gu}{dp:Int}{n:Nat}(h:ISt X st K)(hs:U2 X st cA dp n)(h1:∀k∈K'.lm,k∈cA)(h2:∀k∈cA,k∈K'.ly)(h3:0<=K'.cnt->K'.cnt=cA.length)(h4:-1<=K'.cnt)(h5:K'.cnt<=24)(h6:K'.ls=K.ls)(h7:K'.held=K.held):ISt X cA K':=by
 obtain⟨_,_,g3,g4,g5⟩:=hs;refine⟨g3,h1,h2,h3,h4,h5,by rw[h6];exact h.seen,λhh=>?_⟩;rw[h7] at hh;obtain⟨e1,e2⟩:=h.held hh;rw[h6];refine⟨λk hk=>e1 k (g4 k hk),λ⟨k,hk,hw⟩ j hj hn=>?_⟩
 by_cases LZ:j∈st
 ·exact g5 ⟨k,hk,hw⟩ j LZ hn
 ·exact e2 ⟨k,g4 k hk,hw⟩ j hj LZ
def Bd (X:YS)(X':YS)(cA:List Nat)(K':gu):Prop:=X'=X/\ISt X cA K'
theorem El {PS:World->Value->YS->List Nat->(Nat->Prop)->Prop}{Q:fw->YS->List Nat->YS->List Nat->Prop}(hP:k9 PS Q)(w:World)(b:Nat)(X:YS)(st:List Nat)(pa:Addr)(d:Nat)(K:gu)(G Fp Fx Fy:Nat->Prop)
  (h:PJ2 PS w b X st X (.pointer (some pa)) d K Fp Fx Fy) (hG:∀k,Fp k∨Fx k∨Fy k->G k) (ln:sH X.T K) (hi:ISt X st K) (dp:Int) :
  Calls prog 109 #[.pointer (some ⟨b,0,none⟩),.int .i64 dp] w λe w'=>TurnPost2 PS w G b (.pointer (some pa)) d (Bd X) e w':=by
 have HP:=ae hP;have HW:=bT ln hi;have H0:=ae (PQ2.start h hG);clear h hP ln hG hi Fp Fx Fy;obtain⟨Fx,qd,pK⟩:=H0.out.prog HP.out.tocG;have sQ:Hid (PS w (.pointer (some pa)) X st Fx/\∀w1 X1 br,PS w1 (.pointer (some pa)) X1 br (cJ Fx w)->Fr w w1 Fx->PQ2 PS w G w1 b X1 br X (.pointer (some pa)) d K):=⟨qd,pK⟩;clear qd pK;have HB:Hid (∀{wx:World} {X1 br Y1 K1},PQ2 PS w G wx b X1 br Y1 (.pointer (some pa)) d K1->wx.heap[b]?=some (.cells #[.pointer (some pa),.pointer (some ⟨d,0,none⟩),K1.vm,K1.vy,.int .i64 K1.cnt,K1.vs,.bool K1.held] 124 (0,0))):=λhq=>hq.pb.blk;have b0:w.cell? ⟨b,0,none⟩=some (.pointer (some pa)):=aa (HB.out H0.out) rfl;have bC:=H0.out.few;have Oq:K.lm.length<=24:=by have:=HW.out.1.1.len;omega
 have tr:K.ly.length<=24:=by have:=HW.out.1.2.len;omega
 have adz:st.length<=24:=by have:=HW.out.2.lt.len;omega
 have adk:=BH HW.out.1.1.1 HW.out.2.must;have adl:=BH HW.out.2.lt.1 HW.out.2.may;obtain⟨am,cm,yA⟩:=aA H0.out.must;obtain⟨ay,cy,hvy⟩:=aA H0.out.may;have yt:=bT yA hvy;clear yA hvy;go_enter func109,ntmps109;go_wp2_with fail;refine(HP.out.sli w (.pointer (some pa)) X st Fx dp sQ.out.1).mono ?_;rintro e w1 ⟨n,cA,rfl,L5,dU,hfr1⟩;have kM:=ae (sQ.out.2 w1 X cA dU hfr1);have sG:=ae L5;have kJ:=bT L5.1 L5.2.1;have b2:w1.cell? ⟨b,2,none⟩=some (.slice am K.lm.length cm):=by rw[<-yt.out.1];exact aa (HB.out kM.out) rfl
 have b3:w1.cell? ⟨b,3,none⟩=some (.slice ay K.ly.length cy):=by rw[<-yt.out.2];exact aa (HB.out kM.out) rfl
 have b4:w1.cell? ⟨b,4,none⟩=some (.int .i64 K.cnt):=aa (HB.out kM.out) rfl;have ez:∀k,w1.frozen? ⟨b,k,none⟩=false:=λ_=>ax (HB.out kM.out);have jF:=(bx.1 (HB.out kM.out)).1;have lL:=HW.out.2.lo;have hch:=HW.out.2.hi;have HC:=ae HW.out.2.cnt;clear L5 dU hfr1 b0 sQ;obtain⟨bu,R8⟩:∃bu:Nat,bu=dp.toNat:=⟨_,rfl⟩;have HBU:=ae R8;clear R8;go_upto_if 15 with fail
 go_cut [1] (λbv wx=>bv=.int .i64 bu/\wx=w1)
 case first=>
  by_cases hneg:dp<0
  ·have gn:decide (dp<0)=true:=by simpa using hneg
   have od:Hid ((0:Int)=bu):=by have:=HBU.out;unfold Hid;omega
   rw[gn];clear hneg gn;go_wp2_with fail;go_meet;exact⟨by rw[<-od.out],rfl⟩
  ·have gn:decide (dp<0)=false:=by simpa using hneg
   have od:Hid (dp=bu):=by have:=HBU.out;unfold Hid;omega
   rw[gn];clear hneg gn;go_wp2_with fail;go_meet;exact⟨by rw[<-od.out],rfl⟩
 case rest=>
  obtain⟨rfl,rfl⟩:=hcut;obtain⟨w1,rfl⟩:∃w1,w1=wc:=⟨_,rfl⟩;obtain⟨fe,Dx⟩:∃fe:Nat,fe=if 0<=K.cnt then st.length else K.lm.length:=⟨_,rfl⟩
  obtain⟨ma,Kb⟩:∃ma:Nat,ma=if 0<=K.cnt then st.length else K.ly.length:=⟨_,rfl⟩
  have Qs:=ae Dx;have UK:=ae Kb;clear Dx Kb;go_upto_if 30 with fail
  go_cut [6,7] (λfv mv wx=>fv=.int .i64 fe/\mv=.int .i64 ma/\wx=w1)
  case first=>
   by_cases hc:0<=K.cnt
   ·have gc:decide (0<=K.cnt)=true:=by simpa using hc
    have Ji:Hid (K.cnt=(fe:Int)/\K.cnt=(ma:Int)):=by
     rw[Qs.out,UK.out,aq hc,aq hc];exact⟨HC.out hc,HC.out hc⟩
    rw[gc];clear hc gc;go_wp2_with fail;go_meet;exact⟨by rw[<-Ji.out.1],by rw[<-Ji.out.2],rfl⟩
   ·have gc:decide (0<=K.cnt)=false:=by simpa using hc
    have Ji:Hid (K.lm.length=fe/\K.ly.length=ma):=by
     rw[Qs.out,UK.out,aj hc,aj hc];exact⟨rfl,rfl⟩
    rw[gc];clear hc gc;go_wp2_with fail;go_meet;exact⟨by rw[<-Ji.out.1],by rw[<-Ji.out.2],rfl⟩
  case rest=>
   obtain⟨rfl,rfl,rfl⟩:=hcut;obtain⟨w1,rfl⟩:∃w1,w1=wc:=⟨_,rfl⟩;obtain⟨Cq,zR⟩:=kJ.out;have R8:=HBU.out
   have g1:decide ((n:Int)<yW bu fe)=false:=by
    have:fe<=st.length:=by rw[Qs.out];split<;>omega
    unfold yW;simp;split<;>omega
   have g2:decide (yW bu ma<(n:Int))=false:=by
    have:st.length<=ma:=by rw[UK.out];split<;>omega
    unfold yW;simp;split<;>omega
   have Tu:Hid (n=0->ISt X cA K):=λh0=>by
    refine HW.out.2.same sG.out.2.2.1 λk=>⟨sG.out.2.2.2.1 k,λhk=>?_⟩;refine Classical.byContradiction λhx=>?_
    have:=dw (l:=k :: cA) (m:=st) (List.nodup_cons.2 ⟨hx,sG.out.2.2.1.1⟩) (λj hj=>by
     rcases List.mem_cons.1 hj with rfl | hj
     ·exact hk
     ·exact sG.out.2.2.2.1 j hj)
    rw[List.length_cons] at this;omega
   have fm:Hid (∀W K1,PQ2 PS w G W b X cA X (.pointer (some pa)) d K1->K1.ls=K.ls->K1.held=K.held->(0<=K1.cnt->K1.cnt=cA.length)->-1<=K1.cnt->K1.cnt<=24->(K1.ly=K.ly∨(K1.ly=[]/\cA=[]))->TurnPost2 PS w G b (.pointer (some pa)) d (Bd X) (.returned (.bool true)) (W.setCell ⟨b,2,none⟩ (.slice none 0 0))):=λW K1 hq e1 e2 e3 e4 e5 e6=>by
    refine⟨rfl,X,cA,_,hq.noMust HP.out.tocG,⟨⟨List.nodup_nil,λk hk=>by cases hk⟩,?_⟩,rfl,HW.out.2.slice sG.out (λk hk=>by cases hk) (λk hk=>?_) e3 e4 e5 e1 e2⟩
    ·show LT X.T K1.ly;rcases e6 with e6 | ⟨e6,_⟩
     ·rw[e6];exact HW.out.1.2
     ·rw[e6];exact⟨List.nodup_nil,λk hk=>by cases hk⟩
    ·show k∈K1.ly;rcases e6 with e6 | ⟨_,e6⟩
     ·rw[e6];exact HW.out.2.may k (sG.out.2.2.2.1 k hk)
     ·rw[e6] at hk;cases hk
   have HEM:Hid (n=st.length->cA=[]):=λh=>List.eq_nil_of_length_eq_zero (by omega);have VJ:n<=bu:=by omega
   have aiu:n<=24:=by omega
   have E8:Hid (n<bu->n=st.length):=λh=>by omega
   clear Qs UK Oq tr adk adl Cq zR R8 kJ;have HLA:Hid (∀W,Calls prog 152 #[.int .i64 bu,.int .i64 fe] W λe w'=>e=.returned (.int .i64 (yW bu fe))/\w'=W):=λW=>Af W bu fe;have HLB:Hid (∀W,Calls prog 152 #[.int .i64 bu,.int .i64 ma] W λe w'=>e=.returned (.int .i64 (yW bu ma))/\w'=W):=λW=>Af W bu ma;generalize yW bu fe=L1 at g1 HLA;generalize yW bu ma=L2 at g2 HLB;go_wp2_with fail;refine(HLA.out _).mono ?_;rintro e w2 ⟨rfl,rfl⟩;obtain⟨w1,rfl⟩:∃w1,w1=w2:=⟨_,rfl⟩;go_wp2_with fail;refine(HLB.out _).mono ?_;rintro e w2 ⟨rfl,rfl⟩;obtain⟨w1,rfl⟩:∃w1,w1=w2:=⟨_,rfl⟩;clear HLA HLB;obtain⟨z0,Ud⟩:∃z0:Bool,z0=decide (n=0/\bu=0):=⟨_,rfl⟩;have XL:=ae Ud;clear Ud;go_upto_region 11 with fail
   go_cut [56] (λpv wx=>pv=.bool z0/\wx=w1)
   case first=>
    by_cases T3:n=0
    ·have gn:((n:Int)==0)=true:=by simp[T3]
     by_cases mo:bu=0
     ·have gb:((bu:Int)==0)=true:=by simp[mo]
      have HZ:Hid (true=z0):=by unfold Hid;rw[XL.out,decide_eq_true ⟨T3,mo⟩]
      clear T3 mo;go_wp2_with fail;go_meet;exact⟨by rw[HZ.out],rfl⟩
     ·have gb:((bu:Int)==0)=false:=by simp[mo]
      have HZ:Hid (false=z0):=by unfold Hid;rw[XL.out,decide_eq_false (λh=>mo h.2)]
      clear T3 mo;go_wp2_with fail;go_meet;exact⟨by rw[HZ.out],rfl⟩
    ·have gn:((n:Int)==0)=false:=by simp[T3]
     have HZ:Hid (false=z0):=by unfold Hid;rw[XL.out,decide_eq_false (λh=>T3 h.1)]
     clear T3;go_wp2_with fail;go_meet;exact⟨by rw[HZ.out],rfl⟩
   case rest=>
    obtain⟨rfl,rfl⟩:=hcut;obtain⟨w1,rfl⟩:∃w1,w1=wc:=⟨_,rfl⟩;cases z0 with
    | true=>
     have HE:Hid (TurnPost2 PS w G b (.pointer (some pa)) d (Bd X) (.returned (.bool true)) w1):=by
      have h0:=of_decide_eq_true XL.out.symm;exact⟨rfl,X,cA,K,kM.out,HW.out.1,rfl,Tu.out h0.1⟩
     go_wp2;go_ret;exact HE.out
    | false=>
     clear XL Tu;go_upto_if 61 with fail
     go_cut [] (λwx=>Hid (∃c1,PQ2 PS w G wx b X cA X (.pointer (some pa)) d {K with cnt:=c1}/\(0<=c1->c1=cA.length)/\-1<=c1/\c1<=24))
     case first=>
      by_cases hc:0<=K.cnt
      ·have gc:decide (0<=K.cnt)=true:=by simpa using hc
       have Ji:Hid (PQ2 PS w G (w1.setCell ⟨b,4,none⟩ (.int .i64 (K.cnt - n))) b X cA X (.pointer (some pa)) d {K with cnt:=K.cnt - n}):=kM.out.setCnt HP.out.tocG _
       have CC:Hid ((0<=K.cnt - n->K.cnt - n=cA.length)/\-1<=K.cnt - n/\K.cnt - n<=24):=by
        have h1:=HC.out hc;have h2:=sG.out.2.1;exact⟨λ_=>by omega,by omega,by omega⟩
       rw[gc];clear gc;go_wp2_with fail;go_meet;exact⟨_,Ji.out,CC.out⟩
      ·have gc:decide (0<=K.cnt)=false:=by simpa using hc
       have CC:Hid (0<=K.cnt->K.cnt=cA.length):=λh=>absurd h hc;rw[gc];clear gc hc;go_wp2_with fail;go_meet;exact⟨K.cnt,kM.out,CC.out,lL,hch⟩
     case rest=>
      obtain⟨c1,rJ,oR,yK,Vy⟩:=hcut.out;have ix:=ae rJ;have QP:=ae oR;clear hcut b2 b3 b4 ez jF kM rJ oR g1 g2;have b3:wc.cell? ⟨b,3,none⟩=some (.slice ay K.ly.length cy):=by rw[<-yt.out.2];exact aa (HB.out ix.out) rfl
      have b4:wc.cell? ⟨b,4,none⟩=some (.int .i64 c1):=aa (HB.out ix.out) rfl;have ez:∀k,wc.frozen? ⟨b,k,none⟩=false:=λ_=>ax (HB.out ix.out);have jF:=(bx.1 (HB.out ix.out)).1;obtain⟨w1,rfl⟩:∃w1,w1=wc:=⟨_,rfl⟩;obtain⟨z1,gK⟩:∃z1:Bool,z1=decide (n<bu∨c1=0):=⟨_,rfl⟩;have WC:=ae gK;clear gK;go_upto_region 15 with fail
      go_cut [80] (λpv wx=>pv=.bool z1/\wx=w1)
      case first=>
       by_cases aU:n<bu
       ·have gl:decide ((n:Int)<(bu:Int))=true:=by simp;omega
        have HZ:Hid (true=z1):=by unfold Hid;rw[WC.out,decide_eq_true (af aU)]
        go_wp2_with fail;go_meet;exact⟨by rw[HZ.out],rfl⟩
       ·have gl:decide ((n:Int)<(bu:Int))=false:=by simp;omega
        by_cases h0:c1=0
        ·have gc:(c1==0)=true:=by simp[h0]
         have HZ:Hid (true=z1):=by unfold Hid;rw[WC.out,decide_eq_true (ai h0)]
         clear h0;go_wp2_with fail;go_meet;exact⟨by rw[HZ.out],rfl⟩
        ·have gc:(c1==0)=false:=by simp[h0]
         have HZ:Hid (false=z1):=by unfold Hid;rw[WC.out,decide_eq_false (λh=>h.elim aU h0)]
         clear h0;go_wp2_with fail;go_meet;exact⟨by rw[HZ.out],rfl⟩
      case rest=>
       obtain⟨rfl,rfl⟩:=hcut;obtain⟨w1,rfl⟩:∃w1,w1=wc:=⟨_,rfl⟩;have b2:w1.cell? ⟨b,2,none⟩=some (.slice am K.lm.length cm):=by rw[<-yt.out.1];exact aa (HB.out ix.out) rfl
       cases z1 with
       | true=>
        have HE:Hid (TurnPost2 PS w G b (.pointer (some pa)) d (Bd X) (.returned (.bool true)) (((w1.setCell ⟨b,3,none⟩ (.slice none 0 0)).setCell ⟨b,4,none⟩ (.int .i64 0)).setCell ⟨b,2,none⟩ (.slice none 0 0))):=by
         have hs:cA=[]:=by
          rcases of_decide_eq_true WC.out.symm with h1 | h1
          ·exact HEM.out (E8.out h1)
          ·have:=QP.out (by omega);exact List.eq_nil_of_length_eq_zero (by omega)
         refine fm.out _ _ ((ix.out.noMay HP.out.tocG).setCnt HP.out.tocG 0) rfl rfl (λ_=>?_) (by show(-1:Int)<=0;omega) (by show(0:Int)<=24;omega) (ai ⟨rfl,hs⟩);show(0:Int)=(cA.length:Int);rw[hs];rfl
        clear fm WC E8 HEM;go_wp2;go_ret;exact HE.out
       | false=>
        have HE:Hid (TurnPost2 PS w G b (.pointer (some pa)) d (Bd X) (.returned (.bool true)) (w1.setCell ⟨b,2,none⟩ (.slice none 0 0))):=fm.out _ _ ix.out rfl rfl QP.out yK Vy (af rfl);clear fm WC E8 HEM;go_wp2;go_ret;exact HE.out
theorem us {PS:World->Value->YS->List Nat->(Nat->Prop)->Prop}{Q:fw->YS->List Nat->YS->List Nat->Prop}(hP:k9 PS Q)(w:World)(b:Nat)(X:YS)(st:List Nat)(pa:Addr)(d:Nat)(K:gu)(G Fp Fx Fy:Nat->Prop)
  (h:PJ2 PS w b X st X (.pointer (some pa)) d K Fp Fx Fy) (hG:∀k,Fp k∨Fx k∨Fy k->G k) (ln:sH X.T K) (hi:ISt X st K) (n:Int) (s:ByteArray) :
  Calls prog 108 #[.pointer (some ⟨b,0,none⟩),.int .i64 n,.string s] w λe w'=>TurnPost2 PS w G b (.pointer (some pa)) d (Bd X) e w':=by
 have HP:=ae hP;have HW:=bT ln hi;have H0:=ae (PQ2.start h hG);clear h hP ln hG hi Fp Fx Fy;obtain⟨Fx,qd,_⟩:=H0.out.prog HP.out.tocG;have sQ:=ae qd;clear qd;have HB:Hid (∀{wx:World} {X1 br Y1 K1},PQ2 PS w G wx b X1 br Y1 (.pointer (some pa)) d K1->wx.heap[b]?=some (.cells #[.pointer (some pa),.pointer (some ⟨d,0,none⟩),K1.vm,K1.vy,.int .i64 K1.cnt,K1.vs,.bool K1.held] 124 (0,0))):=λhq=>hq.pb.blk;have b0:w.cell? ⟨b,0,none⟩=some (.pointer (some pa)):=aa (HB.out H0.out) rfl;have bC:=H0.out.few;have Oq:K.lm.length<=24:=by have:=HW.out.1.1.len;omega
 have tr:K.ly.length<=24:=by have:=HW.out.1.2.len;omega
 obtain⟨am,cm,yA⟩:=aA H0.out.must;obtain⟨ay,cy,hvy⟩:=aA H0.out.may;have yt:=bT yA hvy;clear yA hvy;go_enter func108,ntmps108;go_wp2_with fail;refine(HP.out.sto w (.pointer (some pa)) X st Fx n s sQ.out).mono ?_;rintro e w1 ⟨rfl,cq⟩;have kM:=ae (H0.out.below HP.out.tocG cq);have b1:w1.cell? ⟨b,1,none⟩=some (.pointer (some ⟨d,0,none⟩)):=aa (HB.out kM.out) rfl;obtain⟨Fy,Ki,T5⟩:=kM.out.ref HP.out.tocG;have Fw:Hid (RY w1 d X Fy/\∀w2 Y1,RY w2 d Y1 (cJ Fy w1)->Fr w1 w2 Fy->PQ2 PS w G w2 b X st Y1 (.pointer (some pa)) d K):=⟨Ki,T5⟩;clear cq Ki T5 b0 sQ
 by_cases hq:bq X.T n s=0
 ·obtain⟨l,p,ht,_⟩:=ng hq;obtain⟨oT,hn⟩:=mQ ht;obtain⟨k,hk⟩:∃k:Nat,n.toNat=k:=⟨_,rfl⟩;rw[hk] at oT hn;subst hn;have HM:=ae oT;have HF:Hid (QB X st k s=!fH st k):=by unfold Hid QB;rw[decide_eq_true hq,Bool.true_and]
  rw[hq];have HQE:=ae hq;clear ht hk oT hq;have Mq:=ae (yr Fw.out.1 k s);rw[HQE.out] at Mq;generalize eu X.T X.M X.rs k s=vv at Mq ⊢;cases ft:QB X st k s with
  | true=>
   have VK:k ∉ st:=λhk=>by
    rw[HF.out,ii.2 hk] at ft;cases ft
   have Jm:Hid (fH K.lm k=false):=by
    cases hh:fH K.lm k with
    | false=>rfl
    | true=>exact absurd (HW.out.2.must k (ii.1 hh)) VK
   have HNS:=ae VK;clear VK ft HF;rw[aq rfl];go_wp2_with fail;refine Mq.out.mono ?_;rintro e w2 ⟨rfl,wU,tm⟩;have ix:=ae (Fw.out.2 w2 X wU tm);clear wU tm b1 Fw Mq;go_wp2_with fail;refine(bI _ 0).mono ?_;rintro e w5 ⟨rfl,rfl⟩;obtain⟨w2,rfl⟩:∃w2,w2=w5:=⟨_,rfl⟩;have b2:w2.cell? ⟨b,2,none⟩=some (.slice am K.lm.length cm):=by rw[<-yt.out.1];exact aa (HB.out ix.out) rfl
   have b3:w2.cell? ⟨b,3,none⟩=some (.slice ay K.ly.length cy):=by rw[<-yt.out.2];exact aa (HB.out ix.out) rfl
   have Tp:Hid (w2.ownsRow 0 3 1 (.slice am K.lm.length cm) K.lm.length (bh K.lm)):=by unfold Hid;rw[<-yt.out.1];exact ix.out.must
   have Xz:Hid (w2.ownsRow 0 3 1 (.slice ay K.ly.length cy) K.ly.length (bh K.ly)):=by unfold Hid;rw[<-yt.out.2];exact ix.out.may
   go_wp2_with fail;refine(lS w2 am cm K.lm k 0 Tp.out Oq).mono ?_;rw[Jm.out];rintro e w5 ⟨rfl,rfl⟩;obtain⟨w2,rfl⟩:∃w2,w2=w5:=⟨_,rfl⟩;go_wp2_with fail;refine(tu w2 ay cy K.ly k 0 Xz.out tr).mono ?_;rintro e W3 ⟨a3,c3,rfl,bA,lT⟩;have r7:=(lT.block b (bx.1 (HB.out ix.out)).1).trans (HB.out ix.out);have e3:W3.cell? ⟨b,3,none⟩=some K.vy:=aa r7 rfl;have ez:∀k,W3.frozen? ⟨b,k,none⟩=false:=λ_=>ax r7;have jF:=(bx.1 r7).1
   have HE:Hid (TurnPost2 PS w G b (.pointer (some pa)) d (Bd X) (.returned (.bool true)) (W3.setCell ⟨b,3,none⟩ (.slice a3 (aw k K.ly).length c3))):=by
    refine⟨rfl,X,st,_,ix.out.setMay HP.out.tocG lT (aP bA aZ) (λj hj=>ai (bA.lt j hj).1),⟨HW.out.1.1,tC HW.out.1.2 _⟩,rfl,?_⟩;have hi:=HW.out.2;exact⟨hi.lt,hi.must,λj hj=>lu.2 ⟨hi.may j hj,λe=>HNS.out (e▸hj)⟩,hi.cnt,hi.lo,hi.hi,hi.seen,hi.held⟩
   have gv:(vv==vv)=true:=by simp
   clear bA lT r7 b2 b3 ix Tp Xz;go_wp2;go_ret;exact HE.out
  | false=>
   have VK:k∈st:=by
    cases hh:fH st k with
    | true=>exact ii.1 hh
    | false=>rw[HF.out,hh] at ft;cases ft
   have Jm:=ae (ii.2 (HW.out.2.may k VK));have HNS:=ae VK;clear VK ft HF;rw[aj (by decide)];go_wp2_with fail;refine Mq.out.mono ?_;rintro e w2 ⟨rfl,wU,tm⟩;have ix:=ae (Fw.out.2 w2 X wU tm);clear wU tm b1 Fw Mq;go_wp2_with fail;refine(bI _ 0).mono ?_;rintro e w5 ⟨rfl,rfl⟩;obtain⟨w2,rfl⟩:∃w2,w2=w5:=⟨_,rfl⟩;have b2:w2.cell? ⟨b,2,none⟩=some (.slice am K.lm.length cm):=by rw[<-yt.out.1];exact aa (HB.out ix.out) rfl
   have b3:w2.cell? ⟨b,3,none⟩=some (.slice ay K.ly.length cy):=by rw[<-yt.out.2];exact aa (HB.out ix.out) rfl
   have Tp:Hid (w2.ownsRow 0 3 1 (.slice am K.lm.length cm) K.lm.length (bh K.lm)):=by unfold Hid;rw[<-yt.out.1];exact ix.out.must
   have Xz:Hid (w2.ownsRow 0 3 1 (.slice ay K.ly.length cy) K.ly.length (bh K.ly)):=by unfold Hid;rw[<-yt.out.2];exact ix.out.may
   go_wp2_with fail;refine(lS w2 ay cy K.ly k 0 Xz.out tr).mono ?_;rw[Jm.out];rintro e w5 ⟨rfl,rfl⟩;obtain⟨w2,rfl⟩:∃w2,w2=w5:=⟨_,rfl⟩;go_wp2_with fail;refine(sE w2 am cm K.lm k Tp.out Oq).mono ?_;rintro e W3 ⟨a3,c3,rfl,bA,lT,iG⟩;have r7:=(lT.block b (bx.1 (HB.out ix.out)).1).trans (HB.out ix.out);have e3:W3.cell? ⟨b,2,none⟩=some K.vm:=aa r7 rfl;have ez:∀k,W3.frozen? ⟨b,k,none⟩=false:=λ_=>ax r7;have jF:=(bx.1 r7).1
   have HE:Hid (TurnPost2 PS w G b (.pointer (some pa)) d (Bd X) (.returned (.bool true)) (W3.setCell ⟨b,2,none⟩ (.slice a3 (dE K.lm k).length c3))):=by
    refine⟨rfl,X,st,_,ix.out.setMust HP.out.tocG lT bA (λj hj=>by rw[yt.out.1];exact iG.out j hj),⟨HW.out.1.1.with HM.out,HW.out.1.2⟩,rfl,?_⟩;have hi:=HW.out.2;refine⟨hi.lt,λj hj=>?_,hi.may,hi.cnt,hi.lo,hi.hi,hi.seen,hi.held⟩;rcases jZ.1 hj with hj | hj
    ·exact hi.must j hj
    ·rw[hj];exact HNS.out
   clear bA lT r7 b2 b3 ix Tp Xz iG;go_wp2;go_ret;exact HE.out
 ·have ft:QB X st n s=false:=by unfold QB;rw[decide_eq_false hq];rfl
  rw[ft,aj (by decide)];have VR:eu X.T X.M X.rs n s=0:=by unfold eu;rw[aj hq]
  have Mq:=ae (yr Fw.out.1 n s);have gy:(bq X.T n s != 0)=true:=by simp[hq]
  rw[VR] at Mq;clear VR ft hq;generalize bq X.T n s=ce at Mq gy ⊢;go_wp2_with fail;refine Mq.out.mono ?_;rintro e w2 ⟨rfl,wU,tm⟩;have HE:Hid (TurnPost2 PS w G b (.pointer (some pa)) d (Bd X) (.returned (.bool true)) w2):=⟨rfl,X,st,K,Fw.out.2 w2 X wU tm,HW.out.1,rfl,HW.out.2⟩;clear wU tm b1 Fw Mq;go_wp2_with fail;refine(bI _ ce).mono ?_;rintro e w5 ⟨rfl,rfl⟩;go_wp2;go_ret;exact HE.out
theorem GP {PS:World->Value->YS->List Nat->(Nat->Prop)->Prop}{Q:fw->YS->List Nat->YS->List Nat->Prop}(hP:cG PS Q)(w0:World)(G:Nat->Prop)(w:World)(b:Nat)(X:YS)(st:List Nat)(px:Value)(d:Nat)(K:gu)(hq:PQ2 PS w0 G w b X st X px d K)(a:Option Addr)(c:Nat)(L:List Nat)
  (ho:w.ownsRow 0 3 1 (.slice a L.length c) L.length (bh L)) (hL:L.length<=24) (hs:K.ls.length<=24) (hH:(∃k∈L,fc X.T X.shn k=true)->∀k∈K.ls,k ∉ L->fc X.T X.shn k=true) :
  Calls prog 110 #[.pointer (some ⟨b,0,none⟩),.slice a L.length c] w λe w'=>e=.returned (.bool true)/\Below w.heap.size w w':=by
 have HP:=ae hP;have HQ:=ae hq;have HO:=ae ho;have HH:=ae hH;obtain⟨av,cs,hvs⟩:=aA hq.seen;have HVS:=ae hvs;have HB:Hid (∀wr,Below w.heap.size w wr->wr.heap[b]?=some (.cells #[px,.pointer (some ⟨d,0,none⟩),K.vm,K.vy,.int .i64 K.cnt,K.vs,.bool K.held] 124 (0,0))):=λwr hb=>(hb.block b (bx.1 HQ.out.pb.blk).1).trans HQ.out.pb.blk
 have LX:Hid (∀(n:Int) wr,Below w.heap.size w wr->Calls prog 153 #[.pointer (some ⟨d,0,none⟩),.int .i64 n] wr λe w'=>e=.returned (.bool (fc X.T X.shn n))/\w'=wr):=λn wr hb=>by
  obtain⟨F,hr⟩:=(HQ.out.below HP.out hb).rs;exact LI hr n
 clear hq ho hH hP hvs;go_enter func110,ntmps110;go_wp2_with fail
 go_loopg [5,6] L.length (λgk zv iv wr=>∃(i:Nat) (z:Bool),zv=.bool z/\iv=.int .i64 i/\i<=L.length/\L.length - i<=gk/\Hid (Below w.heap.size w wr/\(z=true->∃k∈L,fc X.T X.shn k=true)))
 case atStart=>exact⟨0,false,rfl,rfl,aZ,by omega,bd,λh=>by cases h⟩
 case round=>
  obtain⟨i,z,rfl,rfl,hi,fS,HI⟩:=hrel
  by_cases aU:i<L.length
  ·have hd:decide ((i:Int)<(L.length:Int))=true:=by simp;omega
   have jJ:(i:Int)<(L.length:Int):=by omega
   have b1:wr.cell? ⟨b,1,none⟩=some (.pointer (some ⟨d,0,none⟩)):=aa (HB.out wr HI.out.1) rfl;obtain⟨g,hg,dn,hc⟩:=aR (aN HO.out HI.out.1) (by omega);subst hg;have q1:wr.cell? ⟨g,i,none⟩=some (.int .i64 L[i]):=hc i _ (by rw[List.getElem?_map,bO aU];rfl);have Q1:Hid (∀m,Calls prog 153 #[.pointer (some ⟨d,0,none⟩),.int .i64 L[i]] (wr.drewN m) λe w'=>e=.returned (.bool (fc X.T X.shn L[i]))/\w'=wr.drewN m):=λm=>LX.out L[i] _ (dR HI.out.1 m)
   have iH:Hid (∀m,Below w.heap.size w (wr.drewN m)/\((z||fc X.T X.shn L[i])=true->∃k∈L,fc X.T X.shn k=true)):=λm=>⟨dR HI.out.1 m,λh=>by
    rw[Bool.or_eq_true] at h;rcases h with h | h
    ·exact HI.out.2 h
    ·exact⟨L[i],bK aU,h⟩⟩
   clear hc HI;generalize fc X.T X.shn L[i]=r at Q1 iH;generalize L[i]=o at q1 Q1;go_upto_region 5 with fail;go_quiet ((go_at_call 153;exact Calls.quiet_of_same (Q1.out _)));have e9:=iH.out nq;clear Q1 iH q1 b1;cases z<;>cases r
   all_goals
    go_wp2;go_roundg (L.length - (i+1))
    case measure=>omega
    case rel=>exact⟨i+1,_,rfl,by go_num,by omega,au,e9⟩
  ·have hd:decide ((i:Int)<(L.length:Int))=false:=by simp;omega
   obtain⟨wo,rfl⟩:∃wo,wo=wr:=⟨_,rfl⟩;have HBO:=ae HI.out.1;have HZ:Hid (z=true->∀k∈K.ls,fH L k=false->fc X.T X.shn k=true):=λh k hk hn=>HH.out (HI.out.2 h) k hk (λhm=>by rw[ii.2 hm] at hn;cases hn);clear HI;go_wp2_with fail
   go_loopg [8] K.ls.length (λgk iv wr=>∃(i:Nat),iv=.int .i64 i/\i<=K.ls.length/\K.ls.length - i<=gk/\Hid (Below w.heap.size w wr))
   case atStart=>exact⟨0,rfl,aZ,by omega,HBO⟩
   case round=>
    obtain⟨i,rfl,hi,fS,HI⟩:=hrel;have b5:wr.cell? ⟨b,5,none⟩=some (.slice av K.ls.length cs):=by rw[<-HVS.out];exact aa (HB.out wr HI.out) rfl
    by_cases BF:i<K.ls.length
    ·have iR:decide ((i:Int)<(K.ls.length:Int))=true:=by simp;omega
     have jJ:(i:Int)<(K.ls.length:Int):=by omega
     have b1:wr.cell? ⟨b,1,none⟩=some (.pointer (some ⟨d,0,none⟩)):=aa (HB.out wr HI.out) rfl;have eb:wr.ownsRow 0 3 1 (.slice av K.ls.length cs) K.ls.length (bh K.ls):=by rw[<-HVS.out];exact aN HQ.out.seen HI.out
     obtain⟨g,hg,dn,hc⟩:=aR eb (by omega);subst hg;have q1:wr.cell? ⟨g,i,none⟩=some (.int .i64 K.ls[i]):=hc i _ (by rw[List.getElem?_map,bO BF];rfl);have Qw:=ae (aN HO.out HI.out);have Q1:Hid (Calls prog 153 #[.pointer (some ⟨d,0,none⟩),.int .i64 K.ls[i]] wr λe w'=>e=.returned (.bool (fc X.T X.shn K.ls[i]))/\w'=wr):=LX.out _ _ HI.out;have A0:Hid (z=true->fH L K.ls[i]=false->fc X.T X.shn K.ls[i]=true):=λh1 h2=>HZ.out h1 _ (bK BF) h2;have Fs:=ae (lS wr a c L K.ls[i] 0 Qw.out hL);clear hc eb;generalize fc X.T X.shn K.ls[i]=r at Q1 A0;generalize fH L K.ls[i]=q at Fs A0;generalize K.ls[i]=o at q1 Q1 Fs;go_wp2_with fail;refine Fs.out.mono ?_;rintro e w2 ⟨rfl,rfl⟩;obtain⟨wr,rfl⟩:∃wr,wr=w2:=⟨_,rfl⟩;go_wp2_with fail;refine Q1.out.mono ?_;rintro e w2 ⟨rfl,rfl⟩;obtain⟨wr,rfl⟩:∃wr,wr=w2:=⟨_,rfl⟩;clear Q1 Fs q1 b1 b5
     by_cases hz:z=true/\q=false
     ·obtain⟨rfl,rfl⟩:=hz;obtain rfl:r=true:=A0.out rfl rfl;clear A0;go_wp2;go_roundg (K.ls.length - (i+1))
      case measure=>omega
      case rel=>exact⟨i+1,by go_num,by omega,au,HI⟩
     ·cases z with
      | false=>
       clear hz A0;go_wp2;go_roundg (K.ls.length - (i+1))
       case measure=>omega
       case rel=>exact⟨i+1,by go_num,by omega,au,HI⟩
      | true=>
       cases q with
       | false=>exact absurd ⟨rfl,rfl⟩ hz
       | true=>
        clear hz A0;go_wp2;go_roundg (K.ls.length - (i+1))
        case measure=>omega
        case rel=>exact⟨i+1,by go_num,by omega,au,HI⟩
    ·have iR:decide ((i:Int)<(K.ls.length:Int))=false:=by simp;omega
     go_wp2;go_ret;exact⟨rfl,HI.out⟩
section
variable {L:List Nat}
section
variable {PS:World->Value->YS->List Nat->(Nat->Prop)->Prop}{Q:fw->YS->List Nat->YS->List Nat->Prop}{w0:World}{G:Nat->Prop}{w:World}{b:Nat}{X Y:YS}{st:List Nat}{px:Value}{d:Nat}{K:gu}
theorem PQ2.setAll (hP:cG PS Q)(h:PQ2 PS w0 G w b X st Y px d K){wx:World}(hB:Below w.heap.size w wx){v:Value}{l:List Nat}(ho:wx.ownsRow w.heap.size 3 1 v l.length (bh l))(c:Int)(he:Bool):
  PQ2 PS w0 G (((((wx.setCell ⟨b,2,none⟩ v).setCell ⟨b,3,none⟩ v).setCell ⟨b,5,none⟩ v).setCell ⟨b,4,none⟩ (.int .i64 c)).setCell ⟨b,6,none⟩ (.bool he)) b X st Y px d ⟨v,v,v,c,he,l,l,l⟩:=by
 have h1:=h.setMust hP hB (aP ho aZ) (λj hj=>ai (ho.lt j hj).1);have h2:PQ2 PS w0 G ((wx.setCell ⟨b,2,none⟩ v).setCell ⟨b,3,none⟩ v) b X st Y px d {K with vm:=v,lm:=l,vy:=v,ly:=l}:=h1.setB hP bd (o:=3) (u:=v) rfl h1.must h1.must h1.seen (λj hj=>af (af hj)) (λj hj=>af (af hj)) (λj hj=>af (ai (ai hj)));have h3:PQ2 PS w0 G (((wx.setCell ⟨b,2,none⟩ v).setCell ⟨b,3,none⟩ v).setCell ⟨b,5,none⟩ v) b X st Y px d {K with vm:=v,lm:=l,vy:=v,ly:=l,vs:=v,ls:=l}:=h2.setB hP bd (o:=5) (u:=v) rfl h2.must h2.must h2.must (λj hj=>af (af hj)) (λj hj=>af (af hj)) (λj hj=>af (af hj));exact(h3.setCnt hP c).setHeld hP he
end
theorem xO (h:L.Pairwise (·<·)):L.Nodup:=h.imp λh=>by omega
theorem SU (h:L.Pairwise (·<·)){i:Nat}(hi:i+1<L.length):L[i]<L[i+1]:=List.pairwise_iff_getElem.1 h i (i+1) (by omega) hi (by omega)
theorem uc {PS:World->Value->YS->List Nat->(Nat->Prop)->Prop}{Q:fw->YS->List Nat->YS->List Nat->Prop}(hP:k9 PS Q)(an:Nat)(w:World)(B:Nat)(vD vI vM:Value)(nx:Nat)(ps:List jU)(es:List sM)(h:GW2 PS ISt an w B vD vI vM nx ps es)(i:Nat)(hi:i<ps.length)(pK:nx<=274877906944):
  Calls prog 63 #[.pointer (some ⟨B,0,none⟩),.pointer (some ⟨ps[i].b,0,none⟩)] w λe w'=>KidPost2 PS ISt an w B vD nx ps i ps[i] e w':=by
 obtain⟨i0,Gj,gx,gA,gB⟩:=info_parts Tryz.info3;have tn:=h.pd i hi;have kX:=ae h;have HP:=ae hP;have XH:Hid (∀w1 w2 made' (G':Nat->Prop),GW2 PS ISt an w1 B vD vI vM nx ps es->w1.heap.size<=w2.heap.size->(∀k,k<w1.heap.size->¬ps[i].G k->w2.heap[k]?=w1.heap[k]?)->PD2 PS ISt w2 ps[i].b made' G'->(∀k,G' k->ps[i].G k∨w1.heap.size<=k)->GW2 PS ISt an w2 B vD vI vM nx (ps.set i ⟨ps[i].b,made',G'⟩) es):=λw1 w2 made' G' h1 h2 h3 h4 h5=>h1.turn HP.out.tocG hi h2 h3 h4 h5;have Xi:Hid (∀k,ps[i].G k->an<=k):=λk hk=>kX.out.baseG i hi k hk;have HLT:Hid (∀j (hj:j<ps.length) k,ps[j].G k->k<w.heap.size):=λj hj k hk=>(kX.out.pd j hj).lt k hk;clear h;obtain⟨p,hp⟩:∃p,ps[i]=p:=⟨_,rfl⟩;rw[hp] at tn XH Xi ⊢;clear hp;obtain⟨X,st,pa,d,K,Fp,Fx,Fy,h1,h2,h3,h4,h5,h6⟩:=tn;have od:=ae h1.pb.blk;have b0:w.cell? ⟨p.b,0,none⟩=some (.pointer (some pa)):=aa od.out rfl;have HJ:Hid (PJ2 PS w p.b X st X (.pointer (some pa)) d K Fp Fx Fy/\(∀k,Fp k∨Fx k∨Fy k->p.G k)/\(∀k,p.G k->k<w.heap.size)/\X.made=p.made):=⟨h1,h2,h3,h4⟩;have HW:=bT h5 h6;have bC:X.T.length<=24:=h1.rs.few;have Oq:K.lm.length<=24:=by have:=h5.1.len;omega
 have tr:K.ly.length<=24:=by have:=h5.2.len;omega
 have adz:st.length<=24:=by have:=h6.lt.len;omega
 clear h1 h2 h3 h4 h5 h6 hP;go_enter func63,ntmps63;go_wp2_with fail;refine(HP.out.stl w (.pointer (some pa)) X st Fx HJ.out.1.ps).mono ?_;rintro e w1 ⟨L,a,c,rfl,bL,cq,hri,oT⟩;have HR:Hid (w1.ownsRow w.heap.size 3 1 (.slice a L.length c) L.length (bh L)/\L.Pairwise (·<·)/\∀k,k∈L↔k∈st):=⟨bL,hri,oT⟩;have eg:=ae cq;have HLL:=ae (xU (xO hri) HW.out.2.lt.1 oT);have Oa:L.length<=24:=by have:=HLL.out;omega
 have kM:Hid (PQ2 PS w1 p.G w1 p.b X st X (.pointer (some pa)) d K):=PQ2.start (HJ.out.1.keep HP.out.tocG cq.size (λk hk=>cq.block k (HJ.out.1.here k hk))) HJ.out.2.1;have Mj:=ae (kX.out.keep HP.out.tocG cq);have qT:Hid (∀wr,Below w1.heap.size w1 wr->wr.heap[p.b]?=some (.cells #[.pointer (some pa),.pointer (some ⟨d,0,none⟩),K.vm,K.vy,.int .i64 K.cnt,K.vs,.bool K.held] 124 (0,0))):=λwr hb=>(hb.block p.b (bx.1 kM.out.pb.blk).1).trans kM.out.pb.blk;obtain⟨am,cm,yA⟩:=aA kM.out.must;obtain⟨ay,cy,hvy⟩:=aA kM.out.may;have yt:=bT yA hvy;have Qw:=ae (aP bL aZ);clear bL cq hri oT b0 yA hvy;go_wp2_with fail
 go_loopg [6] L.length (λgk iv wr=>∃(i:Nat),iv=.int .i64 i/\i<=L.length/\L.length - i<=gk/\Hid (Below w1.heap.size w1 wr))
 case atStart=>exact⟨0,rfl,aZ,by omega,bd⟩
 case round=>
  obtain⟨j,rfl,hj,fS,HI⟩:=hrel
  by_cases aU:j<L.length
  ·have hd:decide ((j:Int)<(L.length:Int))=true:=by simp;omega
   have jJ:(j:Int)<(L.length:Int):=by omega
   have b3:wr.cell? ⟨p.b,3,none⟩=some (.slice ay K.ly.length cy):=by rw[<-yt.out.2];exact aa (qT.out wr HI.out) rfl
   obtain⟨g,hg,dn,hc⟩:=aR (aN Qw.out HI.out) (by omega);subst hg;have q1:wr.cell? ⟨g,j,none⟩=some (.int .i64 L[j]):=hc j _ (by rw[List.getElem?_map,bO aU];rfl)
   have Fs:Hid (∀m,Calls prog 98 #[.slice ay K.ly.length cy,.int .i64 L[j]] (wr.drewN m) λe w'=>e=.returned (.bool true)/\w'=wr.drewN m):=λm=>by
    have eb:(wr.drewN m).ownsRow 0 3 1 (.slice ay K.ly.length cy) K.ly.length (bh K.ly):=by rw[<-yt.out.2];exact aN kM.out.may (dR HI.out m)
    have hx:fH K.ly L[j]=true:=ii.2 (HW.out.2.may _ ((HR.out.2.2 _).1 (bK aU)));rw[<-hx];exact lS (wr.drewN m) ay cy K.ly L[j] 0 eb tr
   have iH:Hid (∀m,Below w1.heap.size w1 (wr.drewN m)):=λm=>dR HI.out m;cases j with
   | zero=>
    generalize L[0]=o at q1 Fs;clear hc HI;go_upto_region 5 with fail;go_quiet ((go_at_call 98;exact Calls.quiet_of_same (Fs.out _)));have e9:=ae (iH.out nq);clear Fs iH q1 b3;generalize wr.drewN nq=wy at e9 ⊢;have og:Hid (∀m,Below w1.heap.size w1 (wy.drewN m)):=λm=>dR e9.out m;go_upto_region 6 with fail;go_quiet (fail);go_wp2;go_roundg (L.length - (0+1))
    case measure=>omega
    case rel=>exact⟨0+1,by go_num,by omega,au,og.out _⟩
   | succ j=>
    have q2:wr.cell? ⟨g,j,none⟩=some (.int .i64 L[j]):=hc j _ (by rw[List.getElem?_map,bO (show j<L.length by omega)];rfl);have Gm:=SU HR.out.2.1 aU;have gle:decide ((L[j+1]:Int)<=(L[j]:Int))=false:=by simp;omega
    have gl2:decide (L[j+1]<=L[j])=false:=by simp;omega
    have WM:((j:Int)+1 - 1)=(j:Int):=by omega
    have LZ:(0:Int)<(j:Int)+1:=by omega
    have Sd:(j:Int)+1<(L.length:Int):=by omega
    have hj4:(j:Int)<(L.length:Int):=by omega
    have ix:Hid (∀m,(wr.drewN m).cell? ⟨g,j,none⟩=some (.int .i64 L[j])/\(wr.drewN m).cell? ⟨g,j+1,none⟩=some (.int .i64 L[j+1])):=λm=>⟨q2,q1⟩;generalize L[j+1]=o at q1 Fs gle gl2 ix Gm;generalize L[j]=o2 at q2 gle gl2 ix Gm;clear hc HI Gm;go_upto_region 5 with fail;go_quiet ((go_at_call 98;exact Calls.quiet_of_same (Fs.out _)));have e9:=ae (iH.out nq);obtain⟨q3,q4⟩:=ix.out nq;clear Fs iH q1 q2 b3 ix;generalize wr.drewN nq=wy at e9 q3 q4 ⊢;have og:Hid (∀m,Below w1.heap.size w1 (wy.drewN m)):=λm=>dR e9.out m;go_upto_region 6 with fail;go_quiet (fail);go_wp2;go_roundg (L.length - (j+1+1))
    case measure=>omega
    case rel=>exact⟨j+1+1,by go_num,by omega,au,og.out _⟩
  ·have hd:decide ((j:Int)<(L.length:Int))=false:=by simp;omega
   have QR:=ae HI.out;obtain⟨wo,rfl⟩:∃wo,wo=wr:=⟨_,rfl⟩;clear HI;go_wp2_with fail
   go_loopg [8] K.lm.length (λgk iv wr=>∃(i:Nat),iv=.int .i64 i/\i<=K.lm.length/\K.lm.length - i<=gk/\Hid (Below w1.heap.size w1 wr))
   case atStart=>exact⟨0,rfl,aZ,by omega,QR⟩
   case round=>
    obtain⟨j,rfl,hj,fS,HI⟩:=hrel;have b2:wr.cell? ⟨p.b,2,none⟩=some (.slice am K.lm.length cm):=by rw[<-yt.out.1];exact aa (qT.out wr HI.out) rfl
    by_cases BF:j<K.lm.length
    ·have iR:decide ((j:Int)<(K.lm.length:Int))=true:=by simp;omega
     have jJ:(j:Int)<(K.lm.length:Int):=by omega
     have eb:wr.ownsRow 0 3 1 (.slice am K.lm.length cm) K.lm.length (bh K.lm):=by rw[<-yt.out.1];exact aN kM.out.must HI.out
     obtain⟨g,hg,dn,hc⟩:=aR eb (by omega);subst hg;have q1:wr.cell? ⟨g,j,none⟩=some (.int .i64 K.lm[j]):=hc j _ (by rw[List.getElem?_map,bO BF];rfl)
     have Fs:Hid (Calls prog 98 #[.slice a L.length c,.int .i64 K.lm[j]] wr λe w'=>e=.returned (.bool true)/\w'=wr):=by
      have hx:fH L K.lm[j]=true:=ii.2 ((HR.out.2.2 _).2 (HW.out.2.must _ (bK BF)));unfold Hid;rw[<-hx];exact lS wr a c L K.lm[j] 0 (aN Qw.out HI.out) Oa
     clear hc eb;generalize K.lm[j]=o at q1 Fs;go_wp2_with fail;refine Fs.out.mono ?_;rintro e w2 ⟨rfl,rfl⟩;obtain⟨wr,rfl⟩:∃wr,wr=w2:=⟨_,rfl⟩;clear Fs q1 b2;go_wp2;go_roundg (K.lm.length - (j+1))
     case measure=>omega
     case rel=>exact⟨j+1,by go_num,by omega,au,HI⟩
    ·have iR:decide ((j:Int)<(K.lm.length:Int))=false:=by simp;omega
     obtain⟨wo,rfl⟩:∃wo,wo=wr:=⟨_,rfl⟩;have b4:wo.cell? ⟨p.b,4,none⟩=some (.int .i64 K.cnt):=aa (qT.out wo HI.out) rfl;go_upto_region 14 with fail
     go_cut [83] (λpv wx=>pv=.bool false/\wx=wo)
     case first=>
      by_cases hc:0<=K.cnt
      ·have gc:decide (0<=K.cnt)=true:=by simpa using hc
       have gn:((L.length:Int) != K.cnt)=false:=by
        have h1:=HW.out.2.cnt hc;have h2:=HLL.out;rw[bne_eq_false_iff_eq];omega
       clear hc;go_wp2_with fail;go_meet;exact⟨rfl,rfl⟩
      ·have gc:decide (0<=K.cnt)=false:=by simpa using hc
       clear hc;go_wp2_with fail;go_meet;exact⟨rfl,rfl⟩
     case rest=>
      obtain⟨rfl,rfl⟩:=hcut;obtain⟨wo,rfl⟩:∃wo,wo=wc:=⟨_,rfl⟩;have b6:wo.cell? ⟨p.b,6,none⟩=some (.bool K.held):=aa (qT.out wo HI.out) rfl;clear b4 b2
      have HHE:Hid (K.held=true->Calls prog 110 #[.pointer (some ⟨p.b,0,none⟩),.slice a L.length c] wo λe w'=>e=.returned (.bool true)/\Below wo.heap.size wo w'):=λhh=>by
       obtain⟨g1,g2⟩:=HW.out.2.held hh;exact GP HP.out.tocG w1 p.G wo p.b X st (.pointer (some pa)) d K (kM.out.below HP.out.tocG HI.out) a c L (aN Qw.out HI.out) Oa HW.out.2.seen (λ⟨k,hk,hw⟩ j hj hn=>g2 ⟨k,(HR.out.2.2 k).1 hk,hw⟩ j hj (λh=>hn ((HR.out.2.2 j).2 h)))
      go_upto_if 87 with fail
      go_cut [] (λwx=>Hid (Below w1.heap.size w1 wx))
      case first=>
       generalize K.held=he at b6 HHE ⊢;cases he with
       | false=>
        go_wp2_with fail;go_meet;exact HI
       | true=>
        go_wp2_with fail;refine(HHE.out (by trivial)).mono ?_;rintro e w2 ⟨rfl,ud⟩;have pY:=ae (HI.out.trans (ud.mono HI.out.size));clear ud;go_wp2_with fail;go_meet;exact pY
      case rest=>
       have pY:=ae hcut;clear hcut b6 HHE HI QR;obtain⟨wo,rfl⟩:∃wo,wo=wc:=⟨_,rfl⟩;have gK:=pY.out.size;have HOO:=ae (aN Qw.out pY.out);go_upto_region 21 with fail
       go_cut [11] (λcv wx=>∃a1 c1,cv=.slice a1 L.length c1/\Hid (wx.ownsRow w1.heap.size 3 1 (.slice a1 L.length c1) L.length (bh L)/\Below w1.heap.size w1 wx))
       case first=>
        by_cases h0:a=none
        ·subst h0
         have hn:L.length=0/\c=0:=by
          rcases HOO.out.2 with⟨h,h2⟩ | ⟨_,_,_,h,_⟩
          ·injection h with _ h3 h4;exact⟨h2,h4⟩
          ·injection h with h;cases h
         obtain⟨yM,rfl⟩:=hn;have HL0:=ae (List.eq_nil_of_length_eq_zero yM);have LQ:Hid (∃a1 c1,Value.slice none 0 0=.slice a1 L.length c1/\Hid (wo.ownsRow w1.heap.size 3 1 (.slice a1 L.length c1) L.length (bh L)/\Below w1.heap.size w1 wo)):=⟨none,0,by rw[yM],by rw[HL0.out];exact er,pY.out⟩;have HX0:Hid (Value.slice none L.length 0=.slice none 0 0):=by unfold Hid;rw[yM]
         clear yM;go_wp2_with (first | (at_builtin;refine wpList_append_own_none rfl (.tmp 93) (.tmp 94) 40 rfl w1.heap.size 3 i0 1 underlying40 Gj _ _ _ rfl er HX0.out ?_));go_wp2_with fail;go_meet;exact LQ.out
        ·obtain⟨g,rfl⟩:∃g,a=some ⟨g,0,none⟩:=by
          rcases HOO.out.2 with⟨h,_⟩ | ⟨g,_,_,h,_⟩
          ·injection h with h;exact absurd h h0
          ·injection h with h;exact⟨g,h⟩
         clear h0;have hc:=HOO.out.cells (g:=g) rfl;go_wp2_with (at_builtin;refine wpList_append_own _ rfl (.tmp 93) (.tmp 94) 40 rfl w1.heap.size 3 i0 (.int .i64 0) 1 8 underlying40 Gj gx gA gB rfl (by decide) _ _ _ rfl er ⟨g,0,none⟩ L.length c (bh L) rfl (by simp[bh]) hc (rO _) ?c3 ?c4 ?c5 ?_)
         case c3=>unfold maxLen;omega
         case c4=>omega
         case c5=>exact gK
         intro v5 w5 DG jf _;have bR:w5.ownsRow w1.heap.size 3 1 v5 L.length (bh L):=by simpa using DG
         have wN:Below w1.heap.size w1 w5:=pY.out.grown jf gK (λk hk=>by simp[Value.ownBlock] at hk);obtain⟨a5,c5,Gt⟩:=aA bR;subst Gt;have LQ:=bT bR wN;clear DG jf bR wN hc;go_wp2_with fail;go_meet;exact⟨a5,c5,rfl,LQ⟩
       case rest=>
        obtain⟨a1,c1,rfl,kz⟩:=hcut;clear pY HOO gK;obtain⟨wo,rfl⟩:∃wo,wo=wc:=⟨_,rfl⟩;have pb:=qT.out wo kz.out.2;have b2:wo.cell? ⟨p.b,2,none⟩=some K.vm:=aa pb rfl;have b3:wo.cell? ⟨p.b,3,none⟩=some K.vy:=aa pb rfl;have b4:wo.cell? ⟨p.b,4,none⟩=some (.int .i64 K.cnt):=aa pb rfl;have b5:wo.cell? ⟨p.b,5,none⟩=some K.vs:=aa pb rfl;have b6:wo.cell? ⟨p.b,6,none⟩=some (.bool K.held):=aa pb rfl;have ez:∀k,wo.frozen? ⟨p.b,k,none⟩=false:=λ_=>ax pb;have jF:=(bx.1 pb).1;have HQ6:=ae (kM.out.setAll HP.out.tocG kz.out.2 kz.out.1 L.length true);clear pb;go_upto_region 27 with fail;obtain⟨W6,Dr⟩:∃W6,W6=(((((wo.setCell ⟨p.b,2,none⟩ (.slice a1 L.length c1)).setCell ⟨p.b,3,none⟩ (.slice a1 L.length c1)).setCell ⟨p.b,5,none⟩ (.slice a1 L.length c1)).setCell ⟨p.b,4,none⟩ (.int .i64 L.length)).setCell ⟨p.b,6,none⟩ (.bool true)):=⟨_,rfl⟩;rw[<-Dr] at HQ6 ⊢;clear Dr b2 b3 b4 b5 b6 ez jF kz
        have pX:Hid (∃G':Nat->Prop,GW2 PS ISt an W6 B vD vI vM nx (ps.set i ⟨p.b,p.made,G'⟩) es/\Fr w1 W6 p.G/\∀k,G' k->p.G k∨w1.heap.size<=k):=by
         obtain⟨Fp,Fx,Fy,hj,hg,hf⟩:=HQ6.out;have hLT:LT X.T L:=⟨xO HR.out.2.1,λk hk=>HW.out.2.lt.2 k ((HR.out.2.2 k).1 hk)⟩
         have adf:ISt X st ⟨.slice a1 L.length c1,.slice a1 L.length c1,.slice a1 L.length c1,L.length,true,L,L,L⟩:=by
          refine⟨HW.out.2.lt,λk hk=>(HR.out.2.2 k).1 hk,λk hk=>(HR.out.2.2 k).2 hk,λ_=>?_,?_,?_,Oa,λ_=>⟨λk hk=>(HR.out.2.2 k).2 hk,λ_ k hk hn=>absurd ((HR.out.2.2 k).1 hk) hn⟩⟩
          ·show((L.length:Nat):Int)=_;rw[HLL.out]
          ·show(-1:Int)<=((L.length:Nat):Int);omega
          ·show((L.length:Nat):Int)<=24;omega
         refine⟨nG p.G w1 W6,XH.out w1 W6 p.made _ Mj.out hf.size hf.block ⟨X,st,pa,d,_,Fp,Fx,Fy,hj,λk hk=>⟨hg k hk,hj.here k hk⟩,λk hk=>hk.2,HJ.out.2.2.2,⟨hLT,hLT⟩,adf⟩ (λk hk=>hk.1),hf,λk hk=>hk.1⟩
        clear HQ6;obtain⟨G',Ol,Ih,hG'⟩:=pX.out;have Mm:=ae Ol
        have Xw:Hid (W6.ownsRow 0 3 1 (.slice a L.length c) L.length (bh L)):=cO Qw.out (λk hk hl=>Ih.block k hl (λhx=>by
         have h1:=HJ.out.2.2.1 k hx;have h2:=(HR.out.1.lt k hk).1;omega))
        have UV:Hid (∀j,(Value.slice a L.length c).ownBlock=some j->an<=j/\¬sS B vD vI vM es j/\∀i' (QH:i'<(ps.set i ⟨p.b,p.made,G'⟩).length),¬(ps.set i ⟨p.b,p.made,G'⟩)[i'].G j):=λj hj=>by
         have WM:=(HR.out.1.lt j hj).1;have LZ:=(HR.out.1.lt j hj).2;refine⟨Nat.le_trans kX.out.baseW WM,λhm=>by have:=kX.out.ltM j hm;omega,λi' QH hx=>?_⟩;rw[List.getElem_set] at hx;split at hx
         ·rcases hG' j hx with h1 | h1
          ·have:=HJ.out.2.2.1 j h1;omega
          ·omega
         ·rw[List.length_set] at QH;have:=HLT.out i' QH j hx;omega
        have uU:Hid (Below an w W6):=by
         refine(eg.out.mono kX.out.baseW).trans (Ih.toBelow (by have:=eg.out.size;have:=kX.out.baseW;omega) (λk hk=>?_));have:=Xi.out k hk;omega
        clear pX Ol Ih hG' Mj kM;have J6:=Mm.out.cnt;go_wp2_with fail;refine(IK W6 B vD vI vM nx a c L.length (bh L) es.length es.length (es.map sM.v) (es.map λe=>.int .i64 e.m) ⟨Mm.out.wb,Xw.out,Mm.out.rowI,Mm.out.rowM,Fr.refl _ _,λj hj hm=>(UV.out j hj).2.1 (ai (ai (ai (af hm))))⟩ Oa (by omega) (by omega) (by omega)).mono ?_;intro e w3 cX;obtain⟨sB,sC,p7,fk⟩:=Mm.out.own HP.out.tocG Xw.out Oa UV.out cX
        have iG:Hid (Below an w w3):=by
         obtain⟨_,_,_,_,_,_,_,_,_,_,_,_,_,fr,_⟩:=cX;refine uU.out.trans (fr.toBelow (by have:=uU.out.size;have:=kX.out.baseW;omega) ?_);rintro k (hk | hk | hk | hk)
         ·exact kX.out.baseM k (af hk)
         ·exact(UV.out k hk).1
         ·exact kX.out.baseM k (ai (ai (af hk)))
         ·exact kX.out.baseM k (ai (ai (ai (af hk))))
        have HE:Hid (KidPost2 PS ISt an w B vD nx ps i p (.returned (.bool true)) w3):=⟨rfl,iG.out,sB,sC,nx+1,G',p7,au,fk⟩;obtain⟨rfl,_⟩:=cX;clear fk J6;go_wp2;go_ret;exact HE.out
end
section
variable {B an i nx:Nat}{I:YS->List Nat->gu->Prop}{PS:World->Value->YS->List Nat->(Nat->Prop)->Prop}{Q:fw->YS->List Nat->YS->List Nat->Prop}{e:Ending}{ps:List jU}{vD:Value}{w w':World}
theorem tW (X:YS)(n:Int)(on:Bool):(oc X n on).made=X.made/\(oc X n on).T=X.T:=by unfold oc;split<;>exact⟨rfl,rfl⟩
theorem KidPost2.from {w1:World}{p:jU}(hB:Below an w w1)(h:KidPost2 PS I an w1 B vD nx ps i p e w'):KidPost2 PS I an w B vD nx ps i p e w':=by
 obtain⟨he,hb,hr⟩:=h;exact⟨he,hB.trans hb,hr⟩
theorem yj (hP:cG PS Q){vI vM:Value}{es:List sM}(h:GW2 PS I an w B vD vI vM nx ps es)(hi:i<ps.length){pa:Addr}{d:Nat}{R:YS->List Nat->gu->Prop}(ht:TurnPost2 PS w ps[i].G ps[i].b (.pointer (some pa)) d R e w')(hR:∀X st K,R X st K->X.made=ps[i].made/\I X st K):KidPost2 PS I an w B vD nx ps i ps[i] e w':=by
 obtain⟨rfl,X',cA,K',⟨Fp,Fx,Fy,hj,hg,hf⟩,hl,hr⟩:=ht;obtain⟨h1,h2⟩:=hR _ _ _ hr;exact⟨rfl,hf.toBelow h.baseW (h.baseG i hi),vI,vM,nx,nG ps[i].G w w',es,Nat.le_succ _,h.turn hP hi hf.size (λk hk hn=>hf.block k hk hn) ⟨X',cA,pa,d,K',Fp,Fx,Fy,hj,λk hk=>⟨hg k hk,hj.here k hk⟩,λk hk=>hk.2,h1,hl,h2⟩ (λk hk=>hk.1)⟩
def XR (X:YS)(n:Int)(on:Bool)(X':YS)(cA:List Nat)(K':gu):Prop:=X'=oc X n on/\ISt X' cA K'
theorem GR (hP:k9 PS Q)(w:World)(B b:Nat)(X:YS)(st:List Nat)(pa:Addr)(d:Nat)(K:gu)(G Fp Fx Fy:Nat->Prop)
  (h:PJ2 PS w b X st X (.pointer (some pa)) d K Fp Fx Fy) (hG:∀k,Fp k∨Fx k∨Fy k->G k) (zL:∀k,G k->k<w.heap.size) (ln:sH X.T K) (hi:ISt X st K) (at' n yy zz:Int) (S Tt:ByteArray) (on:Bool) :
  Calls prog 62 #[.pointer (some ⟨B,0,none⟩),.pointer (some ⟨b,0,none⟩),.agg #[.int .i64 12,.int .i64 at',.int .i64 n,.int .i64 yy,.int .i64 zz,.string S,.string Tt,.bool on]] w λe w'=>TurnPost2 PS w G b (.pointer (some pa)) d (XR X n on) e w':=by
 have HP:=ae hP;have HW:=bT ln hi;have HG:=ae zL;have H0:Hid (PQ2 PS (w.alloc (aH 12 at' n yy zz S Tt on)) G (w.alloc (aH 12 at' n yy zz S Tt on)) b X st X (.pointer (some pa)) d K):=PQ2.alloc hP.tocG h hG _;clear h hP ln hG zL hi Fp Fx Fy;obtain⟨Fx,qd,pK⟩:=H0.out.prog HP.out.tocG;have sQ:Hid (PS (w.alloc (aH 12 at' n yy zz S Tt on)).drew (.pointer (some pa)) X st Fx):=HP.out.keep qd (λ_ _ _=>rfl) au;have iH:=ae pK;clear qd pK
 have HC:Hid (∀(wx:World) X1 br Y1,PQ2 PS (w.alloc (aH 12 at' n yy zz S Tt on)) G wx b X1 br Y1 (.pointer (some pa)) d K->wx.cell? ⟨b,0,none⟩=some (.pointer (some pa))/\wx.cell? ⟨b,1,none⟩=some (.pointer (some ⟨d,0,none⟩))/\wx.cell? ⟨w.heap.size,2,none⟩=some (.int .i64 n)/\wx.cell? ⟨w.heap.size,7,none⟩=some (.bool on)):=λwx X1 br Y1 hq=>
  ⟨aa hq.pb.blk rfl,aa hq.pb.blk rfl,aa (hq.op HG.out) rfl,aa (hq.op HG.out) rfl⟩
 have k0:(w.alloc (aH 12 at' n yy zz S Tt on)).cell? ⟨w.heap.size,0,none⟩=some (.int .i64 12):=aa (H0.out.op HG.out) rfl;have kM:=ae (H0.out.drew HP.out.tocG);obtain⟨y,hy⟩:∃y:Int,(if(bw X.T n).isSome then(0:Int) else 5)=y:=⟨_,rfl⟩;have HY:=ae hy;clear H0 hy;go_enter func62,ntmps62;go_upto_region 3 with fail;clear k0
 go_cut [7] (λyv wx=>yv=.int .i64 y/\Hid (PQ2 PS (w.alloc (aH 12 at' n yy zz S Tt on)) G wx b (oc X n on) st X (.pointer (some pa)) d K))
 case first=>
  go_region_held3 (λw'=>w'.cell? ⟨b,0,none⟩=some (.pointer (some pa))/\w'.cell? ⟨b,1,none⟩=some (.pointer (some ⟨d,0,none⟩))/\w'.cell? ⟨w.heap.size,2,none⟩=some (.int .i64 n)/\w'.cell? ⟨w.heap.size,7,none⟩=some (.bool on)) (first | exact HC.out _ _ _ _ kM.out | exact HC.out _ _ _ _ HT.out)
   (first | (go_at_call 106;refine(HP.out.shw _ (.pointer (some pa)) X st Fx n on sQ.out).mono ?_;rw[HY.out];rintro e w1 ⟨rfl,dU,ft⟩;have HT:Hid (PQ2 PS (w.alloc (aH 12 at' n yy zz S Tt on)) G w1 b (oc X n on) st X (.pointer (some pa)) d K):=iH.out w1 _ st dU ft.un1;clear dU ft))
  all_goals
   go_wp2_with fail;go_meet;exact⟨rfl,HT⟩
 case rest=>
  obtain⟨rfl,HT⟩:=hcut;have ix:=ae (HT.out.drew HP.out.tocG);obtain⟨Fy,Ki,T5⟩:=ix.out.ref HP.out.tocG;have Fw:Hid (RY wc.drew d X Fy/\∀w1 Y1,RY w1 d Y1 (cJ Fy wc.drew)->Fr wc.drew w1 Fy->PQ2 PS (w.alloc (aH 12 at' n yy zz S Tt on)) G w1 b (oc X n on) st Y1 (.pointer (some pa)) d K):=⟨Ki,T5⟩;clear Ki T5 HT kM;go_upto_region 4 with fail
  go_cut [8] (λyv wx=>yv=.int .i64 y/\Hid (PQ2 PS (w.alloc (aH 12 at' n yy zz S Tt on)) G wx b (oc X n on) st (oc X n on) (.pointer (some pa)) d K))
  case first=>
   go_region_held3 (λw'=>w'.cell? ⟨b,0,none⟩=some (.pointer (some pa))/\w'.cell? ⟨b,1,none⟩=some (.pointer (some ⟨d,0,none⟩))/\w'.cell? ⟨w.heap.size,2,none⟩=some (.int .i64 n)/\w'.cell? ⟨w.heap.size,7,none⟩=some (.bool on)) (first | exact HC.out _ _ _ _ ix.out | exact HC.out _ _ _ _ jB.out)
    (first | (go_at_call 107;refine(LH Fw.out.1 n on).mono ?_;rw[HY.out];rintro e w2 ⟨rfl,wU,tm⟩;have jB:Hid (PQ2 PS (w.alloc (aH 12 at' n yy zz S Tt on)) G w2 b (oc X n on) st (oc X n on) (.pointer (some pa)) d K):=Fw.out.2 w2 _ wU tm;clear wU tm))
   all_goals
    go_wp2_with fail;go_meet;exact⟨rfl,jB⟩
  case rest=>
   obtain⟨rfl,jB⟩:=hcut;have pb:=jB.out.pb.blk;have b6:wc.cell? ⟨b,6,none⟩=some (.bool K.held):=aa pb rfl;have ez:∀k,wc.frozen? ⟨b,k,none⟩=false:=λ_=>ax pb;have jF:=(bx.1 pb).1
   have HE:Hid (TurnPost2 PS w G b (.pointer (some pa)) d (XR X n on) (.returned (.bool true)) (wc.setCell ⟨b,6,none⟩ (.bool false))):=by
    have hi:=HW.out.2;refine⟨rfl,_,st,_,(jB.out.setHeld HP.out.tocG false).from,by rw[(tW X n on).2];exact HW.out.1,rfl,by rw[(tW X n on).2];exact hi.lt,hi.must,hi.may,hi.cnt,hi.lo,hi.hi,hi.seen,λh=>by cases h⟩
   clear pb Fw ix;go_wp2_with fail;refine(bI _ y).mono ?_;rintro e w5 ⟨rfl,rfl⟩;go_wp2;go_ret;exact HE.out
section
variable {PS:World->Value->YS->List Nat->(Nat->Prop)->Prop}{Q:fw->YS->List Nat->YS->List Nat->Prop}(an:Nat)(w:World)(B:Nat)(vD vI vM:Value)(nx:Nat)(ps:List jU)(es:List sM)
theorem Bz (hP:k9 PS Q)(h:GW2 PS ISt an w B vD vI vM nx ps es)(i:Nat)(hi:i<ps.length)(n:Int)(s:ByteArray):Calls prog 108 #[.pointer (some ⟨ps[i].b,0,none⟩),.int .i64 n,.string s] w λe w'=>KidPost2 PS ISt an w B vD nx ps i ps[i] e w':=by
 obtain⟨X,st,pa,d,K,Fp,Fx,Fy,h1,h2,h3,h4,h5,h6⟩:=h.pd i hi;exact(us hP w _ X st pa d K _ Fp Fx Fy h1 h2 h5 h6 n s).mono λe w' hp=>yj hP.tocG h hi hp λX' cA K' hr=>⟨by rw[hr.1];exact h4,by rw[hr.1];exact hr.2⟩
theorem By (hP:k9 PS Q)(h:GW2 PS ISt an w B vD vI vM nx ps es)(i:Nat)(hi:i<ps.length)(n:Int):Calls prog 109 #[.pointer (some ⟨ps[i].b,0,none⟩),.int .i64 n] w λe w'=>KidPost2 PS ISt an w B vD nx ps i ps[i] e w':=by
 obtain⟨X,st,pa,d,K,Fp,Fx,Fy,h1,h2,h3,h4,h5,h6⟩:=h.pd i hi;exact(El hP w _ X st pa d K _ Fp Fx Fy h1 h2 h5 h6 n).mono λe w' hp=>yj hP.tocG h hi hp λX' cA K' hr=>⟨by rw[hr.1];exact h4,by rw[hr.1];exact hr.2⟩
theorem Bx (hP:k9 PS Q)(h:GW2 PS ISt an w B vD vI vM nx ps es)(i:Nat)(hi:i<ps.length)(pK:nx<=274877906944)(kd at' X Y Z:Int)(S Tt:ByteArray)(on:Bool)(hk:kd=12∨kd=13∨kd=14∨kd=15):
  Calls prog 62 #[.pointer (some ⟨B,0,none⟩),.pointer (some ⟨ps[i].b,0,none⟩),.agg #[.int .i64 kd,.int .i64 at',.int .i64 X,.int .i64 Y,.int .i64 Z,.string S,.string Tt,.bool on]] w λe w'=>KidPost2 PS ISt an w B vD nx ps i ps[i] e w':=by
 by_cases h12:kd=12
 ·subst h12;obtain⟨U,st,pa,d,K,Fp,Fx,Fy,h1,h2,h3,h4,h5,h6⟩:=h.pd i hi;exact(GR hP w B _ U st pa d K _ Fp Fx Fy h1 h2 h3 h5 h6 at' X Y Z S Tt on).mono λe w' hp=>yj hP.tocG h hi hp λX' cA K' hr=>⟨by rw[hr.1,(tW U X on).1];exact h4,hr.2⟩
 ·have kX:Hid (GW2 PS ISt an (w.alloc (aH kd at' X Y Z S Tt on)) B vD vI vM nx ps es):=h.keep hP.tocG (bd.alloc au _);have HB:Hid (Below an w (w.alloc (aH kd at' X Y Z S Tt on))):=bd.alloc h.baseW _;have HP:=ae hP;have fT:=hk.resolve_left h12;have d0:(w.alloc (aH kd at' X Y Z S Tt on)).cell? ⟨w.heap.size,0,none⟩=some (.int .i64 kd):=aa (heap_alloc_new w _) rfl;have d2:(w.alloc (aH kd at' X Y Z S Tt on)).cell? ⟨w.heap.size,2,none⟩=some (.int .i64 X):=aa (heap_alloc_new w _) rfl;have d6:(w.alloc (aH kd at' X Y Z S Tt on)).cell? ⟨w.heap.size,6,none⟩=some (.string Tt):=aa (heap_alloc_new w _) rfl;clear h hP hk h12;rcases fT with rfl | rfl | rfl
  ·go_enter func62,ntmps62;go_wp2_with fail;refine(uc HP.out an _ B vD vI vM nx ps es kX.out i hi pK).mono ?_;intro e w1 hp;have HE:=ae (hp.from HB.out);obtain⟨rfl,_⟩:=hp;go_wp2;go_ret;exact HE.out
  ·go_enter func62,ntmps62;go_wp2_with fail;refine(Bz an _ B vD vI vM nx ps es HP.out kX.out i hi X Tt).mono ?_;intro e w1 hp;have HE:=ae (hp.from HB.out);obtain⟨rfl,_⟩:=hp;go_wp2;go_ret;exact HE.out
  ·go_enter func62,ntmps62;go_wp2_with fail;refine(By an _ B vD vI vM nx ps es HP.out kX.out i hi X).mono ?_;intro e w1 hp;have HE:=ae (hp.from HB.out);obtain⟨rfl,_⟩:=hp;go_wp2;go_ret;exact HE.out
end
end
section
variable {B an i nx:Nat}{es:List sM}{p:jU}{ps:List jU}{vD vI vM:Value}{w wr:World}
section
variable {PS:World->Value->YS->List Nat->(Nat->Prop)->Prop}{Q:fw->YS->List Nat->YS->List Nat->Prop}
theorem K6 (hP:k9 PS Q)(w:World)(b made:Nat)(G:Nat->Prop)(h:PD2 PS ISt w b made G)(n:Int)(s:ByteArray):
  Calls prog 108 #[.pointer (some ⟨b,0,none⟩),.int .i64 n,.string s] w λe w'=>CO PS ISt w b made G e w':=by
 obtain⟨U,st,pa,d,K,Fp,Fx,Fy,h1,h2,h3,h4,h5,h6⟩:=h;subst h4;refine(us hP w b U st pa d K G Fp Fx Fy h1 h2 h5 h6 n s).mono λe w' hp=>?_;obtain⟨rfl,X',cA,K',⟨Fp',Fx',Fy',hj,hg,hf⟩,hl,hX,hi⟩:=hp;subst hX;exact⟨rfl,⟨X',cA,pa,d,K',Fp',Fx',Fy',hj,λk hk=>⟨hg k hk,hj.here k hk⟩,λk hk=>hk.2,rfl,hl,hi⟩,hf⟩
def GS (PS:World->Value->YS->List Nat->(Nat->Prop)->Prop)(an:Nat)(w:World)(B:Nat)(vD vI vM:Value)(nx:Nat)(ps:List jU)(es:List sM)(i:Nat)(p:jU)(wr:World):Prop:=
 Below an w wr/\∃G',GW2 PS ISt an wr B vD vI vM nx (ps.set i ⟨p.b,p.made,G'⟩) es
theorem GS.more (hP:cG PS Q)(hi:i<ps.length)(h:GS PS an w B vD vI vM nx ps es i p wr):
  ∃G',PD2 PS ISt wr p.b p.made G'/\∀w2,PD2 PS ISt w2 p.b p.made (nG G' wr w2)->Fr wr w2 G'->GS PS an w B vD vI vM nx ps es i p w2:=by
 obtain⟨hB,G',hg⟩:=h;have hl:i<(ps.set i ⟨p.b,p.made,G'⟩).length:=by rw[List.length_set];exact hi
 have he:(ps.set i ⟨p.b,p.made,G'⟩)[i]=⟨p.b,p.made,G'⟩:=by simp
 have tn:=hg.pd i hl;rw[he] at tn;refine⟨G',tn,λw2 h2 hf=>?_⟩;have hb:=hg.baseG i hl;rw[he] at hb;have ht:=hg.turn hP hl (w':=w2) hf.size (by rw[he];exact λk hk hn=>hf.block k hk hn) (made':=p.made) (G':=nG G' wr w2) (by rw[he];exact h2) (by rw[he];exact λk hk=>hk.1);rw[he,List.set_set] at ht;exact⟨hB.trans (hf.toBelow hg.baseW hb),_,ht⟩
theorem GS.kids (hP:cG PS Q)(hi:i<ps.length)(pK:nx<=274877906944)(h:GS PS an w B vD vI vM nx ps es i p wr)(n:Int):
  Calls prog 59 #[.pointer (some ⟨B,0,none⟩),.pointer (some ⟨p.b,0,none⟩),.int .i64 n] wr λe w'=>KidPost2 PS ISt an w B vD nx ps i p e w':=by
 obtain⟨hB,G',hg⟩:=h;have hl:i<(ps.set i ⟨p.b,p.made,G'⟩).length:=by rw[List.length_set];exact hi
 have he:(ps.set i ⟨p.b,p.made,G'⟩)[i]=⟨p.b,p.made,G'⟩:=by simp
 have hc:=oP hP an wr B vD vI vM nx _ es hg i hl pK n;rw[he] at hc;refine hc.mono λe w' hp=>?_;obtain⟨Ge,ud,sB,sC,Fm,G2,p7,hn,ij⟩:=hp;rw[List.set_set] at ij;exact⟨Ge,hB.trans ud,sB,sC,Fm,G2,p7,hn,ij⟩
theorem Dm (hP:k9 PS Q)(hI:oF Q ISt)(an:Nat)(w:World)(B:Nat)(vD vI vM:Value)(nx:Nat)(ps:List jU)(es:List sM)(h:GW2 PS ISt an w B vD vI vM nx ps es)(i:Nat)(hi:i<ps.length)(pK:nx<=274877906944)(n:Int):
  Calls prog 64 #[.pointer (some ⟨B,0,none⟩),.pointer (some ⟨ps[i].b,0,none⟩),.int .i64 n,.int .i64 15] w λe w'=>KidPost2 PS ISt an w B vD nx ps i ps[i] e w':=by
 have HP:=ae hP;have HI:=ae hI;have HM:Hid (∀{e0 wr},KidPost2 PS ISt an w B vD nx ps i ps[i] e0 wr->∃G',PD2 PS ISt wr ps[i].b ps[i].made G'/\∀w2,PD2 PS ISt w2 ps[i].b ps[i].made (nG G' wr w2)->Fr wr w2 G'->KidPost2 PS ISt an w B vD nx ps i ps[i] (.returned (.bool true)) w2):=λhk=>hk.more HP.out.tocG hi;have H0:Hid (GS PS an w B vD vI vM nx ps es i ps[i] w):=⟨bd,ps[i].G,by rw[show(⟨ps[i].b,ps[i].made,ps[i].G⟩:jU)=ps[i] from rfl,List.set_getElem_self hi];exact h⟩;obtain⟨p,Cr⟩:∃p,ps[i]=p:=⟨_,rfl⟩;rw[Cr] at HM H0 ⊢;clear h hP hI Cr;have iA:(⟨#[65,66,67,68,69,70,88,89,90]⟩:ByteArray).size=9:=rfl;go_enter func64,ntmps64;go_wp2_with fail
 go_loopg [9,10] 9 (λgk okv pv wr=>∃k:Nat,okv=.bool true/\pv=.int .i64 k/\k<=9/\9 - k<=gk/\Hid (GS PS an w B vD vI vM nx ps es i p wr))
 case atStart=>exact⟨0,rfl,rfl,aZ,by omega,H0⟩
 case round=>
  obtain⟨k,rfl,rfl,p8,fS,HK⟩:=hrel
  by_cases aU:k<9
  ·have hd:decide ((k:Int)<9)=true:=by simp;omega
   have h1:(0:Int)<=(k:Int):=by omega
   have h2:(k:Int)+1<=9:=by omega
   have h3:(k:Int)<=(k:Int)+1:=by omega
   obtain⟨G',tn,DC⟩:=HK.out.more HP.out.tocG hi;have UP:=ae tn;have iH:=ae DC;clear tn DC HK;go_wp2_with fail;refine(K6 HP.out wr p.b p.made G' UP.out n _).mono ?_;rintro e w2 ⟨rfl,hpd2,bG⟩;have Tm:=ae (iH.out w2 hpd2 bG);clear hpd2 bG;go_wp2;go_roundg (9 - (k+1))
   case measure=>omega
   case rel=>exact⟨k+1,rfl,by go_num,by omega,au,Tm⟩
  ·have hd:decide ((k:Int)<9)=false:=by simp;omega
   go_wp2_with fail;refine(HK.out.kids HP.out.tocG hi pK n).mono ?_;intro e w1 hp;have HE:=ae hp;obtain⟨rfl,_⟩:=hp;clear HK;go_wp2_with fail
   go_loopg [9,11] 9 (λgk okv pv wr=>∃k:Nat,okv=.bool true/\pv=.int .i64 k/\k<=9/\9 - k<=gk/\Hid (KidPost2 PS ISt an w B vD nx ps i p (.returned (.bool true)) wr))
   case atStart=>exact⟨0,rfl,rfl,aZ,by omega,HE⟩
   case round=>
    obtain⟨k,rfl,rfl,p8,fS,HK⟩:=hrel
    by_cases aU:k<9
    ·have hd:decide ((k:Int)<9)=true:=by simp;omega
     have h1:(0:Int)<=(k:Int):=by omega
     have h2:(k:Int)+1<=9:=by omega
     have h3:(k:Int)<=(k:Int)+1:=by omega
     obtain⟨G',tn,DC⟩:=HM.out HK.out;have UP:=ae tn;have iH:=ae DC;clear tn DC HK;go_wp2_with fail;refine(KY HP.out.tocG HI.out wr p.b p.made G' UP.out n _).mono ?_;rintro e w2 ⟨rfl,hpd2,bG⟩;have Tm:=ae (iH.out w2 hpd2 bG);clear hpd2 bG;go_wp2;go_roundg (9 - (k+1))
     case measure=>omega
     case rel=>exact⟨k+1,rfl,by go_num,by omega,au,Tm⟩
    ·have hd:decide ((k:Int)<9)=false:=by simp;omega
     go_wp2;go_ret;exact HK.out
theorem EI2.kid {np M:Nat}{bs:List (Nat × Nat)}{c:Nat}(hi:i<ps.length)(Cm:Below an w wr)(hl:ps.length=np)(Kb:∀p∈ps,p.made<=M)(F9:ps.map (λp=>(p.b,p.made))=bs){e:Ending}{w1:World}(h:KidPost2 PS ISt an wr B vD nx ps i ps[i] e w1)(hc:nx+1<=c):EI2 PS ISt an w B vD np M bs w1 c:=by
 obtain⟨_,qW,sB,sC,Fm,G',p7,hn',yL⟩:=h;refine⟨Cm.trans qW,sB,sC,Fm,_,p7,yL,by rw[List.length_set];exact hl,λq hq=>?_,by omega,?_⟩
 ·rcases List.mem_or_eq_of_mem_set hq with hq | rfl
  ·exact Kb q hq
  ·show ps[i].made<=M;exact Kb _ (bK hi)
 ·rw[<-F9];apply List.ext_getElem?;intro t;rw[List.getElem?_map,List.getElem?_map,List.getElem?_set]
  by_cases ht:i=t
  ·subst ht;rw[aq rfl,aq hi,bO hi];rfl
  ·rw[aj ht]
theorem Dk (hP:k9 PS Q)(hI:oF Q ISt)(an:Nat)(w:World)(B:Nat)(aD:Option Addr)(cD np M:Nat)(bs:List (Nat × Nat))(c:Nat)(h:EI2 PS ISt an w B (.slice aD np cD) np M bs w c)(hnp:np<=131072)(hM:M<=200000)(hc:c<=131072):
  Calls prog 34 #[.pointer (some ⟨B,0,none⟩),.int .i64 15] w λe w'=>e=.returned (.bool true)/\∃c',EI2 PS ISt an w B (.slice aD np cD) np M bs w' c'/\c'<=68719476736:=by
 have HP:=ae hP;have Wm:=ae hI;have H0:Hid (EI2 PS ISt an w B (.slice aD np cD) np M bs w (c+0*262144)):=by simpa[Hid] using h
 clear h hP hI;go_enter func34,ntmps34;go_wp2_with fail
 go_loopg [5] np (λgk iv wr=>∃i:Nat,iv=.int .i64 i/\i<=np/\np - i<=gk/\Hid (EI2 PS ISt an w B (.slice aD np cD) np M bs wr (c+i*262144)))
 case atStart=>exact⟨0,rfl,aZ,by omega,H0⟩
 case round=>
  obtain⟨i,rfl,jJ,fS,HI⟩:=hrel
  have c0:wr.cell? ⟨B,0,none⟩=some (.slice aD np cD):=by
   obtain⟨_,vI,vM,nx,ps,es,hg,_⟩:=HI.out;exact aa hg.wb.blk rfl
  by_cases aU:i<np
  ·have hd:decide ((i:Int)<(np:Int))=true:=by simp;omega
   obtain⟨b,m,HBM,hm⟩:∃b m,Hid (bs[i]?=some (b,m))/\m<=M:=by
    obtain⟨_,vI,vM,nx,ps,es,hg,hl,Kb,_,F9⟩:=HI.out;have hi:i<ps.length:=by omega
    refine⟨ps[i].b,ps[i].made,?_,Kb _ (bK hi)⟩;unfold Hid;rw[<-F9,List.getElem?_map,bO hi];rfl
   obtain⟨gD,ZU,q⟩:∃gD,aD=some ⟨gD,0,none⟩/\wr.cell? ⟨gD,i,none⟩=some (.pointer (some ⟨b,0,none⟩)):=by
    obtain⟨_,vI,vM,nx,ps,es,hg,hl,Kb,_,F9⟩:=HI.out;have hi:i<ps.length:=by omega
    have hb:ps[i].b=b:=by
     have h1:=HBM.out;rw[<-F9,List.getElem?_map,bO hi] at h1;simp at h1;exact h1.1
    have eb:=hg.rowD;rw[hl] at eb;obtain⟨g,Dy,_,hc⟩:=aR eb (by omega);refine⟨g,Dy,hc i _ ?_⟩;rw[List.getElem?_map,bO hi,<-hb];rfl
   subst ZU
   have fy:Hid (Calls prog 63 #[.pointer (some ⟨B,0,none⟩),.pointer (some ⟨b,0,none⟩)] wr λe w'=>e=.returned (.bool true)/\EI2 PS ISt an w B (.slice (some ⟨gD,0,none⟩) np cD) np M bs w' (c+i*262144+1)):=by
    obtain⟨Cm,vI,vM,nx,ps,es,hg,hl,Kb,pK,F9⟩:=HI.out;have hi:i<ps.length:=by omega
    have hb:ps[i].b=b:=by
     have h1:=HBM.out;rw[<-F9,List.getElem?_map,bO hi] at h1;simp at h1;exact h1.1
    have mV:=uc HP.out an wr B _ vI vM nx ps es hg i hi (by omega);rw[hb] at mV;exact mV.mono λe w1 hp=>⟨hp.1,EI2.kid hi Cm hl Kb F9 hp (by omega)⟩
   clear HI;go_wp2_with fail;refine fy.out.mono ?_;rintro e w0 ⟨rfl,hei⟩;have Jk:=ae hei;clear fy hei;go_wp2_with fail;clear c0 q
   go_loopg [8] (m+1) (λJY jv wq=>∃n:Nat,jv=.int .i64 n/\n<=m+1/\m+1 - n<=JY/\Hid (EI2 PS ISt an w B (.slice (some ⟨gD,0,none⟩) np cD) np M bs wq (c+i*262144+1+n)))
   case atStart=>exact⟨0,rfl,aZ,by omega,Jk⟩
   case round=>
    obtain⟨n,rfl,Sm,rG,HJ⟩:=hrel;obtain⟨Cm,vI,vM,nx,ps,es,hg,hl,Kb,pK,F9⟩:=HJ.out;have hi:i<ps.length:=by omega
    have HG:=ae hg;have uH:=ae Cm
    have hbm:ps[i].b=b/\ps[i].made=m:=by
     have h1:=HBM.out;rw[<-F9,List.getElem?_map,bO hi] at h1;simpa using h1
    obtain⟨hb,Ot⟩:=hbm;have UK:=ae Kb;have HBS:=ae F9;have HL:=ae hl;obtain⟨d,q1,q2⟩:=(hg.pd i hi).told;rw[hb] at q1;rw[Ot] at q2;clear hg Cm Kb F9 hl HJ
    by_cases uf:n<=m
    ·have iR:decide ((n:Int)<=(m:Int))=true:=by simp;omega
     go_wp2_with fail;have mV:=Dm HP.out Wm.out an wr B (.slice (some ⟨gD,0,none⟩) np cD) vI vM nx ps es HG.out i hi (by omega) (n:Int);rw[hb] at mV;refine mV.mono ?_;intro e w1 hp;have QR:Hid (EI2 PS ISt an w B (.slice (some ⟨gD,0,none⟩) np cD) np M bs w1 (c+i*262144+1+(n+1))):=EI2.kid hi uH.out HL.out UK.out HBS.out hp (by omega);obtain⟨rfl,_⟩:=hp;clear mV;go_wp2;go_roundg (m+1 - (n+1))
     case measure=>omega
     case rel=>exact⟨n+1,by go_num,by omega,au,QR⟩
    ·have iR:decide ((n:Int)<=(m:Int))=false:=by simp;omega
     have QR:Hid (EI2 PS ISt an w B (.slice (some ⟨gD,0,none⟩) np cD) np M bs wr (c+(i+1)*262144)):=⟨uH.out,vI,vM,nx,ps,es,HG.out,HL.out,UK.out,by omega,HBS.out⟩;go_wp2;go_roundg (np - (i+1))
     case measure=>omega
     case rel=>exact⟨i+1,by go_num,by omega,au,QR⟩
  ·have hd:decide ((i:Int)<(np:Int))=false:=by simp;omega
   go_wp2;go_ret;exact⟨rfl,_,HI.out,by omega⟩
theorem FW (hP:k9 PS Q)(hI:oF Q ISt)(w wr:World)(n:Nat)(h:PI2 PS ISt w wr n)(hn:n<=131072):
  Calls prog 34 #[.pointer (some ⟨w.heap.size,0,none⟩),.int .i64 15] wr λe w'=>e=.returned (.bool true)/\Hid (Below w.heap.size w w'/\∃vD vI vM nx es,LK w' w.heap.size vD vI vM nx es/\es.length<=1099511627776):=by
 obtain⟨hb,vD,vI,vM,nx,ps,es,hg,h1,h2,h3⟩:=h;obtain⟨aD,cD,rfl⟩:=aA hg.rowD;refine(Dk hP hI w.heap.size wr w.heap.size aD cD ps.length (n+1) (ps.map λp=>(p.b,p.made)) nx ⟨bd,vI,vM,nx,ps,es,hg,rfl,h3,au,rfl⟩ (by omega) (by omega) (by omega)).mono ?_;rintro e w' ⟨he,c',⟨ud,sB,sC,Fm,uq,p7,yL,_,_,hc,_⟩,QE⟩;refine⟨he,hb.trans ud,_,sB,sC,Fm,p7,⟨yL.wb,yL.rowI,yL.rowM,yL.full⟩,?_⟩;have:=yL.cnt;omega
def Mr (PS:World->Value->YS->List Nat->(Nat->Prop)->Prop)(lo:Int):Prop:=∀(w wr:World) (i:Nat),PI2 PS ISt w wr i->∀(kd at' X Y Z:Int) (S Tt:ByteArray) (on:Bool),S.size<=maxLen->lo<=kd->kd<3->
 Calls prog 33 #[.pointer (some ⟨w.heap.size,0,none⟩),.agg #[.int .i64 kd,.int .i64 at',.int .i64 X,.int .i64 Y,.int .i64 Z,.string S,.string Tt,.bool on]] wr λe w'=>e=.returned (.bool true)/\PI2 PS ISt w w' (i+1)
theorem OJ (X:YS)(v1 v2 v3:Value)(h:X.T=[(0,[])]):ISt X [0] ⟨v1,v2,v3,1,false,[0],[0],[]⟩:=by
 refine⟨⟨by simp,λk hk=>?_⟩,λ_ h=>h,λ_ h=>h,λ_=>rfl,?_,?_,aZ,λh=>by cases h⟩
 ·rw[fg] at hk;rw[h,hk];exact⟨[],fg.2 rfl⟩
 ·show(-1:Int)<=1;omega
 ·show(1:Int)<=24;omega
theorem Do (hP:k9 PS Q)(hI:oF Q ISt){lo:Int}(Ka:Mr PS lo)(w wr:World)(i:Nat)(h:PI2 PS ISt w wr i)(hi:i<=131072)(kd at' X Y Z:Int)(S Tt:ByteArray)(on:Bool)(hS:S.size<=maxLen)(pJ:lo<=kd)(fT:kd<=15):
  Calls prog 33 #[.pointer (some ⟨w.heap.size,0,none⟩),.agg #[.int .i64 kd,.int .i64 at',.int .i64 X,.int .i64 Y,.int .i64 Z,.string S,.string Tt,.bool on]] wr λe w'=>e=.returned (.bool true)/\PI2 PS ISt w w' (i+1):=by
 by_cases Dz:kd<3
 ·exact Ka w wr i h kd at' X Y Z S Tt on hS pJ Dz
 obtain⟨hb,vD,vI,vM,nx,ps,es,hg,h1,h2,h3⟩:=h
 by_cases hk:kd=3
 ·subst hk;exact(F0 hP.tocG OJ w.heap.size wr w.heap.size vD vI vM nx ps es hg (i+1) h3 (by omega) at' X Y Z S Tt on hS).mono λe w' hp=>⟨hp.1,PI2.step hb h1 h2 hp⟩
 ·exact(FZ hP.tocG hI w.heap.size wr w.heap.size vD vI vM nx ps es hg (i+1) h3 (by omega) (by omega) (by omega) kd at' X Y Z S Tt on hS (by omega) (λh12 wq j hj hq=>Bx w.heap.size wq w.heap.size vD vI vM nx ps es hP hq j hj (by omega) kd at' X Y Z S Tt on (by omega))).mono λe w' hp=>⟨hp.1,PI2.step hb h1 h2 hp⟩
theorem Ec (hP:k9 PS Q)(hI:oF Q ISt)(lo:Int)(Ka:Mr PS lo)(w:World)(b off len gV:Nat)(K A X Y Z:Nat->Int)(S T:Nat->ByteArray)(O:Nat->Bool)(h:Scr w b off len K A X Y Z S T O)(hm:len<=131072):
  Calls prog 15 #[.slice (some ⟨b,off,none⟩) len gV,.int .i64 lo,.int .i64 15] w λe w'=>oI w e w':=by
 have Du:=h.lt;have HS:=ae h;have HP:=ae hP;have Wm:=ae hI;have LO:=ae Ka;clear h hP hI Ka;have H0:Hid (PI2 PS ISt w (w.alloc (.cells #[.slice none 0 0,.slice none 0 0,.slice none 0 0,.int .i64 0] 67)) 0):=⟨bd.alloc au _,_,_,_,_,_,_,J0 w,au,au,λp hp=>by cases hp⟩;go_enter func15,ntmps15;go_wp2_with fail
 go_loopg [8] len (λgk iv wr=>∃i:Nat,iv=.int .i64 i/\i<=len/\len - i<=gk/\Hid (PI2 PS ISt w wr i))
 case atStart=>exact⟨0,rfl,aZ,by omega,H0⟩
 case round=>
  obtain⟨i,rfl,hi,fS,HI⟩:=hrel;have hB:=HI.out.1
  by_cases aU:i<len
  ·have hd:decide ((i:Int)<(len:Int))=true:=by simp;omega
   have q0:=(hB.cell (p:=⟨b,off+i*8,none⟩) Du).trans (HS.out.c0 i aU);have q1:=(hB.cell (p:=⟨b,off+i*8+1,none⟩) Du).trans (HS.out.c1 i aU);have q2:=(hB.cell (p:=⟨b,off+i*8+2,none⟩) Du).trans (HS.out.c2 i aU);have q3:=(hB.cell (p:=⟨b,off+i*8+3,none⟩) Du).trans (HS.out.c3 i aU);have q4:=(hB.cell (p:=⟨b,off+i*8+4,none⟩) Du).trans (HS.out.c4 i aU);have q5:=(hB.cell (p:=⟨b,off+i*8+5,none⟩) Du).trans (HS.out.c5 i aU);have q6:=(hB.cell (p:=⟨b,off+i*8+6,none⟩) Du).trans (HS.out.c6 i aU);have q7:=(hB.cell (p:=⟨b,off+i*8+7,none⟩) Du).trans (HS.out.c7 i aU);have L6:=HS.out.small i aU;generalize K i=k0 at q0;generalize A i=k1 at q1;generalize X i=k2 at q2;generalize Y i=k3 at q3;generalize Z i=k4 at q4;generalize S i=s at q5 L6;generalize T i=t at q6;generalize O i=o at q7;have HSM:=ae L6;clear L6
   by_cases pJ:lo<=k0
   ·have hd1:decide (lo<=k0)=true:=by simpa using pJ
    by_cases fT:k0<=15
    ·have iR:decide (k0<=15)=true:=by simpa using fT
     have HK:=bT pJ fT;clear pJ fT;go_wp2_with fail;refine(Do HP.out Wm.out LO.out w wr i HI.out (by omega) k0 k1 k2 k3 k4 s t o HSM.out HK.out.1 HK.out.2).mono ?_;rintro e w2 ⟨rfl,hpi⟩;have pY:=ae hpi;clear q0 q1 q2 q3 q4 q5 q6 q7 hpi hB HI;go_wp2;go_roundg (len - (i+1))
     case measure=>omega
     case rel=>exact⟨i+1,by go_num,by omega,au,pY⟩
    ·have iR:decide (k0<=15)=false:=by simpa using fT
     have pY:=ae HI.out.skip;clear pJ fT;go_wp2;go_roundg (len - (i+1))
     case measure=>omega
     case rel=>exact⟨i+1,by go_num,by omega,au,pY⟩
   ·have hd1:decide (lo<=k0)=false:=by simpa using pJ
    have pY:=ae HI.out.skip;clear pJ;go_wp2;go_roundg (len - (i+1))
    case measure=>omega
    case rel=>exact⟨i+1,by go_num,by omega,au,pY⟩
  ·have hd:decide ((i:Int)<(len:Int))=false:=by simp;omega
   clear hB;go_wp2_with fail;refine(FW HP.out Wm.out w wr i HI.out (by omega)).mono ?_;rintro e w2 ⟨rfl,HE⟩;obtain⟨Cm,vD,vI,vM,nx,es,ln,Oi⟩:=HE.out;have uV:=bT ln Oi;have uH:=ae Cm;clear Cm ln Oi HE HI;go_wp2_with fail;refine(Gw w2 w.heap.size vD vI vM nx es uV.out.1 uV.out.2).mono ?_;rintro e w3 ⟨rfl,qX⟩;have iG:=ae (uH.out.trans (qX.below.mono uH.out.size));clear qX;go_wp2_with fail;go_ret;exact⟨rfl,iG.out⟩
theorem GK (hP:k9 PS Q)(hI:oF Q ISt)(w:World)(b off len gV:Nat)(K A X Y Z:Nat->Int)(S T:Nat->ByteArray)(O:Nat->Bool)(h:Scr w b off len K A X Y Z S T O)(hm:len<=131072):
  Calls prog 12 #[.slice (some ⟨b,off,none⟩) len gV] w λe w'=>oI w e w':=by
 have HS:=ae h;have HP:=ae hP;have Wm:=ae hI;have LO:Hid (Mr PS 3):=λ_ _ _ _ _ _ _ _ _ _ _ _ _ h1 h2=>by omega
 clear h hP hI;go_enter func12,ntmps12;go_wp2_with fail;refine(Ec HP.out Wm.out 3 LO.out _ b off len gV K A X Y Z S T O HS.out hm).mono ?_;rintro e w1 ⟨rfl,hb⟩;go_wp2_with fail;go_ret;exact⟨rfl,hb⟩
end
theorem BW (w:World)(ao:Option Addr)(gV:Nat):
  Calls prog 12 #[.slice ao 0 gV] w λe w'=>oI w e w':=by
 go_enter func12,ntmps12;go_wp2_with fail;refine(Ed _ ao gV 3 15).mono ?_;rintro e w1 ⟨rfl,hb⟩;go_wp2_with fail;go_ret;exact⟨rfl,hb⟩
end
section
open Go.ChangeShapes Go.WideShapes Go.ChangeAt Go.RowKit
theorem Eb {W:World}{a0:Option Addr}{len gV JX:Nat}{H:Type}{enc:TypeId × Value->H}{x:DataW H × List MemPlace}(h:DataW.trod enc prog W 0 (λ_=>true) true JX 22 [.slice a0 len gV]=some x)(hb:Rows.uptoBulk x.1<=1048576):
  Calls prog 12 #[.slice a0 len gV] W λe w'=>oI W e w':=by
 have bX:=B8 h hb;rcases D3 h with rfl | ⟨b,off,K,A,X,Y,Z,S,T,O,rfl,hs,_⟩
 ·exact BW W a0 gV
 ·exact GK PG VU W b off len gV K A X Y Z S T O hs bX
theorem yZ (os:Os)(Cg:os.Started)(H:Type)(enc:TypeId × Value->H)(F:Stop.Interp):
  ReturnsInHanded {} Tryz.checked os 12 .any ((Rows.OpenSpec.upto Rows.piecesSpec).pre6 enc prog Tryz.f12 Rows.piecesUptoRow.domain false) (((Rows.OpenSpec.upto Rows.piecesSpec).at F).post enc prog Tryz.f12 false true false false):=by
 refine returnsInHanded_of_cond (C:=Tryz.checked) (s:=Rows.OpenSpec.upto Rows.piecesSpec) (k:=Rows.uptoSmall) rfl Tryz.own Cg (by kernel_rfl) func12
  (OpenSpec.witness (enc:=enc) (C:=Tryz.checked) (s:=Rows.OpenSpec.upto Rows.piecesSpec) (k:=Rows.uptoSmall) rfl false ⟨#[],#[.slice none 0 0],[]⟩ 8 (by kernel_rfl) (by kernel_rfl) (by kernel_rfl)
   (x:=([.nil],[],[])) (by kernel_rfl) rfl (by kernel_rfl)) ?_
 intro W an args ds gs acn Ub hW _ hk _;have aaj:∀(j:Nat) t v,Tryz.f12.params[j]?=some t->args[j]?=some v->Value.okWide prog W .any an t v:=Ub;have hW':=hW;obtain⟨p,q,hA0,hV,rfl,_,_⟩:=hW;have hA:DataW.TrodAll enc prog W 0 (λ_=>true) true Tryz.f12.params.toList args.toList ds p:=hA0;rw[Tryz.params12] at hA aaj;obtain⟨v0,d0,rfl,rfl,h0⟩:=trodAll_one hA;obtain⟨rfl,rfl⟩:=trodVars_none hV;obtain⟨a0,len,gV,rfl⟩:=okWide_slice underlying22 (aaj 0 22 v0 rfl rfl);have h0k:=h0;obtain⟨JX,hf⟩:=h0;clear hA0 Ub;simp only[List.append_nil] at hW' hk
 have hb:Rows.uptoBulk d0<=1048576:=by
  have h1:=of_decide_eq_true hk;simp only[Rows.uptoBulkAll] at h1;omega
 have aU:∀x∈p,x.block<W.heap.size:=λx hx=>by simpa using hW'.lt x hx
 have ZK:∀(W':World),Below W.heap.size W W'->DataW.Trod enc prog W' 0 (λb=>decide (b<W.heap.size)) true 22 (.slice a0 len gV) d0 p:=
  λW' hn=>Below.trod Tryz.laidOut (by kernel_rfl) (of_decide_eq_true (by kernel_rfl)) h0k hn aU
 refine(Eb (by simpa[Value.cells] using hf) hb).mono λe W' ⟨he,hn⟩=>?_;subst he;refine⟨_,rfl,_,_,_,[],p,[],hW',?_,?_,rfl,hn.frame _,λh=>by cases h⟩
 ·exact trodAll_mk1 (shut_bool underlying4 true)
 ·exact trodAll_mk1 (ZK _ hn)
theorem pieces_holds:Rows.PiecesUptoSaid:=
 OpenClaim.holds_of_cond 12 Tryz.f12 rfl rfl rfl rfl rfl rfl rfl ⟨rfl,rfl,rfl,rfl,rfl⟩ rfl rfl rfl rfl rfl (by kernel_rfl) func12 (by kernel_rfl)
  (of_decide_eq_true (by kernel_rfl)) (by unfold Func.isWrapper;first | (rw[aq (by decide +kernel)];kernel_rfl) | (rw[aj (by decide +kernel)];exact⟨rfl,rfl⟩))
  (λos Cg H enc _ F=>yZ os Cg H enc F)
end
end Go.Proofs.YtblfffbmklkhmaaGreat
