/- Own work. -/
import Derived.Test.YtblfffbmklkhmabGreatAl9
import Derived.JoinedCond
set_option maxRecDepth 100000
set_option maxHeartbeats 40000000
namespace Go.Proofs.YtblfffbmklkhmabGreat
open Go.RowKit Go.Proofs.Tryz
section
variable {T:aU}{aB c g i j n sz:Nat}{e:TypeId}{aa:List PEl}{u:Value}{w:World}{x z:PEl}{xs:List Value}
theorem Cm (h:w.ownsRow aB e sz (.slice (some ⟨g,0,none⟩) n c) n xs)(_hi:i<xs.length)(u:Value):(w.setCell ⟨g,i,none⟩ u).ownsRow aB e sz (.slice (some ⟨g,0,none⟩) n c) n (xs.set i u):=by
 refine⟨by rw[List.length_set];exact h.1,?_⟩;rcases h.2 with⟨h1,_⟩ | ⟨g',ij,gu,hv,hb,hg,h3,h4,h5,h6⟩
 ·cases h1
 ·injection hv with h7 _ h8
  injection h7 with h7
  injection h7 with h7 _ _
  subst h7 h8;refine az ⟨g,c,gu.setIfInBounds i u,rfl,hb,aP hg u,h3,h4,by rw[Array.size_setIfInBounds];exact h5,?_⟩;have hl:=h.1;rw[Array.toList_setIfInBounds,<-h6,List.take_set]
theorem vG (h:w.ownsRow aB e sz (.slice (some ⟨g,0,none⟩) n c) n xs):∃gu:Array Value,w.heap[g]?=some (.cells gu e (0,0))/\xs.length<=gu.size:=by
 rcases h.2 with⟨h1,_⟩ | ⟨g',ij,gu,hv,hb,hg,h3,h4,h5,h6⟩
 ·cases h1
 ·injection hv with h7 _ h8
  injection h7 with h7
  injection h7 with h7 _ _
  subst h7;refine⟨gu,hg,?_⟩;rw[h.1,h5];exact Nat.mul_le_mul_right _ h3
def PEl.put (x:PEl)(j:Nat)(u:Value):PEl:=⟨x.num,x.par,x.rest.set j u⟩
theorem LC (x:PEl)(j:Nat)(u:Value):(x.put j u).cells=x.cells.set (j+2) u:=rfl
theorem PEl.ok.put (h:x.ok)(j:Nat)(hu:u.oneCell'=true):(x.put j u).ok:=by
 refine⟨by show(x.rest.set j u).length=29;rw[List.length_set];exact h.1,λv hv=>?_⟩;rcases List.mem_or_eq_of_mem_set hv with hv | rfl
 ·exact h.2 v hv
 ·exact hu
theorem ON (h:∀e∈aa,e.ok)(hi:i<aa.length)(hj:j<29)(u:Value):iw (aa.set i (aa[i].put j u))=(iw aa).set (i*31+(j+2)) u:=by
 induction aa generalizing i with
 | nil=>simp at hi
 | cons x l ih=>
  have h1:=(h x List.mem_cons_self).len;have e0:iw (x :: l)=x.cells++iw l:=rfl;cases i with
  | zero=>
   have e1:iw ((x :: l).set 0 ((x :: l)[0].put j u))=(x.put j u).cells++iw l:=rfl;rw[e1,e0,LC,List.set_append_left _ _ (by omega)];simp
  | succ i=>
   have Rs:i<l.length:=by simpa using hi
   have e1:iw ((x :: l).set (i+1) ((x :: l)[i+1].put j u))=x.cells++iw (l.set i (l[i].put j u)):=rfl;rw[e1,e0,List.set_append_right _ _ (by omega),ih (λe he=>h e (List.mem_cons_of_mem _ he)) Rs,h1,show(i+1)*31+(j+2) - 31=i*31+(j+2) from by omega]
theorem PL.put (h:PL w (.slice (some ⟨g,0,none⟩) aa.length c) aa)(hi:i<aa.length)(hj:j<29)(hu:u.oneCell'=true):PL (w.setCell ⟨g,i*31+(j+2),none⟩ u) (.slice (some ⟨g,0,none⟩) aa.length c) (aa.set i (aa[i].put j u)):=by
 have hl:=OM h.ok;refine⟨?_,λe he=>?_⟩
 ·rw[ON h.ok hi hj,List.length_set];exact Cm h.row (by rw[hl];omega) u
 ·rcases List.mem_or_eq_of_mem_set he with he | rfl
  ·exact h.ok e he
  ·exact(h.ok _ (bN hi)).put j hu
def PEl.pr (e:PEl):Int × Nat:=(e.par,e.num)
theorem Eg (aa:List PEl)(n:Int):aZ aa n=((aa.map PEl.pr).filter λp=>decide (p.1=n)).map Prod.snd:=by
 unfold aZ;rw[List.filter_map,List.map_map];rfl
theorem PT.pairs {bX:List PEl}(h:PT aa T)(hp:bX.map PEl.pr=aa.map PEl.pr):PT bX T:=by
 have hm:∀e∈bX,∃f∈aa,f.num=e.num/\f.par=e.par:=λe he=>by
  have:e.pr∈aa.map PEl.pr:=by rw[<-hp];exact bx.2 ⟨e,he,rfl⟩
  obtain⟨f,hf,D1⟩:=bx.1 this;injection D1 with h1 h2
  exact⟨f,hf,h2,h1⟩
 have qv:∀e∈aa,∃f∈bX,f.num=e.num:=λe he=>by
  have:e.pr∈bX.map PEl.pr:=by rw[hp];exact bx.2 ⟨e,he,rfl⟩
  obtain⟨f,hf,D1⟩:=bx.1 this;injection D1 with h1 h2
  exact⟨f,hf,h2⟩
 have G0:bX.map PEl.num=aa.map PEl.num:=by
  have e1:∀l:List PEl,l.map PEl.num=(l.map PEl.pr).map Prod.snd:=λl=>by rw[List.map_map];rfl
  rw[e1,e1,hp]
 refine⟨by rw[G0];exact h.nums,λe he=>?_,λn l hl=>?_,λn l hl=>?_,λe he h0=>?_⟩
 ·obtain⟨f,hf,h1,_⟩:=hm e he;obtain⟨l,hl⟩:=h.to' f hf;exact⟨l,by rw[<-h1];exact hl⟩
 ·obtain⟨e,he,h1⟩:=h.of' n l hl;obtain⟨f,hf,h2⟩:=qv e he;exact⟨f,hf,h2.trans h1⟩
 ·rw[h.kids n l hl,Eg,Eg,hp]
 ·obtain⟨f,hf,h1,h2⟩:=hm e he;rw[<-h2];exact h.root f hf (h1.trans h0)
theorem LD (hi:i<aa.length)(j:Nat)(u:Value):(aa.set i (aa[i].put j u)).map PEl.pr=aa.map PEl.pr:=by
 rw[List.map_set];apply List.ext_getElem?;intro k
 by_cases hk:i=k
 ·subst hk;rw[List.getElem?_set_self (by simpa using hi),List.getElem?_map,bW hi];rfl
 ·rw[List.getElem?_set_ne hk]
theorem I9 (hn:(aa.map PEl.num).Nodup)(hi:i<aa.length){y:PEl}(_hz:z.num=aa[i].num)(hy:y∈aa.set i z):y=z∨(y∈aa/\y.num≠aa[i].num):=by
 obtain⟨k,hk,rfl⟩:=List.getElem_of_mem hy;rw[List.length_set] at hk
 by_cases h:i=k
 ·subst h;left;rw[List.getElem_set_self]
 ·right;rw[List.getElem_set_ne h];refine⟨bN hk,λe=>h ?_⟩;have h1:=qX hn (bW hi);have h2:=qX hn (bW hk);rw[e,h1] at h2;exact h2
theorem MkO.put {M:Nat->Mk}(h:MkO aa M)(hn:(aa.map PEl.num).Nodup)(hi:i<aa.length){m:Mk}(hz:z.num=aa[i].num)(hs:Shp z)(hm:Il z m):MkO (aa.set i z) (bU M aa[i].num m):=by
 refine⟨λy hy=>?_,λy hy=>?_⟩
 ·unfold bU;rcases I9 hn hi hz hy with rfl | ⟨h1,h2⟩
  ·rw[aE hz];exact hm
  ·rw[aA h2];exact h.1 y h1
 ·rcases I9 hn hi hz hy with rfl | ⟨h1,_⟩
  ·exact hs
  ·exact h.2 y h1
theorem PB3.put {b:Nat}{vS:Value × Value}{ae:Nat}(h:PB3 w b vS (.slice (some ⟨g,0,none⟩) aa.length c) aa T ae)(hi:i<aa.length)(hj:j<29)(hu:u.oneCell'=true):PB3 (w.setCell ⟨g,i*31+(j+2),none⟩ u) b vS (.slice (some ⟨g,0,none⟩) aa.length c) (aa.set i (aa[i].put j u)) T ae:=by
 have hgb:b≠g:=λe=>aN h.pl.row h.doc (by decide) (by rw[e];rfl);refine⟨(Below.heap_setCell w ⟨g,i*31+(j+2),none⟩ _ b hgb).trans h.doc,?_,h.pt.pairs (LD hi j u),by rw[List.length_set];exact h.few⟩;exact h.pl.put hi hj hu
def rH (w:World)(b:Nat)(vS:Value × Value)(v:Value)(aa:List PEl)(T:aU)(ae:Nat)(n:Int)(s:ByteArray)(on:Bool)(e:Ending)(w':World):Prop:=
 ∃(lt y:Int) (bX:List PEl),e=.returned (.tuple #[.int .u8 lt,.int .i64 y])/\y=cA T n s/\PB3 w' b vS v bX T ae/\Fr w w' (λk=>v.ownBlock=some k)/\(y≠0->bX=aa)/\(y≠0->lt=0)/\∀M,MkO aa M->y=0->MkO bX (bU M n.toNat (kA (M n.toNat) s on))/\((lt=bt s 0/\(M n.toNat).cl (bt s 0 - 97)≠on)∨(lt=0/\97<=bt s 0/\(M n.toNat).cl (bt s 0 - 97)=on))
theorem tT {s:ByteArray}(h:aQ s=true):∃k,k<26/\bt s 0=97+k:=by
 unfold aQ gN at h;simp only[Bool.and_eq_true,bO] at h;exact⟨bt s 0 - 97,by omega,by omega⟩
theorem TF (h:x.ok)(hs:Shp x){k:Nat}(hk:k<26)(on:Bool):Shp (x.put (1+k) (.bool on))/\kD (x.put (1+k) (.bool on))=kD x/\(∀i,i<26->eN (x.put (1+k) (.bool on)) i=if i=k then on else eN x i)/\jC (x.put (1+k) (.bool on))=jC x/\fZ (x.put (1+k) (.bool on))=fZ x:=by
 have h9:=h.1;have g0:(x.put (1+k) (.bool on)).rest[0]?=x.rest[0]?:=List.getElem?_set_ne (by omega);have g7:(x.put (1+k) (.bool on)).rest[27]?=x.rest[27]?:=List.getElem?_set_ne (by omega);have g8:(x.put (1+k) (.bool on)).rest[28]?=x.rest[28]?:=List.getElem?_set_ne (by omega)
 have gi:∀i,i<26->(x.put (1+k) (.bool on)).rest[1+i]?=if i=k then some (.bool on) else x.rest[1+i]?:=λi hi=>by
  split
  ·rename_i e;rw[e];exact List.getElem?_set_self (by omega)
  ·exact List.getElem?_set_ne (by omega)
 refine⟨⟨by rw[g0];exact hs.kind,λi hi=>?_,by rw[g7];exact hs.name,by rw[g8];exact hs.shown⟩,by unfold kD;rw[g0],λi hi=>?_,by unfold jC;rw[g7],by unfold fZ;rw[g8]⟩
 ·rw[gi i hi];split
  ·exact⟨on,rfl⟩
  ·exact hs.cls i hi
 ·unfold eN;rw[gi i hi]
  by_cases e:i=k
  ·rw[aE e,aE e]
  ·rw[aA e,aA e]
theorem TG (h:x.ok)(hs:Shp x)(z:Int):Shp (x.put 27 (.int .u8 z))/\kD (x.put 27 (.int .u8 z))=kD x/\(∀i,i<26->eN (x.put 27 (.int .u8 z)) i=eN x i)/\jC (x.put 27 (.int .u8 z))=z/\fZ (x.put 27 (.int .u8 z))=fZ x:=by
 have h9:=h.1;have g0:(x.put 27 (.int .u8 z)).rest[0]?=x.rest[0]?:=List.getElem?_set_ne (by omega);have g7:(x.put 27 (.int .u8 z)).rest[27]?=some (.int .u8 z):=List.getElem?_set_self (by omega);have g8:(x.put 27 (.int .u8 z)).rest[28]?=x.rest[28]?:=List.getElem?_set_ne (by omega);have gi:∀i,i<26->(x.put 27 (.int .u8 z)).rest[1+i]?=x.rest[1+i]?:=λi hi=>List.getElem?_set_ne (by omega);refine⟨⟨by rw[g0];exact hs.kind,λi hi=>by rw[gi i hi];exact hs.cls i hi,⟨z,g7⟩,by rw[g8];exact hs.shown⟩,by unfold kD;rw[g0],λi hi=>by unfold eN;rw[gi i hi],by unfold jC;rw[g7],by unfold fZ;rw[g8]⟩
theorem TJ (h:x.ok)(hs:Shp x)(on:Bool):Shp (x.put 28 (.bool on))/\kD (x.put 28 (.bool on))=kD x/\(∀i,i<26->eN (x.put 28 (.bool on)) i=eN x i)/\jC (x.put 28 (.bool on))=jC x/\fZ (x.put 28 (.bool on))=on:=by
 have h9:=h.1;have g0:(x.put 28 (.bool on)).rest[0]?=x.rest[0]?:=List.getElem?_set_ne (by omega);have g7:(x.put 28 (.bool on)).rest[27]?=x.rest[27]?:=List.getElem?_set_ne (by omega);have g8:(x.put 28 (.bool on)).rest[28]?=some (.bool on):=List.getElem?_set_self (by omega);have gi:∀i,i<26->(x.put 28 (.bool on)).rest[1+i]?=x.rest[1+i]?:=λi hi=>List.getElem?_set_ne (by omega);refine⟨⟨by rw[g0];exact hs.kind,λi hi=>by rw[gi i hi];exact hs.cls i hi,by rw[g7];exact hs.name,⟨on,g8⟩⟩,by unfold kD;rw[g0],λi hi=>by unfold eN;rw[gi i hi],by unfold jC;rw[g7],by unfold fZ;rw[g8]⟩
theorem Dj (s:ByteArray):s.toList.isEmpty=(s.size==0):=by
 rw[ByteArray.toList_eq];obtain⟨⟨l⟩⟩:=s;cases l<;>rfl
section
variable (w:World)(b:Nat)(vS:Value × Value)(v:Value)(aa:List PEl)(T:aU)(ae:Nat)(n:Int)(s:ByteArray)
theorem Qb (on:Bool)(h:PB3 w b vS v aa T ae)(hw:TW T ae)(oS:∀x∈aa,Shp x):Calls prog 116 #[.pointer (some ⟨b,1,none⟩),.int .i64 n,.string s,.bool on] w λe w'=>rH w b vS v aa T ae n s on e w':=by
 have HB:Hid (PB3 w b vS v aa T ae/\TW T ae/\∀x∈aa,Shp x):=⟨h,hw,oS⟩;have bJ:=h.few
 have n6:Hid (∀(y:Int) (w':World),Below w.heap.size w w'->y≠0->cA T n s=y->rH w b vS v aa T ae n s on (.returned (.tuple #[.int .u8 0,.int .i64 y])) w'):=λy w' hb hy he=>
  ⟨0,y,aa,rfl,he.symm,HB.out.1.below hb,(Fr.refl w _).below hb,λ_=>rfl,λ_=>rfl,λ_ _ h0=>absurd h0 hy⟩
 clear h hw oS;go_enter func116,ntmps116;go_wp2_with fail;refine(dX w b v aa n HB.out.1.c1 HB.out.1.pl bJ).mono ?_;rintro e w1 ⟨cH,⟨hf,rfl⟩ | ⟨ip,xp,oN,hf,rfl⟩⟩
 ·have HE:=n6.out 5 w1 cH (by decide) (by unfold cA;rw[HB.out.1.pt.find_none hf]);clear hf;go_wp2;go_ret2;exact HE
 ·have HF:=bZ ((HB.out.1.pt.find_some HB.out.2.1 hf).1) ((HB.out.1.pt.find_some HB.out.2.1 hf).2.2);have JX:=aw oN;have nW:=(ee.1 oN).1;clear hf oN;go_wp2_with fail;refine(sL w1 s).mono ?_;rintro e w2 ⟨cc,rfl,rB,B3,_⟩;have dk:=cH.trans (rB.below.mono cH.size);clear cH rB;cases hl:aQ s with
  | false=>
   have HE:=n6.out 4 w2 dk (by decide) (by unfold cA;rw[HF.out.1];show(if _ then _ else _)=_;rw[aE hl]);clear hl B3;go_wp2;go_ret2;exact HE
  | true=>
   have MC:Hid (cA T n s=0):=by unfold Hid cA;rw[HF.out.1];show(if _ then _ else _)=_;rw[aA (by rw[hl];decide)]
   obtain⟨k,hk,ze⟩:=tT hl;have hcc:cc=97+(k:Int):=by rw[B3 hl,ze];omega
   have Mx:=aw ze;subst hcc;clear hl B3 ze;obtain⟨av,cv,K3⟩:=HB.out.1.pl.shape;subst K3;have eM:=aw (HB.out.1.below dk);obtain⟨g,hg,di,hr⟩:=eM.out.pl.at' nW;subst hg;have oM:=(ee.1 JX.out).2;have q2:w2.cell? ⟨g,ip*31+3+k,none⟩=some (.bool (eN xp k)):=by rw[<-oM,Nat.add_assoc];exact hr (3+k) _ ((HB.out.2.2 _ (bN nW)).cl hk)
   have q0:=eM.out.c1;obtain⟨gu,vj,_⟩:=vG eM.out.pl.row;have qf:∀j,w2.frozen? ⟨g,j,none⟩=false:=λ_=>aH vj;have jQ:(ip:Int)<(aa.length:Int):=by omega
   have Xx:Hid (aa[ip]=xp/\n.toNat=aa[ip].num):=⟨oM,by rw[oM];have:=HF.out.2;omega⟩;clear hr oM vj
   by_cases hc:eN xp k=on
   ·have gc:(eN xp k==on)=true:=by simp[hc]
    have HE:Hid (rH w b vS (.slice (some ⟨g,0,none⟩) aa.length cv) aa T ae n s on (.returned (.tuple #[.int .u8 0,.int .i64 0])) w2):=by
     refine⟨0,0,aa,rfl,MC.out.symm,eM.out,(Fr.refl w _).below dk,λ_=>rfl,λ_=>rfl,λM hM _=>?_⟩;have hx:=List.mem_of_getElem? JX.out;have G0:n.toNat=xp.num:=by have:=HF.out.2;omega
     have Al:=hM.1 xp hx;have lX:(M xp.num).cl k=on:=by rw[<-Al.2.1 k hk];exact hc
     refine⟨hM.ext (λy _=>?_),az ⟨rfl,by have:=Mx.out;omega,by rw[G0,Mx.out,show 97+k - 97=k from by omega];exact lX⟩⟩;unfold bU;split
     ·rename_i e;rw[e,G0];unfold kA
      have:(λi=>if i+97=bt s 0 then on else(M xp.num).cl i)=(M xp.num).cl:=by
       funext i;split
       ·rename_i e2;have e3:i=k:=by have:=Mx.out;omega
        rw[e3];exact lX.symm
       ·rfl
      rw[this]
     ·rfl
    clear hc;generalize eN xp k=gB at q2 gc;go_wp2;go_ret2;exact HE.out
   ·have gc:(eN xp k==on)=false:=by simp[hc]
    have HCH:Hid (∀M,MkO aa M->(M n.toNat).cl (bt s 0 - 97)≠on):=λM hM=>by
     rw[Xx.out.2,Xx.out.1,Mx.out,show 97+k - 97=k from by omega,<-(hM.1 xp (List.mem_of_getElem? JX.out)).2.1 k hk];exact hc
    have qJ:Hid (PB3 (w2.setCell ⟨g,ip*31+(1+k+2),none⟩ (.bool on)) b vS (.slice (some ⟨g,0,none⟩) aa.length cv) (aa.set ip (aa[ip].put (1+k) (.bool on))) T ae):=eM.out.put nW (by omega) rfl
    have HE:Hid (rH w b vS (.slice (some ⟨g,0,none⟩) aa.length cv) aa T ae n s on (.returned (.tuple #[.int .u8 (97+(k:Int)),.int .i64 0])) (w2.setCell ⟨g,ip*31+3+k,none⟩ (.bool on))):=by
     rw[show ip*31+3+k=ip*31+(1+k+2) from by omega];refine⟨97+(k:Int),0,_,rfl,MC.out.symm,qJ.out,((Fr.refl w (λk=>(Value.slice (some ⟨g,0,none⟩) aa.length cv).ownBlock=some k)).below dk).set (p:=⟨g,ip*31+(1+k+2),none⟩) (ax rfl) _,λh=>absurd rfl h,λh=>absurd rfl h,λM hM _=>⟨?_,ax ⟨by rw[Mx.out];omega,HCH.out M hM⟩⟩⟩;rw[Xx.out.2];have hx:=bN nW;have Al:=hM.1 _ hx;obtain⟨p1,p2,p3,p4,p5⟩:=TF (HB.out.1.pl.ok _ hx) (hM.2 _ hx) hk on;refine hM.put HB.out.1.pt.nums nW rfl p1 ⟨by rw[p2];exact Al.1,λi hi=>?_,by rw[p4];exact Al.2.2.1,by rw[p5,Al.2.2.2];show _=if 26+97=bt s 0 then on else _;rw[aA (by rw[Mx.out];omega)]⟩;rw[p3 i hi];show _=if i+97=bt s 0 then on else _
     by_cases e:i=k
     ·rw[aE e,aE (by rw[Mx.out];omega)]
     ·rw[aA e,aA (by rw[Mx.out];omega)];exact Al.2.1 i hi
    clear hc qJ;generalize eN xp k=gB at q2 gc;go_wp2;go_ret2;exact HE.out
def wv (w:World)(b:Nat)(vS:Value × Value)(v:Value)(aa:List PEl)(T:aU)(ae:Nat)(n:Int)(s:ByteArray)(e:Ending)(w':World):Prop:=
 ∃(gB Lj y:Int) (bX:List PEl),e=.returned (.tuple #[.int .u8 gB,.int .u8 Lj,.int .i64 y])/\y=cJ T n s/\PB3 w' b vS v bX T ae/\Fr w w' (λk=>v.ownBlock=some k)/\(y≠0->bX=aa/\gB=Lj)/\∀M,MkO aa M->y=0->MkO bX (bU M n.toNat (fW (M n.toNat) s))/\gB=(M n.toNat).nm/\Lj=(fW (M n.toNat) s).nm
theorem Qk (h:PB3 w b vS v aa T ae)(hw:TW T ae)(oS:∀x∈aa,Shp x):Calls prog 119 #[.pointer (some ⟨b,1,none⟩),.int .i64 n,.string s] w λe w'=>wv w b vS v aa T ae n s e w':=by
 have HB:Hid (PB3 w b vS v aa T ae/\TW T ae/\∀x∈aa,Shp x):=⟨h,hw,oS⟩;have bJ:=h.few
 have n6:Hid (∀(y:Int) (w':World),Below w.heap.size w w'->y≠0->cJ T n s=y->wv w b vS v aa T ae n s (.returned (.tuple #[.int .u8 0,.int .u8 0,.int .i64 y])) w'):=λy w' hb hy he=>
  ⟨0,0,y,aa,rfl,he.symm,HB.out.1.below hb,(Fr.refl w _).below hb,λ_=>⟨rfl,rfl⟩,λ_ _ h0=>absurd h0 hy⟩
 clear h hw oS;go_enter func119,ntmps119;go_wp2_with fail;refine(dX w b v aa n HB.out.1.c1 HB.out.1.pl bJ).mono ?_;rintro e w1 ⟨cH,⟨hf,rfl⟩ | ⟨ip,xp,oN,hf,rfl⟩⟩
 ·have HE:=n6.out 5 w1 cH (by decide) (by unfold cJ;rw[HB.out.1.pt.find_none hf]);clear hf;go_wp2;go_ret3;exact HE
 ·have HF:=bZ ((HB.out.1.pt.find_some HB.out.2.1 hf).1) ((HB.out.1.pt.find_some HB.out.2.1 hf).2.2);have JX:=aw oN;have nW:=(ee.1 oN).1;clear hf oN;go_wp2_with fail;refine(sL w1 s).mono ?_;rintro e w2 ⟨cc,rfl,rB,B3,KJ⟩;have dk:=cH.trans (rB.below.mono cH.size);clear cH rB
  by_cases ld:s.size≠0/\aQ s=false
  ·have HE:=n6.out 4 w2 dk (by decide) (by unfold cJ;rw[HF.out.1];show(if _ then _ else _)=_;rw[aE ld])
   have Pi:s.toList.isEmpty=false:=by
    rw[Dj,fq];exact ld.1
   have uG:=ld.2;rw[uG];clear ld B3 KJ uG;go_wp2;go_ret3;exact HE
  ·have MC:Hid (cJ T n s=0):=by unfold Hid cJ;rw[HF.out.1];show(if _ then _ else _)=_;rw[aA ld]
   have HCC:Hid (cc=if s.size=0 then(0:Int) else(bt s 0:Int)):=by
    unfold Hid
    by_cases h0:s.size=0
    ·rw[aE h0];exact KJ h0
    ·rw[aA h0];refine B3 ?_;cases hl:aQ s with
     | true=>rfl
     | false=>exact absurd ⟨h0,hl⟩ ld
   obtain⟨av,cv,K3⟩:=HB.out.1.pl.shape;subst K3;have eM:=aw (HB.out.1.below dk);obtain⟨g,hg,di,hr⟩:=eM.out.pl.at' nW;subst hg;have oM:=(ee.1 JX.out).2;have q2:w2.cell? ⟨g,ip*31+29,none⟩=some (.int .u8 (jC xp)):=by rw[<-oM];exact hr 29 _ (HB.out.2.2 _ (bN nW)).nm
   have q0:=eM.out.c1;obtain⟨gu,vj,_⟩:=vG eM.out.pl.row;have qf:∀j,w2.frozen? ⟨g,j,none⟩=false:=λ_=>aH vj;have jQ:(ip:Int)<(aa.length:Int):=by omega
   have Xx:Hid (aa[ip]=xp/\n.toNat=aa[ip].num):=⟨oM,by rw[oM];have:=HF.out.2;omega⟩;have qJ:Hid (PB3 (w2.setCell ⟨g,ip*31+29,none⟩ (.int .u8 cc)) b vS (.slice (some ⟨g,0,none⟩) aa.length cv) (aa.set ip (aa[ip].put 27 (.int .u8 cc))) T ae):=eM.out.put nW (by omega) rfl
   have HE:Hid (wv w b vS (.slice (some ⟨g,0,none⟩) aa.length cv) aa T ae n s (.returned (.tuple #[.int .u8 (jC xp),.int .u8 cc,.int .i64 0])) (w2.setCell ⟨g,ip*31+29,none⟩ (.int .u8 cc))):=by
    refine⟨jC xp,cc,0,_,rfl,MC.out.symm,qJ.out,((Fr.refl w (λk=>(Value.slice (some ⟨g,0,none⟩) aa.length cv).ownBlock=some k)).below dk).set (p:=⟨g,ip*31+29,none⟩) (ax rfl) _,λh=>absurd rfl h,λM hM _=>?_⟩;rw[Xx.out.2];have hx:=bN nW;have Al:=hM.1 _ hx;obtain⟨p1,p2,p3,p4,p5⟩:=TG (HB.out.1.pl.ok _ hx) (hM.2 _ hx) cc;refine⟨hM.put HB.out.1.pt.nums nW rfl p1 ⟨by rw[p2];exact Al.1,λi hi=>by rw[p3 i hi];exact Al.2.1 i hi,by rw[p4];exact HCC.out,by rw[p5];exact Al.2.2.2⟩,by rw[<-Xx.out.1];exact Al.2.2.1,HCC.out⟩
   clear hr oM vj qJ B3 KJ;generalize jC xp=gB at q2 HE;cases hl:aQ s with
   | true=>
    clear hl ld;go_wp2;go_ret3;exact HE.out
   | false=>
    have Pi:s.toList.isEmpty=true:=by
     have h0:s.size=0:=by
      by_cases h0:s.size=0
      ·exact h0
      ·exact absurd ⟨h0,hl⟩ ld
     rw[Dj,h0];rfl
    clear hl ld;go_wp2;go_ret3;exact HE.out
end
end
section
variable {H:Int->Prop}{L:List Int}{M':Nat->Mk}{bX:List PEl}{v:Value}{w:World}
structure DM (w:World)(b:Nat)(vS:Value × Value)(v:Value)(els:List PEl)(T:aU)(made:Nat)(M:Nat->Mk)(rs:List dx)(kl:List (Int × List Int))(G:Nat->Prop):Prop where
 pb:PB3 w b vS v els T made
 tw:TW T made
 mks:MkO els M
 sh:SheetIn w G vS.1 rs
 kp:KL w vS.2 kl
 few:kl.length<=24
 gl:∀k,G k->k<w.heap.size
 gb:¬G b
 gv:∀j,v.ownBlock=some j->¬G j
 gk:∀j,vS.2.ownBlock=some j->¬G j
theorem jD {w':World}{e:TypeId}{sz:Nat}{n:Nat}{xs:List Value}(h:w.ownsRow 0 e sz v n xs)(hk:∀k,v.ownBlock=some k->k<w.heap.size->w'.heap[k]?=w.heap[k]?):w'.ownsRow 0 e sz v n xs:=by
 refine⟨h.1,?_⟩;rcases h.2 with hn | ⟨g,ij,gu,hv,hb,hg,rest⟩
 ·exact ax hn
 ·exact az ⟨g,ij,gu,hv,hb,(hk g (by rw[hv];rfl) (bG.1 hg).1).trans hg,rest⟩
theorem PB3.drop {b:Nat}{vS:Value × Value}{aa:List PEl}{T:aU}{ae:Nat}(h:PB3 w b vS v aa T ae)(u:Value):PB3 (w.setCell ⟨b,3,none⟩ u) b (vS.1,u) v aa T ae:=by
 refine⟨?_,⟨bw h.pl.row (aN h.pl.row h.doc (by decide)) _,h.pl.ok⟩,h.pt,h.few⟩;rw[aP h.doc];rfl
section
variable {w w':World}{b:Nat}{vS:Value × Value}{v:Value}{aa:List PEl}{T:aU}{ae:Nat}{M:Nat->Mk}{rs:List dx}{kl:List (Int × List Int)}{G:Nat->Prop}
theorem DM.lt (h:DM w b vS v aa T ae M rs kl G):b<w.heap.size:=(bG.1 h.pb.doc).1
theorem DM.below (h:DM w b vS v aa T ae M rs kl G)(hB:Below w.heap.size w w'):DM w' b vS v aa T ae M rs kl G:=
 ⟨h.pb.below hB,h.tw,h.mks,h.sh.keep (λk _ hl=>hB.block k hl) hB.size,h.kp.below hB,h.few,λk hk=>Nat.lt_of_lt_of_le (h.gl k hk) hB.size,h.gb,h.gv,h.gk⟩
theorem DM.trd {a:Option Addr}{c:Nat}(h:DM w b vS (.slice a aa.length c) aa T ae M rs kl G):TRd w b a c aa:=⟨h.pb.c1,h.pb.pl,h.pb.few,h.pb.pt.nums,h.mks.2⟩
theorem DM.kept_ne (h:DM w b vS v aa T ae M rs kl G):vS.2.ownBlock≠some b:=aN h.kp.row h.pb.doc (by decide)
theorem DM.tree (h:DM w b vS v aa T ae M rs kl G){v':Value}{T':aU}{made':Nat}(hp:PB3 w' b vS v' bX T' made')(hw:TW T' made')(hm:MkO bX M')(hf:Fr w w' (λk=>k=b))(hv:∀j,v'.ownBlock=some j->v.ownBlock=some j∨w.heap.size<=j):DM w' b vS v' bX T' made' M' rs kl G:=by
 refine⟨hp,hw,hm,h.sh.keep (λk hg hl=>hf.block k hl (λe=>h.gb (e▸hg))) hf.size,⟨jD h.kp.row (λk hk hl=>hf.block k hl (λe=>h.kept_ne (e▸hk))),h.kp.nine⟩,h.few,λk hk=>Nat.lt_of_lt_of_le (h.gl k hk) hf.size,h.gb,λj hj hg=>?_,h.gk⟩;rcases hv j hj with h1 | h1
 ·exact h.gv j h1 hg
 ·have:=h.gl j hg;omega
theorem DM.inpl (h:DM w b vS v aa T ae M rs kl G)(hp:PB3 w' b vS v bX T ae)(hm:MkO bX M')(hf:Fr w w' (λk=>v.ownBlock=some k)):DM w' b vS v bX T ae M' rs kl G:=by
 refine⟨hp,h.tw,hm,h.sh.keep (λk hg hl=>hf.block k hl (λe=>h.gv k e hg)) hf.size,⟨jD h.kp.row (λk hk hl=>hf.block k hl (λe=>?_)),h.kp.nine⟩,h.few,λk hk=>Nat.lt_of_lt_of_le (h.gl k hk) hf.size,h.gb,h.gv,h.gk⟩;obtain⟨a,c,rfl⟩:=h.pb.pl.shape;cases a with
 | none=>cases e
 | some p=>
  obtain⟨g,o,z⟩:=p
  have hz:∃g' ij gu,(Value.slice (some ⟨g,o,z⟩) aa.length c)=.slice (some ⟨g',0,none⟩) aa.length ij/\w.heap[g']?=some (.cells gu 156 (0,0)):=by
   rcases h.pb.pl.row.2 with⟨h1,_⟩ | ⟨g',ij,gu,hv,_,hg,_⟩
   ·cases h1
   ·exact⟨g',ij,gu,hv,hg⟩
  obtain⟨g',ij,gu,hv,hg⟩:=hz;injection hv with h1 _ _
  injection h1 with h1
  injection h1 with h1 _ _
  have e2:some g=some k:=e;injection e2 with e2
  exact aN h.kp.row hg (by decide) (by rw[hk,<-e2,h1])
theorem DM.dropped (h:DM w b vS v aa T ae M rs kl G){e:Ending}(hd:tq w b (ew L kl) e w'):e=.returned (.tuple #[])/\∃v2,DM w' b (vS.1,v2) v aa T ae M rs (ew L kl) G/\Fr w w' (λk=>k=b)/\∀j,v2.ownBlock=some j->w.heap.size<=j:=by
 obtain⟨rfl,w1,a,c,hB,ho,rfl⟩:=hd;have h1:=h.below hB;have bc:=h.lt;have Rq:∀j,(Value.slice a (ew L kl).length c).ownBlock=some j->w.heap.size<=j:=λj hj=>(ho.lt j hj).1;refine⟨rfl,_,⟨h1.pb.drop _,h.tw,h.mks,h1.sh.keep (λk hg _=>Below.heap_setCell w1 ⟨b,3,none⟩ _ k (λe=>h.gb (by rw[<-(show k=b from e)];exact hg))) (by simp),⟨bw (ba ho bm) (λe=>?_) _,λx hx=>h.kp.nine x (dJ.1 hx).1⟩,Nat.le_trans (Ab _ _) h.few,λk hk=>by simpa using h1.gl k hk,h.gb,h.gv,λj hj hg=>?_⟩,((Fr.refl w (λk=>k=b)).below hB).set (p:=⟨b,3,none⟩) (ax rfl) _,Rq⟩
 ·have:=Rq b e;omega
 ·have h2:=Rq j hj;have h3:=h.gl j hg;omega
theorem nf (h:PT aa T)(hw:TW T ae){p:Nat}{l:List Nat}(hp:(p,l)∈T){x:Int × List Int}(hx:x∈ew (eF aa p) kl){j:Nat}{lj:List Nat}(hj:x.1=(j:Int))(FQ:(j,lj)∈T):¬mE T p j:=λhr=>by
 have h1:=Hs h.nums (Qx h hw hp FQ hr);have h2:=(dJ.1 hx).2;rw[hj] at h2;have h3:=List.contains_iff_mem.2 h1;rw[h3] at h2;exact absurd h2 (by decide)
theorem fO (L:List Int)(kl:List (Int × List Int)):(ew L kl).Sublist kl:=List.filter_sublist
def DropT (H:Int->Prop)(kl dw:List (Int × List Int)):Prop:=dw.Sublist kl/\∀x∈kl,¬H x.1->x∈dw
theorem na (H:Int->Prop)(kl:List (Int × List Int)):DropT H kl kl:=⟨List.Sublist.refl _,λ_ hx _=>hx⟩
theorem tJ (h:∀x∈L,H x)(kl:List (Int × List Int)):DropT H kl (ew L kl):=
 ⟨fO L kl,λx hx hn=>dJ.2 ⟨hx,by
  cases hc:L.contains x.1 with
  | true=>exact absurd (h _ (List.contains_iff_mem.1 hc)) hn
  | false=>rfl⟩⟩
theorem DropT.trans {k1 k2 k3:List (Int × List Int)}(h:DropT H k1 k2)(h':DropT H k2 k3):DropT H k1 k3:=⟨h'.1.trans h.1,λx hx hn=>h'.2 x (h.2 x hx hn) hn⟩
theorem jF (h:PT aa T)(hw:TW T ae){f x:Int}(hx:x∈eF aa f):dR T f x=true:=by
 unfold eF at hx;split at hx
 ·cases hx
 ·rename_i z hz;obtain⟨hm,rfl⟩:=dQ hz;unfold eE at hx;obtain⟨t,ht,hx⟩:=List.mem_flatMap.1 hx;split at hx
  ·rename_i hp;unfold cR at hx;obtain⟨y,hy,rfl⟩:=bx.1 hx;obtain⟨k,_,hk⟩:=iK.1 (dJ.1 hy).2;unfold dR;rw[<-h.par hw hm]
   by_cases h0:z.par<0
   ·rw[decide_eq_true h0,Bool.true_or]
   ·rw[Bool.or_eq_true];refine az ?_;refine bC.2 ⟨by omega,k+1,?_⟩;rw[h.upP hw] at hk;rw[qm T _ k 1,hk];show bi T t.num=_;rw[<-h.par hw (List.mem_of_mem_drop ht),hp]
  ·cases hx
end
section
variable (w:World)(b:Nat)(vS:Value × Value)(v:Value)(aa:List PEl)(T:aU)(ae:Nat)(M:Nat->Mk)(rs:List dx)(kl:List (Int × List Int))(G:Nat->Prop)
def qM (n:Int)(e:Ending)(w':World):Prop:=
 e=.returned (.tuple #[])/\∃v2,DM w' b (vS.1,v2) v aa T ae M rs (ew (eF aa n) kl) G/\Fr w w' (λk=>k=b)/\∀j,v2.ownBlock=some j->w.heap.size<=j
theorem jB (n:Int)(h:DM w b vS v aa T ae M rs kl G):Calls prog 106 #[.pointer (some ⟨b,0,none⟩),.int .i64 n] w λe w'=>qM w b vS v aa T ae M rs kl G n e w':=by
 obtain⟨a,c,hv⟩:=h.pb.pl.shape;subst hv;have HD:=aw h;have MM:=yd h.pb.few n;clear h;go_enter func106,ntmps106;go_wp2_with fail;refine(xY w b a c aa n HD.out.trd).mono ?_;rintro e w1 ⟨al,cl,rfl,eo,hB⟩;have jK:=aw (HD.out.below hB);have HRI:=aw (RowI.own eo);have eu:=aw hB;clear eo hB;go_wp2_with fail;refine(AP w1 b _ vS.2 kl al cl (eF aa n) jK.out.pb.doc rfl jK.out.kp jK.out.few HRI.out MM).mono ?_;intro e w2 hd;obtain⟨rfl,v2,h1,h2,h3⟩:=jK.out.dropped hd;have HE:Hid (qM w b vS (.slice a aa.length c) aa T ae M rs kl G n (.returned (.tuple #[])) w2):=⟨rfl,v2,h1,((Fr.refl w (λk=>k=b)).below eu.out).trans h2,λj hj=>Nat.le_trans eu.out.size (h3 j hj)⟩;clear hd h1 h2 h3;go_wp2;go_end0;exact HE.out
end
def DSk (w:World)(px:Value)(T:aU)(ae:Nat)(M:Nat->Mk)(rs:List dx)(kl:List (Int × List Int))(F:Nat->Prop):Prop:=
 ∃b vS v aa G,px=.pointer (some ⟨b,0,none⟩)/\DM w b vS v aa T ae M rs kl G/\KOK T M rs kl/\F b/\(∀j,v.ownBlock=some j->F j)/\(∀j,vS.2.ownBlock=some j->F j)/\(∀k,G k->F k)
section
variable {w w':World}{px:Value}{T:aU}{ae:Nat}{M M':Nat->Mk}{rs:List dx}{kl:List (Int × List Int)}{F:Nat->Prop}
theorem DSk.keep (h:DSk w px T ae M rs kl F)(hk:∀k,F k->k<w.heap.size->w'.heap[k]?=w.heap[k]?)(hz:w.heap.size<=w'.heap.size):DSk w' px T ae M rs kl F:=by
 obtain⟨b,vS,v,aa,G,h1,h2,h3,h4,h5,h6,h7⟩:=h;exact⟨b,vS,v,aa,G,h1,⟨⟨(hk b h4 h2.lt).trans h2.pb.doc,⟨jD h2.pb.pl.row (λk gg hl=>hk k (h5 k gg) hl),h2.pb.pl.ok⟩,h2.pb.pt,h2.pb.few⟩,h2.tw,h2.mks,h2.sh.keep (λk hg hl=>hk k (h7 k hg) hl) hz,⟨jD h2.kp.row (λk gg hl=>hk k (h6 k gg) hl),h2.kp.nine⟩,h2.few,λk hg=>Nat.lt_of_lt_of_le (h2.gl k hg) hz,h2.gb,h2.gv,h2.gk⟩,h3,h4,h5,h6,h7⟩
theorem DSk.here (h:DSk w px T ae M rs kl F):DSk w px T ae M rs kl (λk=>F k/\k<w.heap.size):=by
 obtain⟨b,vS,v,aa,G,h1,h2,h3,h4,h5,h6,h7⟩:=h;exact⟨b,vS,v,aa,G,h1,h2,h3,⟨h4,h2.lt⟩,λj hj=>⟨h5 j hj,(h2.pb.pl.row.lt j hj).2⟩,λj hj=>⟨h6 j hj,(h2.kp.row.lt j hj).2⟩,λk hk=>⟨h7 k hk,h2.gl k hk⟩⟩
theorem DSk.mark (h:DSk w px T ae M rs kl F)(hm:∀k l,(k,l)∈T->M k=M' k):DSk w px T ae M' rs kl F:=by
 obtain⟨b,vS,v,aa,G,h1,h2,h3,h4⟩:=h
 exact⟨b,vS,v,aa,G,h1,⟨h2.pb,h2.tw,h2.mks.ext (λx hx=>by
  obtain⟨l,hl⟩:=h2.pb.pt.to' x hx;exact hm x.num l hl),h2.sh,h2.kp,h2.few,h2.gl,h2.gb,h2.gv,h2.gk⟩,h3.marks h2.tw hm,h4⟩
theorem DSk.tw (h:DSk w px T ae M rs kl F):TW T ae:=by
 obtain⟨b,vS,v,aa,G,h1,h2,h3⟩:=h;exact h2.tw
theorem DSk.kok (h:DSk w px T ae M rs kl F):KOK T M rs kl:=by
 obtain⟨b,vS,v,aa,G,h1,h2,h3,_⟩:=h;exact h3
end
section
variable (w:World)(px:Value)(T:aU)(ae:Nat)(M:Nat->Mk)(rs:List dx)(kl:List (Int × List Int))(F:Nat->Prop)
def vW (an af:Int)(aj:ByteArray)(e:Ending)(w':World):Prop:=
 ∃y T' made' n dw,e=.returned (.tuple #[.int .i64 n,.int .i64 y])/\TIns T ae an af aj y T' made' n/\DSk w' px T' made' (if y=0 then bU M ae (eh aj) else M) rs dw (cV F w)/\Fr w w' F/\DropT (λx=>y=0/\dR T' an x=true) kl dw
theorem DA (an af:Int)(aj:ByteArray)(h:DSk w px T ae M rs kl F)(nA:ae<=4611686018427387904):Calls prog 67 #[px,.int .i64 an,.int .i64 af,.string aj] w λe w'=>vW w px T ae M rs kl F an af aj e w':=by
 obtain⟨b,vS,v,aa,G,rfl,h2,h3,h4,h5,h6,h7⟩:=h;have HB:Hid (DM w b vS v aa T ae M rs kl G/\KOK T M rs kl/\F b/\(∀j,v.ownBlock=some j->F j)/\(∀j,vS.2.ownBlock=some j->F j)/\∀k,G k->F k):=⟨h2,h3,h4,h5,h6,h7⟩;clear h2 h3 h4 h5 h6 h7;go_enter func67,ntmps67;go_wp2_with fail;refine(Qf w b vS v aa T ae an af aj HB.out.1.pb HB.out.1.tw nA).mono ?_;rintro e w1 ⟨y,T',made',n,v',bX,rfl,ht,hp,hf,hv,hm⟩
 by_cases hy:y=0
 ·have gy:(y==0)=true:=by simp[hy]
  have hO:made'=ae+1/\∃(p k:Nat) (l:List Nat),an=(p:Int)/\(p,l)∈T/\T'=lT T p k ae:=by
   rcases ht.2 with⟨h1,_⟩ | ⟨_,_,h1,p,k,h2,_,⟨l,h3,_⟩,h4⟩
   ·exact absurd hy h1
   ·exact⟨h1,p,k,l,h2,h3,h4⟩
  have HC:=aw hO
  have vE:TW T' made':=by
   obtain⟨h1,p,k,l,_,h3,h4⟩:=hO;rw[h1,h4];exact HB.out.1.tw.ins ⟨l,h3⟩
  have qv:=hm M HB.out.1.mks;rw[aE hy] at qv;have jK:=aw (HB.out.1.tree hp vE qv hf hv);have HT:Hid (TIns T ae an af aj y T' made' n/\Fr w w1 (λk=>k=b)/\(∀j,v'.ownBlock=some j->v.ownBlock=some j∨w.heap.size<=j)):=⟨ht,hf,hv⟩;have HY:=aw hy;clear ht hp hf hv hm qv vE hO hy;go_wp2_with fail;refine(jB w1 b vS v' bX T' made' _ rs kl G an jK.out).mono ?_;rintro e w2 ⟨rfl,v2,iC,bM,jJ⟩
  have HE:Hid (vW w (.pointer (some ⟨b,0,none⟩)) T ae M rs kl F an af aj (.returned (.tuple #[.int .i64 n,.int .i64 y])) w2):=by
   obtain⟨h1,p,k,l,h2,h3,h4⟩:=HC.out;have OR:=iC.pb.pt;have hw2:=iC.tw;refine⟨y,T',made',n,ew (eF bX an) kl,rfl,HT.out.1,⟨b,(vS.1,v2),v',bX,G,rfl,?_,?_,ax HB.out.2.2.1,λj hj=>(HT.out.2.2 j hj).imp (HB.out.2.2.2.1 j) id,λj hj=>az (Nat.le_trans HT.out.2.1.size (jJ j hj)),λk hk=>ax (HB.out.2.2.2.2.2 k hk)⟩,(HT.out.2.1.trans bM).mono (λk hk=>hk▸HB.out.2.2.1),tJ (λx hx=>⟨HY.out,jF OR hw2 hx⟩) _⟩
   ·rw[aE HY.out];exact iC
   ·rw[aE HY.out];subst h4 h2;refine HB.out.2.1.ins HB.out.1.tw h3 _ (fO _ _) (λx hx j hj=>?_);obtain⟨j',lj,vn,FQ⟩:=HB.out.2.1.els x ((fO _ _).subset hx);have:j'=j:=by omega
    subst this;exact nf OR hw2 (cQ.2 (ax ⟨(p,l),h3,rfl,rfl⟩):(p,if p=p then dp l k ae else l)∈_) hx hj (cQ.2 (ax ⟨(j',lj),FQ,rfl,rfl⟩):(j',if j'=p then dp lj k ae else lj)∈_)
  clear iC bM jJ HT jK;go_wp2;go_ret2;exact HE.out
 ·have gy:(y==0)=false:=by simp[hy]
  have hO:T'=T/\made'=ae:=by
   rcases ht.2 with⟨_,_,h1,h2⟩ | ⟨h1,_⟩
   ·exact⟨h1,h2⟩
   ·exact absurd h1 hy
  have HE:Hid (vW w (.pointer (some ⟨b,0,none⟩)) T ae M rs kl F an af aj (.returned (.tuple #[.int .i64 n,.int .i64 y])) w1):=by
   obtain⟨h1,h2⟩:=hO;subst h1 h2;have qv:=hm M HB.out.1.mks;refine⟨y,T',made',n,kl,rfl,ht,⟨b,vS,v',bX,G,rfl,?_,?_,ax HB.out.2.2.1,λj hj=>(hv j hj).imp (HB.out.2.2.2.1 j) id,λj hj=>ax (HB.out.2.2.2.2.1 j hj),λk hk=>ax (HB.out.2.2.2.2.2 k hk)⟩,hf.mono (λk hk=>hk▸HB.out.2.2.1),na _ _⟩
   ·rw[aA hy] at qv ⊢;exact HB.out.1.tree hp HB.out.1.tw qv hf hv
   ·rw[aA hy];exact HB.out.2.1
  clear ht hp hf hv hm hO hy;go_wp2;go_ret2;exact HE.out
def vZ (n:Int)(e:Ending)(w':World):Prop:=
 ∃y T' dw,e=.returned (.int .i64 y)/\TRem T n y T'/\DSk w' px T' ae M rs dw (cV F w)/\Fr w w' F/\DropT (λx=>y=0/\dR T (bi T n) x=true) kl dw
theorem DF (n:Int)(h:DSk w px T ae M rs kl F):Calls prog 71 #[px,.int .i64 n] w λe w'=>vZ w px T ae M rs kl F n e w':=by
 obtain⟨b,vS,v,aa,G,rfl,h2,h3,h4,h5,h6,h7⟩:=h;obtain⟨a,c,K3⟩:=h2.pb.pl.shape;subst K3;have HB:Hid (DM w b vS (.slice a aa.length c) aa T ae M rs kl G/\KOK T M rs kl/\F b/\(∀j,(Value.slice a aa.length c).ownBlock=some j->F j)/\(∀j,vS.2.ownBlock=some j->F j)/\∀k,G k->F k):=⟨h2,h3,h4,h5,h6,h7⟩;have bJ:=h2.pb.few;clear h2 h3 h4 h5 h6 h7;go_enter func71,ntmps71;go_wp2_with fail;refine(jh w b _ aa n HB.out.1.pb.c1 HB.out.1.pb.pl bJ).mono ?_;rintro e w1 ⟨rfl,cH⟩;have jK:=aw (HB.out.1.below cH);have HP:=aw (HB.out.1.pb.pt.parP HB.out.1.tw n);have eu:=aw cH;clear cH;generalize parP aa n=an at HP ⊢;have MM:=yd bJ an;go_wp2_with fail;refine(xY w1 b a c aa an jK.out.trd).mono ?_;rintro e w2 ⟨al,cl,rfl,eo,dk⟩;have oZ:=aw (jK.out.below dk);have eM:=aw (eu.out.trans (dk.mono eu.out.size));have J0:=aw eo;clear eo dk;go_wp2_with fail;refine(Qn w2 b vS _ aa T ae n oZ.out.pb oZ.out.tw).mono ?_;rintro e w3 ⟨y,T',v',bX,rfl,ht,hp,hf,hv,hm⟩;have JV:Hid (Fr w w3 (λk=>k=b)):=((Fr.refl w (λk=>k=b)).below eM.out).trans hf;have HV:Hid (∀j,v'.ownBlock=some j->(Value.slice a aa.length c).ownBlock=some j∨w.heap.size<=j):=λj hj=>(hv j hj).imp id (λh=>Nat.le_trans eM.out.size h)
 have vE:TW T' ae:=by
  rcases ht.2 with⟨_,h1⟩ | ⟨_,x,_,h0,⟨l,hl⟩,h1⟩
  ·rw[h1];exact HB.out.1.tw
  ·rw[h1];exact HB.out.1.tw.rem hl h0
 have Q6:=aw (oZ.out.tree hp vE (hm M HB.out.1.mks) hf hv)
 have HRI:Hid (RowI w3 al (eF aa an)):=by
  refine RowI.own (jD (ba J0.out bm) (λk hk hl=>hf.block k hl (λe=>?_)));have h1:=(J0.out.lt k hk).1;have h2:=jK.out.lt;omega
 have HT:=aw ht;clear ht hp hf hv hm vE
 by_cases hy:y=0
 ·have gy:(y==0)=true:=by simp[hy]
  have HY:=aw hy;clear hy;go_wp2_with fail;refine(AP w3 b _ vS.2 kl al cl (eF aa an) Q6.out.pb.doc rfl Q6.out.kp Q6.out.few HRI.out MM).mono ?_;intro e w4 hd;obtain⟨rfl,v2,iC,bM,jJ⟩:=Q6.out.dropped hd
  have HE:Hid (vZ w (.pointer (some ⟨b,0,none⟩)) T ae M rs kl F n (.returned (.int .i64 y)) w4):=by
   refine⟨y,T',ew (eF aa an) kl,rfl,HT.out,⟨b,(vS.1,v2),v',bX,G,rfl,iC,?_,ax HB.out.2.2.1,λj hj=>(HV.out j hj).imp (HB.out.2.2.2.1 j) id,λj hj=>az (Nat.le_trans JV.out.size (jJ j hj)),λk hk=>ax (HB.out.2.2.2.2.2 k hk)⟩,(JV.out.trans bM).mono (λk hk=>hk▸HB.out.2.2.1),tJ (λx hx=>⟨HY.out,by rw[<-HP.out];exact jF HB.out.1.pb.pt HB.out.1.tw hx⟩) _⟩;rcases HT.out.2 with⟨h1,_⟩ | ⟨_,x,hn,h0,⟨l,hl⟩,h1⟩
   ·exact absurd HY.out h1
   ·obtain⟨q,hq,S6,kK⟩:=HB.out.1.tw.up hl h0;have fi:an=(q.1:Int):=by rw[HP.out,hn,kK]
    rw[h1];refine HB.out.2.1.rem HB.out.1.tw hl h0 hq S6 (fO _ _) (λz hz j hj=>?_);obtain⟨j',lj,vn,FQ⟩:=HB.out.2.1.els z ((fO _ _).subset hz);have:j'=j:=by omega
    subst this;rw[fi] at hz;exact nf HB.out.1.pb.pt HB.out.1.tw (p:=q.1) (l:=q.2) hq hz hj FQ
  clear hd iC bM jJ Q6 HRI J0 oZ;go_wp2;go_ret;exact HE.out
 ·have gy:(y==0)=false:=by simp[hy]
  have HE:Hid (vZ w (.pointer (some ⟨b,0,none⟩)) T ae M rs kl F n (.returned (.int .i64 y)) w3):=by
   refine⟨y,T',kl,rfl,HT.out,⟨b,vS,v',bX,G,rfl,Q6.out,?_,ax HB.out.2.2.1,λj hj=>(HV.out j hj).imp (HB.out.2.2.2.1 j) id,λj hj=>ax (HB.out.2.2.2.2.1 j hj),λk hk=>ax (HB.out.2.2.2.2.2 k hk)⟩,JV.out.mono (λk hk=>hk▸HB.out.2.2.1),na _ _⟩;rcases HT.out.2 with⟨_,h1⟩ | ⟨h1,_⟩
   ·rw[h1];exact HB.out.2.1
   ·exact absurd h1 hy
  clear hy;go_wp2;go_ret;exact HE.out
def vX (n m af:Int)(e:Ending)(w':World):Prop:=
 ∃y T' dw,e=.returned (.int .i64 y)/\TMov T n m af y T'/\DSk w' px T' ae M rs dw (cV F w)/\Fr w w' F/\DropT (λx=>y=0/\(dR T' (bi T n) x=true∨dR T' m x=true)) kl dw
theorem DB (n m af:Int)(h:DSk w px T ae M rs kl F):Calls prog 74 #[px,.int .i64 n,.int .i64 m,.int .i64 af] w λe w'=>vX w px T ae M rs kl F n m af e w':=by
 obtain⟨b,vS,v,aa,G,rfl,h2,h3,h4,h5,h6,h7⟩:=h;obtain⟨a,c,K3⟩:=h2.pb.pl.shape;subst K3;have HB:Hid (DM w b vS (.slice a aa.length c) aa T ae M rs kl G/\KOK T M rs kl/\F b/\(∀j,(Value.slice a aa.length c).ownBlock=some j->F j)/\(∀j,vS.2.ownBlock=some j->F j)/\∀k,G k->F k):=⟨h2,h3,h4,h5,h6,h7⟩;have bJ:=h2.pb.few;clear h2 h3 h4 h5 h6 h7;go_enter func74,ntmps74;go_wp2_with fail;refine(jh w b _ aa n HB.out.1.pb.c1 HB.out.1.pb.pl bJ).mono ?_;rintro e w1 ⟨rfl,cH⟩;have jK:=aw (HB.out.1.below cH);have HP:=aw (HB.out.1.pb.pt.parP HB.out.1.tw n);have eu:=aw cH;clear cH;generalize parP aa n=an at HP ⊢;go_wp2_with fail;refine(Qj w1 b vS _ aa T ae n m af jK.out.pb jK.out.tw).mono ?_;rintro e w3 ⟨y,T',v',bX,rfl,ht,hp,hf,hv,hm⟩;have JV:Hid (Fr w w3 (λk=>k=b)):=((Fr.refl w (λk=>k=b)).below eu.out).trans hf;have HV:Hid (∀j,v'.ownBlock=some j->(Value.slice a aa.length c).ownBlock=some j∨w.heap.size<=j):=λj hj=>(hv j hj).imp id (λh=>Nat.le_trans eu.out.size h)
 have vE:TW T' ae:=by
  rcases ht.2 with⟨_,h1⟩ | ⟨_,x,p,k,_,_,_,h0,⟨l,hl⟩,⟨lp,S5,_⟩,KU,h1⟩
  ·rw[h1];exact HB.out.1.tw
  ·rw[h1];exact HB.out.1.tw.mov hl h0 S5 KU
 have Q6:=aw (jK.out.tree hp vE (hm M HB.out.1.mks) hf hv);have HT:=aw ht;clear ht hp hf hv hm vE
 by_cases hy:y=0
 ·have gy:(y==0)=true:=by simp[hy]
  have HY:=aw hy;clear hy;go_wp2_with fail;refine(jB w3 b vS v' bX T' ae M rs kl G an Q6.out).mono ?_;rintro e w4 ⟨rfl,v4,SU,ju,hv4⟩;have Vp:=bZ SU ju;clear SU ju hv4;go_wp2_with fail;refine(jB w4 b (vS.1,v4) v' bX T' ae M rs _ G m Vp.out.1).mono ?_;rintro e w5 ⟨rfl,v5,GO,GQ,G3⟩
  have HE:Hid (vX w (.pointer (some ⟨b,0,none⟩)) T ae M rs kl F n m af (.returned (.int .i64 y)) w5):=by
   have zk:(ew (eF bX m) (ew (eF bX an) kl)).Sublist kl:=(fO _ _).trans (fO _ _);refine⟨y,T',ew (eF bX m) (ew (eF bX an) kl),rfl,HT.out,⟨b,(vS.1,v5),v',bX,G,rfl,GO,?_,ax HB.out.2.2.1,λj hj=>(HV.out j hj).imp (HB.out.2.2.2.1 j) id,λj hj=>az (Nat.le_trans JV.out.size (Nat.le_trans Vp.out.2.size (G3 j hj))),λk hk=>ax (HB.out.2.2.2.2.2 k hk)⟩,((JV.out.trans Vp.out.2).trans GQ).mono (λk hk=>hk▸HB.out.2.2.1),(tJ (λx hx=>⟨HY.out,ax (by rw[<-HP.out];exact jF GO.pb.pt GO.tw hx)⟩) _).trans (tJ (λx hx=>⟨HY.out,az (jF GO.pb.pt GO.tw hx)⟩) _)⟩;rcases HT.out.2 with⟨h1,_⟩ | ⟨_,x,p,k,hn,hmp,_,h0,⟨l,hl⟩,⟨lp,S5,_⟩,KU,h1⟩
   ·exact absurd HY.out h1
   ·obtain⟨q,hq,S6,kK⟩:=HB.out.1.tw.up hl h0;have fi:an=(q.1:Int):=by rw[HP.out,hn,kK]
    have OR:=GO.pb.pt;have hw5:=GO.tw;subst h1;refine HB.out.2.1.mov HB.out.1.tw hl h0 S5 KU hq S6 zk (λz hz j hj=>?_);obtain⟨j',lj,vn,FQ⟩:=HB.out.2.1.els z (zk.subset hz);have:j'=j:=by omega
    subst this;have mem:∀i li,(i,li)∈T->∃l,(i,l)∈lU T x p k:=λi li hi=>⟨if i=p then dp (aG x (if i=q.1 then aG x li else li)) k x else if i=q.1 then aG x li else li,(ed kK).2 ⟨(i,li),hi,rfl,rfl⟩⟩;obtain⟨lq',Ap⟩:=mem q.1 q.2 hq;obtain⟨lp',uF⟩:=mem p lp S5;obtain⟨lj',hjT'⟩:=mem j' lj FQ;rw[fi,hmp] at hz;exact⟨nf OR hw5 Ap ((fO _ _).subset hz) hj hjT',nf OR hw5 uF hz hj hjT'⟩
  clear GO GQ G3 Vp Q6;go_wp2;go_ret;exact HE.out
 ·have gy:(y==0)=false:=by simp[hy]
  have HE:Hid (vX w (.pointer (some ⟨b,0,none⟩)) T ae M rs kl F n m af (.returned (.int .i64 y)) w3):=by
   refine⟨y,T',kl,rfl,HT.out,⟨b,vS,v',bX,G,rfl,Q6.out,?_,ax HB.out.2.2.1,λj hj=>(HV.out j hj).imp (HB.out.2.2.2.1 j) id,λj hj=>ax (HB.out.2.2.2.2.1 j hj),λk hk=>ax (HB.out.2.2.2.2.2 k hk)⟩,JV.out.mono (λk hk=>hk▸HB.out.2.2.1),na _ _⟩;rcases HT.out.2 with⟨_,h1⟩ | ⟨h1,_⟩
   ·rw[h1];exact HB.out.2.1
   ·exact absurd h1 hy
  clear hy;go_wp2;go_ret;exact HE.out
end
end
section
theorem TE {x:PEl}(h1:x.num=0)(h2:x.par=-1):PT [x] [(0,[])]:=by
 refine⟨by simp,λe he=>?_,λn l hl=>?_,λn l hl=>?_,λe he _=>?_⟩
 ·rw[ft] at he;rw[he,h1];exact⟨[],by simp⟩
 ·rw[ft] at hl;injection hl with hl _
  exact⟨x,by simp,by rw[h1,hl]⟩
 ·rw[ft] at hl;injection hl with hl FT
  subst hl FT;rw[qc,aA (by rw[h2];decide)]
 ·rw[ft] at he;rw[he];exact h2
def MS (w:World)(s aq:ByteArray)(e:Ending)(w':World):Prop:=
 Below w.heap.size w w'/\((eC s aq≠0/\e=.returned (.tuple #[.pointer none,.int .i64 (eC s aq)]))∨(eC s aq=0/\∃px,e=.returned (.tuple #[px,.int .i64 0])/\DSk w' px [(0,[])] 1 (λ_=>eh aq) (eQ s) [] (λk=>w.heap.size<=k)))
theorem DD (w:World)(s aq:ByteArray)(hs:s.size<=maxLen):Calls prog 25 #[.string s,.string aq] w λe w'=>MS w s aq e w':=by
 go_enter func25,ntmps25;go_wp2_with fail;refine(pP w s hs).mono ?_;rintro e w1 ⟨a,n,c,rfl,cH,tP⟩
 by_cases hc:(eH s).1=0
 ·have HN:Hid (eC s aq=if aQ aq=false then 4 else 0):=by unfold Hid eC;rw[aA (λh=>h hc)]
  have FJ:Hid (SheetIn w1 (λk=>w.heap.size<=k/\k<w1.heap.size) (.slice a n c) (eQ s)):=by
   obtain⟨rs,xs,h1,h2,h3,h4⟩:=tP hc;exact Fe hc h1 h2 h3 h4
  clear tP;rw[hc];clear hc;generalize (eH s).2=place;go_wp2_with fail;refine(Ql _ aq).mono ?_;rintro e w3 ⟨fA,hO⟩;have hB:Below w.heap.size w w3:=(cH.alloc cH.size _).trans (fA.mono (by have:=cH.size;simp;omega));have q6:w3.cell? ⟨w1.heap.size,0,none⟩=some (.slice a n c):=(fA.cell (p:=⟨w1.heap.size,0,none⟩) (by simp)).trans (au (heap_alloc_new w1 _) rfl);have G4:w1.heap.size<w3.heap.size:=by have:=fA.size;simp at this;omega
  have iP:Hid (Below w1.heap.size w1 w3):=(bo.alloc aF _).trans (fA.mono (by simp));clear fA;rcases hO with⟨hl,rfl⟩ | ⟨hl,g,x,rfl,XN,Ar,FY,ml,hg⟩
  ·have HE:Hid (eC s aq=4):=by unfold Hid;rw[HN.out,aE hl]
   clear hl HN;go_wp2;go_ret2;refine⟨hB.alloc hB.size _,ax ⟨by rw[HE.out];decide,by rw[HE.out];rfl⟩⟩
  ·have HE:Hid (eC s aq=0):=by unfold Hid;rw[HN.out,aA (by rw[hl];decide)]
   have HX:Hid (PL w3 (.slice (some ⟨g,0,none⟩) 1 1) [x]/\PT [x] [(0,[])]/\w1.heap.size<=g/\MkO [x] (λ_=>eh aq)):=⟨ml,TE XN Ar,by simp at hg;omega,(FY (λ_=>eh aq)).ext (λy _=>by unfold bU;split<;>rfl)⟩;have RL:Hid (∀w',Below w1.heap.size w1 w'->SheetIn w' (λk=>w.heap.size<=k/\k<w1.heap.size) (.slice a n c) (eQ s)):=λw' hb=>FJ.out.keep (λk hk _=>hb.block k hk.2) hb.size;have XV:=aw iP.out;clear hl HN XN Ar ml hg FY;go_wp2;go_ret2;have hz:=hB.size;have adx:=XV.out.size;have e1:(w3.alloc (.cells #[.slice (some ⟨g,0,none⟩) 1 1,.int .i64 1] 122)).heap.size=w3.heap.size+1:=by simp
   have D2:=HX.out.2.2.1;have hw1:=cH.size;have di:g<w3.heap.size:=(HX.out.1.row.lt g rfl).2;refine⟨(hB.alloc hz _).alloc (by simp;omega) _,az ⟨HE.out,_,rfl,w3.heap.size+1,(.slice a n c,.slice none 0 0),.slice (some ⟨g,0,none⟩) 1 1,[x],λk=>w.heap.size<=k/\k<w1.heap.size,rfl,⟨⟨?_,⟨(HX.out.1.row.alloc _).alloc _,HX.out.1.ok⟩,HX.out.2.1,by simp⟩,JE,HX.out.2.2.2,RL.out _ ((XV.out.alloc adx _).alloc (by simp;omega) _),⟨eB,λx hx=>by cases hx⟩,by simp,λk hk=>by have:=hk.2;simp;omega,λhk=>by have:=hk.2;omega,λj hj hk=>?_,λj hj=>by simp[Value.ownBlock] at hj⟩,I7,by show w.heap.size<=_;omega,λj hj=>?_,λj hj=>by simp[Value.ownBlock] at hj,λk hk=>hk.1⟩⟩
   ·rw[<-e1];exact heap_alloc_new _ _
   ·simp[Value.ownBlock] at hj;have:=hk.2;omega
   ·simp[Value.ownBlock] at hj;show w.heap.size<=j;omega
 ·have HN:Hid (eC s aq=(eH s).1):=by unfold Hid eC;rw[aE hc]
  have HC:=aw hc;generalize (eH s).2=place;generalize (eH s).1=y at HN HC hc ⊢;have gy:(y != 0)=true:=by simp[hc]
  clear hc;go_wp2;go_ret2;exact⟨cH.alloc cH.size _,ax ⟨by rw[HN.out];exact HC.out,by rw[HN.out];rfl⟩⟩
end
section
open Go.ChangeShapes Go.WideShapes Go.ChangeAt Go.RowKit
variable {H:Type}
theorem NB (d:DataW H):1<=Rows.uptoBulk d:=by
 cases d with
 | lit l=>cases l<;>simp[Rows.uptoBulk]
 | _=>simp[Rows.uptoBulk]
theorem tC {k:Nat}:∀(l:List (DataW H)),(∀d∈l,k<=Rows.uptoBulk d)->k*l.length<=Rows.uptoBulkAll l
 | [],_=>by simp
 | d :: l,h=>by
  have h1:=h d List.mem_cons_self;have h2:=tC l (λx hx=>h x (List.mem_cons_of_mem _ hx));rw[List.length_cons,Nat.mul_succ];simp only[Rows.uptoBulkAll];omega
theorem CA {enc:TypeId × Value->H}{W:World}{a0:Option Addr}{len ij KB:Nat}{x:DataW H × List MemPlace}(h:DataW.trod enc prog W 0 (λ_=>true) true KB 22 [.slice a0 len ij]=some x)(hb:Rows.uptoBulk x.1<=1048576):len<=131072:=by
 rcases Go.Deep.open_slice underlying22 h with⟨kr,_⟩ | ⟨a,len',cap',m,n,D,Pl,kr,_,hl,_,Pb,rfl,hx⟩
 ·simp only[List.cons.injEq,Value.slice.injEq,and_true] at kr;omega
 ·simp only[List.cons.injEq,Value.slice.injEq,and_true] at kr;obtain⟨_,rfl,rfl⟩:=kr;simp only[if_true] at Pb
  have h9:∀d∈(List.range len).map D,9<=Rows.uptoBulk d:=by
   intro d hd;obtain⟨i,hi,rfl⟩:=bx.1 hd;rw[List.mem_range] at hi;obtain⟨V0,_,h2⟩:=hx i (by omega);obtain⟨xs,k,_,hd,_,WM,_⟩:=DataW.trod_struct underlying32 h2;injection hd with hd _
   rw[hd];have h8:=tC (k:=1) (xs.map (·.1)) (λd _=>NB d);rw[List.length_map,WM] at h8;simp only[Rows.uptoBulk];have:(1:Nat)*8<=Rows.uptoBulkAll (xs.map (·.1)):=h8;omega
  have h3:=tC _ h9;rw[List.length_map,List.length_range] at h3;simp only[Rows.uptoBulk] at hb;omega
end
section
variable {r:Nat}
def eT (p:Nat):Int:=if 5<p then 0 else(p:Int)+1
def jr (p:Nat):Bool:=decide (p<3)||decide (5<p)
theorem mo (w:World)(p:Nat)(hp:p<9):Calls prog 103 #[.int .i64 p] w λe w'=>e=.returned (.int .i64 (eT p))/\w'=w:=by
 by_cases h:5<p
 ·have HE:Hid (eT p=0):=by unfold Hid eT;rw[aE h]
  have hd:decide ((5:Int)<(p:Int))=true:=by simp;omega
  clear h;go_enter func103,ntmps103;go_wp2;go_ret;rw[HE.out];exact⟨rfl,rfl⟩
 ·have HE:Hid (eT p=(p:Int)+1):=by unfold Hid eT;rw[aA h]
  have hd:decide ((5:Int)<(p:Int))=false:=by simp;omega
  clear h;go_enter func103,ntmps103;go_wp2;go_ret;rw[HE.out];exact⟨rfl,rfl⟩
theorem Ac (w:World)(p:Nat)(hp:p<9):Calls prog 131 #[.int .i64 p] w λe w'=>e=.returned (.bool (jr p))/\w'=w:=by
 by_cases h3:p<3
 ·have HE:Hid (jr p=true):=by unfold Hid jr;simp[h3]
  have hd:decide ((p:Int)<3)=true:=by simp;omega
  clear h3;go_enter func131,ntmps131;go_wp2;go_ret;rw[HE.out];exact⟨rfl,rfl⟩
 ·have hd:decide ((p:Int)<3)=false:=by simp;omega
  by_cases h:5<p
  ·have HE:Hid (jr p=true):=by unfold Hid jr;simp[h]
   have iC:decide ((5:Int)<(p:Int))=true:=by simp;omega
   clear h h3;go_enter func131,ntmps131;go_wp2;go_ret;rw[HE.out];exact⟨by simp,rfl⟩
  ·have HE:Hid (jr p=false):=by unfold Hid jr;simp[h,h3]
   have iC:decide ((5:Int)<(p:Int))=false:=by simp;omega
   clear h h3;go_enter func131,ntmps131;go_wp2;go_ret;rw[HE.out];exact⟨by simp,rfl⟩
def Nd (af a b:Nat):Prop:=∃k,k<=af/\a*k+b=af
open Classical in
noncomputable def lQ (af a b:Nat):Bool:=decide (Nd af a b)
theorem rl {af a b:Nat}:lQ af a b=true↔Nd af a b:=by simp[lQ]
theorem EP (w:World)(af a b:Nat)(B1:af<=24)(ha:a<=9)(hb:b<=9):Calls prog 172 #[.int .i64 af,.int .i64 a,.int .i64 b] w λe w'=>e=.returned (.bool (lQ af a b))/\w'=w:=by
 go_enter func172,ntmps172;go_wp2
 go_loop [7] (λiv=>∃i:Nat,iv=.int .i64 i/\i<=af+1/\Hid (∀k,k<i->a*k+b≠af)) (λiv=>af+1 - (intOf iv).toNat)
 case atStart=>exact⟨0,rfl,bm,λk hk=>by omega⟩
 case round=>
  obtain⟨i,rfl,hi,HN⟩:=hrel
  by_cases bc:i<=af
  ·have hd:decide ((i:Int)<=(af:Int))=true:=by simp;omega
   have hm:a*i<=9*24:=Nat.mul_le_mul ha (by omega);have HM:Hid (∀m,a*i=m->(a*i+b=af↔m+b=af)):=λm h=>by rw[h]
   have hmi:(a:Int)*(i:Int)=((a*i:Nat):Int):=by push_cast;rfl
   by_cases he:a*i+b=af
   ·have HE:Hid (lQ af a b=true):=rl.2 ⟨i,bc,he⟩;have ge:(((a*i:Nat):Int)+(b:Int)==(af:Int))=true:=by rw[beq_iff_eq];omega
    clear he;generalize a*i=m at hm hmi ge;go_wp2;go_ret;rw[HE.out];exact⟨rfl,rfl⟩
   ·have ge:(((a*i:Nat):Int)+(b:Int)==(af:Int))=false:=by rw[fq];omega
    have fj:Hid (∀k,k<i+1->a*k+b≠af):=λk hk=>by
     by_cases e:k=i
     ·subst e;exact he
     ·exact HN.out k (by omega)
    clear he;generalize a*i=m at hm hmi ge;go_wp2
    go_round
    case rel=>exact⟨i+1,by go_num,by omega,fj⟩
    case measure=>simp[intOf];omega
  ·have hd:decide ((i:Int)<=(af:Int))=false:=by simp;omega
   have HE:Hid (lQ af a b=false):=by
    unfold Hid;cases hr:lQ af a b with
    | false=>rfl
    | true=>
     obtain⟨k,hk,h⟩:=rl.1 hr;exact absurd h (HN.out k (by omega))
   go_wp2;go_ret;rw[HE.out];exact⟨rfl,rfl⟩
def fw (c:Nat):Option Nat:=if 65<=c/\c<=70 then some (c - 65) else if 88<=c/\c<=90 then some (c - 82) else none
abbrev nine:ByteArray:=⟨#[65,66,67,68,69,70,88,89,90]⟩
theorem Lg:nine.size=9:=rfl
theorem Cd (h:r<9):(r<6/\bt nine r=65+r)∨(6<=r/\bt nine r=82+r):=by
 have:r=0∨r=1∨r=2∨r=3∨r=4∨r=5∨r=6∨r=7∨r=8:=by omega
 rcases this with rfl | rfl | rfl | rfl | rfl | rfl | rfl | rfl | rfl
 ·exact ax ⟨by omega,rfl⟩
 ·exact ax ⟨by omega,rfl⟩
 ·exact ax ⟨by omega,rfl⟩
 ·exact ax ⟨by omega,rfl⟩
 ·exact ax ⟨by omega,rfl⟩
 ·exact ax ⟨by omega,rfl⟩
 ·exact az ⟨by omega,rfl⟩
 ·exact az ⟨by omega,rfl⟩
 ·exact az ⟨by omega,rfl⟩
theorem QX {c:Nat}(h:VS nine 0 c r):(r<9/\fw c=some r)∨(r=9/\fw c=none):=by
 obtain⟨_,h2,h3,h4⟩:=h;rw[Lg] at h2 h4
 by_cases hr:r<9
 ·left;refine⟨hr,?_⟩;have hc:=h4 hr;unfold fw;rcases Cd hr with⟨h5,h6⟩ | ⟨h5,h6⟩
  ·rw[aE (by omega)]
   congr 1
   omega
  ·rw[aA (by omega),aE (by omega)]
   congr 1
   omega
 ·right;refine⟨by omega,?_⟩;unfold fw;rw[aA,aA]
  ·intro hc;have h7:=h3 (c - 82) (by omega) (by omega);rcases Cd (r:=c - 82) (by omega) with⟨h5,h6⟩ | ⟨h5,h6⟩<;>omega
  ·intro hc;have h7:=h3 (c - 65) (by omega) (by omega);rcases Cd (r:=c - 65) (by omega) with⟨h5,h6⟩ | ⟨h5,h6⟩<;>omega
def YK (w:World)(c:Nat)(e:Ending)(w':World):Prop:=∃r:Nat,e=.returned (.int .i64 r)/\w'=w/\Hid ((r<9/\fw c=some r)∨(r=9/\fw c=none))
theorem qn (w:World)(c:Nat):Calls prog 53 #[.string nine,.int .i64 0,.int .u8 c] w λe w'=>YK w c e w':=
 (nS w nine 0 c (by decide) (by decide)).mono λ_ _ ⟨r,h1,h2,h3⟩=>⟨r,h1,h2,QX h3⟩
def lP (s:ByteArray):Option Nat:=if s.size=1 then fw (bt s 0) else none
def AT (o:Option Nat):Int:=match o with | some p=>p | none=>-1
theorem zx (w:World)(s:ByteArray):Calls prog 64 #[.string s] w λe w'=>e=.returned (.int .i64 (AT (lP s)))/\w'=w:=by
 by_cases h1:s.size=1
 ·have g1:((s.size:Int) != 1)=false:=by simp[h1]
  have h0:0<s.size:=by omega
  have hb:(s[0].toNat:Int)=(bt s 0:Int):=by rw[bV s 0 h0]
  have HP:Hid (lP s=fw (bt s 0)):=by unfold Hid lP;rw[aE h1]
  clear h1;go_enter func64,ntmps64;go_wp2_with fail;have nz:=qn w (bt s 0);refine nz.mono ?_;rintro e w1 ⟨r,rfl,rfl,HR⟩;rcases HR.out with⟨hr,hp⟩ | ⟨hr,hp⟩
  ·have HE:Hid (AT (lP s)=r):=by unfold Hid;rw[HP.out,hp];rfl
   have g9:((r:Int)==9)=false:=by rw[fq];omega
   clear hp hb nz;go_wp2;go_ret;rw[HE.out];exact⟨rfl,rfl⟩
  ·have HE:Hid (AT (lP s)=-1):=by unfold Hid;rw[HP.out,hp];rfl
   subst hr;clear hp hb nz;go_wp2;go_ret;rw[HE.out];exact⟨rfl,rfl⟩
 ·have g1:((s.size:Int) != 1)=true:=by rw[bne_iff_ne];omega
  have HE:Hid (AT (lP s)=-1):=by unfold Hid lP;rw[aA h1];rfl
  clear h1;go_enter func64,ntmps64;go_wp2;go_ret;rw[HE.out];exact⟨rfl,rfl⟩
end
def iZ (l:List Nat)(n:Int):Nat->Nat
 | 0=>0
 | i+1=>if(l[i]?.map λk:Nat=>(k:Int))=some n then i+1 else iZ l n i
theorem Az (l:List Nat)(n:Int):∀i,iZ l n i<=i
 | 0=>aF
 | i+1=>by
  unfold iZ;split
  ·exact aF
  ·exact Nat.le_succ_of_le (Az l n i)
def dg (aa:List REl)(n:Int):Nat × Nat:=if bn aa n<0 then(1,1) else match bR aa (bn aa n) with | some p=>(iZ p.kids n p.kids.length,p.kids.length) | none=>(0,0)
theorem CF {w:World}{d:Nat}{aa:List REl}{ae:Nat}{hp:Option Addr}{vT:Value}{br:Bool}{vL:Value}(h:RD w d aa ae hp vT br vL)(n:Int):(dg aa n).1<=24/\(dg aa n).2<=24:=by
 unfold dg;split
 ·exact⟨by decide,by decide⟩
 ·cases hf:bR aa (bn aa n) with
  | none=>exact⟨bm,bm⟩
  | some p=>
   have h1:=h.kfew p (cY hf).1;have h2:=Az p.kids n p.kids.length;exact⟨by show iZ _ _ _<=24;omega,h1⟩
theorem yw (w:World)(d:Nat)(aa:List REl)(ae:Nat)(hp:Option Addr)(vT:Value)(br:Bool)(vL:Value)(n:Int)(h:RD w d aa ae hp vT br vL):
  Calls prog 163 #[.pointer (some ⟨d,0,none⟩),.int .i64 n] w λe w'=>e=.returned (.tuple #[.int .i64 (dg aa n).1,.int .i64 (dg aa n).2])/\w'=w:=by
 have HR:=aw h;clear h;go_enter func163,ntmps163;go_wp2_with fail;refine(gG _ d aa ae hp vT br _ n HR.out).mono ?_;rintro e w1 ⟨rfl,rfl⟩;obtain⟨w,rfl⟩:∃w,w=w1:=⟨_,rfl⟩
 by_cases IY:bn aa n<0
 ·have HE:Hid (dg aa n=(1,1)):=by unfold Hid dg;rw[aE IY]
  have gp:decide (bn aa n<0)=true:=by simpa using IY
  clear IY;generalize bn aa n=q at gp ⊢;go_wp2;go_ret2;rw[HE.out];exact⟨rfl,rfl⟩
 ·obtain⟨p,CQ⟩:=xg IY;have HE:Hid (dg aa n=(iZ p.kids n p.kids.length,p.kids.length)):=by unfold Hid dg;rw[aA IY,CQ]
  have gp:decide (bn aa n<0)=false:=by simpa using IY
  have HF:=aw CQ;have fJ:=(cY CQ).1;have e4:=(eZ (HR.out.el p fJ)).2;have sb:=HR.out.kid p fJ;have SO:=HR.out.kfew p fJ;obtain⟨ak,ck,te⟩:=aK sb;rw[te] at e4 sb;have HK:=aw sb;clear IY CQ fJ sb te;generalize bn aa n=q at gp HF ⊢;go_wp2_with fail;refine(eJ _ d aa ae hp vT br vL q HR.out).mono ?_;rintro e w1 ⟨rfl,rfl⟩;obtain⟨w,rfl⟩:∃w,w=w1:=⟨_,rfl⟩;rw[HF.out];have he:fk (some p)=.pointer (some ⟨p.blk,0,none⟩):=rfl;rw[he];clear he;go_wp2_with fail
  go_loop [8,9] (λav iv=>∃i:Nat,iv=.int .i64 i/\i<=p.kids.length/\av=.int .i64 (iZ p.kids n i)) (λ_ iv=>p.kids.length - (intOf iv).toNat)
  case atStart=>exact⟨0,rfl,bm,rfl⟩
  case round=>
   obtain⟨i,rfl,hi,rfl⟩:=hrel
   by_cases bc:i<p.kids.length
   ·have hd:decide ((i:Int)<(p.kids.length:Int))=true:=by simp;omega
    obtain⟨g,hg,_,hc⟩:=aX HK.out (by omega);subst hg;have q1:=hc i (.int .i64 ((p.kids[i]:Nat):Int)) (by simp[bc])
    have HL:Hid (iZ p.kids n (i+1)=if((p.kids[i]:Nat):Int)=n then i+1 else iZ p.kids n i):=by
     unfold Hid;show(if _ then _ else _)=_;rw[bW bc];simp
    clear hc;generalize p.kids[i]=k at q1 HL
    by_cases hn:((k:Nat):Int)=n
    ·have gn:((k:Int)==n)=true:=by simp[hn]
     have X8:Hid (iZ p.kids n (i+1)=i+1):=by unfold Hid;rw[HL.out,aE hn]
     clear hn HL;go_wp2
     go_round
     case rel=>exact⟨i+1,by go_num,by omega,by rw[X8.out];go_num⟩
     case measure=>simp[intOf];omega
    ·have gn:((k:Int)==n)=false:=by simp[hn]
     have X8:Hid (iZ p.kids n (i+1)=iZ p.kids n i):=by unfold Hid;rw[HL.out,aA hn]
     clear hn HL;go_wp2
     go_round
     case rel=>exact⟨i+1,by go_num,by omega,by rw[X8.out]⟩
     case measure=>simp[intOf];omega
   ·have hd:decide ((i:Int)<(p.kids.length:Int))=false:=by simp;omega
    obtain rfl:i=p.kids.length:=by omega
    go_wp2;go_ret2;rw[HE.out];exact⟨rfl,rfl⟩
noncomputable def dA (aa:List REl)(a:Int)(sg:Nat)(b:Int):Bool:=
 if sg=62 then decide (bn aa b=a)
 else if sg=32 then decide (0<=bn aa b)&&fb aa a (bn aa b)
 else if bn aa b<0∨bn aa b≠bn aa a then false
 else decide ((dg aa a).1+1=(dg aa b).1)||(decide (sg=126)&&decide ((dg aa a).1<(dg aa b).1))
theorem Hz (w:World)(d:Nat)(aa:List REl)(ae:Nat)(hp:Option Addr)(vT:Value)(br:Bool)(vL:Value)(a:Int)(sg:Nat)(b:Int)(h:RD w d aa ae hp vT br vL)(rk:Nat->Nat)(hr:rN aa rk):
  Calls prog 152 #[.pointer (some ⟨d,0,none⟩),.int .i64 a,.int .u8 sg,.int .i64 b] w λe w'=>e=.returned (.bool (dA aa a sg b))/\w'=w:=by
 have HR:=aw h;have HK:=aw hr;have hsa:=(CF h a).1;have hsb:=(CF h b).1;clear h hr;go_enter func152,ntmps152;go_wp2_with fail;refine(gG _ d aa ae hp vT br _ b HR.out).mono ?_;rintro e w1 ⟨rfl,rfl⟩;obtain⟨w,rfl⟩:∃w,w=w1:=⟨_,rfl⟩
 by_cases h62:sg=62
 ·have HE:Hid (dA aa a sg b=(bn aa b==a)):=by unfold Hid dA;rw[aE h62];by_cases e:bn aa b=a<;>simp[e]
  have g62:((sg:Int)==62)=true:=by simp[h62]
  clear h62;generalize bn aa b=q at HE ⊢;go_wp2;go_ret;rw[HE.out];exact⟨rfl,rfl⟩
 have g62:((sg:Int)==62)=false:=by rw[fq];omega
 by_cases h32:sg=32
 ·have g32:((sg:Int)==32)=true:=by simp[h32]
  by_cases h0:0<=bn aa b
  ·have HE:Hid (dA aa a sg b=fb aa a (bn aa b)):=by unfold Hid dA;rw[aA h62,aE h32];simp[h0]
   have g0:decide (0<=bn aa b)=true:=by simpa using h0
   clear h62 h32 h0;generalize bn aa b=q at HE g0 ⊢;go_wp2_with fail;refine(nR _ d aa ae hp vT br vL a q HR.out rk HK.out).mono ?_;rintro e w2 ⟨r,rfl,rfl,HU⟩;obtain⟨w,rfl⟩:∃w,w=w2:=⟨_,rfl⟩
   have HB:Hid (fb aa a q=r):=by
    unfold Hid;have h1:=HU.out;rw[<-ko] at h1;cases r<;>cases hu:fb aa a q<;>simp_all
   clear HU;go_wp2;go_ret;rw[HE.out,HB.out];exact⟨by simp,rfl⟩
  ·have HE:Hid (dA aa a sg b=false):=by unfold Hid dA;rw[aA h62,aE h32];simp[h0]
   have g0:decide (0<=bn aa b)=false:=by simpa using h0
   clear h62 h32 h0;generalize bn aa b=q at g0 ⊢;go_wp2;go_ret;rw[HE.out];exact⟨by simp,rfl⟩
 have g32:((sg:Int)==32)=false:=by rw[fq];omega
 go_wp2_with fail;refine(gG _ d aa ae hp vT br _ a HR.out).mono ?_;rintro e w1 ⟨rfl,rfl⟩;obtain⟨w,rfl⟩:∃w,w=w1:=⟨_,rfl⟩
 by_cases ld:bn aa b<0∨bn aa b≠bn aa a
 ·have HE:Hid (dA aa a sg b=false):=by unfold Hid dA;rw[aA h62,aA h32,aE ld]
  clear h62 h32
  by_cases h0:bn aa b<0
  ·have g0:decide (bn aa b<0)=true:=by simpa using h0
   clear ld h0;generalize bn aa b=q at g0 ⊢;generalize bn aa a=q2;go_wp2;go_ret;rw[HE.out];exact⟨rfl,rfl⟩
  ·have g0:decide (bn aa b<0)=false:=by simpa using h0
   have g1:(bn aa b != bn aa a)=true:=by rw[bne_iff_ne];exact ld.resolve_left h0
   clear ld h0;generalize bn aa b=q at g0 g1 ⊢;generalize bn aa a=q2 at g1 ⊢;go_wp2;go_ret;rw[HE.out];exact⟨rfl,rfl⟩
 ·have HE:Hid (dA aa a sg b=(decide ((dg aa a).1+1=(dg aa b).1)||(decide (sg=126)&&decide ((dg aa a).1<(dg aa b).1)))):=by unfold Hid dA;rw[aA h62,aA h32,aA ld]
  have h0:¬bn aa b<0:=λh=>ld (ax h);have h1:bn aa b=bn aa a:=Classical.byContradiction λh=>ld (az h);have g0:decide (bn aa b<0)=false:=by simpa using h0
  have g1:(bn aa b != bn aa a)=false:=by simp[h1]
  clear h62 h32 ld h0 h1;generalize bn aa b=q at g0 g1 ⊢;generalize bn aa a=q2 at g1 ⊢;go_wp2_with fail;refine(yw _ d aa ae hp vT br _ a HR.out).mono ?_;rintro e w1 ⟨rfl,rfl⟩;obtain⟨w,rfl⟩:∃w,w=w1:=⟨_,rfl⟩;go_wp2_with fail;refine(yw _ d aa ae hp vT br _ b HR.out).mono ?_;rintro e w1 ⟨rfl,rfl⟩;obtain⟨w,rfl⟩:∃w,w=w1:=⟨_,rfl⟩;generalize (dg aa a).1=i at HE hsa ⊢;generalize (dg aa b).1=k at HE hsb ⊢;generalize (dg aa a).2=i2;generalize (dg aa b).2=k2
  by_cases hik:i+1=k
  ·have gik:((i:Int)+1==(k:Int))=true:=by rw[beq_iff_eq];omega
   have C2:Hid (dA aa a sg b=true):=by unfold Hid;rw[HE.out,decide_eq_true hik];rfl
   clear hik HE;go_wp2;go_ret;rw[C2.out];exact⟨rfl,rfl⟩
  ·have gik:((i:Int)+1==(k:Int))=false:=by rw[fq];omega
   by_cases h126:sg=126
   ·have adr:((sg:Int)==126)=true:=by simp[h126]
    have C2:Hid (dA aa a sg b=decide ((i:Int)<(k:Int))):=by unfold Hid;rw[HE.out,decide_eq_false hik,decide_eq_true h126];by_cases e:i<k<;>simp[e]
    clear hik HE h126;go_wp2;go_ret;rw[C2.out];exact⟨by simp,rfl⟩
   ·have adr:((sg:Int)==126)=false:=by rw[fq];omega
    have C2:Hid (dA aa a sg b=false):=by unfold Hid;rw[HE.out,decide_eq_false hik,decide_eq_false h126];rfl
    clear hik HE h126;go_wp2;go_ret;rw[C2.out];exact⟨by simp,rfl⟩
section
variable {i q:Nat}{s:ByteArray}
def gw (s:ByteArray)(i:Nat):Nat:=if bt s i=33 then 1 else 0
def mZ (a b k:Nat):Nat:=if a=46∨a=35 then k+2 else if a=58 then(if b=110 then k+4 else k+2) else k+1
def cB (s:ByteArray)(i:Nat):Nat:=mZ (bt s (i+gw s i)) (bt s (i+gw s i+1)) (gw s i)
def rt (a:Nat):Nat:=if a=35 then 1000000 else if a=46∨a=58 then 1000 else if a=42 then 0 else 1
def kN (s:ByteArray)(i:Nat):Nat:=rt (bt s (i+gw s i))
def yX (s:ByteArray):Nat->Nat->List Nat->Prop
 | i,q,[]=>i=q
 | i,q,x :: xs=>i+cB s i<=q/\x=kN s i/\yX s (i+cB s i) q xs
theorem SL (a b k:Nat):k+1<=mZ a b k:=by unfold mZ;(repeat' split)<;>omega
theorem m6 (s:ByteArray)(i:Nat):gw s i+1<=cB s i:=SL _ _ _
theorem BG {b k:Nat}:k+2<=mZ 58 b k:=by unfold mZ;(repeat' split)<;>omega
theorem BI (h:i+cB s i<=q)(hq:q<=s.size):cB (s.extract i q) 0=cB s i/\kN (s.extract i q) 0=kN s i:=by
 have hk:=m6 s i;have e0:bt (s.extract i q) 0=bt s i:=by rw[bj hq (by omega)];rfl
 have eK:gw (s.extract i q) 0=gw s i:=by unfold gw;rw[e0]
 have e1:bt (s.extract i q) (0+gw s i)=bt s (i+gw s i):=by rw[Nat.zero_add,bj hq (by omega)]
 refine⟨?_,by unfold kN;rw[eK,e1]⟩;unfold cB at h ⊢;rw[eK,e1]
 by_cases h58:bt s (i+gw s i)=58
 ·rw[h58] at h ⊢;have:=@BG (bt s (i+gw s i+1)) (gw s i);rw[Nat.zero_add,bj hq (by omega)];rfl
 ·unfold mZ;simp only[h58,if_false]
theorem Ez {j:Nat}{p:PPt}(h':jP s i p j):i+cB s i=j/\kN s i=pw p.kd:=by
 have h:=h'.2;obtain⟨nt,kd,lt,st,sr⟩:=p
 by_cases i7:bt s i=33
 ·rw[aE i7] at h;have hk:gw s i=1:=by unfold gw;rw[aE i7]
  unfold cB kN;rw[hk]
  by_cases hl:gN (bt s (i+1))=true
  ·rw[aE hl] at h;obtain⟨h1,rfl⟩:=h;replace h1:kd=1:=h1;subst h1;simp only[gN,bO] at hl;constructor
   ·unfold mZ;rw[aA (by omega),aA (by omega)]
   ·unfold rt pw;rw[aA (by omega),aA (by omega),aA (by omega)];rfl
  ·rw[aA hl] at h;obtain⟨_,g1,g2,rfl,g4,_⟩:=h;replace g1:kd≠1:=g1;replace g2:kd=3↔_:=g2;constructor
   ·unfold mZ sl;rcases g4 with g | g | g<;>rw[g]<;>simp<;>(try omega)
    split<;>omega
   ·unfold rt pw
    by_cases g3:kd=3
    ·rw[aE (g2.1 g3),aE g3]
    ·rw[aA (λe=>g3 (g2.2 e)),aA g3,aA g1,aE (by have:bt s (i+1)≠35:=λe=>g3 (g2.2 e);omega)]
 ·rw[aA i7] at h;have hk:gw s i=0:=by unfold gw;rw[aA i7]
  unfold cB kN;rw[hk];obtain⟨_,g1,g2,rfl,g4,_⟩:=h;replace g1:kd≠1:=g1;replace g2:kd=3↔_:=g2;constructor
  ·unfold mZ sl;simp only[Nat.add_zero];rcases g4 with g | g | g<;>rw[g]<;>simp
  ·unfold rt pw;simp only[Nat.add_zero]
   by_cases g3:kd=3
   ·rw[aE (g2.1 g3),aE g3]
   ·rw[aA (λe=>g3 (g2.2 e)),aA g3,aA g1,aE (by have:bt s i≠35:=λe=>g3 (g2.2 e);omega)]
theorem oo:∀{ks:List PPt} {i j:Nat},PartsAt s i j ks->yX s i j (ks.map U9)
 | [],_,_,h=>h
 | k :: ks,i,j,⟨_,l,h2,h3⟩=>by
  obtain⟨e1,e2⟩:=Ez h2;have:=(pK h3).1;exact⟨by omega,e2.symm,by rw[e1];exact oo h3⟩
theorem zW {p ty:Nat}{ks:List PPt}(h:fp s p q ty ks)(kK:p<q):∃xs,yX s p q xs/\xs.sum=cw ty ks/\(∀x∈xs,x<=1000000)/\xs.length<=q - p:=by
 have hp:∀x∈ks.map U9,x<=1000000:=λx hx=>by obtain⟨k,_,rfl⟩:=bx.1 hx;exact Qr k.kd
 rcases h with⟨h1,h2,h3⟩ | ⟨h0,h1,h2,h3⟩ | ⟨_,_,h2,h3,_⟩
 ·simp only[gN,bO] at h1;have hk:gw s p=0:=by unfold gw;rw[aA (by omega)]
  have hl:=kf h3;refine⟨1 :: ks.map U9,⟨?_,?_,?_⟩,?_,?_,?_⟩
  ·unfold cB;rw[hk];unfold mZ;simp only[Nat.add_zero];rw[aA (by omega),aA (by omega)];omega
  ·unfold kN;rw[hk];unfold rt;simp only[Nat.add_zero];rw[aA (by omega),aA (by omega),aA (by omega)]
  ·rw[show cB s p=1 from by unfold cB;rw[hk];unfold mZ;simp only[Nat.add_zero];rw[aA (by omega),aA (by omega)]];exact oo h3
  ·simp only[List.sum_cons,cw,F0];rw[aA (by omega)]
  ·intro x hx;rcases List.mem_cons.1 hx with rfl | hx
   ·omega
   ·exact hp x hx
  ·simp only[List.length_cons,List.length_map];omega
 ·have hk:gw s p=0:=by unfold gw;rw[aA (by omega)]
  have hl:=kf h3;have hn:cB s p=1:=by unfold cB;rw[hk];unfold mZ;simp only[Nat.add_zero];rw[aA (by omega),aA (by omega)]
  refine⟨0 :: ks.map U9,⟨by omega,?_,?_⟩,?_,?_,?_⟩
  ·unfold kN;rw[hk];unfold rt;simp only[Nat.add_zero];rw[aA (by omega),aA (by omega),aE h1]
  ·rw[hn];exact oo h3
  ·simp only[List.sum_cons,cw,F0];rw[aE h2]
  ·intro x hx;rcases List.mem_cons.1 hx with rfl | hx
   ·omega
   ·exact hp x hx
  ·simp only[List.length_cons,List.length_map];omega
 ·have hl:=kf h3;refine⟨ks.map U9,oo h3,?_,hp,by simpa using hl⟩;simp only[cw,F0];rw[aE h2];omega
theorem BH (w:World)(u:ByteArray)(h:cB u 0<=u.size)(hs:u.size<=400):
  Calls prog 57 #[.string u] w λe w'=>e=.returned (.tuple #[.string (u.extract 0 (cB u 0)),.string (u.extract (cB u 0) u.size)])/\∃m,w'=w.drewN m:=by
 have mb:=m6 u 0
 by_cases i7:bt u 0=33
 ·have hk:gw u 0=1:=by unfold gw;rw[aE i7]
  rw[hk] at mb;have h1s:1<u.size:=by omega
  have h0s:0<u.size:=by omega
  have OO:((u[0].toNat:Int)==33)=true:=by rw[<-bV u 0 h0s,i7];rfl
  have oL:cB u 0=mZ (bt u 1) (bt u 2) 1:=by unfold cB;rw[hk]
  by_cases h46:bt u 1=46
  ·have g46:((u[1].toNat:Int)==46)=true:=by rw[<-bV u 1 (by omega),h46];rfl
   have HN:Hid (cB u 0=3):=by unfold Hid;rw[oL,h46];rfl
   have il:=HN.out;rw[il] at h;clear il oL mb hk i7 h46;go_enter func57,ntmps57;go_wp2;go_quiet (fail);go_wp2;go_ret2;exact⟨by rw[HN.out];first | rfl | simp,_,rfl⟩
  have g46:((u[1].toNat:Int)==46)=false:=by rw[<-bV u 1 (by omega)];simp;omega
  by_cases h35:bt u 1=35
  ·have g35:((u[1].toNat:Int)==35)=true:=by rw[<-bV u 1 (by omega),h35];rfl
   have HN:Hid (cB u 0=3):=by unfold Hid;rw[oL,h35];rfl
   have il:=HN.out;rw[il] at h;clear il oL mb hk i7 h35 h46;go_enter func57,ntmps57;go_wp2;go_quiet (fail);go_wp2;go_ret2;exact⟨by rw[HN.out];first | rfl | simp,_,rfl⟩
  have g35:((u[1].toNat:Int)==35)=false:=by rw[<-bV u 1 (by omega)];simp;omega
  by_cases h58:bt u 1=58
  ·have Wa:((u[1].toNat:Int)==58)=true:=by rw[<-bV u 1 (by omega),h58];rfl
   rw[h58] at oL;have Rq:=@BG (bt u 2) 1;have uG:2<u.size:=by omega
   by_cases h110:bt u 2=110
   ·have V8:((u[2].toNat:Int)==110)=true:=by rw[<-bV u 2 uG,h110];rfl
    have HN:Hid (cB u 0=5):=by unfold Hid;rw[oL,h110];rfl
    have il:=HN.out;rw[il] at h;clear il oL mb hk i7 h46 h35 h58 h110 Rq;go_enter func57,ntmps57;go_wp2;go_quiet (fail);go_wp2;go_ret2;exact⟨by rw[HN.out];first | rfl | simp,_,rfl⟩
   ·have V8:((u[2].toNat:Int)==110)=false:=by rw[<-bV u 2 uG];simp;omega
    have HN:Hid (cB u 0=3):=by unfold Hid;rw[oL];unfold mZ;rw[aA (by omega),aE rfl,aA h110]
    have il:=HN.out;rw[il] at h;clear il oL mb hk i7 h46 h35 h58 h110 Rq;go_enter func57,ntmps57;go_wp2;go_quiet (fail);go_wp2;go_ret2;exact⟨by rw[HN.out];first | rfl | simp,_,rfl⟩
  have Wa:((u[1].toNat:Int)==58)=false:=by rw[<-bV u 1 (by omega)];simp;omega
  have HN:Hid (cB u 0=2):=by unfold Hid;rw[oL];unfold mZ;rw[aA (by omega),aA h58]
  have il:=HN.out;rw[il] at h;clear il oL mb hk i7 h46 h35 h58;go_enter func57,ntmps57;go_wp2;go_quiet (fail);go_wp2;go_ret2;exact⟨by rw[HN.out];first | rfl | simp,_,rfl⟩
 ·have hk:gw u 0=0:=by unfold gw;rw[aA i7]
  rw[hk] at mb;have h0s:0<u.size:=by omega
  have OO:((u[0].toNat:Int)==33)=false:=by rw[<-bV u 0 h0s];simp;omega
  have oL:cB u 0=mZ (bt u 0) (bt u 1) 0:=by unfold cB;rw[hk]
  by_cases h46:bt u 0=46
  ·have g46:((u[0].toNat:Int)==46)=true:=by rw[<-bV u 0 (by omega),h46];rfl
   have HN:Hid (cB u 0=2):=by unfold Hid;rw[oL,h46];rfl
   have il:=HN.out;rw[il] at h;clear il oL mb hk i7 h46;go_enter func57,ntmps57;go_wp2;go_quiet (fail);go_wp2;go_ret2;exact⟨by rw[HN.out];first | rfl | simp,_,rfl⟩
  have g46:((u[0].toNat:Int)==46)=false:=by rw[<-bV u 0 (by omega)];simp;omega
  by_cases h35:bt u 0=35
  ·have g35:((u[0].toNat:Int)==35)=true:=by rw[<-bV u 0 (by omega),h35];rfl
   have HN:Hid (cB u 0=2):=by unfold Hid;rw[oL,h35];rfl
   have il:=HN.out;rw[il] at h;clear il oL mb hk i7 h35 h46;go_enter func57,ntmps57;go_wp2;go_quiet (fail);go_wp2;go_ret2;exact⟨by rw[HN.out];first | rfl | simp,_,rfl⟩
  have g35:((u[0].toNat:Int)==35)=false:=by rw[<-bV u 0 (by omega)];simp;omega
  by_cases h58:bt u 0=58
  ·have Wa:((u[0].toNat:Int)==58)=true:=by rw[<-bV u 0 (by omega),h58];rfl
   rw[h58] at oL;have Rq:=@BG (bt u 1) 0;have uG:1<u.size:=by omega
   by_cases h110:bt u 1=110
   ·have V8:((u[1].toNat:Int)==110)=true:=by rw[<-bV u 1 uG,h110];rfl
    have HN:Hid (cB u 0=4):=by unfold Hid;rw[oL,h110];rfl
    have il:=HN.out;rw[il] at h;clear il oL mb hk i7 h46 h35 h58 h110 Rq;go_enter func57,ntmps57;go_wp2;go_quiet (fail);go_wp2;go_ret2;exact⟨by rw[HN.out];first | rfl | simp,_,rfl⟩
   ·have V8:((u[1].toNat:Int)==110)=false:=by rw[<-bV u 1 uG];simp;omega
    have HN:Hid (cB u 0=2):=by unfold Hid;rw[oL];unfold mZ;rw[aA (by omega),aE rfl,aA h110]
    have il:=HN.out;rw[il] at h;clear il oL mb hk i7 h46 h35 h58 h110 Rq;go_enter func57,ntmps57;go_wp2;go_quiet (fail);go_wp2;go_ret2;exact⟨by rw[HN.out];first | rfl | simp,_,rfl⟩
  have Wa:((u[0].toNat:Int)==58)=false:=by rw[<-bV u 0 (by omega)];simp;omega
  have HN:Hid (cB u 0=1):=by unfold Hid;rw[oL];unfold mZ;rw[aA (by omega),aA h58]
  have il:=HN.out;rw[il] at h;clear il oL mb hk i7 h46 h35 h58;go_enter func57,ntmps57;go_wp2;go_quiet (fail);go_wp2;go_ret2;exact⟨by rw[HN.out];first | rfl | simp,_,rfl⟩
end
end Go.Proofs.YtblfffbmklkhmabGreat
