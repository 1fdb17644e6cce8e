/- Own work. -/
import Derived.Test.YtblfffbmklkhmaaGreatPi1
import Derived.Test.YtblfffbmklkhmaaGreatPi6
import Derived.Test.YtblfffbmklkhmaaGreatPi5
import Derived.Test.YtblfffbmklkhmaaGreatPi3
import Derived.Test.YtblfffbmklkhmaaGreatPi4
import Derived.JoinedCond
set_option maxRecDepth 100000
set_option maxHeartbeats 40000000
namespace Go.Proofs.YtblfffbmklkhmaaGreat
open Go.RowKit Go.Proofs.Tryz
section
variable {T:aJ}{an c g i j n sz:Nat}{e:TypeId}{els:List PEl}{u:Value}{w:World}{x z:PEl}{xs:List Value}
theorem BT (h:w.ownsRow an e sz (.slice (some ⟨g,0,none⟩) n c) n xs)(_hi:i<xs.length)(u:Value):(w.setCell ⟨g,i,none⟩ u).ownsRow an e sz (.slice (some ⟨g,0,none⟩) n c) n (xs.set i u):=by
 refine⟨by rw[List.length_set];exact h.1,?_⟩;rcases h.2 with⟨h1,_⟩ | ⟨g',gV,fV,hv,hb,hg,h3,h4,h5,h6⟩
 ·cases h1
 ·injection hv with h7 _ h8
  injection h7 with h7
  injection h7 with h7 _ _
  subst h7 h8;refine ai ⟨g,c,fV.setIfInBounds i u,rfl,hb,aF hg u,h3,h4,by rw[Array.size_setIfInBounds];exact h5,?_⟩;have hl:=h.1;rw[Array.toList_setIfInBounds,<-h6,List.take_set]
theorem ve (h:w.ownsRow an e sz (.slice (some ⟨g,0,none⟩) n c) n xs):∃fV:Array Value,w.heap[g]?=some (.cells fV e (0,0))/\xs.length<=fV.size:=by
 rcases h.2 with⟨h1,_⟩ | ⟨g',gV,fV,hv,hb,hg,h3,h4,h5,h6⟩
 ·cases h1
 ·injection hv with h7 _ h8
  injection h7 with h7
  injection h7 with h7 _ _
  subst h7;refine⟨fV,hg,?_⟩;rw[h.1,h5];exact Nat.mul_le_mul_right _ h3
def PEl.put (x:PEl)(j:Nat)(u:Value):PEl:=⟨x.num,x.par,x.rest.set j u⟩
theorem KV (x:PEl)(j:Nat)(u:Value):(x.put j u).cells=x.cells.set (j+2) u:=rfl
theorem PEl.ok.put (h:x.ok)(j:Nat)(hu:u.oneCell'=true):(x.put j u).ok:=by
 refine⟨by show(x.rest.set j u).length=29;rw[List.length_set];exact h.1,λv hv=>?_⟩;rcases List.mem_or_eq_of_mem_set hv with hv | rfl
 ·exact h.2 v hv
 ·exact hu
theorem N7 (h:∀e∈els,e.ok)(hi:i<els.length)(hj:j<29)(u:Value):hO (els.set i (els[i].put j u))=(hO els).set (i*31+(j+2)) u:=by
 induction els generalizing i with
 | nil=>simp at hi
 | cons x l ih=>
  have h1:=(h x List.mem_cons_self).len;have e0:hO (x :: l)=x.cells++hO l:=rfl;cases i with
  | zero=>
   have e1:hO ((x :: l).set 0 ((x :: l)[0].put j u))=(x.put j u).cells++hO l:=rfl;rw[e1,e0,KV,List.set_append_left _ _ (by omega)];simp
  | succ i=>
   have QH:i<l.length:=by simpa using hi
   have e1:hO ((x :: l).set (i+1) ((x :: l)[i+1].put j u))=x.cells++hO (l.set i (l[i].put j u)):=rfl;rw[e1,e0,List.set_append_right _ _ (by omega),ih (λe he=>h e (List.mem_cons_of_mem _ he)) QH,h1,show(i+1)*31+(j+2) - 31=i*31+(j+2) from by omega]
theorem PL.put (h:PL w (.slice (some ⟨g,0,none⟩) els.length c) els)(hi:i<els.length)(hj:j<29)(hu:u.oneCell'=true):PL (w.setCell ⟨g,i*31+(j+2),none⟩ u) (.slice (some ⟨g,0,none⟩) els.length c) (els.set i (els[i].put j u)):=by
 have hl:=N6 h.ok;refine⟨?_,λe he=>?_⟩
 ·rw[N7 h.ok hi hj,List.length_set];exact BT h.row (by rw[hl];omega) u
 ·rcases List.mem_or_eq_of_mem_set he with he | rfl
  ·exact h.ok e he
  ·exact(h.ok _ (bK hi)).put j hu
def PEl.pr (e:PEl):Int × Nat:=(e.par,e.num)
theorem DO (els:List PEl)(n:Int):aO els n=((els.map PEl.pr).filter λp=>decide (p.1=n)).map Prod.snd:=by
 unfold aO;rw[List.filter_map,List.map_map];rfl
theorem PT.pairs {bP:List PEl}(h:PT els T)(hp:bP.map PEl.pr=els.map PEl.pr):PT bP T:=by
 have hm:∀e∈bP,∃f∈els,f.num=e.num/\f.par=e.par:=λe he=>by
  have:e.pr∈els.map PEl.pr:=by rw[<-hp];exact bm.2 ⟨e,he,rfl⟩
  obtain⟨f,hf,Dx⟩:=bm.1 this;injection Dx with h1 h2
  exact⟨f,hf,h2,h1⟩
 have qZ:∀e∈els,∃f∈bP,f.num=e.num:=λe he=>by
  have:e.pr∈bP.map PEl.pr:=by rw[hp];exact bm.2 ⟨e,he,rfl⟩
  obtain⟨f,hf,Dx⟩:=bm.1 this;injection Dx with h1 h2
  exact⟨f,hf,h2⟩
 have Gp:bP.map PEl.num=els.map PEl.num:=by
  have e1:∀l:List PEl,l.map PEl.num=(l.map PEl.pr).map Prod.snd:=λl=>by rw[List.map_map];rfl
  rw[e1,e1,hp]
 refine⟨by rw[Gp];exact h.nums,λe he=>?_,λn l hl=>?_,λn l hl=>?_,λe he h0=>?_⟩
 ·obtain⟨f,hf,h1,_⟩:=hm e he;obtain⟨l,hl⟩:=h.to' f hf;exact⟨l,by rw[<-h1];exact hl⟩
 ·obtain⟨e,he,h1⟩:=h.of' n l hl;obtain⟨f,hf,h2⟩:=qZ e he;exact⟨f,hf,h2.trans h1⟩
 ·rw[h.kids n l hl,DO,DO,hp]
 ·obtain⟨f,hf,h1,h2⟩:=hm e he;rw[<-h2];exact h.root f hf (h1.trans h0)
theorem KW (hi:i<els.length)(j:Nat)(u:Value):(els.set i (els[i].put j u)).map PEl.pr=els.map PEl.pr:=by
 rw[List.map_set];apply List.ext_getElem?;intro k
 by_cases hk:i=k
 ·subst hk;rw[List.getElem?_set_self (by simpa using hi),List.getElem?_map,bO hi];rfl
 ·rw[List.getElem?_set_ne hk]
theorem Iw (hn:(els.map PEl.num).Nodup)(hi:i<els.length){y:PEl}(_hz:z.num=els[i].num)(hy:y∈els.set i z):y=z∨(y∈els/\y.num≠els[i].num):=by
 obtain⟨k,hk,rfl⟩:=List.getElem_of_mem hy;rw[List.length_set] at hk
 by_cases h:i=k
 ·subst h;left;rw[List.getElem_set_self]
 ·right;rw[List.getElem_set_ne h];refine⟨bK hk,λe=>h ?_⟩;have h1:=qC hn (bO hi);have h2:=qC hn (bO hk);rw[e,h1] at h2;exact h2
theorem MkO.put {M:Nat->Mk}(h:MkO els M)(hn:(els.map PEl.num).Nodup)(hi:i<els.length){m:Mk}(hz:z.num=els[i].num)(hs:Shp z)(hm:Hk z m):MkO (els.set i z) (bM M els[i].num m):=by
 refine⟨λy hy=>?_,λy hy=>?_⟩
 ·unfold bM;rcases Iw hn hi hz hy with rfl | ⟨h1,h2⟩
  ·rw[aq hz];exact hm
  ·rw[aj h2];exact h.1 y h1
 ·rcases Iw hn hi hz hy with rfl | ⟨h1,_⟩
  ·exact hs
  ·exact h.2 y h1
theorem PB3.put {b:Nat}{vS:Value × Value}{made:Nat}(h:PB3 w b vS (.slice (some ⟨g,0,none⟩) els.length c) els T made)(hi:i<els.length)(hj:j<29)(hu:u.oneCell'=true):PB3 (w.setCell ⟨g,i*31+(j+2),none⟩ u) b vS (.slice (some ⟨g,0,none⟩) els.length c) (els.set i (els[i].put j u)) T made:=by
 have hgb:b≠g:=λe=>aB h.pl.row h.doc (by decide) (by rw[e];rfl);refine⟨(Below.heap_setCell w ⟨g,i*31+(j+2),none⟩ _ b hgb).trans h.doc,?_,h.pt.pairs (KW hi j u),by rw[List.length_set];exact h.few⟩;exact h.pl.put hi hj hu
def rg (w:World)(b:Nat)(vS:Value × Value)(v:Value)(els:List PEl)(T:aJ)(made:Nat)(n:Int)(s:ByteArray)(on:Bool)(e:Ending)(w':World):Prop:=
 ∃(lt y:Int) (bP:List PEl),e=.returned (.tuple #[.int .u8 lt,.int .i64 y])/\y=cf T n s/\PB3 w' b vS v bP T made/\Fr w w' (λk=>v.ownBlock=some k)/\(y≠0->bP=els)/\(y≠0->lt=0)/\∀M,MkO els M->y=0->MkO bP (bM M n.toNat (kj (M n.toNat) s on))/\((lt=bt s 0/\(M n.toNat).cl (bt s 0 - 97)≠on)∨(lt=0/\97<=bt s 0/\(M n.toNat).cl (bt s 0 - 97)=on))
theorem tA {s:ByteArray}(h:aG s=true):∃k,k<26/\bt s 0=97+k:=by
 unfold aG gw at h;simp only[Bool.and_eq_true,bF] at h;exact⟨bt s 0 - 97,by omega,by omega⟩
theorem SP (h:x.ok)(hs:Shp x){k:Nat}(hk:k<26)(on:Bool):Shp (x.put (1+k) (.bool on))/\kn (x.put (1+k) (.bool on))=kn x/\(∀i,i<26->eE (x.put (1+k) (.bool on)) i=if i=k then on else eE x i)/\ju (x.put (1+k) (.bool on))=ju x/\fP (x.put (1+k) (.bool on))=fP x:=by
 have h9:=h.1;have g0:(x.put (1+k) (.bool on)).rest[0]?=x.rest[0]?:=List.getElem?_set_ne (by omega);have g7:(x.put (1+k) (.bool on)).rest[27]?=x.rest[27]?:=List.getElem?_set_ne (by omega);have g8:(x.put (1+k) (.bool on)).rest[28]?=x.rest[28]?:=List.getElem?_set_ne (by omega)
 have gi:∀i,i<26->(x.put (1+k) (.bool on)).rest[1+i]?=if i=k then some (.bool on) else x.rest[1+i]?:=λi hi=>by
  split
  ·rename_i e;rw[e];exact List.getElem?_set_self (by omega)
  ·exact List.getElem?_set_ne (by omega)
 refine⟨⟨by rw[g0];exact hs.kind,λi hi=>?_,by rw[g7];exact hs.name,by rw[g8];exact hs.shown⟩,by unfold kn;rw[g0],λi hi=>?_,by unfold ju;rw[g7],by unfold fP;rw[g8]⟩
 ·rw[gi i hi];split
  ·exact⟨on,rfl⟩
  ·exact hs.cls i hi
 ·unfold eE;rw[gi i hi]
  by_cases e:i=k
  ·rw[aq e,aq e]
  ·rw[aj e,aj e]
theorem SQ (h:x.ok)(hs:Shp x)(z:Int):Shp (x.put 27 (.int .u8 z))/\kn (x.put 27 (.int .u8 z))=kn x/\(∀i,i<26->eE (x.put 27 (.int .u8 z)) i=eE x i)/\ju (x.put 27 (.int .u8 z))=z/\fP (x.put 27 (.int .u8 z))=fP x:=by
 have h9:=h.1;have g0:(x.put 27 (.int .u8 z)).rest[0]?=x.rest[0]?:=List.getElem?_set_ne (by omega);have g7:(x.put 27 (.int .u8 z)).rest[27]?=some (.int .u8 z):=List.getElem?_set_self (by omega);have g8:(x.put 27 (.int .u8 z)).rest[28]?=x.rest[28]?:=List.getElem?_set_ne (by omega);have gi:∀i,i<26->(x.put 27 (.int .u8 z)).rest[1+i]?=x.rest[1+i]?:=λi hi=>List.getElem?_set_ne (by omega);refine⟨⟨by rw[g0];exact hs.kind,λi hi=>by rw[gi i hi];exact hs.cls i hi,⟨z,g7⟩,by rw[g8];exact hs.shown⟩,by unfold kn;rw[g0],λi hi=>by unfold eE;rw[gi i hi],by unfold ju;rw[g7],by unfold fP;rw[g8]⟩
theorem SR (h:x.ok)(hs:Shp x)(on:Bool):Shp (x.put 28 (.bool on))/\kn (x.put 28 (.bool on))=kn x/\(∀i,i<26->eE (x.put 28 (.bool on)) i=eE x i)/\ju (x.put 28 (.bool on))=ju x/\fP (x.put 28 (.bool on))=on:=by
 have h9:=h.1;have g0:(x.put 28 (.bool on)).rest[0]?=x.rest[0]?:=List.getElem?_set_ne (by omega);have g7:(x.put 28 (.bool on)).rest[27]?=x.rest[27]?:=List.getElem?_set_ne (by omega);have g8:(x.put 28 (.bool on)).rest[28]?=some (.bool on):=List.getElem?_set_self (by omega);have gi:∀i,i<26->(x.put 28 (.bool on)).rest[1+i]?=x.rest[1+i]?:=λi hi=>List.getElem?_set_ne (by omega);refine⟨⟨by rw[g0];exact hs.kind,λi hi=>by rw[gi i hi];exact hs.cls i hi,by rw[g7];exact hs.name,⟨on,g8⟩⟩,by unfold kn;rw[g0],λi hi=>by unfold eE;rw[gi i hi],by unfold ju;rw[g7],by unfold fP;rw[g8]⟩
theorem CT (s:ByteArray):s.toList.isEmpty=(s.size==0):=by
 rw[ByteArray.toList_eq];obtain⟨⟨l⟩⟩:=s;cases l<;>rfl
section
variable (w:World)(b:Nat)(vS:Value × Value)(v:Value)(els:List PEl)(T:aJ)(made:Nat)(n:Int)(s:ByteArray)
theorem Ps (on:Bool)(h:PB3 w b vS v els T made)(hw:TW T made)(tp:∀x∈els,Shp x):Calls prog 80 #[.pointer (some ⟨b,1,none⟩),.int .i64 n,.string s,.bool on] w λe w'=>rg w b vS v els T made n s on e w':=by
 have HB:Hid (PB3 w b vS v els T made/\TW T made/\∀x∈els,Shp x):=⟨h,hw,tp⟩;have bC:=h.few
 have nH:Hid (∀(y:Int) (w':World),Below w.heap.size w w'->y≠0->cf T n s=y->rg w b vS v els T made n s on (.returned (.tuple #[.int .u8 0,.int .i64 y])) w'):=λy w' hb hy he=>
  ⟨0,y,els,rfl,he.symm,HB.out.1.below hb,(Fr.refl w _).below hb,λ_=>rfl,λ_=>rfl,λ_ _ h0=>absurd h0 hy⟩
 clear h hw tp;go_enter func80,ntmps80;go_wp2_with fail;refine(dP w b v els n HB.out.1.c1 HB.out.1.pl bC).mono ?_;rintro e w1 ⟨cq,⟨hf,rfl⟩ | ⟨ip,xp,oo,hf,rfl⟩⟩
 ·have HE:=nH.out 5 w1 cq (by decide) (by unfold cf;rw[HB.out.1.pt.find_none hf]);clear hf;go_wp2;go_ret2;exact HE
 ·have HF:=bT ((HB.out.1.pt.find_some HB.out.2.1 hf).1) ((HB.out.1.pt.find_some HB.out.2.1 hf).2.2);have Jl:=ae oo;have nD:=(dY.1 oo).1;clear hf oo;go_wp2_with fail;refine(sd w1 s).mono ?_;rintro e w2 ⟨cc,rfl,qX,BD,_⟩;have dq:=cq.trans (qX.below.mono cq.size);clear cq qX;cases hl:aG s with
  | false=>
   have HE:=nH.out 4 w2 dq (by decide) (by unfold cf;rw[HF.out.1];show(if _ then _ else _)=_;rw[aq hl]);clear hl BD;go_wp2;go_ret2;exact HE
  | true=>
   have LQ:Hid (cf T n s=0):=by unfold Hid cf;rw[HF.out.1];show(if _ then _ else _)=_;rw[aj (by rw[hl];decide)]
   obtain⟨k,hk,yJ⟩:=tA hl;have hcc:cc=97+(k:Int):=by rw[BD hl,yJ];omega
   have LL:=ae yJ;subst hcc;clear hl BD yJ;obtain⟨av,cv,Kj⟩:=HB.out.1.pl.shape;subst Kj;have eD:=ae (HB.out.1.below dq);obtain⟨g,hg,dn,hr⟩:=eD.out.pl.at' nD;subst hg;have om:=(dY.1 Jl.out).2;have q2:w2.cell? ⟨g,ip*31+3+k,none⟩=some (.bool (eE xp k)):=by rw[<-om,Nat.add_assoc];exact hr (3+k) _ ((HB.out.2.2 _ (bK nD)).cl hk)
   have q0:=eD.out.c1;obtain⟨fV,uO,_⟩:=ve eD.out.pl.row;have qf:∀j,w2.frozen? ⟨g,j,none⟩=false:=λ_=>ax uO;have jJ:(ip:Int)<(els.length:Int):=by omega
   have Wz:Hid (els[ip]=xp/\n.toNat=els[ip].num):=⟨om,by rw[om];have:=HF.out.2;omega⟩;clear hr om uO
   by_cases hc:eE xp k=on
   ·have gc:(eE xp k==on)=true:=by simp[hc]
    have HE:Hid (rg w b vS (.slice (some ⟨g,0,none⟩) els.length cv) els T made n s on (.returned (.tuple #[.int .u8 0,.int .i64 0])) w2):=by
     refine⟨0,0,els,rfl,LQ.out.symm,eD.out,(Fr.refl w _).below dq,λ_=>rfl,λ_=>rfl,λM hM _=>?_⟩;have hx:=List.mem_of_getElem? Jl.out;have Gp:n.toNat=xp.num:=by have:=HF.out.2;omega
     have zQ:=hM.1 xp hx;have lL:(M xp.num).cl k=on:=by rw[<-zQ.2.1 k hk];exact hc
     refine⟨hM.ext (λy _=>?_),ai ⟨rfl,by have:=LL.out;omega,by rw[Gp,LL.out,show 97+k - 97=k from by omega];exact lL⟩⟩;unfold bM;split
     ·rename_i e;rw[e,Gp];unfold kj
      have:(λi=>if i+97=bt s 0 then on else(M xp.num).cl i)=(M xp.num).cl:=by
       funext i;split
       ·rename_i e2;have e3:i=k:=by have:=LL.out;omega
        rw[e3];exact lL.symm
       ·rfl
      rw[this]
     ·rfl
    clear hc;generalize eE xp k=gE at q2 gc;go_wp2;go_ret2;exact HE.out
   ·have gc:(eE xp k==on)=false:=by simp[hc]
    have HCH:Hid (∀M,MkO els M->(M n.toNat).cl (bt s 0 - 97)≠on):=λM hM=>by
     rw[Wz.out.2,Wz.out.1,LL.out,show 97+k - 97=k from by omega,<-(hM.1 xp (List.mem_of_getElem? Jl.out)).2.1 k hk];exact hc
    have ql:Hid (PB3 (w2.setCell ⟨g,ip*31+(1+k+2),none⟩ (.bool on)) b vS (.slice (some ⟨g,0,none⟩) els.length cv) (els.set ip (els[ip].put (1+k) (.bool on))) T made):=eD.out.put nD (by omega) rfl
    have HE:Hid (rg w b vS (.slice (some ⟨g,0,none⟩) els.length cv) els T made n s on (.returned (.tuple #[.int .u8 (97+(k:Int)),.int .i64 0])) (w2.setCell ⟨g,ip*31+3+k,none⟩ (.bool on))):=by
     rw[show ip*31+3+k=ip*31+(1+k+2) from by omega];refine⟨97+(k:Int),0,_,rfl,LQ.out.symm,ql.out,((Fr.refl w (λk=>(Value.slice (some ⟨g,0,none⟩) els.length cv).ownBlock=some k)).below dq).set (p:=⟨g,ip*31+(1+k+2),none⟩) (af rfl) _,λh=>absurd rfl h,λh=>absurd rfl h,λM hM _=>⟨?_,af ⟨by rw[LL.out];omega,HCH.out M hM⟩⟩⟩;rw[Wz.out.2];have hx:=bK nD;have zQ:=hM.1 _ hx;obtain⟨p1,p2,p3,p4,p5⟩:=SP (HB.out.1.pl.ok _ hx) (hM.2 _ hx) hk on;refine hM.put HB.out.1.pt.nums nD rfl p1 ⟨by rw[p2];exact zQ.1,λi hi=>?_,by rw[p4];exact zQ.2.2.1,by rw[p5,zQ.2.2.2];show _=if 26+97=bt s 0 then on else _;rw[aj (by rw[LL.out];omega)]⟩;rw[p3 i hi];show _=if i+97=bt s 0 then on else _
     by_cases e:i=k
     ·rw[aq e,aq (by rw[LL.out];omega)]
     ·rw[aj e,aj (by rw[LL.out];omega)];exact zQ.2.1 i hi
    clear hc ql;generalize eE xp k=gE at q2 gc;go_wp2;go_ret2;exact HE.out
def vH (w:World)(b:Nat)(vS:Value × Value)(v:Value)(els:List PEl)(T:aJ)(made:Nat)(n:Int)(s:ByteArray)(e:Ending)(w':World):Prop:=
 ∃(gE KA y:Int) (bP:List PEl),e=.returned (.tuple #[.int .u8 gE,.int .u8 KA,.int .i64 y])/\y=ct T n s/\PB3 w' b vS v bP T made/\Fr w w' (λk=>v.ownBlock=some k)/\(y≠0->bP=els/\gE=KA)/\∀M,MkO els M->y=0->MkO bP (bM M n.toNat (fM (M n.toNat) s))/\gE=(M n.toNat).nm/\KA=(fM (M n.toNat) s).nm
theorem PC (h:PB3 w b vS v els T made)(hw:TW T made)(tp:∀x∈els,Shp x):Calls prog 39 #[.pointer (some ⟨b,1,none⟩),.int .i64 n,.string s] w λe w'=>vH w b vS v els T made n s e w':=by
 have HB:Hid (PB3 w b vS v els T made/\TW T made/\∀x∈els,Shp x):=⟨h,hw,tp⟩;have bC:=h.few
 have nH:Hid (∀(y:Int) (w':World),Below w.heap.size w w'->y≠0->ct T n s=y->vH w b vS v els T made n s (.returned (.tuple #[.int .u8 0,.int .u8 0,.int .i64 y])) w'):=λy w' hb hy he=>
  ⟨0,0,y,els,rfl,he.symm,HB.out.1.below hb,(Fr.refl w _).below hb,λ_=>⟨rfl,rfl⟩,λ_ _ h0=>absurd h0 hy⟩
 clear h hw tp;go_enter func39,ntmps39;go_wp2_with fail;refine(dP w b v els n HB.out.1.c1 HB.out.1.pl bC).mono ?_;rintro e w1 ⟨cq,⟨hf,rfl⟩ | ⟨ip,xp,oo,hf,rfl⟩⟩
 ·have HE:=nH.out 5 w1 cq (by decide) (by unfold ct;rw[HB.out.1.pt.find_none hf]);clear hf;go_wp2;go_ret3;exact HE
 ·have HF:=bT ((HB.out.1.pt.find_some HB.out.2.1 hf).1) ((HB.out.1.pt.find_some HB.out.2.1 hf).2.2);have Jl:=ae oo;have nD:=(dY.1 oo).1;clear hf oo;go_wp2_with fail;refine(sd w1 s).mono ?_;rintro e w2 ⟨cc,rfl,qX,BD,hc0⟩;have dq:=cq.trans (qX.below.mono cq.size);clear cq qX
  by_cases kQ:s.size≠0/\aG s=false
  ·have HE:=nH.out 4 w2 dq (by decide) (by unfold ct;rw[HF.out.1];show(if _ then _ else _)=_;rw[aq kQ])
   have VP:s.toList.isEmpty=false:=by
    rw[CT,ff];exact kQ.1
   have Ct:=kQ.2;rw[Ct];clear kQ BD hc0 Ct;go_wp2;go_ret3;exact HE
  ·have LQ:Hid (ct T n s=0):=by unfold Hid ct;rw[HF.out.1];show(if _ then _ else _)=_;rw[aj kQ]
   have HCC:Hid (cc=if s.size=0 then(0:Int) else(bt s 0:Int)):=by
    unfold Hid
    by_cases h0:s.size=0
    ·rw[aq h0];exact hc0 h0
    ·rw[aj h0];refine BD ?_;cases hl:aG s with
     | true=>rfl
     | false=>exact absurd ⟨h0,hl⟩ kQ
   obtain⟨av,cv,Kj⟩:=HB.out.1.pl.shape;subst Kj;have eD:=ae (HB.out.1.below dq);obtain⟨g,hg,dn,hr⟩:=eD.out.pl.at' nD;subst hg;have om:=(dY.1 Jl.out).2;have q2:w2.cell? ⟨g,ip*31+29,none⟩=some (.int .u8 (ju xp)):=by rw[<-om];exact hr 29 _ (HB.out.2.2 _ (bK nD)).nm
   have q0:=eD.out.c1;obtain⟨fV,uO,_⟩:=ve eD.out.pl.row;have qf:∀j,w2.frozen? ⟨g,j,none⟩=false:=λ_=>ax uO;have jJ:(ip:Int)<(els.length:Int):=by omega
   have Wz:Hid (els[ip]=xp/\n.toNat=els[ip].num):=⟨om,by rw[om];have:=HF.out.2;omega⟩;have ql:Hid (PB3 (w2.setCell ⟨g,ip*31+29,none⟩ (.int .u8 cc)) b vS (.slice (some ⟨g,0,none⟩) els.length cv) (els.set ip (els[ip].put 27 (.int .u8 cc))) T made):=eD.out.put nD (by omega) rfl
   have HE:Hid (vH w b vS (.slice (some ⟨g,0,none⟩) els.length cv) els T made n s (.returned (.tuple #[.int .u8 (ju xp),.int .u8 cc,.int .i64 0])) (w2.setCell ⟨g,ip*31+29,none⟩ (.int .u8 cc))):=by
    refine⟨ju xp,cc,0,_,rfl,LQ.out.symm,ql.out,((Fr.refl w (λk=>(Value.slice (some ⟨g,0,none⟩) els.length cv).ownBlock=some k)).below dq).set (p:=⟨g,ip*31+29,none⟩) (af rfl) _,λh=>absurd rfl h,λM hM _=>?_⟩;rw[Wz.out.2];have hx:=bK nD;have zQ:=hM.1 _ hx;obtain⟨p1,p2,p3,p4,p5⟩:=SQ (HB.out.1.pl.ok _ hx) (hM.2 _ hx) cc;refine⟨hM.put HB.out.1.pt.nums nD rfl p1 ⟨by rw[p2];exact zQ.1,λi hi=>by rw[p3 i hi];exact zQ.2.1 i hi,by rw[p4];exact HCC.out,by rw[p5];exact zQ.2.2.2⟩,by rw[<-Wz.out.1];exact zQ.2.2.1,HCC.out⟩
   clear hr om uO ql BD hc0;generalize ju xp=gE at q2 HE;cases hl:aG s with
   | true=>
    clear hl kQ;go_wp2;go_ret3;exact HE.out
   | false=>
    have VP:s.toList.isEmpty=true:=by
     have h0:s.size=0:=by
      by_cases h0:s.size=0
      ·exact h0
      ·exact absurd ⟨h0,hl⟩ kQ
     rw[CT,h0];rfl
    clear hl kQ;go_wp2;go_ret3;exact HE.out
end
end
section
variable {H:Int->Prop}{L:List Int}{M':Nat->Mk}{bP:List PEl}{v:Value}{w:World}
structure DM (w:World)(b:Nat)(vS:Value × Value)(v:Value)(els:List PEl)(T:aJ)(made:Nat)(M:Nat->Mk)(rs:List dF)(kl:List (Int × List Int))(G:Nat->Prop):Prop where
 pb:PB3 w b vS v els T made
 tw:TW T made
 mks:MkO els M
 sh:SheetIn w G vS.1 rs
 kp:KL w vS.2 kl
 few:kl.length<=24
 gl:∀k,G k->k<w.heap.size
 gb:¬G b
 gv:∀j,v.ownBlock=some j->¬G j
 gk:∀j,vS.2.ownBlock=some j->¬G j
theorem jw {w':World}{e:TypeId}{sz:Nat}{n:Nat}{xs:List Value}(h:w.ownsRow 0 e sz v n xs)(hk:∀k,v.ownBlock=some k->k<w.heap.size->w'.heap[k]?=w.heap[k]?):w'.ownsRow 0 e sz v n xs:=by
 refine⟨h.1,?_⟩;rcases h.2 with hn | ⟨g,gV,fV,hv,hb,hg,rest⟩
 ·exact af hn
 ·exact ai ⟨g,gV,fV,hv,hb,(hk g (by rw[hv];rfl) (bx.1 hg).1).trans hg,rest⟩
theorem PB3.drop {b:Nat}{vS:Value × Value}{els:List PEl}{T:aJ}{made:Nat}(h:PB3 w b vS v els T made)(u:Value):PB3 (w.setCell ⟨b,3,none⟩ u) b (vS.1,u) v els T made:=by
 refine⟨?_,⟨bj h.pl.row (aB h.pl.row h.doc (by decide)) _,h.pl.ok⟩,h.pt,h.few⟩;rw[aF h.doc];rfl
section
variable {w w':World}{b:Nat}{vS:Value × Value}{v:Value}{els:List PEl}{T:aJ}{made:Nat}{M:Nat->Mk}{rs:List dF}{kl:List (Int × List Int)}{G:Nat->Prop}
theorem DM.lt (h:DM w b vS v els T made M rs kl G):b<w.heap.size:=(bx.1 h.pb.doc).1
theorem DM.below (h:DM w b vS v els T made M rs kl G)(hB:Below w.heap.size w w'):DM w' b vS v els T made M rs kl G:=
 ⟨h.pb.below hB,h.tw,h.mks,h.sh.keep (λk _ hl=>hB.block k hl) hB.size,h.kp.below hB,h.few,λk hk=>Nat.lt_of_lt_of_le (h.gl k hk) hB.size,h.gb,h.gv,h.gk⟩
theorem DM.trd {a:Option Addr}{c:Nat}(h:DM w b vS (.slice a els.length c) els T made M rs kl G):TRd w b a c els:=⟨h.pb.c1,h.pb.pl,h.pb.few,h.pb.pt.nums,h.mks.2⟩
theorem DM.kept_ne (h:DM w b vS v els T made M rs kl G):vS.2.ownBlock≠some b:=aB h.kp.row h.pb.doc (by decide)
theorem DM.tree (h:DM w b vS v els T made M rs kl G){v':Value}{T':aJ}{made':Nat}(hp:PB3 w' b vS v' bP T' made')(hw:TW T' made')(hm:MkO bP M')(hf:Fr w w' (λk=>k=b))(hv:∀j,v'.ownBlock=some j->v.ownBlock=some j∨w.heap.size<=j):DM w' b vS v' bP T' made' M' rs kl G:=by
 refine⟨hp,hw,hm,h.sh.keep (λk hg hl=>hf.block k hl (λe=>h.gb (e▸hg))) hf.size,⟨jw h.kp.row (λk hk hl=>hf.block k hl (λe=>h.kept_ne (e▸hk))),h.kp.nine⟩,h.few,λk hk=>Nat.lt_of_lt_of_le (h.gl k hk) hf.size,h.gb,λj hj hg=>?_,h.gk⟩;rcases hv j hj with h1 | h1
 ·exact h.gv j h1 hg
 ·have:=h.gl j hg;omega
theorem DM.inpl (h:DM w b vS v els T made M rs kl G)(hp:PB3 w' b vS v bP T made)(hm:MkO bP M')(hf:Fr w w' (λk=>v.ownBlock=some k)):DM w' b vS v bP T made M' rs kl G:=by
 refine⟨hp,h.tw,hm,h.sh.keep (λk hg hl=>hf.block k hl (λe=>h.gv k e hg)) hf.size,⟨jw h.kp.row (λk hk hl=>hf.block k hl (λe=>?_)),h.kp.nine⟩,h.few,λk hk=>Nat.lt_of_lt_of_le (h.gl k hk) hf.size,h.gb,h.gv,h.gk⟩;obtain⟨a,c,rfl⟩:=h.pb.pl.shape;cases a with
 | none=>cases e
 | some p=>
  obtain⟨g,o,z⟩:=p
  have hz:∃g' gV fV,(Value.slice (some ⟨g,o,z⟩) els.length c)=.slice (some ⟨g',0,none⟩) els.length gV/\w.heap[g']?=some (.cells fV 134 (0,0)):=by
   rcases h.pb.pl.row.2 with⟨h1,_⟩ | ⟨g',gV,fV,hv,_,hg,_⟩
   ·cases h1
   ·exact⟨g',gV,fV,hv,hg⟩
  obtain⟨g',gV,fV,hv,hg⟩:=hz;injection hv with h1 _ _
  injection h1 with h1
  injection h1 with h1 _ _
  have e2:some g=some k:=e;injection e2 with e2
  exact aB h.kp.row hg (by decide) (by rw[hk,<-e2,h1])
theorem DM.dropped (h:DM w b vS v els T made M rs kl G){e:Ending}(hd:sT w b (eh L kl) e w'):e=.returned (.tuple #[])/\∃v2,DM w' b (vS.1,v2) v els T made M rs (eh L kl) G/\Fr w w' (λk=>k=b)/\∀j,v2.ownBlock=some j->w.heap.size<=j:=by
 obtain⟨rfl,w1,a,c,hB,ho,rfl⟩:=hd;have h1:=h.below hB;have aU:=h.lt;have Sc:∀j,(Value.slice a (eh L kl).length c).ownBlock=some j->w.heap.size<=j:=λj hj=>(ho.lt j hj).1;refine⟨rfl,_,⟨h1.pb.drop _,h.tw,h.mks,h1.sh.keep (λk hg _=>Below.heap_setCell w1 ⟨b,3,none⟩ _ k (λe=>h.gb (by rw[<-(show k=b from e)];exact hg))) (by simp),⟨bj (aP ho aZ) (λe=>?_) _,λx hx=>h.kp.nine x (dA.1 hx).1⟩,Nat.le_trans (zG _ _) h.few,λk hk=>by simpa using h1.gl k hk,h.gb,h.gv,λj hj hg=>?_⟩,((Fr.refl w (λk=>k=b)).below hB).set (p:=⟨b,3,none⟩) (af rfl) _,Sc⟩
 ·have:=Sc b e;omega
 ·have h2:=Sc j hj;have h3:=h.gl j hg;omega
theorem mN (h:PT els T)(hw:TW T made){p:Nat}{l:List Nat}(hp:(p,l)∈T){x:Int × List Int}(hx:x∈eh (ex els p) kl){j:Nat}{lj:List Nat}(hj:x.1=(j:Int))(Fg:(j,lj)∈T):¬mh T p j:=λhr=>by
 have h1:=GU h.nums (PQ h hw hp Fg hr);have h2:=(dA.1 hx).2;rw[hj] at h2;have h3:=List.contains_iff_mem.2 h1;rw[h3] at h2;exact absurd h2 (by decide)
theorem fF (L:List Int)(kl:List (Int × List Int)):(eh L kl).Sublist kl:=List.filter_sublist
def DropT (H:Int->Prop)(kl dh:List (Int × List Int)):Prop:=dh.Sublist kl/\∀x∈kl,¬H x.1->x∈dh
theorem mM (H:Int->Prop)(kl:List (Int × List Int)):DropT H kl kl:=⟨List.Sublist.refl _,λ_ hx _=>hx⟩
theorem tg (h:∀x∈L,H x)(kl:List (Int × List Int)):DropT H kl (eh L kl):=
 ⟨fF L kl,λx hx hn=>dA.2 ⟨hx,by
  cases hc:L.contains x.1 with
  | true=>exact absurd (h _ (List.contains_iff_mem.1 hc)) hn
  | false=>rfl⟩⟩
theorem DropT.trans {k1 k2 k3:List (Int × List Int)}(h:DropT H k1 k2)(h':DropT H k2 k3):DropT H k1 k3:=⟨h'.1.trans h.1,λx hx hn=>h'.2 x (h.2 x hx hn) hn⟩
theorem jy (h:PT els T)(hw:TW T made){f x:Int}(hx:x∈ex els f):dJ T f x=true:=by
 unfold ex at hx;split at hx
 ·cases hx
 ·rename_i z hz;obtain⟨hm,rfl⟩:=dI hz;unfold ew at hx;obtain⟨t,ht,hx⟩:=List.mem_flatMap.1 hx;split at hx
  ·rename_i hp;unfold cF at hx;obtain⟨y,hy,rfl⟩:=bm.1 hx;obtain⟨k,_,hk⟩:=iw.1 (dA.1 hy).2;unfold dJ;rw[<-h.par hw hm]
   by_cases h0:z.par<0
   ·rw[decide_eq_true h0,Bool.true_or]
   ·rw[Bool.or_eq_true];refine ai ?_;refine bp.2 ⟨by omega,k+1,?_⟩;rw[h.upP hw] at hk;rw[pV T _ k 1,hk];show aY T t.num=_;rw[<-h.par hw (List.mem_of_mem_drop ht),hp]
  ·cases hx
end
section
variable (w:World)(b:Nat)(vS:Value × Value)(v:Value)(els:List PEl)(T:aJ)(made:Nat)(M:Nat->Mk)(rs:List dF)(kl:List (Int × List Int))(G:Nat->Prop)
def qn (n:Int)(e:Ending)(w':World):Prop:=
 e=.returned (.tuple #[])/\∃v2,DM w' b (vS.1,v2) v els T made M rs (eh (ex els n) kl) G/\Fr w w' (λk=>k=b)/\∀j,v2.ownBlock=some j->w.heap.size<=j
theorem jt (n:Int)(h:DM w b vS v els T made M rs kl G):Calls prog 41 #[.pointer (some ⟨b,0,none⟩),.int .i64 n] w λe w'=>qn w b vS v els T made M rs kl G n e w':=by
 obtain⟨a,c,hv⟩:=h.pb.pl.shape;subst hv;have HD:=ae h;have QK:=xK h.pb.few n;clear h;go_enter func41,ntmps41;go_wp2_with fail;refine(xB w b a c els n HD.out.trd).mono ?_;rintro e w1 ⟨al,cl,rfl,eb,hB⟩;have jD:=ae (HD.out.below hB);have HRI:=ae (RowI.own eb);have eg:=ae hB;clear eb hB;go_wp2_with fail;refine(Ar w1 b _ vS.2 kl al cl (ex els n) jD.out.pb.doc rfl jD.out.kp jD.out.few HRI.out QK).mono ?_;intro e w2 hd;obtain⟨rfl,v2,h1,h2,h3⟩:=jD.out.dropped hd;have HE:Hid (qn w b vS (.slice a els.length c) els T made M rs kl G n (.returned (.tuple #[])) w2):=⟨rfl,v2,h1,((Fr.refl w (λk=>k=b)).below eg.out).trans h2,λj hj=>Nat.le_trans eg.out.size (h3 j hj)⟩;clear hd h1 h2 h3;go_wp2;go_end0;exact HE.out
end
def DSk (w:World)(px:Value)(T:aJ)(made:Nat)(M:Nat->Mk)(rs:List dF)(kl:List (Int × List Int))(F:Nat->Prop):Prop:=
 ∃b vS v els G,px=.pointer (some ⟨b,0,none⟩)/\DM w b vS v els T made M rs kl G/\KOK T M rs kl/\F b/\(∀j,v.ownBlock=some j->F j)/\(∀j,vS.2.ownBlock=some j->F j)/\(∀k,G k->F k)
section
variable {w w':World}{px:Value}{T:aJ}{made:Nat}{M M':Nat->Mk}{rs:List dF}{kl:List (Int × List Int)}{F:Nat->Prop}
theorem DSk.keep (h:DSk w px T made M rs kl F)(hk:∀k,F k->k<w.heap.size->w'.heap[k]?=w.heap[k]?)(hz:w.heap.size<=w'.heap.size):DSk w' px T made M rs kl F:=by
 obtain⟨b,vS,v,els,G,h1,h2,h3,h4,h5,h6,h7⟩:=h;exact⟨b,vS,v,els,G,h1,⟨⟨(hk b h4 h2.lt).trans h2.pb.doc,⟨jw h2.pb.pl.row (λk fT hl=>hk k (h5 k fT) hl),h2.pb.pl.ok⟩,h2.pb.pt,h2.pb.few⟩,h2.tw,h2.mks,h2.sh.keep (λk hg hl=>hk k (h7 k hg) hl) hz,⟨jw h2.kp.row (λk fT hl=>hk k (h6 k fT) hl),h2.kp.nine⟩,h2.few,λk hg=>Nat.lt_of_lt_of_le (h2.gl k hg) hz,h2.gb,h2.gv,h2.gk⟩,h3,h4,h5,h6,h7⟩
theorem DSk.here (h:DSk w px T made M rs kl F):DSk w px T made M rs kl (λk=>F k/\k<w.heap.size):=by
 obtain⟨b,vS,v,els,G,h1,h2,h3,h4,h5,h6,h7⟩:=h;exact⟨b,vS,v,els,G,h1,h2,h3,⟨h4,h2.lt⟩,λj hj=>⟨h5 j hj,(h2.pb.pl.row.lt j hj).2⟩,λj hj=>⟨h6 j hj,(h2.kp.row.lt j hj).2⟩,λk hk=>⟨h7 k hk,h2.gl k hk⟩⟩
theorem DSk.mark (h:DSk w px T made M rs kl F)(hm:∀k l,(k,l)∈T->M k=M' k):DSk w px T made M' rs kl F:=by
 obtain⟨b,vS,v,els,G,h1,h2,h3,h4⟩:=h
 exact⟨b,vS,v,els,G,h1,⟨h2.pb,h2.tw,h2.mks.ext (λx hx=>by
  obtain⟨l,hl⟩:=h2.pb.pt.to' x hx;exact hm x.num l hl),h2.sh,h2.kp,h2.few,h2.gl,h2.gb,h2.gv,h2.gk⟩,h3.marks h2.tw hm,h4⟩
theorem DSk.tw (h:DSk w px T made M rs kl F):TW T made:=by
 obtain⟨b,vS,v,els,G,h1,h2,h3⟩:=h;exact h2.tw
theorem DSk.kok (h:DSk w px T made M rs kl F):KOK T M rs kl:=by
 obtain⟨b,vS,v,els,G,h1,h2,h3,_⟩:=h;exact h3
end
section
variable (w:World)(px:Value)(T:aJ)(made:Nat)(M:Nat->Mk)(rs:List dF)(kl:List (Int × List Int))(F:Nat->Prop)
def vn (par at':Int)(kind:ByteArray)(e:Ending)(w':World):Prop:=
 ∃y T' made' n dh,e=.returned (.tuple #[.int .i64 n,.int .i64 y])/\TIns T made par at' kind y T' made' n/\DSk w' px T' made' (if y=0 then bM M made (d8 kind) else M) rs dh (cJ F w)/\Fr w w' F/\DropT (λx=>y=0/\dJ T' par x=true) kl dh
theorem C8 (par at':Int)(kind:ByteArray)(h:DSk w px T made M rs kl F)(mW:made<=4611686018427387904):Calls prog 36 #[px,.int .i64 par,.int .i64 at',.string kind] w λe w'=>vn w px T made M rs kl F par at' kind e w':=by
 obtain⟨b,vS,v,els,G,rfl,h2,h3,h4,h5,h6,h7⟩:=h;have HB:Hid (DM w b vS v els T made M rs kl G/\KOK T M rs kl/\F b/\(∀j,v.ownBlock=some j->F j)/\(∀j,vS.2.ownBlock=some j->F j)/\∀k,G k->F k):=⟨h2,h3,h4,h5,h6,h7⟩;clear h2 h3 h4 h5 h6 h7;go_enter func36,ntmps36;go_wp2_with fail;refine(Pw w b vS v els T made par at' kind HB.out.1.pb HB.out.1.tw mW).mono ?_;rintro e w1 ⟨y,T',made',n,v',bP,rfl,ht,hp,hf,hv,hm⟩
 by_cases hy:y=0
 ·have gy:(y==0)=true:=by simp[hy]
  have gQ:made'=made+1/\∃(p k:Nat) (l:List Nat),par=(p:Int)/\(p,l)∈T/\T'=lH T p k made:=by
   rcases ht.2 with⟨h1,_⟩ | ⟨_,_,h1,p,k,h2,_,⟨l,h3,_⟩,h4⟩
   ·exact absurd hy h1
   ·exact⟨h1,p,k,l,h2,h3,h4⟩
  have HC:=ae gQ
  have vb:TW T' made':=by
   obtain⟨h1,p,k,l,_,h3,h4⟩:=gQ;rw[h1,h4];exact HB.out.1.tw.ins ⟨l,h3⟩
  have qZ:=hm M HB.out.1.mks;rw[aq hy] at qZ;have jD:=ae (HB.out.1.tree hp vb qZ hf hv);have HT:Hid (TIns T made par at' kind y T' made' n/\Fr w w1 (λk=>k=b)/\(∀j,v'.ownBlock=some j->v.ownBlock=some j∨w.heap.size<=j)):=⟨ht,hf,hv⟩;have HY:=ae hy;clear ht hp hf hv hm qZ vb gQ hy;go_wp2_with fail;refine(jt w1 b vS v' bP T' made' _ rs kl G par jD.out).mono ?_;rintro e w2 ⟨rfl,v2,iR,bG,jC⟩
  have HE:Hid (vn w (.pointer (some ⟨b,0,none⟩)) T made M rs kl F par at' kind (.returned (.tuple #[.int .i64 n,.int .i64 y])) w2):=by
   obtain⟨h1,p,k,l,h2,h3,h4⟩:=HC.out;have Ob:=iR.pb.pt;have hw2:=iR.tw;refine⟨y,T',made',n,eh (ex bP par) kl,rfl,HT.out.1,⟨b,(vS.1,v2),v',bP,G,rfl,?_,?_,af HB.out.2.2.1,λj hj=>(HT.out.2.2 j hj).imp (HB.out.2.2.2.1 j) id,λj hj=>ai (Nat.le_trans HT.out.2.1.size (jC j hj)),λk hk=>af (HB.out.2.2.2.2.2 k hk)⟩,(HT.out.2.1.trans bG).mono (λk hk=>hk▸HB.out.2.2.1),tg (λx hx=>⟨HY.out,jy Ob hw2 hx⟩) _⟩
   ·rw[aq HY.out];exact iR
   ·rw[aq HY.out];subst h4 h2;refine HB.out.2.1.ins HB.out.1.tw h3 _ (fF _ _) (λx hx j hj=>?_);obtain⟨j',lj,uQ,Fg⟩:=HB.out.2.1.els x ((fF _ _).subset hx);have:j'=j:=by omega
    subst this;exact mN Ob hw2 (cE.2 (af ⟨(p,l),h3,rfl,rfl⟩):(p,if p=p then cY l k made else l)∈_) hx hj (cE.2 (af ⟨(j',lj),Fg,rfl,rfl⟩):(j',if j'=p then cY lj k made else lj)∈_)
  clear iR bG jC HT jD;go_wp2;go_ret2;exact HE.out
 ·have gy:(y==0)=false:=by simp[hy]
  have gQ:T'=T/\made'=made:=by
   rcases ht.2 with⟨_,_,h1,h2⟩ | ⟨h1,_⟩
   ·exact⟨h1,h2⟩
   ·exact absurd h1 hy
  have HE:Hid (vn w (.pointer (some ⟨b,0,none⟩)) T made M rs kl F par at' kind (.returned (.tuple #[.int .i64 n,.int .i64 y])) w1):=by
   obtain⟨h1,h2⟩:=gQ;subst h1 h2;have qZ:=hm M HB.out.1.mks;refine⟨y,T',made',n,kl,rfl,ht,⟨b,vS,v',bP,G,rfl,?_,?_,af HB.out.2.2.1,λj hj=>(hv j hj).imp (HB.out.2.2.2.1 j) id,λj hj=>af (HB.out.2.2.2.2.1 j hj),λk hk=>af (HB.out.2.2.2.2.2 k hk)⟩,hf.mono (λk hk=>hk▸HB.out.2.2.1),mM _ _⟩
   ·rw[aj hy] at qZ ⊢;exact HB.out.1.tree hp HB.out.1.tw qZ hf hv
   ·rw[aj hy];exact HB.out.2.1
  clear ht hp hf hv hm gQ hy;go_wp2;go_ret2;exact HE.out
def vu (n:Int)(e:Ending)(w':World):Prop:=
 ∃y T' dh,e=.returned (.int .i64 y)/\TRem T n y T'/\DSk w' px T' made M rs dh (cJ F w)/\Fr w w' F/\DropT (λx=>y=0/\dJ T (aY T n) x=true) kl dh
theorem Dd (n:Int)(h:DSk w px T made M rs kl F):Calls prog 116 #[px,.int .i64 n] w λe w'=>vu w px T made M rs kl F n e w':=by
 obtain⟨b,vS,v,els,G,rfl,h2,h3,h4,h5,h6,h7⟩:=h;obtain⟨a,c,Kj⟩:=h2.pb.pl.shape;subst Kj;have HB:Hid (DM w b vS (.slice a els.length c) els T made M rs kl G/\KOK T M rs kl/\F b/\(∀j,(Value.slice a els.length c).ownBlock=some j->F j)/\(∀j,vS.2.ownBlock=some j->F j)/\∀k,G k->F k):=⟨h2,h3,h4,h5,h6,h7⟩;have bC:=h2.pb.few;clear h2 h3 h4 h5 h6 h7;go_enter func116,ntmps116;go_wp2_with fail;refine(i8 w b _ els n HB.out.1.pb.c1 HB.out.1.pb.pl bC).mono ?_;rintro e w1 ⟨rfl,cq⟩;have jD:=ae (HB.out.1.below cq);have HP:=ae (HB.out.1.pb.pt.parP HB.out.1.tw n);have eg:=ae cq;clear cq;generalize parP els n=par at HP ⊢;have QK:=xK bC par;go_wp2_with fail;refine(xB w1 b a c els par jD.out.trd).mono ?_;rintro e w2 ⟨al,cl,rfl,eb,dq⟩;have oD:=ae (jD.out.below dq);have eD:=ae (eg.out.trans (dq.mono eg.out.size));have Jo:=ae eb;clear eb dq;go_wp2_with fail;refine(PF w2 b vS _ els T made n oD.out.pb oD.out.tw).mono ?_;rintro e w3 ⟨y,T',v',bP,rfl,ht,hp,hf,hv,hm⟩;have Jj:Hid (Fr w w3 (λk=>k=b)):=((Fr.refl w (λk=>k=b)).below eD.out).trans hf;have HV:Hid (∀j,v'.ownBlock=some j->(Value.slice a els.length c).ownBlock=some j∨w.heap.size<=j):=λj hj=>(hv j hj).imp id (λh=>Nat.le_trans eD.out.size h)
 have vb:TW T' made:=by
  rcases ht.2 with⟨_,h1⟩ | ⟨_,x,_,h0,⟨l,hl⟩,h1⟩
  ·rw[h1];exact HB.out.1.tw
  ·rw[h1];exact HB.out.1.tw.rem hl h0
 have Qp:=ae (oD.out.tree hp vb (hm M HB.out.1.mks) hf hv)
 have HRI:Hid (RowI w3 al (ex els par)):=by
  refine RowI.own (jw (aP Jo.out aZ) (λk hk hl=>hf.block k hl (λe=>?_)));have h1:=(Jo.out.lt k hk).1;have h2:=jD.out.lt;omega
 have HT:=ae ht;clear ht hp hf hv hm vb
 by_cases hy:y=0
 ·have gy:(y==0)=true:=by simp[hy]
  have HY:=ae hy;clear hy;go_wp2_with fail;refine(Ar w3 b _ vS.2 kl al cl (ex els par) Qp.out.pb.doc rfl Qp.out.kp Qp.out.few HRI.out QK).mono ?_;intro e w4 hd;obtain⟨rfl,v2,iR,bG,jC⟩:=Qp.out.dropped hd
  have HE:Hid (vu w (.pointer (some ⟨b,0,none⟩)) T made M rs kl F n (.returned (.int .i64 y)) w4):=by
   refine⟨y,T',eh (ex els par) kl,rfl,HT.out,⟨b,(vS.1,v2),v',bP,G,rfl,iR,?_,af HB.out.2.2.1,λj hj=>(HV.out j hj).imp (HB.out.2.2.2.1 j) id,λj hj=>ai (Nat.le_trans Jj.out.size (jC j hj)),λk hk=>af (HB.out.2.2.2.2.2 k hk)⟩,(Jj.out.trans bG).mono (λk hk=>hk▸HB.out.2.2.1),tg (λx hx=>⟨HY.out,by rw[<-HP.out];exact jy HB.out.1.pb.pt HB.out.1.tw hx⟩) _⟩;rcases HT.out.2 with⟨h1,_⟩ | ⟨_,x,hn,h0,⟨l,hl⟩,h1⟩
   ·exact absurd HY.out h1
   ·obtain⟨q,hq,Sk,kA⟩:=HB.out.1.tw.up hl h0;have eZ:par=(q.1:Int):=by rw[HP.out,hn,kA]
    rw[h1];refine HB.out.2.1.rem HB.out.1.tw hl h0 hq Sk (fF _ _) (λz hz j hj=>?_);obtain⟨j',lj,uQ,Fg⟩:=HB.out.2.1.els z ((fF _ _).subset hz);have:j'=j:=by omega
    subst this;rw[eZ] at hz;exact mN HB.out.1.pb.pt HB.out.1.tw (p:=q.1) (l:=q.2) hq hz hj Fg
  clear hd iR bG jC Qp HRI Jo oD;go_wp2;go_ret;exact HE.out
 ·have gy:(y==0)=false:=by simp[hy]
  have HE:Hid (vu w (.pointer (some ⟨b,0,none⟩)) T made M rs kl F n (.returned (.int .i64 y)) w3):=by
   refine⟨y,T',kl,rfl,HT.out,⟨b,vS,v',bP,G,rfl,Qp.out,?_,af HB.out.2.2.1,λj hj=>(HV.out j hj).imp (HB.out.2.2.2.1 j) id,λj hj=>af (HB.out.2.2.2.2.1 j hj),λk hk=>af (HB.out.2.2.2.2.2 k hk)⟩,Jj.out.mono (λk hk=>hk▸HB.out.2.2.1),mM _ _⟩;rcases HT.out.2 with⟨_,h1⟩ | ⟨h1,_⟩
   ·rw[h1];exact HB.out.2.1
   ·exact absurd h1 hy
  clear hy;go_wp2;go_ret;exact HE.out
def vq (n m at':Int)(e:Ending)(w':World):Prop:=
 ∃y T' dh,e=.returned (.int .i64 y)/\TMov T n m at' y T'/\DSk w' px T' made M rs dh (cJ F w)/\Fr w w' F/\DropT (λx=>y=0/\(dJ T' (aY T n) x=true∨dJ T' m x=true)) kl dh
theorem C9 (n m at':Int)(h:DSk w px T made M rs kl F):Calls prog 119 #[px,.int .i64 n,.int .i64 m,.int .i64 at'] w λe w'=>vq w px T made M rs kl F n m at' e w':=by
 obtain⟨b,vS,v,els,G,rfl,h2,h3,h4,h5,h6,h7⟩:=h;obtain⟨a,c,Kj⟩:=h2.pb.pl.shape;subst Kj;have HB:Hid (DM w b vS (.slice a els.length c) els T made M rs kl G/\KOK T M rs kl/\F b/\(∀j,(Value.slice a els.length c).ownBlock=some j->F j)/\(∀j,vS.2.ownBlock=some j->F j)/\∀k,G k->F k):=⟨h2,h3,h4,h5,h6,h7⟩;have bC:=h2.pb.few;clear h2 h3 h4 h5 h6 h7;go_enter func119,ntmps119;go_wp2_with fail;refine(i8 w b _ els n HB.out.1.pb.c1 HB.out.1.pb.pl bC).mono ?_;rintro e w1 ⟨rfl,cq⟩;have jD:=ae (HB.out.1.below cq);have HP:=ae (HB.out.1.pb.pt.parP HB.out.1.tw n);have eg:=ae cq;clear cq;generalize parP els n=par at HP ⊢;go_wp2_with fail;refine(PA w1 b vS _ els T made n m at' jD.out.pb jD.out.tw).mono ?_;rintro e w3 ⟨y,T',v',bP,rfl,ht,hp,hf,hv,hm⟩;have Jj:Hid (Fr w w3 (λk=>k=b)):=((Fr.refl w (λk=>k=b)).below eg.out).trans hf;have HV:Hid (∀j,v'.ownBlock=some j->(Value.slice a els.length c).ownBlock=some j∨w.heap.size<=j):=λj hj=>(hv j hj).imp id (λh=>Nat.le_trans eg.out.size h)
 have vb:TW T' made:=by
  rcases ht.2 with⟨_,h1⟩ | ⟨_,x,p,k,_,_,_,h0,⟨l,hl⟩,⟨lp,Sj,_⟩,Kd,h1⟩
  ·rw[h1];exact HB.out.1.tw
  ·rw[h1];exact HB.out.1.tw.mov hl h0 Sj Kd
 have Qp:=ae (jD.out.tree hp vb (hm M HB.out.1.mks) hf hv);have HT:=ae ht;clear ht hp hf hv hm vb
 by_cases hy:y=0
 ·have gy:(y==0)=true:=by simp[hy]
  have HY:=ae hy;clear hy;go_wp2_with fail;refine(jt w3 b vS v' bP T' made M rs kl G par Qp.out).mono ?_;rintro e w4 ⟨rfl,v4,Sa,jn,hv4⟩;have UB:=bT Sa jn;clear Sa jn hv4;go_wp2_with fail;refine(jt w4 b (vS.1,v4) v' bP T' made M rs _ G m UB.out.1).mono ?_;rintro e w5 ⟨rfl,v5,Gd,Gf,Gt⟩
  have HE:Hid (vq w (.pointer (some ⟨b,0,none⟩)) T made M rs kl F n m at' (.returned (.int .i64 y)) w5):=by
   have yQ:(eh (ex bP m) (eh (ex bP par) kl)).Sublist kl:=(fF _ _).trans (fF _ _);refine⟨y,T',eh (ex bP m) (eh (ex bP par) kl),rfl,HT.out,⟨b,(vS.1,v5),v',bP,G,rfl,Gd,?_,af HB.out.2.2.1,λj hj=>(HV.out j hj).imp (HB.out.2.2.2.1 j) id,λj hj=>ai (Nat.le_trans Jj.out.size (Nat.le_trans UB.out.2.size (Gt j hj))),λk hk=>af (HB.out.2.2.2.2.2 k hk)⟩,((Jj.out.trans UB.out.2).trans Gf).mono (λk hk=>hk▸HB.out.2.2.1),(tg (λx hx=>⟨HY.out,af (by rw[<-HP.out];exact jy Gd.pb.pt Gd.tw hx)⟩) _).trans (tg (λx hx=>⟨HY.out,ai (jy Gd.pb.pt Gd.tw hx)⟩) _)⟩;rcases HT.out.2 with⟨h1,_⟩ | ⟨_,x,p,k,hn,hmp,_,h0,⟨l,hl⟩,⟨lp,Sj,_⟩,Kd,h1⟩
   ·exact absurd HY.out h1
   ·obtain⟨q,hq,Sk,kA⟩:=HB.out.1.tw.up hl h0;have eZ:par=(q.1:Int):=by rw[HP.out,hn,kA]
    have Ob:=Gd.pb.pt;have hw5:=Gd.tw;subst h1;refine HB.out.2.1.mov HB.out.1.tw hl h0 Sj Kd hq Sk yQ (λz hz j hj=>?_);obtain⟨j',lj,uQ,Fg⟩:=HB.out.2.1.els z (yQ.subset hz);have:j'=j:=by omega
    subst this;have mem:∀i li,(i,li)∈T->∃l,(i,l)∈lI T x p k:=λi li hi=>⟨if i=p then cY (aw x (if i=q.1 then aw x li else li)) k x else if i=q.1 then aw x li else li,(dX kA).2 ⟨(i,li),hi,rfl,rfl⟩⟩;obtain⟨lq',zV⟩:=mem q.1 q.2 hq;obtain⟨lp',ui⟩:=mem p lp Sj;obtain⟨lj',hjT'⟩:=mem j' lj Fg;rw[eZ,hmp] at hz;exact⟨mN Ob hw5 zV ((fF _ _).subset hz) hj hjT',mN Ob hw5 ui hz hj hjT'⟩
  clear Gd Gf Gt UB Qp;go_wp2;go_ret;exact HE.out
 ·have gy:(y==0)=false:=by simp[hy]
  have HE:Hid (vq w (.pointer (some ⟨b,0,none⟩)) T made M rs kl F n m at' (.returned (.int .i64 y)) w3):=by
   refine⟨y,T',kl,rfl,HT.out,⟨b,vS,v',bP,G,rfl,Qp.out,?_,af HB.out.2.2.1,λj hj=>(HV.out j hj).imp (HB.out.2.2.2.1 j) id,λj hj=>af (HB.out.2.2.2.2.1 j hj),λk hk=>af (HB.out.2.2.2.2.2 k hk)⟩,Jj.out.mono (λk hk=>hk▸HB.out.2.2.1),mM _ _⟩;rcases HT.out.2 with⟨_,h1⟩ | ⟨h1,_⟩
   ·rw[h1];exact HB.out.2.1
   ·exact absurd h1 hy
  clear hy;go_wp2;go_ret;exact HE.out
end
end
section
theorem SO {x:PEl}(h1:x.num=0)(h2:x.par=-1):PT [x] [(0,[])]:=by
 refine⟨by simp,λe he=>?_,λn l hl=>?_,λn l hl=>?_,λe he _=>?_⟩
 ·rw[fg] at he;rw[he,h1];exact⟨[],by simp⟩
 ·rw[fg] at hl;injection hl with hl _
  exact⟨x,by simp,by rw[h1,hl]⟩
 ·rw[fg] at hl;injection hl with hl QJ
  subst hl QJ;rw[pL,aj (by rw[h2];decide)]
 ·rw[fg] at he;rw[he];exact h2
def Mc (w:World)(s ake:ByteArray)(e:Ending)(w':World):Prop:=
 Below w.heap.size w w'/\((et s ake≠0/\e=.returned (.tuple #[.pointer none,.int .i64 (et s ake)]))∨(et s ake=0/\∃px,e=.returned (.tuple #[px,.int .i64 0])/\DSk w' px [(0,[])] 1 (λ_=>d8 ake) (eH s) [] (λk=>w.heap.size<=k)))
theorem Db (w:World)(s ake:ByteArray)(hs:s.size<=maxLen):Calls prog 24 #[.string s,.string ake] w λe w'=>Mc w s ake e w':=by
 go_enter func24,ntmps24;go_wp2_with fail;refine(xL w s hs).mono ?_;rintro e w1 ⟨a,n,c,rfl,cq,tq⟩
 by_cases hc:(gP s).1=0
 ·have HN:Hid (et s ake=if aG ake=false then 4 else 0):=by unfold Hid et;rw[aj (λh=>h hc)]
  have Hp:Hid (SheetIn w1 (λk=>w.heap.size<=k/\k<w1.heap.size) (.slice a n c) (eH s)):=by
   obtain⟨rs,xs,h1,h2,h3,h4⟩:=tq hc;exact EK hc h1 h2 h3 h4
  clear tq;rw[hc];clear hc;generalize (gP s).2=place;go_wp2_with fail;refine(PD _ ake).mono ?_;rintro e w3 ⟨fj,gQ⟩;have hB:Below w.heap.size w w3:=(cq.alloc cq.size _).trans (fj.mono (by have:=cq.size;simp;omega));have q6:w3.cell? ⟨w1.heap.size,0,none⟩=some (.slice a n c):=(fj.cell (p:=⟨w1.heap.size,0,none⟩) (by simp)).trans (aa (heap_alloc_new w1 _) rfl);have Gu:w1.heap.size<w3.heap.size:=by have:=fj.size;simp at this;omega
  have iG:Hid (Below w1.heap.size w1 w3):=(bd.alloc au _).trans (fj.mono (by simp));clear fj;rcases gQ with⟨hl,rfl⟩ | ⟨hl,g,x,rfl,WR,zX,Fl,lU,hg⟩
  ·have HE:Hid (et s ake=4):=by unfold Hid;rw[HN.out,aq hl]
   clear hl HN;go_wp2;go_ret2;refine⟨hB.alloc hB.size _,af ⟨by rw[HE.out];decide,by rw[HE.out];rfl⟩⟩
  ·have HE:Hid (et s ake=0):=by unfold Hid;rw[HN.out,aj (by rw[hl];decide)]
   have HX:Hid (PL w3 (.slice (some ⟨g,0,none⟩) 1 1) [x]/\PT [x] [(0,[])]/\w1.heap.size<=g/\MkO [x] (λ_=>d8 ake)):=⟨lU,SO WR zX,by simp at hg;omega,(Fl (λ_=>d8 ake)).ext (λy _=>by unfold bM;split<;>rfl)⟩;have QZ:Hid (∀w',Below w1.heap.size w1 w'->SheetIn w' (λk=>w.heap.size<=k/\k<w1.heap.size) (.slice a n c) (eH s)):=λw' hb=>Hp.out.keep (λk hk _=>hb.block k hk.2) hb.size;have WZ:=ae iG.out;clear hl HN WR zX lU hg Fl;go_wp2;go_ret2;have hz:=hB.size;have acI:=WZ.out.size;have e1:(w3.alloc (.cells #[.slice (some ⟨g,0,none⟩) 1 1,.int .i64 1] 85)).heap.size=w3.heap.size+1:=by simp
   have Dy:=HX.out.2.2.1;have hw1:=cq.size;have dn:g<w3.heap.size:=(HX.out.1.row.lt g rfl).2;refine⟨(hB.alloc hz _).alloc (by simp;omega) _,ai ⟨HE.out,_,rfl,w3.heap.size+1,(.slice a n c,.slice none 0 0),.slice (some ⟨g,0,none⟩) 1 1,[x],λk=>w.heap.size<=k/\k<w1.heap.size,rfl,⟨⟨?_,⟨(HX.out.1.row.alloc _).alloc _,HX.out.1.ok⟩,HX.out.2.1,by simp⟩,I3,HX.out.2.2.2,QZ.out _ ((WZ.out.alloc acI _).alloc (by simp;omega) _),⟨er,λx hx=>by cases hx⟩,by simp,λk hk=>by have:=hk.2;simp;omega,λhk=>by have:=hk.2;omega,λj hj hk=>?_,λj hj=>by simp[Value.ownBlock] at hj⟩,Iu,by show w.heap.size<=_;omega,λj hj=>?_,λj hj=>by simp[Value.ownBlock] at hj,λk hk=>hk.1⟩⟩
   ·rw[<-e1];exact heap_alloc_new _ _
   ·simp[Value.ownBlock] at hj;have:=hk.2;omega
   ·simp[Value.ownBlock] at hj;show w.heap.size<=j;omega
 ·have HN:Hid (et s ake=(gP s).1):=by unfold Hid et;rw[aq hc]
  have HC:=ae hc;generalize (gP s).2=place;generalize (gP s).1=y at HN HC hc ⊢;have gy:(y != 0)=true:=by simp[hc]
  clear hc;go_wp2;go_ret2;exact⟨cq.alloc cq.size _,af ⟨by rw[HN.out];exact HC.out,by rw[HN.out];rfl⟩⟩
end
section
open Go.ChangeShapes Go.WideShapes Go.ChangeAt Go.RowKit
variable {H:Type}
theorem MV (d:DataW H):1<=Rows.uptoBulk d:=by
 cases d with
 | lit l=>cases l<;>simp[Rows.uptoBulk]
 | _=>simp[Rows.uptoBulk]
theorem sZ {k:Nat}:∀(l:List (DataW H)),(∀d∈l,k<=Rows.uptoBulk d)->k*l.length<=Rows.uptoBulkAll l
 | [],_=>by simp
 | d :: l,h=>by
  have h1:=h d List.mem_cons_self;have h2:=sZ l (λx hx=>h x (List.mem_cons_of_mem _ hx));rw[List.length_cons,Nat.mul_succ];simp only[Rows.uptoBulkAll];omega
theorem B8 {enc:TypeId × Value->H}{W:World}{a0:Option Addr}{len gV JX:Nat}{x:DataW H × List MemPlace}(h:DataW.trod enc prog W 0 (λ_=>true) true JX 22 [.slice a0 len gV]=some x)(hb:Rows.uptoBulk x.1<=1048576):len<=131072:=by
 rcases Go.Deep.open_slice underlying22 h with⟨kf,_⟩ | ⟨a,len',cap',m,n,D,Pl,kf,_,hl,_,Ot,rfl,hx⟩
 ·simp only[List.cons.injEq,Value.slice.injEq,and_true] at kf;omega
 ·simp only[List.cons.injEq,Value.slice.injEq,and_true] at kf;obtain⟨_,rfl,rfl⟩:=kf;simp only[if_true] at Ot
  have h9:∀d∈(List.range len).map D,9<=Rows.uptoBulk d:=by
   intro d hd;obtain⟨i,hi,rfl⟩:=bm.1 hd;rw[List.mem_range] at hi;obtain⟨Va,_,h2⟩:=hx i (by omega);obtain⟨xs,k,_,hd,_,VS,_⟩:=DataW.trod_struct underlying69 h2;injection hd with hd _
   rw[hd];have h8:=sZ (k:=1) (xs.map (·.1)) (λd _=>MV d);rw[List.length_map,VS] at h8;simp only[Rows.uptoBulk];have:(1:Nat)*8<=Rows.uptoBulkAll (xs.map (·.1)):=h8;omega
  have h3:=sZ _ h9;rw[List.length_map,List.length_range] at h3;simp only[Rows.uptoBulk] at hb;omega
end
section
variable {r:Nat}
def eL (p:Nat):Int:=if 5<p then 0 else(p:Int)+1
def jk (p:Nat):Bool:=decide (p<3)||decide (5<p)
theorem lW (w:World)(p:Nat)(hp:p<9):Calls prog 169 #[.int .i64 p] w λe w'=>e=.returned (.int .i64 (eL p))/\w'=w:=by
 by_cases h:5<p
 ·have HE:Hid (eL p=0):=by unfold Hid eL;rw[aq h]
  have hd:decide ((5:Int)<(p:Int))=true:=by simp;omega
  clear h;go_enter func169,ntmps169;go_wp2;go_ret;rw[HE.out];exact⟨rfl,rfl⟩
 ·have HE:Hid (eL p=(p:Int)+1):=by unfold Hid eL;rw[aj h]
  have hd:decide ((5:Int)<(p:Int))=false:=by simp;omega
  clear h;go_enter func169,ntmps169;go_wp2;go_ret;rw[HE.out];exact⟨rfl,rfl⟩
theorem zH (w:World)(p:Nat)(hp:p<9):Calls prog 189 #[.int .i64 p] w λe w'=>e=.returned (.bool (jk p))/\w'=w:=by
 by_cases h3:p<3
 ·have HE:Hid (jk p=true):=by unfold Hid jk;simp[h3]
  have hd:decide ((p:Int)<3)=true:=by simp;omega
  clear h3;go_enter func189,ntmps189;go_wp2;go_ret;rw[HE.out];exact⟨rfl,rfl⟩
 ·have hd:decide ((p:Int)<3)=false:=by simp;omega
  by_cases h:5<p
  ·have HE:Hid (jk p=true):=by unfold Hid jk;simp[h]
   have iR:decide ((5:Int)<(p:Int))=true:=by simp;omega
   clear h h3;go_enter func189,ntmps189;go_wp2;go_ret;rw[HE.out];exact⟨by simp,rfl⟩
  ·have HE:Hid (jk p=false):=by unfold Hid jk;simp[h,h3]
   have iR:decide ((5:Int)<(p:Int))=false:=by simp;omega
   clear h h3;go_enter func189,ntmps189;go_wp2;go_ret;rw[HE.out];exact⟨by simp,rfl⟩
def My (at' a b:Nat):Prop:=∃k,k<=at'/\a*k+b=at'
open Classical in
noncomputable def lE (at' a b:Nat):Bool:=decide (My at' a b)
theorem qN {at' a b:Nat}:lE at' a b=true↔My at' a b:=by simp[lE]
theorem Eo (w:World)(at' a b:Nat)(BC:at'<=24)(ha:a<=9)(hb:b<=9):Calls prog 218 #[.int .i64 at',.int .i64 a,.int .i64 b] w λe w'=>e=.returned (.bool (lE at' a b))/\w'=w:=by
 go_enter func218,ntmps218;go_wp2
 go_loop [7] (λiv=>∃i:Nat,iv=.int .i64 i/\i<=at'+1/\Hid (∀k,k<i->a*k+b≠at')) (λiv=>at'+1 - (intOf iv).toNat)
 case atStart=>exact⟨0,rfl,aZ,λk hk=>by omega⟩
 case round=>
  obtain⟨i,rfl,hi,HN⟩:=hrel
  by_cases aU:i<=at'
  ·have hd:decide ((i:Int)<=(at':Int))=true:=by simp;omega
   have hm:a*i<=9*24:=Nat.mul_le_mul ha (by omega);have HM:Hid (∀m,a*i=m->(a*i+b=at'↔m+b=at')):=λm h=>by rw[h]
   have hmi:(a:Int)*(i:Int)=((a*i:Nat):Int):=by push_cast;rfl
   by_cases he:a*i+b=at'
   ·have HE:Hid (lE at' a b=true):=qN.2 ⟨i,aU,he⟩;have ge:(((a*i:Nat):Int)+(b:Int)==(at':Int))=true:=by rw[beq_iff_eq];omega
    clear he;generalize a*i=m at hm hmi ge;go_wp2;go_ret;rw[HE.out];exact⟨rfl,rfl⟩
   ·have ge:(((a*i:Nat):Int)+(b:Int)==(at':Int))=false:=by rw[ff];omega
    have e9:Hid (∀k,k<i+1->a*k+b≠at'):=λk hk=>by
     by_cases e:k=i
     ·subst e;exact he
     ·exact HN.out k (by omega)
    clear he;generalize a*i=m at hm hmi ge;go_wp2
    go_round
    case rel=>exact⟨i+1,by go_num,by omega,e9⟩
    case measure=>simp[intOf];omega
  ·have hd:decide ((i:Int)<=(at':Int))=false:=by simp;omega
   have HE:Hid (lE at' a b=false):=by
    unfold Hid;cases hr:lE at' a b with
    | false=>rfl
    | true=>
     obtain⟨k,hk,h⟩:=qN.1 hr;exact absurd h (HN.out k (by omega))
   go_wp2;go_ret;rw[HE.out];exact⟨rfl,rfl⟩
def fu (c:Nat):Option Nat:=if 65<=c/\c<=70 then some (c - 65) else if 88<=c/\c<=90 then some (c - 82) else none
abbrev nine:ByteArray:=⟨#[65,66,67,68,69,70,88,89,90]⟩
theorem Kx:nine.size=9:=rfl
theorem BM (h:r<9):(r<6/\bt nine r=65+r)∨(6<=r/\bt nine r=82+r):=by
 have:r=0∨r=1∨r=2∨r=3∨r=4∨r=5∨r=6∨r=7∨r=8:=by omega
 rcases this with rfl | rfl | rfl | rfl | rfl | rfl | rfl | rfl | rfl
 ·exact af ⟨by omega,rfl⟩
 ·exact af ⟨by omega,rfl⟩
 ·exact af ⟨by omega,rfl⟩
 ·exact af ⟨by omega,rfl⟩
 ·exact af ⟨by omega,rfl⟩
 ·exact af ⟨by omega,rfl⟩
 ·exact ai ⟨by omega,rfl⟩
 ·exact ai ⟨by omega,rfl⟩
 ·exact ai ⟨by omega,rfl⟩
theorem Qg {c:Nat}(h:U3 nine 0 c r):(r<9/\fu c=some r)∨(r=9/\fu c=none):=by
 obtain⟨_,h2,h3,h4⟩:=h;rw[Kx] at h2 h4
 by_cases hr:r<9
 ·left;refine⟨hr,?_⟩;have hc:=h4 hr;unfold fu;rcases BM hr with⟨h5,h6⟩ | ⟨h5,h6⟩
  ·rw[aq (by omega)]
   congr 1
   omega
  ·rw[aj (by omega),aq (by omega)]
   congr 1
   omega
 ·right;refine⟨by omega,?_⟩;unfold fu;rw[aj,aj]
  ·intro hc;have h7:=h3 (c - 82) (by omega) (by omega);rcases BM (r:=c - 82) (by omega) with⟨h5,h6⟩ | ⟨h5,h6⟩<;>omega
  ·intro hc;have h7:=h3 (c - 65) (by omega) (by omega);rcases BM (r:=c - 65) (by omega) with⟨h5,h6⟩ | ⟨h5,h6⟩<;>omega
def XV (w:World)(c:Nat)(e:Ending)(w':World):Prop:=∃r:Nat,e=.returned (.int .i64 r)/\w'=w/\Hid ((r<9/\fu c=some r)∨(r=9/\fu c=none))
theorem pW (w:World)(c:Nat):Calls prog 131 #[.string nine,.int .i64 0,.int .u8 c] w λe w'=>XV w c e w':=
 (nz w nine 0 c (by decide) (by decide)).mono λ_ _ ⟨r,h1,h2,h3⟩=>⟨r,h1,h2,Qg h3⟩
def lD (s:ByteArray):Option Nat:=if s.size=1 then fu (bt s 0) else none
def Aw (o:Option Nat):Int:=match o with | some p=>p | none=>-1
theorem zb (w:World)(s:ByteArray):Calls prog 139 #[.string s] w λe w'=>e=.returned (.int .i64 (Aw (lD s)))/\w'=w:=by
 by_cases h1:s.size=1
 ·have g1:((s.size:Int) != 1)=false:=by simp[h1]
  have h0:0<s.size:=by omega
  have hb:(s[0].toNat:Int)=(bt s 0:Int):=by rw[bN s 0 h0]
  have HP:Hid (lD s=fu (bt s 0)):=by unfold Hid lD;rw[aq h1]
  clear h1;go_enter func139,ntmps139;go_wp2_with fail;have mV:=pW w (bt s 0);refine mV.mono ?_;rintro e w1 ⟨r,rfl,rfl,HR⟩;rcases HR.out with⟨hr,hp⟩ | ⟨hr,hp⟩
  ·have HE:Hid (Aw (lD s)=r):=by unfold Hid;rw[HP.out,hp];rfl
   have g9:((r:Int)==9)=false:=by rw[ff];omega
   clear hp hb mV;go_wp2;go_ret;rw[HE.out];exact⟨rfl,rfl⟩
  ·have HE:Hid (Aw (lD s)=-1):=by unfold Hid;rw[HP.out,hp];rfl
   subst hr;clear hp hb mV;go_wp2;go_ret;rw[HE.out];exact⟨rfl,rfl⟩
 ·have g1:((s.size:Int) != 1)=true:=by rw[bne_iff_ne];omega
  have HE:Hid (Aw (lD s)=-1):=by unfold Hid lD;rw[aj h1];rfl
  clear h1;go_enter func139,ntmps139;go_wp2;go_ret;rw[HE.out];exact⟨rfl,rfl⟩
end
def iS (l:List Nat)(n:Int):Nat->Nat
 | 0=>0
 | i+1=>if(l[i]?.map λk:Nat=>(k:Int))=some n then i+1 else iS l n i
theorem Ad (l:List Nat)(n:Int):∀i,iS l n i<=i
 | 0=>au
 | i+1=>by
  unfold iS;split
  ·exact au
  ·exact Nat.le_succ_of_le (Ad l n i)
def cR (els:List REl)(n:Int):Nat × Nat:=if bc els n<0 then(1,1) else match bJ els (bc els n) with | some p=>(iS p.kids n p.kids.length,p.kids.length) | none=>(0,0)
theorem Ce {w:World}{d:Nat}{els:List REl}{made:Nat}{hp:Option Addr}{vT:Value}{bi:Bool}{vL:Value}(h:RD w d els made hp vT bi vL)(n:Int):(cR els n).1<=24/\(cR els n).2<=24:=by
 unfold cR;split
 ·exact⟨by decide,by decide⟩
 ·cases hf:bJ els (bc els n) with
  | none=>exact⟨aZ,aZ⟩
  | some p=>
   have h1:=h.kfew p (cN hf).1;have h2:=Ad p.kids n p.kids.length;exact⟨by show iS _ _ _<=24;omega,h1⟩
theorem x9 (w:World)(d:Nat)(els:List REl)(made:Nat)(hp:Option Addr)(vT:Value)(bi:Bool)(vL:Value)(n:Int)(h:RD w d els made hp vT bi vL):
  Calls prog 211 #[.pointer (some ⟨d,0,none⟩),.int .i64 n] w λe w'=>e=.returned (.tuple #[.int .i64 (cR els n).1,.int .i64 (cR els n).2])/\w'=w:=by
 have HR:=ae h;clear h;go_enter func211,ntmps211;go_wp2_with fail;refine(f9 _ d els made hp vT bi _ n HR.out).mono ?_;rintro e w1 ⟨rfl,rfl⟩;obtain⟨w,rfl⟩:∃w,w=w1:=⟨_,rfl⟩
 by_cases Im:bc els n<0
 ·have HE:Hid (cR els n=(1,1)):=by unfold Hid cR;rw[aq Im]
  have gp:decide (bc els n<0)=true:=by simpa using Im
  clear Im;generalize bc els n=q at gp ⊢;go_wp2;go_ret2;rw[HE.out];exact⟨rfl,rfl⟩
 ·obtain⟨p,Cs⟩:=wI Im;have HE:Hid (cR els n=(iS p.kids n p.kids.length,p.kids.length)):=by unfold Hid cR;rw[aj Im,Cs]
  have gp:decide (bc els n<0)=false:=by simpa using Im
  have HF:=ae Cs;have fA:=(cN Cs).1;have e4:=(eR (HR.out.el p fA)).2;have rH:=HR.out.kid p fA;have RZ:=HR.out.kfew p fA;obtain⟨ak,ck,sL⟩:=aA rH;rw[sL] at e4 rH;have HK:=ae rH;clear Im Cs fA rH sL;generalize bc els n=q at gp HF ⊢;go_wp2_with fail;refine(eB _ d els made hp vT bi vL q HR.out).mono ?_;rintro e w1 ⟨rfl,rfl⟩;obtain⟨w,rfl⟩:∃w,w=w1:=⟨_,rfl⟩;rw[HF.out];have he:fa (some p)=.pointer (some ⟨p.blk,0,none⟩):=rfl;rw[he];clear he;go_wp2_with fail
  go_loop [8,9] (λav iv=>∃i:Nat,iv=.int .i64 i/\i<=p.kids.length/\av=.int .i64 (iS p.kids n i)) (λ_ iv=>p.kids.length - (intOf iv).toNat)
  case atStart=>exact⟨0,rfl,aZ,rfl⟩
  case round=>
   obtain⟨i,rfl,hi,rfl⟩:=hrel
   by_cases aU:i<p.kids.length
   ·have hd:decide ((i:Int)<(p.kids.length:Int))=true:=by simp;omega
    obtain⟨g,hg,_,hc⟩:=aR HK.out (by omega);subst hg;have q1:=hc i (.int .i64 ((p.kids[i]:Nat):Int)) (by simp[aU])
    have HL:Hid (iS p.kids n (i+1)=if((p.kids[i]:Nat):Int)=n then i+1 else iS p.kids n i):=by
     unfold Hid;show(if _ then _ else _)=_;rw[bO aU];simp
    clear hc;generalize p.kids[i]=k at q1 HL
    by_cases hn:((k:Nat):Int)=n
    ·have gn:((k:Int)==n)=true:=by simp[hn]
     have Xk:Hid (iS p.kids n (i+1)=i+1):=by unfold Hid;rw[HL.out,aq hn]
     clear hn HL;go_wp2
     go_round
     case rel=>exact⟨i+1,by go_num,by omega,by rw[Xk.out];go_num⟩
     case measure=>simp[intOf];omega
    ·have gn:((k:Int)==n)=false:=by simp[hn]
     have Xk:Hid (iS p.kids n (i+1)=iS p.kids n i):=by unfold Hid;rw[HL.out,aj hn]
     clear hn HL;go_wp2
     go_round
     case rel=>exact⟨i+1,by go_num,by omega,by rw[Xk.out]⟩
     case measure=>simp[intOf];omega
   ·have hd:decide ((i:Int)<(p.kids.length:Int))=false:=by simp;omega
    obtain rfl:i=p.kids.length:=by omega
    go_wp2;go_ret2;rw[HE.out];exact⟨rfl,rfl⟩
noncomputable def dj (els:List REl)(a:Int)(sg:Nat)(b:Int):Bool:=
 if sg=62 then decide (bc els b=a)
 else if sg=32 then decide (0<=bc els b)&&eU els a (bc els b)
 else if bc els b<0∨bc els b≠bc els a then false
 else decide ((cR els a).1+1=(cR els b).1)||(decide (sg=126)&&decide ((cR els a).1<(cR els b).1))
theorem G1 (w:World)(d:Nat)(els:List REl)(made:Nat)(hp:Option Addr)(vT:Value)(bi:Bool)(vL:Value)(a:Int)(sg:Nat)(b:Int)(h:RD w d els made hp vT bi vL)(rk:Nat->Nat)(hr:rl els rk):
  Calls prog 203 #[.pointer (some ⟨d,0,none⟩),.int .i64 a,.int .u8 sg,.int .i64 b] w λe w'=>e=.returned (.bool (dj els a sg b))/\w'=w:=by
 have HR:=ae h;have HK:=ae hr;have hsa:=(Ce h a).1;have hsb:=(Ce h b).1;clear h hr;go_enter func203,ntmps203;go_wp2_with fail;refine(f9 _ d els made hp vT bi _ b HR.out).mono ?_;rintro e w1 ⟨rfl,rfl⟩;obtain⟨w,rfl⟩:∃w,w=w1:=⟨_,rfl⟩
 by_cases h62:sg=62
 ·have HE:Hid (dj els a sg b=(bc els b==a)):=by unfold Hid dj;rw[aq h62];by_cases e:bc els b=a<;>simp[e]
  have g62:((sg:Int)==62)=true:=by simp[h62]
  clear h62;generalize bc els b=q at HE ⊢;go_wp2;go_ret;rw[HE.out];exact⟨rfl,rfl⟩
 have g62:((sg:Int)==62)=false:=by rw[ff];omega
 by_cases h32:sg=32
 ·have g32:((sg:Int)==32)=true:=by simp[h32]
  by_cases h0:0<=bc els b
  ·have HE:Hid (dj els a sg b=eU els a (bc els b)):=by unfold Hid dj;rw[aj h62,aq h32];simp[h0]
   have g0:decide (0<=bc els b)=true:=by simpa using h0
   clear h62 h32 h0;generalize bc els b=q at HE g0 ⊢;go_wp2_with fail;refine(nw _ d els made hp vT bi vL a q HR.out rk HK.out).mono ?_;rintro e w2 ⟨r,rfl,rfl,HU⟩;obtain⟨w,rfl⟩:∃w,w=w2:=⟨_,rfl⟩
   have HB:Hid (eU els a q=r):=by
    unfold Hid;have h1:=HU.out;rw[<-ke] at h1;cases r<;>cases hu:eU els a q<;>simp_all
   clear HU;go_wp2;go_ret;rw[HE.out,HB.out];exact⟨by simp,rfl⟩
  ·have HE:Hid (dj els a sg b=false):=by unfold Hid dj;rw[aj h62,aq h32];simp[h0]
   have g0:decide (0<=bc els b)=false:=by simpa using h0
   clear h62 h32 h0;generalize bc els b=q at g0 ⊢;go_wp2;go_ret;rw[HE.out];exact⟨by simp,rfl⟩
 have g32:((sg:Int)==32)=false:=by rw[ff];omega
 go_wp2_with fail;refine(f9 _ d els made hp vT bi _ a HR.out).mono ?_;rintro e w1 ⟨rfl,rfl⟩;obtain⟨w,rfl⟩:∃w,w=w1:=⟨_,rfl⟩
 by_cases kQ:bc els b<0∨bc els b≠bc els a
 ·have HE:Hid (dj els a sg b=false):=by unfold Hid dj;rw[aj h62,aj h32,aq kQ]
  clear h62 h32
  by_cases h0:bc els b<0
  ·have g0:decide (bc els b<0)=true:=by simpa using h0
   clear kQ h0;generalize bc els b=q at g0 ⊢;generalize bc els a=q2;go_wp2;go_ret;rw[HE.out];exact⟨rfl,rfl⟩
  ·have g0:decide (bc els b<0)=false:=by simpa using h0
   have g1:(bc els b != bc els a)=true:=by rw[bne_iff_ne];exact kQ.resolve_left h0
   clear kQ h0;generalize bc els b=q at g0 g1 ⊢;generalize bc els a=q2 at g1 ⊢;go_wp2;go_ret;rw[HE.out];exact⟨rfl,rfl⟩
 ·have HE:Hid (dj els a sg b=(decide ((cR els a).1+1=(cR els b).1)||(decide (sg=126)&&decide ((cR els a).1<(cR els b).1)))):=by unfold Hid dj;rw[aj h62,aj h32,aj kQ]
  have h0:¬bc els b<0:=λh=>kQ (af h);have h1:bc els b=bc els a:=Classical.byContradiction λh=>kQ (ai h);have g0:decide (bc els b<0)=false:=by simpa using h0
  have g1:(bc els b != bc els a)=false:=by simp[h1]
  clear h62 h32 kQ h0 h1;generalize bc els b=q at g0 g1 ⊢;generalize bc els a=q2 at g1 ⊢;go_wp2_with fail;refine(x9 _ d els made hp vT bi _ a HR.out).mono ?_;rintro e w1 ⟨rfl,rfl⟩;obtain⟨w,rfl⟩:∃w,w=w1:=⟨_,rfl⟩;go_wp2_with fail;refine(x9 _ d els made hp vT bi _ b HR.out).mono ?_;rintro e w1 ⟨rfl,rfl⟩;obtain⟨w,rfl⟩:∃w,w=w1:=⟨_,rfl⟩;generalize (cR els a).1=i at HE hsa ⊢;generalize (cR els b).1=k at HE hsb ⊢;generalize (cR els a).2=i2;generalize (cR els b).2=k2
  by_cases hik:i+1=k
  ·have gik:((i:Int)+1==(k:Int))=true:=by rw[beq_iff_eq];omega
   have CC:Hid (dj els a sg b=true):=by unfold Hid;rw[HE.out,decide_eq_true hik];rfl
   clear hik HE;go_wp2;go_ret;rw[CC.out];exact⟨rfl,rfl⟩
  ·have gik:((i:Int)+1==(k:Int))=false:=by rw[ff];omega
   by_cases h126:sg=126
   ·have acC:((sg:Int)==126)=true:=by simp[h126]
    have CC:Hid (dj els a sg b=decide ((i:Int)<(k:Int))):=by unfold Hid;rw[HE.out,decide_eq_false hik,decide_eq_true h126];by_cases e:i<k<;>simp[e]
    clear hik HE h126;go_wp2;go_ret;rw[CC.out];exact⟨by simp,rfl⟩
   ·have acC:((sg:Int)==126)=false:=by rw[ff];omega
    have CC:Hid (dj els a sg b=false):=by unfold Hid;rw[HE.out,decide_eq_false hik,decide_eq_false h126];rfl
    clear hik HE h126;go_wp2;go_ret;rw[CC.out];exact⟨by simp,rfl⟩
section
variable {i q:Nat}{s:ByteArray}
def gW (s:ByteArray)(i:Nat):Nat:=if bt s i=33 then 1 else 0
def mH (a b k:Nat):Nat:=if a=46∨a=35 then k+2 else if a=58 then(if b=110 then k+4 else k+2) else k+1
def cW (s:ByteArray)(i:Nat):Nat:=mH (bt s (i+gW s i)) (bt s (i+gW s i+1)) (gW s i)
def qS (a:Nat):Nat:=if a=35 then 1000000 else if a=46∨a=58 then 1000 else if a=42 then 0 else 1
def mI (s:ByteArray)(i:Nat):Nat:=qS (bt s (i+gW s i))
def Fq (s:ByteArray):Nat->Nat->List Nat->Prop
 | i,q,[]=>i=q
 | i,q,x :: xs=>i+cW s i<=q/\x=mI s i/\Fq s (i+cW s i) q xs
theorem RS (a b k:Nat):k+1<=mH a b k:=by unfold mH;(repeat' split)<;>omega
theorem ww (s:ByteArray)(i:Nat):gW s i+1<=cW s i:=RS _ _ _
theorem Bk {b k:Nat}:k+2<=mH 58 b k:=by unfold mH;(repeat' split)<;>omega
theorem H3 (h:i+cW s i<=q)(hq:q<=s.size):cW (s.extract i q) 0=cW s i/\mI (s.extract i q) 0=mI s i:=by
 have hk:=ww s i;have e0:bt (s.extract i q) 0=bt s i:=by rw[ba hq (by omega)];rfl
 have eK:gW (s.extract i q) 0=gW s i:=by unfold gW;rw[e0]
 have e1:bt (s.extract i q) (0+gW s i)=bt s (i+gW s i):=by rw[Nat.zero_add,ba hq (by omega)]
 refine⟨?_,by unfold mI;rw[eK,e1]⟩;unfold cW at h ⊢;rw[eK,e1]
 by_cases h58:bt s (i+gW s i)=58
 ·rw[h58] at h ⊢;have:=@Bk (bt s (i+gW s i+1)) (gW s i);rw[Nat.zero_add,ba hq (by omega)];rfl
 ·unfold mH;simp only[h58,if_false]
theorem D7 {j:Nat}{p:PPt}(h':jI s i p j):i+cW s i=j/\mI s i=pw p.kd:=by
 have h:=h'.2;obtain⟨nt,kd,lt,st,sr⟩:=p
 by_cases iV:bt s i=33
 ·rw[aq iV] at h;have hk:gW s i=1:=by unfold gW;rw[aq iV]
  unfold cW mI;rw[hk]
  by_cases hl:gw (bt s (i+1))=true
  ·rw[aq hl] at h;obtain⟨h1,rfl⟩:=h;replace h1:kd=1:=h1;subst h1;simp only[gw,bF] at hl;constructor
   ·unfold mH;rw[aj (by omega),aj (by omega)]
   ·unfold qS pw;rw[aj (by omega),aj (by omega),aj (by omega)];rfl
  ·rw[aj hl] at h;obtain⟨_,g1,g2,rfl,g4,_⟩:=h;replace g1:kd≠1:=g1;replace g2:kd=3↔_:=g2;constructor
   ·unfold mH sl;rcases g4 with g | g | g<;>rw[g]<;>simp<;>(try omega)
    split<;>omega
   ·unfold qS pw
    by_cases g3:kd=3
    ·rw[aq (g2.1 g3),aq g3]
    ·rw[aj (λe=>g3 (g2.2 e)),aj g3,aj g1,aq (by have:bt s (i+1)≠35:=λe=>g3 (g2.2 e);omega)]
 ·rw[aj iV] at h;have hk:gW s i=0:=by unfold gW;rw[aj iV]
  unfold cW mI;rw[hk];obtain⟨_,g1,g2,rfl,g4,_⟩:=h;replace g1:kd≠1:=g1;replace g2:kd=3↔_:=g2;constructor
  ·unfold mH sl;simp only[Nat.add_zero];rcases g4 with g | g | g<;>rw[g]<;>simp
  ·unfold qS pw;simp only[Nat.add_zero]
   by_cases g3:kd=3
   ·rw[aq (g2.1 g3),aq g3]
   ·rw[aj (λe=>g3 (g2.2 e)),aj g3,aj g1,aq (by have:bt s i≠35:=λe=>g3 (g2.2 e);omega)]
theorem nW:∀{ks:List PPt} {i j:Nat},PartsAt s i j ks->Fq s i j (ks.map Uo)
 | [],_,_,h=>h
 | k :: ks,i,j,⟨_,l,h2,h3⟩=>by
  obtain⟨e1,e2⟩:=D7 h2;have:=(pe h3).1;exact⟨by omega,e2.symm,by rw[e1];exact nW h3⟩
theorem JH {p ty:Nat}{ks:List PPt}(h:fl s p q ty ks)(kA:p<q):∃xs,Fq s p q xs/\xs.sum=cw ty ks/\(∀x∈xs,x<=1000000)/\xs.length<=q - p:=by
 have hp:∀x∈ks.map Uo,x<=1000000:=λx hx=>by obtain⟨k,_,rfl⟩:=bm.1 hx;exact PJ k.kd
 rcases h with⟨h1,h2,h3⟩ | ⟨h0,h1,h2,h3⟩ | ⟨_,_,h2,h3,_⟩
 ·simp only[gw,bF] at h1;have hk:gW s p=0:=by unfold gW;rw[aj (by omega)]
  have hl:=j5 h3;refine⟨1 :: ks.map Uo,⟨?_,?_,?_⟩,?_,?_,?_⟩
  ·unfold cW;rw[hk];unfold mH;simp only[Nat.add_zero];rw[aj (by omega),aj (by omega)];omega
  ·unfold mI;rw[hk];unfold qS;simp only[Nat.add_zero];rw[aj (by omega),aj (by omega),aj (by omega)]
  ·rw[show cW s p=1 from by unfold cW;rw[hk];unfold mH;simp only[Nat.add_zero];rw[aj (by omega),aj (by omega)]];exact nW h3
  ·simp only[List.sum_cons,cw,Fn];rw[aj (by omega)]
  ·intro x hx;rcases List.mem_cons.1 hx with rfl | hx
   ·omega
   ·exact hp x hx
  ·simp only[List.length_cons,List.length_map];omega
 ·have hk:gW s p=0:=by unfold gW;rw[aj (by omega)]
  have hl:=j5 h3;have hn:cW s p=1:=by unfold cW;rw[hk];unfold mH;simp only[Nat.add_zero];rw[aj (by omega),aj (by omega)]
  refine⟨0 :: ks.map Uo,⟨by omega,?_,?_⟩,?_,?_,?_⟩
  ·unfold mI;rw[hk];unfold qS;simp only[Nat.add_zero];rw[aj (by omega),aj (by omega),aq h1]
  ·rw[hn];exact nW h3
  ·simp only[List.sum_cons,cw,Fn];rw[aq h2]
  ·intro x hx;rcases List.mem_cons.1 hx with rfl | hx
   ·omega
   ·exact hp x hx
  ·simp only[List.length_cons,List.length_map];omega
 ·have hl:=j5 h3;refine⟨ks.map Uo,nW h3,?_,hp,by simpa using hl⟩;simp only[cw,Fn];rw[aq h2];omega
theorem H2 (w:World)(u:ByteArray)(h:cW u 0<=u.size)(hs:u.size<=400):
  Calls prog 135 #[.string u] w λe w'=>e=.returned (.tuple #[.string (u.extract 0 (cW u 0)),.string (u.extract (cW u 0) u.size)])/\∃m,w'=w.drewN m:=by
 have lN:=ww u 0
 by_cases iV:bt u 0=33
 ·have hk:gW u 0=1:=by unfold gW;rw[aq iV]
  rw[hk] at lN;have h1s:1<u.size:=by omega
  have Zy:0<u.size:=by omega
  have N8:((u[0].toNat:Int)==33)=true:=by rw[<-bN u 0 Zy,iV];rfl
  have ol:cW u 0=mH (bt u 1) (bt u 2) 1:=by unfold cW;rw[hk]
  by_cases h46:bt u 1=46
  ·have Zx:((u[1].toNat:Int)==46)=true:=by rw[<-bN u 1 (by omega),h46];rfl
   have HN:Hid (cW u 0=3):=by unfold Hid;rw[ol,h46];rfl
   have iA:=HN.out;rw[iA] at h;clear iA ol lN hk iV h46;go_enter func135,ntmps135;go_wp2;go_quiet (fail);go_wp2;go_ret2;exact⟨by rw[HN.out];first | rfl | simp,_,rfl⟩
  have Zx:((u[1].toNat:Int)==46)=false:=by rw[<-bN u 1 (by omega)];simp;omega
  by_cases h35:bt u 1=35
  ·have Zv:((u[1].toNat:Int)==35)=true:=by rw[<-bN u 1 (by omega),h35];rfl
   have HN:Hid (cW u 0=3):=by unfold Hid;rw[ol,h35];rfl
   have iA:=HN.out;rw[iA] at h;clear iA ol lN hk iV h35 h46;go_enter func135,ntmps135;go_wp2;go_quiet (fail);go_wp2;go_ret2;exact⟨by rw[HN.out];first | rfl | simp,_,rfl⟩
  have Zv:((u[1].toNat:Int)==35)=false:=by rw[<-bN u 1 (by omega)];simp;omega
  by_cases h58:bt u 1=58
  ·have Vl:((u[1].toNat:Int)==58)=true:=by rw[<-bN u 1 (by omega),h58];rfl
   rw[h58] at ol;have Sc:=@Bk (bt u 2) 1;have Ct:2<u.size:=by omega
   by_cases h110:bt u 2=110
   ·have Vj:((u[2].toNat:Int)==110)=true:=by rw[<-bN u 2 Ct,h110];rfl
    have HN:Hid (cW u 0=5):=by unfold Hid;rw[ol,h110];rfl
    have iA:=HN.out;rw[iA] at h;clear iA ol lN hk iV h46 h35 h58 h110 Sc;go_enter func135,ntmps135;go_wp2;go_quiet (fail);go_wp2;go_ret2;exact⟨by rw[HN.out];first | rfl | simp,_,rfl⟩
   ·have Vj:((u[2].toNat:Int)==110)=false:=by rw[<-bN u 2 Ct];simp;omega
    have HN:Hid (cW u 0=3):=by unfold Hid;rw[ol];unfold mH;rw[aj (by omega),aq rfl,aj h110]
    have iA:=HN.out;rw[iA] at h;clear iA ol lN hk iV h46 h35 h58 h110 Sc;go_enter func135,ntmps135;go_wp2;go_quiet (fail);go_wp2;go_ret2;exact⟨by rw[HN.out];first | rfl | simp,_,rfl⟩
  have Vl:((u[1].toNat:Int)==58)=false:=by rw[<-bN u 1 (by omega)];simp;omega
  have HN:Hid (cW u 0=2):=by unfold Hid;rw[ol];unfold mH;rw[aj (by omega),aj h58]
  have iA:=HN.out;rw[iA] at h;clear iA ol lN hk iV h46 h35 h58;go_enter func135,ntmps135;go_wp2;go_quiet (fail);go_wp2;go_ret2;exact⟨by rw[HN.out];first | rfl | simp,_,rfl⟩
 ·have hk:gW u 0=0:=by unfold gW;rw[aj iV]
  rw[hk] at lN;have Zy:0<u.size:=by omega
  have N8:((u[0].toNat:Int)==33)=false:=by rw[<-bN u 0 Zy];simp;omega
  have ol:cW u 0=mH (bt u 0) (bt u 1) 0:=by unfold cW;rw[hk]
  by_cases h46:bt u 0=46
  ·have Zx:((u[0].toNat:Int)==46)=true:=by rw[<-bN u 0 (by omega),h46];rfl
   have HN:Hid (cW u 0=2):=by unfold Hid;rw[ol,h46];rfl
   have iA:=HN.out;rw[iA] at h;clear iA ol lN hk iV h46;go_enter func135,ntmps135;go_wp2;go_quiet (fail);go_wp2;go_ret2;exact⟨by rw[HN.out];first | rfl | simp,_,rfl⟩
  have Zx:((u[0].toNat:Int)==46)=false:=by rw[<-bN u 0 (by omega)];simp;omega
  by_cases h35:bt u 0=35
  ·have Zv:((u[0].toNat:Int)==35)=true:=by rw[<-bN u 0 (by omega),h35];rfl
   have HN:Hid (cW u 0=2):=by unfold Hid;rw[ol,h35];rfl
   have iA:=HN.out;rw[iA] at h;clear iA ol lN hk iV h35 h46;go_enter func135,ntmps135;go_wp2;go_quiet (fail);go_wp2;go_ret2;exact⟨by rw[HN.out];first | rfl | simp,_,rfl⟩
  have Zv:((u[0].toNat:Int)==35)=false:=by rw[<-bN u 0 (by omega)];simp;omega
  by_cases h58:bt u 0=58
  ·have Vl:((u[0].toNat:Int)==58)=true:=by rw[<-bN u 0 (by omega),h58];rfl
   rw[h58] at ol;have Sc:=@Bk (bt u 1) 0;have Ct:1<u.size:=by omega
   by_cases h110:bt u 1=110
   ·have Vj:((u[1].toNat:Int)==110)=true:=by rw[<-bN u 1 Ct,h110];rfl
    have HN:Hid (cW u 0=4):=by unfold Hid;rw[ol,h110];rfl
    have iA:=HN.out;rw[iA] at h;clear iA ol lN hk iV h46 h35 h58 h110 Sc;go_enter func135,ntmps135;go_wp2;go_quiet (fail);go_wp2;go_ret2;exact⟨by rw[HN.out];first | rfl | simp,_,rfl⟩
   ·have Vj:((u[1].toNat:Int)==110)=false:=by rw[<-bN u 1 Ct];simp;omega
    have HN:Hid (cW u 0=2):=by unfold Hid;rw[ol];unfold mH;rw[aj (by omega),aq rfl,aj h110]
    have iA:=HN.out;rw[iA] at h;clear iA ol lN hk iV h46 h35 h58 h110 Sc;go_enter func135,ntmps135;go_wp2;go_quiet (fail);go_wp2;go_ret2;exact⟨by rw[HN.out];first | rfl | simp,_,rfl⟩
  have Vl:((u[0].toNat:Int)==58)=false:=by rw[<-bN u 0 (by omega)];simp;omega
  have HN:Hid (cW u 0=1):=by unfold Hid;rw[ol];unfold mH;rw[aj (by omega),aj h58]
  have iA:=HN.out;rw[iA] at h;clear iA ol lN hk iV h46 h35 h58;go_enter func135,ntmps135;go_wp2;go_quiet (fail);go_wp2;go_ret2;exact⟨by rw[HN.out];first | rfl | simp,_,rfl⟩
end
section
variable {s:ByteArray}
theorem uG (c:Nat):((c:Int)==35)=true/\qS c=1000000∨((c:Int)==35)=false/\(((c:Int)==46)=true/\qS c=1000∨((c:Int)==46)=false/\(((c:Int)==58)=true/\qS c=1000∨((c:Int)==58)=false/\(((c:Int)==42)=true/\qS c=0∨((c:Int)==42)=false/\qS c=1))):=by
 by_cases h1:c=35
 ·left;subst h1;exact⟨rfl,rfl⟩
 right;refine⟨by simp;omega,?_⟩
 by_cases h2:c=46
 ·left;subst h2;exact⟨rfl,rfl⟩
 right;refine⟨by simp;omega,?_⟩
 by_cases h3:c=58
 ·left;subst h3;exact⟨rfl,rfl⟩
 right;refine⟨by simp;omega,?_⟩
 by_cases h4:c=42
 ·left;subst h4;exact⟨rfl,rfl⟩
 right;exact⟨by simp;omega,by unfold qS;rw[aj h1,aj (by omega),aj h4]⟩
theorem Hf (w:World)(t:ByteArray)(h1:gW t 0<t.size)(hs:t.size<=400):
  Calls prog 136 #[.string t] w λe w'=>e=.returned (.int .i64 (mI t 0))/\w'=w:=by
 by_cases iV:bt t 0=33
 ·have hk:gW t 0=1:=by unfold gW;rw[aq iV]
  rw[hk] at h1;have Zy:0<t.size:=by omega
  have N8:((t[0].toNat:Int)==33)=true:=by rw[<-bN t 0 Zy,iV];rfl
  have HV:Hid (mI t 0=qS (bt (t.extract 1 t.size) 0)):=by
   unfold Hid mI;rw[hk,ba au (by omega)]
  have hvs:0<(t.extract 1 t.size).size:=by rw[ByteArray.size_extract];omega
  have hvl:(t.extract 1 t.size).size<=400:=by rw[ByteArray.size_extract];omega
  clear hk iV;obtain⟨v,hv⟩:∃v,v=t.extract 1 t.size:=⟨_,rfl⟩;rw[<-hv] at HV hvs hvl;have HVE:=ae hv;clear hv;have he:(v[0].toNat:Int)=(bt v 0:Int):=by rw[bN v 0 hvs]
  have HE:=ae he;rw[HV.out];go_enter func136,ntmps136;go_upto_region 3 with fail;rw[<-HVE.out];rcases uG (bt v 0) with⟨a,b⟩ | ⟨a,⟨a2,b⟩ | ⟨a2,⟨a3,b⟩ | ⟨a3,⟨a4,b⟩ | ⟨a4,b⟩⟩⟩⟩
  all_goals
   have HB:Hid _:=b;clear b;simp only[<-he] at *;go_wp2;go_ret;rw[HB.out];exact⟨rfl,rfl⟩
 ·have hk:gW t 0=0:=by unfold gW;rw[aj iV]
  rw[hk] at h1;have N8:((t[0].toNat:Int)==33)=false:=by rw[<-bN t 0 h1];simp;omega
  have HV:Hid (mI t 0=qS (bt t 0)):=by unfold Hid mI;rw[hk]
  have he:(bt t 0:Int)=(t[0].toNat:Int):=by rw[bN t 0 h1]
  rw[HV.out];have hw:=uG (bt t 0);rw[he] at hw;clear hk iV he HV;rcases hw with⟨a,b⟩ | ⟨a,⟨a2,b⟩ | ⟨a2,⟨a3,b⟩ | ⟨a3,⟨a4,b⟩ | ⟨a4,b⟩⟩⟩⟩
  all_goals
   rw[b];clear b;go_enter func136,ntmps136;go_wp2;go_ret;exact⟨rfl,rfl⟩
theorem oN {i n q:Nat}(hq:q<=s.size):(s.extract i q).extract n (s.extract i q).size=s.extract (i+n) q:=by
 apply ByteArray.ext;rw[ByteArray.size_extract];simp only[ByteArray.data_extract,Array.extract_extract]
 congr 1
 omega
theorem RU:∀{xs:List Nat} {i q:Nat},Fq s i q xs->i<=q
 | [],_,_,h=>by simp only[Fq] at h;omega
 | _ :: _,_,_,⟨h,_,_⟩=>by omega
end
theorem Sy (v:ByteArray)(i:Nat)(r:List UInt8)(h:i<v.size∨r≠[]):ByteArray.toList.loop v i r≠[]:=by
 generalize hn:v.size - i=n
 induction n generalizing i r with
 | zero=>
  unfold ByteArray.toList.loop;rw[aj (by omega)];intro e;rcases h with h | h
  ·omega
  ·exact h (by simpa using e)
 | succ n ih=>
  unfold ByteArray.toList.loop;rw[aq (by omega)];exact ih _ _ (ai (by simp)) (by omega)
theorem iF (v:ByteArray)(h:0<v.size):v.toList.isEmpty=false:=by
 have:=Sy v 0 [] (af h);unfold ByteArray.toList;cases hl:ByteArray.toList.loop v 0 [] with
 | nil=>exact absurd hl this
 | cons a b=>rfl
theorem dR {B:Nat}{a w:World}(h:Below B a w)(n:Nat):Below B a (w.drewN n):=⟨h.os,h.tape,h.output,h.size,h.block⟩
structure vC (p:ByteArray):Prop where
 pos:0<p.size
 dot:bt p 0=46->1<p.size
 name:bt p 0=35->1<=p.size
 colon:bt p 0=58->1<p.size/\(bt p 1=102∨bt p 1=108∨bt p 1=101∨(3<p.size/\48<=bt p 2/\bt p 2<=57/\48<=bt p 3/\bt p 3<=57))
 few:p.size<=400
noncomputable def dT (els:List REl)(y:REl)(p:ByteArray):Bool:=
 if bt p 0=42 then true
 else if bt p 0=46 then sI (bt p 1) y.cl
 else if bt p 0=35 then(y.nm.toList==(p.extract 1 p.size).toList)
 else if bt p 0=58 then
  (if bt p 1=102 then decide ((cR els y.num).1=1) else if bt p 1=108 then decide ((cR els y.num).1=(cR els y.num).2) else if bt p 1=101 then decide (y.kids.length=0) else lE (cR els y.num).1 (bt p 2 - 48) (bt p 3 - 48))
 else(y.kd.toList==p.toList)
def HPost (w:World)(r:Bool)(e:Ending)(w':World):Prop:=e=.returned (.bool r)/\Drew w w'
theorem zU (w:World)(d:Nat)(els:List REl)(made:Nat)(hp:Option Addr)(vT:Value)(bi:Bool)(vL:Value)(y:REl)(p:ByteArray)(h:RD w d els made hp vT bi vL)(hy:y∈els)(lL:y.cl.size<=maxLen)(qA:vC p):
  Calls prog 210 #[.pointer (some ⟨d,0,none⟩),.pointer (some ⟨y.blk,0,none⟩),.string p] w λe w'=>HPost w (dT els y p) e w':=by
 have HR:=ae h;have HO:=kK qA hy lL;have y0:w.cell? ⟨y.blk,0,none⟩=some (.int .i64 y.num):=aa (h.el y hy) rfl;have y1:w.cell? ⟨y.blk,1,none⟩=some (.string y.kd):=aa (h.el y hy) rfl;have y2:w.cell? ⟨y.blk,2,none⟩=some (.string y.cl):=aa (h.el y hy) rfl;have y3:w.cell? ⟨y.blk,3,none⟩=some (.string y.nm):=aa (h.el y hy) rfl;have y4:w.cell? ⟨y.blk,4,none⟩=some y.ks:=aa (h.el y hy) rfl;have OE:=Ce h y.num;obtain⟨ak,ck,sL⟩:=aA (h.kid y hy);rw[sL] at y4;have h0:0<p.size:=qA.pos;have mo:(p[0].toNat:Int)=(bt p 0:Int):=by rw[bN p 0 h0]
 have Sg:=h.kfew y hy;clear h hy lL qA sL;go_enter func210,ntmps210;go_wp2_with fail;refine(x9 _ d els made hp vT bi _ y.num HR.out).mono ?_;rintro e w1 ⟨rfl,rfl⟩;obtain⟨w,rfl⟩:∃w,w=w1:=⟨_,rfl⟩
 by_cases sK:bt p 0=42
 ·have HE:Hid (dT els y p=true):=by unfold Hid dT;rw[aq sK]
  have g42:((bt p 0:Int)==42)=true:=by simp[sK]
  clear sK;go_wp2;go_ret;exact⟨by rw[HE.out];rfl,0,rfl⟩
 have g42:((bt p 0:Int)==42)=false:=by rw[ff];omega
 by_cases h46:bt p 0=46
 ·have HE:Hid (dT els y p=sI (bt p 1) y.cl):=by unfold Hid dT;rw[aj sK,aq h46]
  have Zx:((bt p 0:Int)==46)=true:=by simp[h46]
  have h1:=HO.out.1.dot h46;have qW:(p[1].toNat:Int)=(bt p 1:Int):=by rw[bN p 1 h1]
  have HAM:Hid (∀k,Calls prog 165 #[.int .u8 (bt p 1),.string y.cl] (w.drewN k) λe w'=>e=.returned (.bool (sI (bt p 1) y.cl))/\w'=w.drewN k):=λk=>bB _ _ _ HO.out.2.2;clear sK h46;go_upto_region 6 with fail;go_quiet ((go_at_call 165;exact Calls.quiet_of_same (HAM.out _)));go_wp2;go_ret;exact⟨by rw[HE.out];rfl,nq,rfl⟩
 have Zx:((bt p 0:Int)==46)=false:=by rw[ff];omega
 by_cases h35:bt p 0=35
 ·have HE:Hid (dT els y p=(y.nm.toList==(p.extract 1 p.size).toList)):=by unfold Hid dT;rw[aj sK,aj h46,aq h35]
  have Zv:((bt p 0:Int)==35)=true:=by simp[h35]
  have h1:=HO.out.1.name h35;clear sK h46 h35;go_upto_region 8 with fail;go_quiet (fail);go_wp2;go_ret;exact⟨by rw[HE.out];rfl,nq,rfl⟩
 have Zv:((bt p 0:Int)==35)=false:=by rw[ff];omega
 by_cases h58:bt p 0=58
 ·have Vl:((bt p 0:Int)==58)=true:=by simp[h58]
  obtain⟨h1,gQ⟩:=HO.out.1.colon h58;have qW:(p[1].toNat:Int)=(bt p 1:Int):=by rw[bN p 1 h1]
  have ra:Hid (dT els y p=if bt p 1=102 then decide ((cR els y.num).1=1) else if bt p 1=108 then decide ((cR els y.num).1=(cR els y.num).2) else if bt p 1=101 then decide (y.kids.length=0) else lE (cR els y.num).1 (bt p 2 - 48) (bt p 3 - 48)):=by unfold Hid dT;rw[aj sK,aj h46,aj h35,aq h58]
  clear sK h46 h35 h58;obtain⟨VP,Ct⟩:=OE;generalize (cR els y.num).1=at' at ra VP ⊢;generalize (cR els y.num).2=n at ra Ct ⊢
  by_cases h102:bt p 1=102
  ·have Vg:((bt p 1:Int)==102)=true:=by simp[h102]
   have HE:Hid (dT els y p=((at':Int)==1)):=by unfold Hid;rw[ra.out,aq h102];by_cases e:at'=1<;>simp[e];omega
   clear h102 ra gQ;go_wp2;go_ret;exact⟨by rw[HE.out];rfl,0,rfl⟩
  have Vg:((bt p 1:Int)==102)=false:=by rw[ff];omega
  by_cases h108:bt p 1=108
  ·have Vi:((bt p 1:Int)==108)=true:=by simp[h108]
   have HE:Hid (dT els y p=((at':Int)==(n:Int))):=by unfold Hid;rw[ra.out,aj h102,aq h108];by_cases e:at'=n<;>simp[e];omega
   clear h102 h108 ra gQ;go_wp2;go_ret;exact⟨by rw[HE.out];rfl,0,rfl⟩
  have Vi:((bt p 1:Int)==108)=false:=by rw[ff];omega
  by_cases h101:bt p 1=101
  ·have Ve:((bt p 1:Int)==101)=true:=by simp[h101]
   have HE:Hid (dT els y p=((y.kids.length:Int)==0)):=by unfold Hid;rw[ra.out,aj h102,aj h108,aq h101];by_cases e:y.kids.length=0<;>simp[e]
   clear h102 h108 h101 ra gQ;go_wp2;go_ret;exact⟨by rw[HE.out];rfl,0,rfl⟩
  have Ve:((bt p 1:Int)==101)=false:=by rw[ff];omega
  obtain⟨h3,l2,u2,l3,u3⟩:3<p.size/\48<=bt p 2/\bt p 2<=57/\48<=bt p 3/\bt p 3<=57:=by rcases gQ with h | h | h | h<;>first | exact h | omega
  have HE:Hid (dT els y p=lE at' (bt p 2 - 48) (bt p 3 - 48)):=by unfold Hid;rw[ra.out,aj h102,aj h108,aj h101]
  have h2:2<p.size:=by omega
  have ud:(p[2].toNat:Int)=(bt p 2:Int):=by rw[bN p 2 h2]
  have lT:(p[3].toNat:Int)=(bt p 3:Int):=by rw[bN p 3 h3]
  have A6:Hid (∀k,Calls prog 218 #[.int .i64 (at':Nat),.int .i64 ((bt p 2:Int) - 48),.int .i64 ((bt p 3:Int) - 48)] (w.drewN k) λe w'=>e=.returned (.bool (lE at' (bt p 2 - 48) (bt p 3 - 48)))/\w'=w.drewN k):=λk=>by
   have:=Eo (w.drewN k) at' (bt p 2 - 48) (bt p 3 - 48) VP (by omega) (by omega);rw[show((bt p 2 - 48:Nat):Int)=(bt p 2:Int) - 48 from by omega,show((bt p 3 - 48:Nat):Int)=(bt p 3:Int) - 48 from by omega] at this;exact this
  clear h102 h108 h101 ra gQ;go_upto_region 17 with fail;go_quiet ((go_at_call 218;exact Calls.quiet_of_same (A6.out _)));go_wp2;go_ret;exact⟨by rw[HE.out];rfl,nq,rfl⟩
 ·have Vl:((bt p 0:Int)==58)=false:=by rw[ff];omega
  have HE:Hid (dT els y p=(y.kd.toList==p.toList)):=by unfold Hid dT;rw[aj sK,aj h46,aj h35,aj h58]
  clear sK h46 h35 h58;go_wp2;go_ret;exact⟨by rw[HE.out];rfl,0,rfl⟩
noncomputable def oq (els:List REl)(y:REl)(p:ByteArray):Bool:=if bt p 0=33 then !dT els y (p.extract 1 p.size) else dT els y p
structure PartOK (p:ByteArray):Prop where
 pos:0<p.size
 turned:bt p 0=33->vC (p.extract 1 p.size)
 plain:bt p 0≠33->vC p
def ro:Nat->ByteArray->Prop
 | 0,u=>u.size=0
 | f+1,u=>u.size=0∨(cW u 0<=u.size/\u.size<=400/\PartOK (u.extract 0 (cW u 0))/\ro f (u.extract (cW u 0) u.size))
noncomputable def gF (els:List REl)(y:REl):Nat->ByteArray->Bool
 | 0,_=>true
 | f+1,u=>if u.size=0 then true else oq els y (u.extract 0 (cW u 0))&&gF els y f (u.extract (cW u 0) u.size)
theorem eJ {u:ByteArray}(h:u.size=0):u=⟨#[]⟩:=by
 have:=ByteArray.size_eq_zero_iff.1 h;exact this
theorem N3 (w:World)(d:Nat)(els:List REl)(made:Nat)(hp:Option Addr)(vT:Value)(bi:Bool)(vL:Value)(y:REl)(u:ByteArray)(f:Nat)(h:RD w d els made hp vT bi vL)(hy:y∈els)(lL:y.cl.size<=maxLen)(qA:ro f u):
  Calls prog 202 #[.pointer (some ⟨d,0,none⟩),.pointer (some ⟨y.blk,0,none⟩),.string u] w λe w'=>HPost w (gF els y f u) e w':=by
 have HR:=ae h;have HO:=bT hy lL;have HT:=ae qA;clear h hy lL qA;go_enter func202,ntmps202;go_wp2_with fail
 go_loopg [2] f (λgk sv wr=>∃(t:ByteArray),sv=.string t/\Hid (Drew w wr/\ro gk t/\gF els y f u=gF els y gk t))
 case atStart=>exact⟨u,rfl,⟨0,rfl⟩,HT.out,rfl⟩
 case round=>
  obtain⟨t,rfl,HN⟩:=hrel
  by_cases h0:t.size=0
  ·have HE:Hid (gF els y f u=true):=by
    unfold Hid;rw[HN.out.2.2];cases gk with
    | zero=>rfl
    | succ g=>show(if _ then _ else _)=_;rw[aq h0]
   obtain rfl:=eJ h0;clear h0;go_wp2;go_ret;exact⟨by rw[HE.out];rfl,HN.out.1⟩
  ·have fY:=iF t (by omega)
   obtain⟨g,rfl⟩:∃g,gk=g+1:=by
    cases gk with
    | zero=>exact absurd HN.out.2.1 h0
    | succ g=>exact⟨g,rfl⟩
   have T7:=(show ro (g+1) t from HN.out.2.1).resolve_left h0;have HQ:=ae T7
   have HF:Hid (gF els y f u=(oq els y (t.extract 0 (cW t 0))&&gF els y g (t.extract (cW t 0) t.size))):=by
    unfold Hid;rw[HN.out.2.2];show(if _ then _ else _)=_;rw[aj h0]
   have HD:=ae HN.out.1;clear h0 T7 HN;go_wp2_with fail;refine(H2 wr t HQ.out.1 HQ.out.2.1).mono ?_;rintro e w1 ⟨rfl,m,rfl⟩;have jD:=ae (kU HD.out m);clear HD fY;generalize wr.drewN m=wq at jD ⊢;have HRq:=ae (HR.out.below jD.out.below);have ix:=ae HQ.out.2.2;clear HQ;generalize t.extract 0 (cW t 0)=p at HF ix ⊢;generalize t.extract (cW t 0) t.size=r at HF ix ⊢;have h0:0<p.size:=ix.out.1.pos;have mo:(p[0].toNat:Int)=(bt p 0:Int):=by rw[bN p 0 h0]
   by_cases iV:bt p 0=33
   ·have N8:((bt p 0:Int)==33)=true:=by simp[iV]
    have HP:Hid (oq els y p=!dT els y (p.extract 1 p.size)):=by unfold Hid oq;rw[aq iV]
    have HH:=ae (ix.out.1.turned iV);have h1:1<=p.size:=by omega
    clear iV;go_wp2_with fail;refine(zU wq d els made hp vT bi vL y (p.extract 1 p.size) HRq.out HO.out.1 HO.out.2 HH.out).mono ?_;rintro e w2 ⟨rfl,qX⟩
    have oD:Hid (Drew w w2):=by
     obtain⟨k,hk⟩:=qX;rw[hk];exact kU jD.out k
    clear qX;cases hh:dT els y (p.extract 1 p.size) with
    | true=>
     have HE:Hid (gF els y f u=false):=by unfold Hid;rw[HF.out,HP.out,hh];rfl
     clear hh mo;go_wp2;go_ret;exact⟨by rw[HE.out];rfl,oD.out⟩
    | false=>
     have HE:Hid (gF els y f u=gF els y g r):=by unfold Hid;rw[HF.out,HP.out,hh];rfl
     clear hh mo;go_wp2;go_roundg g
     case measure=>omega
     case rel=>exact⟨r,rfl,oD.out,ix.out.2,HE.out⟩
   ·have N8:((bt p 0:Int)==33)=false:=by rw[ff];omega
    have HP:Hid (oq els y p=dT els y p):=by unfold Hid oq;rw[aj iV]
    have HH:=ae (ix.out.1.plain iV);clear iV;go_wp2_with fail;refine(zU wq d els made hp vT bi vL y p HRq.out HO.out.1 HO.out.2 HH.out).mono ?_;rintro e w2 ⟨rfl,qX⟩
    have oD:Hid (Drew w w2):=by
     obtain⟨k,hk⟩:=qX;rw[hk];exact kU jD.out k
    clear qX;cases hh:dT els y p with
    | false=>
     have HE:Hid (gF els y f u=false):=by unfold Hid;rw[HF.out,HP.out,hh];rfl
     clear hh mo;go_wp2;go_ret;exact⟨by rw[HE.out];rfl,oD.out⟩
    | true=>
     have HE:Hid (gF els y f u=gF els y g r):=by unfold Hid;rw[HF.out,HP.out,hh];rfl
     clear hh mo;go_wp2;go_roundg g
     case measure=>omega
     case rel=>exact⟨r,rfl,oD.out,ix.out.2,HE.out⟩
def Xx (w:World)(r:Bool)(e:Ending)(w':World):Prop:=e=.returned (.bool r)/\Below w.heap.size w w'
def nC (m1:Bool)(l1 h1 a1:Int)(m2:Bool)(l2 h2 a2:Int):Bool:=
 if m1≠m2 then m1 else if l1≠l2 then(if m1=true then decide (l1<l2) else decide (l2<l1)) else if h1≠h2 then decide (h2<h1) else decide (a2<a1)
theorem Qm (w:World)(p1:Int)(v1:ByteArray)(m1:Bool)(l1 h1 a1:Int)(p2:Int)(v2:ByteArray)(m2:Bool)(l2 h2 a2:Int):
  Calls prog 168 #[.agg #[.int .u8 p1,.string v1,.bool m1,.int .i64 l1,.int .i64 h1,.int .i64 a1],.agg #[.int .u8 p2,.string v2,.bool m2,.int .i64 l2,.int .i64 h2,.int .i64 a2]] w λe w'=>Xx w (nC m1 l1 h1 a1 m2 l2 h2 a2) e w':=by
 by_cases hm:m1=m2
 ·subst hm
  by_cases hl:l1=l2
  ·subst hl
   by_cases hh:h1=h2
   ·subst hh;have HE:Hid (nC m1 l1 h1 a1 m1 l1 h1 a2=decide (a2<a1)):=by unfold Hid nC;simp
    go_enter func168,ntmps168;go_wp2;go_ret;exact⟨by rw[HE.out];rfl,(bd.alloc au _).alloc (by simp) _⟩
   ·have gh:(h1 != h2)=true:=by rw[bne_iff_ne];exact hh
    have HE:Hid (nC m1 l1 h1 a1 m1 l1 h2 a2=decide (h2<h1)):=by unfold Hid nC;simp[hh]
    clear hh;go_enter func168,ntmps168;go_wp2;go_ret;exact⟨by rw[HE.out];rfl,(bd.alloc au _).alloc (by simp) _⟩
  ·have gl:(l1 != l2)=true:=by rw[bne_iff_ne];exact hl
   cases m1 with
   | true=>
    have HE:Hid (nC true l1 h1 a1 true l2 h2 a2=decide (l1<l2)):=by unfold Hid nC;simp[hl]
    clear hl;go_enter func168,ntmps168;go_wp2;go_ret;exact⟨by rw[HE.out];rfl,(bd.alloc au _).alloc (by simp) _⟩
   | false=>
    have HE:Hid (nC false l1 h1 a1 false l2 h2 a2=decide (l2<l1)):=by unfold Hid nC;simp[hl]
    clear hl;go_enter func168,ntmps168;go_wp2;go_ret;exact⟨by rw[HE.out];rfl,(bd.alloc au _).alloc (by simp) _⟩
 ·have HE:Hid (nC m1 l1 h1 a1 m2 l2 h2 a2=m1):=by unfold Hid nC;rw[aq hm]
  have HM:=ae hm;clear hm;cases m1 with
  | true=>
   cases m2 with
   | true=>exact absurd rfl HM.out
   | false=>
    clear HM;go_enter func168,ntmps168;go_wp2;go_ret;exact⟨by rw[HE.out];rfl,(bd.alloc au _).alloc (by simp) _⟩
  | false=>
   cases m2 with
   | false=>exact absurd rfl HM.out
   | true=>
    clear HM;go_enter func168,ntmps168;go_wp2;go_ret;exact⟨by rw[HE.out];rfl,(bd.alloc au _).alloc (by simp) _⟩
def eT (s:ByteArray):Option Nat:=if s.size=0 then none else if bt s 0=36 then fu (bt s 1) else none
structure qa (s:ByteArray):Prop where
 few:s.size<=400
 var:0<s.size->bt s 0=36->1<s.size/\∃q,fu (bt s 1)=some q/\6<=q/\q<9
structure UZ (cs:Array Value)(W:Nat->ByteArray):Prop where
 size:cs.size=9
 at':∀i,i<9->cs[i]?=some (.string (W i))
 ok:∀i,i<9->qa (W i)
def bS (W:Nat->ByteArray)(v:Nat):Nat->Nat->Bool
 | 0,_=>false
 | n+1,a=>match eT (W a) with | none=>false | some q=>if q=v then true else bS W v n q
theorem O0 (w:World){cs:Array Value}{W:Nat->ByteArray}(h:UZ cs W)(t:TypeId){i:Nat}(hi:i<9):(w.alloc (.cells cs t)).cell? ⟨w.heap.size,i,none⟩=some (.string (W i)):=by
 rw[cell_of_row _ _ i cs t (0,0) (heap_alloc_new w _)];exact h.at' i hi
theorem ML (w:World)(cs:Array Value)(W:Nat->ByteArray)(v:Nat)(h:UZ cs W)(hv:v<9):
  Calls prog 190 #[.agg cs,.int .i64 v] w λe w'=>Xx w (bS W v 9 v) e w':=by
 have HN:=ae h;have iA:cs.size=9:=h.size;have HB:Hid (Below w.heap.size w (w.alloc (.cells cs 234))):=bd.alloc au _;have HC:Hid (∀i,i<9->(w.alloc (.cells cs 234)).cell? ⟨w.heap.size,i,none⟩=some (.string (W i))):=λi hi=>O0 w h _ hi;clear h;go_enter func190,ntmps190;go_wp2_with fail;obtain⟨W1,TS⟩:∃W1,W1=w.alloc (.cells cs 234):=⟨_,rfl⟩;rw[<-TS] at HB HC ⊢;clear TS iA
 go_loop [5,6] (λav iv=>∃(a i:Nat),av=.int .i64 a/\iv=.int .i64 i/\a<9/\i<=9/\Hid (bS W v 9 v=bS W v (9 - i) a)) (λ_ iv=>9 - (intOf iv).toNat)
 case atStart=>exact⟨v,0,rfl,rfl,hv,by omega,rfl⟩
 case round=>
  obtain⟨a,i,rfl,rfl,ha,hi,HR⟩:=hrel
  by_cases aU:i<9
  ·have hd:decide ((i:Int)<9)=true:=by simp;omega
   have q:=HC.out a ha;have HV:=ae (HN.out.ok a ha)
   have HS:Hid (bS W v 9 v=match eT (W a) with | none=>false | some q=>if q=v then true else bS W v (9 - (i+1)) q):=by
    unfold Hid;rw[HR.out,show 9 - i=(9 - (i+1))+1 from by omega];rfl
   have hal:(a:Int)<9:=by omega
   clear HR;generalize W a=s at q HV HS
   by_cases h0:s.size=0
   ·have HE:Hid (bS W v 9 v=false):=by unfold Hid;rw[HS.out];unfold eT;rw[aq h0]
    obtain rfl:=eJ h0;clear h0 HS;go_wp2;go_ret;exact⟨by rw[HE.out];rfl,HB.out⟩
   ·have fY:=iF s (by omega);have h0':0<s.size:=by omega
    have mo:(s[0].toNat:Int)=(bt s 0:Int):=by rw[bN s 0 h0']
    by_cases uN:bt s 0=36
    ·have Zw:((bt s 0:Int) != 36)=false:=by simp[uN]
     obtain⟨h1,qq,rJ,yP,hq3⟩:=HV.out.var h0' uN;have ra:Hid (bS W v 9 v=if qq=v then true else bS W v (9 - (i+1)) qq):=by unfold Hid;rw[HS.out];unfold eT;rw[aj h0,aq uN,rJ]
     have qW:(s[1].toNat:Int)=(bt s 1:Int):=by rw[bN s 1 h1]
     have HQ:=ae rJ;clear h0 uN HS rJ;go_wp2_with fail;refine(pW W1 (bt s 1)).mono ?_;rintro e w2 ⟨r,rfl,rfl,HRR⟩;obtain⟨W1,rfl⟩:∃W1,W1=w2:=⟨_,rfl⟩
     obtain rfl:r=qq:=by
      have h1:=HQ.out;rcases HRR.out with⟨_,h2⟩ | ⟨_,h2⟩
      ·rw[h1] at h2;injection h2 with h2;exact h2.symm
      ·rw[h1] at h2;cases h2
     clear HRR HQ
     by_cases hrv:r=v
     ·have gr:((r:Int)==(v:Int))=true:=by simp[hrv]
      have HE:Hid (bS W v 9 v=true):=by unfold Hid;rw[ra.out,aq hrv]
      clear hrv ra;go_wp2;go_ret;exact⟨by rw[HE.out];rfl,HB.out⟩
     ·have gr:((r:Int)==(v:Int))=false:=by rw[ff];omega
      have HE:Hid (bS W v 9 v=bS W v (9 - (i+1)) r):=by unfold Hid;rw[ra.out,aj hrv]
      clear hrv ra;go_wp2
      go_round
      case rel=>exact⟨r,i+1,rfl,by go_num,by omega,by omega,HE⟩
      case measure=>simp[intOf];omega
    ·have Zw:((bt s 0:Int) != 36)=true:=by rw[bne_iff_ne];omega
     have HE:Hid (bS W v 9 v=false):=by unfold Hid;rw[HS.out];unfold eT;rw[aj h0,aj uN]
     clear h0 uN HS;go_wp2;go_ret;exact⟨by rw[HE.out];rfl,HB.out⟩
  ·have hd:decide ((i:Int)<9)=false:=by simp;omega
   have HE:Hid (bS W v 9 v=false):=by unfold Hid;rw[HR.out,show 9 - i=0 from by omega];rfl
   go_wp2;go_ret;exact⟨by rw[HE.out];rfl,HB.out⟩
end Go.Proofs.YtblfffbmklkhmaaGreat
