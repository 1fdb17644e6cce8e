/- Own work. -/
import Derived.Test.YtblfffbmklkhmabGreatAl7
set_option maxRecDepth 100000
set_option maxHeartbeats 40000000
namespace Go.Proofs.YtblfffbmklkhmabGreat
open Go.RowKit Go.Proofs.Tryz
def Na (w:World)(aa:List PEl)(n:Int)(e:Ending)(w':World):Prop:=
 Below w.heap.size w w'/\((dB aa n=none/\e=.returned (.tuple #[.slice none 0 0,.int .i64 5]))∨((∃x,dB aa n=some x)/\∃(a:Option Addr) (c:Nat),e=.returned (.tuple #[.slice a (aZ aa n).length c,.int .i64 0])/\w'.ownsRow w.heap.size 3 1 (.slice a (aZ aa n).length c) (aZ aa n).length (bq (aZ aa n))))
theorem Lv (w:World)(b:Nat)(v:Value)(aa:List PEl)(n:Int)(hb:w.cell? ⟨b,1,none⟩=some v)(h:PL w v aa)(bJ:aa.length<=24):
  Calls prog 61 #[.pointer (some ⟨b,1,none⟩),.int .i64 n] w λe w'=>Na w aa n e w':=by
 obtain⟨i0,hi,gP,gQ,gR⟩:=info_parts Tryz.info3;obtain⟨a,c,hv⟩:=h.shape;subst hv;have HP:=aw h;have jM:b<w.heap.size:=World.block_lt_of_cell? w _ hb;clear h;go_enter func61,ntmps61;go_wp2_with fail;refine(dX w b _ aa n hb HP.out bJ).mono ?_;rintro e w1 ⟨cH,⟨hf,rfl⟩ | ⟨ip,xp,_,hf,rfl⟩⟩
 ·have HF:=aw hf;clear hf;go_wp2;go_ret2;exact⟨cH,ax ⟨HF.out,rfl⟩⟩
 ·have HF:Hid (∃x,dB aa n=some x):=⟨xp,hf⟩;clear hf;have lZ:w1.cell? ⟨b,1,none⟩=some (.slice a aa.length c):=(cH.cell (p:=⟨b,1,none⟩) jM).trans hb;have eu:=aw cH;clear hb cH;go_wp2_with fail
  go_loopg [8,24] aa.length (λgk v iv wr=>∃i:Nat,iv=.int .i64 i/\i<=aa.length/\aa.length - i<=gk/\Hid (wr.ownsRow w.heap.size 3 1 v (aZ (aa.take i) n).length (bq (aZ (aa.take i) n))/\Below w.heap.size w wr))
  case atStart=>exact⟨0,rfl,bm,by omega,eB,eu.out⟩
  case round=>
   obtain⟨i,rfl,jQ,fT,HN⟩:=hrel;obtain⟨a2,c2,jJ⟩:=aK HN.out.1;subst jJ
   have qu:(aZ (aa.take i) n).length<=24:=by
    have:=Eh (aa.take i) n;have:(aa.take i).length<=aa.length:=List.length_take_le' _ _;omega
   have i8:=HN.out.2.size
   by_cases bc:i<aa.length
   ·have hd:decide ((i:Int)<(aa.length:Int))=true:=by simp;omega
    obtain⟨g,hg,di,he⟩:=HP.out.el bc;subst hg;have F9:=aw (Aw bc n);have HE:=aw (he.below HN.out.2 di);clear he;generalize aa[i]=x at HE F9;generalize x.cells=cs at HE;have c0:cs[0]?=some (.int .i64 x.num):=HE.out.c0;have c1:cs[1]?=some (.int .i64 x.par):=HE.out.c1;generalize aZ (aa.take i) n=L at HN F9 qu ⊢
    by_cases fi:x.par=n
    ·have gp:(x.par==n)=true:=by simp[fi]
     have Ga:Hid (aZ (aa.take (i+1)) n=L++[x.num]):=by unfold Hid;rw[F9.out,aE fi]
     clear fi F9;go_wp2_with (first | (refine wpList_load_mid rfl 156 _ rfl g (i*31) rfl cs _ HE.out.rng underlying156 rfl HE.out.size ?_) | (refine aO rfl 156 _ _ rfl _ cs.toArray 156 rfl rfl HE.out.size' HE.out.same HE.out.all ?_) | (at_builtin;refine wpList_append_own _ rfl (.tmp 32) (.tmp 35) 28 rfl w.heap.size 3 i0 (.int .i64 0) 1 8 underlying28 hi gP gQ gR rfl (by decide) _ _ _ rfl ((HN.out.1.alloc _).alloc _) ⟨wr.heap.size+1,0,none⟩ 1 1 [.int .i64 (x.num:Int)] rfl rfl ?c1 ?c2 ?c3 ?c4 ?c5 ?_))
     case c1=>exact bg (wr.alloc _) _ (by simp) _ _ _ rfl
     case c2=>exact sE x.num
     case c3=>unfold maxLen;omega
     case c4=>omega
     case c5=>simp;omega
     intro v5 w5 cf jn _
     have uo:Hid (w5.ownsRow w.heap.size 3 1 v5 (aZ (aa.take (i+1)) n).length (bq (aZ (aa.take (i+1)) n))/\Below w.heap.size w w5):=by
      rw[Ga.out];exact⟨by simpa[bq] using cf,((HN.out.2.alloc i8 _).alloc (by simp;omega) _).grown jn (by simp;omega) (λk hk=>(HN.out.1.lt k hk).1)⟩
     clear cf jn HN HE c0 c1;go_wp2;go_roundg (aa.length - (i+1))
     case measure=>omega
     case rel=>exact⟨i+1,by go_num,by omega,aF,uo⟩
    ·have gp:(x.par==n)=false:=by simp[fi]
     have uo:Hid ((wr.alloc (.cells cs.toArray 156)).ownsRow w.heap.size 3 1 (.slice a2 L.length c2) (aZ (aa.take (i+1)) n).length (bq (aZ (aa.take (i+1)) n))/\Below w.heap.size w (wr.alloc (.cells cs.toArray 156))):=by
      rw[F9.out,aA fi,List.append_nil];exact⟨HN.out.1.alloc _,HN.out.2.alloc i8 _⟩
     clear fi F9;go_wp2_with (first | (refine wpList_load_mid rfl 156 _ rfl g (i*31) rfl cs _ HE.out.rng underlying156 rfl HE.out.size ?_) | (refine aO rfl 156 _ _ rfl _ cs.toArray 156 rfl rfl HE.out.size' HE.out.same HE.out.all ?_));go_roundg (aa.length - (i+1))
     case measure=>omega
     case rel=>exact⟨i+1,by go_num,by omega,aF,uo⟩
   ·have hd:decide ((i:Int)<(aa.length:Int))=false:=by simp;omega
    obtain rfl:i=aa.length:=by omega
    rw[List.take_length] at HN qu ⊢;go_wp2;go_ret2;exact⟨HN.out.2,az ⟨HF.out,a2,c2,rfl,HN.out.1⟩⟩
def zL (w:World)(s:ByteArray)(e:Ending)(w':World):Prop:=
 Below w.heap.size w w'/\((aQ s=false/\e=.returned (.tuple #[.agg #[.slice none 0 0,.int .i64 0],.int .i64 4]))∨(aQ s=true/\∃(g:Nat) (x:PEl),e=.returned (.tuple #[.agg #[.slice (some ⟨g,0,none⟩) 1 1,.int .i64 1],.int .i64 0])/\x.num=0/\x.par=-1/\(∀M,MkO [x] (bU M 0 (eh s)))/\PL w' (.slice (some ⟨g,0,none⟩) 1 1) [x]/\w.heap.size<=g))
theorem Ql (w:World)(s:ByteArray):
  Calls prog 59 #[.string s] w λe w'=>zL w s e w':=by
 obtain⟨i0,z0,hi,iz,is,ib,K7⟩:=Tryz.infoE;go_enter func59,ntmps59;go_wp2_with fail;refine(sL _ s).mono ?_;rintro e w1 ⟨c,rfl,rB,B3,_⟩;have HCB:=aw B3;clear B3;have cH:Below w.heap.size w w1:=(bo.alloc aF _).trans (rB.below.mono (by simp));have gA:w.heap.size<w1.heap.size:=by have:=rB.below.size;simp at this;omega
 have nw:w1.heap[w.heap.size]?=some (.cells #[.slice none 0 0,.int .i64 0] 122):=(rB.below.block w.heap.size (by simp)).trans (heap_alloc_new w _);have q0:w1.cell? ⟨w.heap.size,0,none⟩=some (.slice none 0 0):=au nw rfl;have q1:w1.cell? ⟨w.heap.size,1,none⟩=some (.int .i64 0):=au nw rfl;have qz:∀k,w1.frozen? ⟨w.heap.size,k,none⟩=false:=λ_=>aH nw;have rx:=aw nw;clear rB nw;cases hl:aQ s with
 | false=>
  have HL:=aw hl;clear hl;go_wp2_with fail;exact bodyPost_ret (v:=.tuple #[.agg #[.slice none 0 0,.int .i64 0],.int .i64 4]) (by simp[results,Tryz.results59,go_sem,q0,q1]) rfl ⟨(cH.setCell aF _).setCell aF _,ax ⟨HL.out,rfl⟩⟩
 | true=>
  have HL:=aw hl;clear hl;have HXO:=PI 0 (-1) c;have Rb:Hid (∀M,MkO [PEl.mk 0 (-1) (fK c)] (bU M 0 (eh s))):=λM=>(show MkO [] M from⟨λ_ h=>(by cases h),λ_ h=>(by cases h)⟩).more (x:=PEl.mk 0 (-1) (fK c)) 0 (Je _ _ _) (PH _ _ (HCB.out HL.out)) (λ_ h=>by cases h);have HE:=aw (Gy HXO w1);go_upto_region 5 with(refine aO rfl 156 _ _ rfl _ (PEl.mk 0 (-1) (fK c)).cells.toArray 156 rfl rfl HE.out.size' HE.out.same HE.out.all ?_)
  have Bw:Hid (∃x:PEl,x.num=0/\x.par=-1/\(∀M,MkO [x] (bU M 0 (eh s)))/\x.ok/\x.cells=(PEl.mk 0 (-1) (fK c)).cells):=⟨_,rfl,rfl,Rb.out,HXO,rfl⟩;clear HXO Rb;generalize (PEl.mk 0 (-1) (fK c)).cells=cs at HE Bw ⊢;go_wp2_with (first | (refine wpList_load_mid rfl 156 _ rfl w1.heap.size 0 rfl cs _ HE.out.rng underlying156 rfl HE.out.size ?_) | (refine dh (w1.heap.size+1) (by simp) rfl 120 156 _ rfl cs.toArray rfl i0 z0 underlying120 hi iz (HE.out.info is) HE.out.pos HE.out.small ?_));obtain⟨W2,IQ⟩:∃W2,W2=(w1.setCell ⟨w.heap.size,0,none⟩ (.slice (some ⟨w1.heap.size+1,0,none⟩) 1 1)).setCell ⟨w.heap.size,1,none⟩ (.int .i64 1):=⟨_,rfl⟩;rw[<-IQ];have lu:(w1.setCell ⟨w.heap.size,0,none⟩ (.slice (some ⟨w1.heap.size+1,0,none⟩) 1 1)).heap[w.heap.size]?=some (.cells #[.slice (some ⟨w1.heap.size+1,0,none⟩) 1 1,.int .i64 0] 122 (0,0)):=by rw[aP rx.out];rfl
  have MI:W2.heap[w.heap.size]?=some (.cells #[.slice (some ⟨w1.heap.size+1,0,none⟩) 1 1,.int .i64 1] 122 (0,0)):=by rw[IQ,aP lu];rfl
  have hzz:W2.heap.size=w1.heap.size:=by rw[IQ];simp
  have hBW:Below w.heap.size w W2:=by rw[IQ];exact(cH.setCell aF _).setCell aF _
  clear IQ lu;have zd:((W2.alloc (.cells cs.toArray 156)).alloc (.cells cs.toArray 156)).heap[w.heap.size]?=some (.cells #[.slice (some ⟨w1.heap.size+1,0,none⟩) 1 1,.int .i64 1] 122 (0,0)):=(Below.heap_alloc _ _ _ (by simp;omega)).trans ((Below.heap_alloc _ _ _ (by omega)).trans MI);have f0:((W2.alloc (.cells cs.toArray 156)).alloc (.cells cs.toArray 156)).cell? ⟨w.heap.size,0,none⟩=some (.slice (some ⟨w1.heap.size+1,0,none⟩) 1 1):=au zd rfl;have f1:((W2.alloc (.cells cs.toArray 156)).alloc (.cells cs.toArray 156)).cell? ⟨w.heap.size,1,none⟩=some (.int .i64 1):=au zd rfl
  have qo:Hid (zL w s (.returned (.tuple #[.agg #[.slice (some ⟨w1.heap.size+1,0,none⟩) 1 1,.int .i64 1],.int .i64 0])) ((W2.alloc (.cells cs.toArray 156)).alloc (.cells cs.toArray 156))):=by
   have hz:=hBW.size;refine⟨(hBW.alloc hz _).alloc (by simp;omega) _,az ⟨HL.out,w1.heap.size+1,?_⟩⟩;obtain⟨x,h1,h2,FU,h3,h4⟩:=Bw.out;refine⟨x,rfl,h1,h2,FU,⟨?_,?_⟩,by omega⟩
   ·have e1:(W2.alloc (.cells cs.toArray 156)).heap.size=w1.heap.size+1:=by simp[hzz]
    have bT:=HE.out.len;have uB:iw [x]=cs:=by simp[iw,h4]
    rw[uB];refine⟨by rw[bT];rfl,az ⟨w1.heap.size+1,1,cs.toArray,rfl,bm,?_,aF,by unfold maxLen;omega,by simp[bT],?_⟩⟩
    ·rw[<-e1];exact heap_alloc_new _ _
    ·have:cs.take 31=cs:=List.take_of_length_le (by omega);simpa using this
   ·intro e he;rw[ft] at he;rw[he];exact h3
  generalize (W2.alloc (.cells cs.toArray 156)).alloc (.cells cs.toArray 156)=W5 at f0 f1 qo ⊢;exact bodyPost_ret (v:=.tuple #[.agg #[.slice (some ⟨w1.heap.size+1,0,none⟩) 1 1,.int .i64 1],.int .i64 0]) (by simp[results,Tryz.results59,go_sem,f0,f1]) rfl qo.out
section
variable {i:Nat}{x:PEl}
structure Vw where
 ty:Int->Int->Bool
 cl:Int->Int->Bool
 nm:Int->Int->Bool
 ab:Int->List Int
 ah:Int->List Int
 la:Int->Bool
 em:Int->Bool
def pV (v:Vw)(p:PPt)(e:Int):Bool:=
 if p.kd=1 then v.ty e p.lt else if p.kd=2 then v.cl e p.lt else if p.kd=3 then v.nm e p.lt
 else if p.kd=4 then decide (((v.ah e).length:Int)+1=1) else if p.kd=5 then v.la e else if p.kd=6 then v.em e
 else if p.kd=7 then nH (((v.ah e).length:Int)+1) p.st p.sr else false
def me (v:Vw)(c:eb)(e:Int):Bool:=(c.ty==0||v.ty e c.ty)&&c.ps.all λp=>pV v p e != p.nt
def fx (v:Vw)(sg e:Int):List Int:=if sg=32 then v.ab e else if sg=62 then(v.ab e).take 1 else if sg=126 then v.ah e else if sg=43 then(v.ah e).take 1 else[]
def kM (v:Vw):List eb->Int->Bool
 | [],_=>false
 | [c],e=>me v c e
 | c :: d :: r,e=>me v c e&&(fx v c.sg e).any (kM v (d :: r))
def q9 (v:Vw)(cs:List eb)(e:Int):Bool:=kM v cs.reverse e
def jy (v:Vw)(e:Int)(a:Int × Bool)(cs:List eb):Int × Bool:=if q9 v cs e then(max a.1 ((qS cs:Nat):Int),true) else a
def fE (v:Vw)(e:Int)(ss:List (List eb)):Int × Bool:=ss.foldl (jy v e) (0,false)
def gZ (v:Vw)(e:Int)(W:List Clm)(r:dx):List Clm:=if(fE v e r.ss).2 then Gj W r (fE v e r.ss).1 else W
def fy (v:Vw)(rs:List dx)(e:Int):List Clm:=rs.foldl (gZ v e) (List.replicate 9 Clm.none)
def Hd (v:Vw)(rs:List dx)(e:Int)(ai:List Int):List Int:=(List.range 9).map λp=>dV (fy v rs e) ai 9 p
def dU (v:Vw)(rs:List dx)(e:Int):List Int:=Hd v rs e ((v.ab e).foldr (λx ai=>Hd v rs x ai) eL)
def nT (aa:List PEl):Vw:=⟨ec aa,ex aa,gV aa,bY aa aa.length,cO aa,kE aa,iY aa⟩
theorem wU (aa:List PEl):∀(cs:List eb) (e:Int),dZ aa cs e=kM (nT aa) cs e
 | [],_=>rfl
 | [_],_=>rfl
 | c :: d :: r,e=>by
  have ih:dZ aa (d :: r)=kM (nT aa) (d :: r):=funext λx=>wU aa (d :: r) x;show(iu aa c e&&(dS aa c.sg e).any (dZ aa (d :: r)))=(me (nT aa) c e&&(fx (nT aa) c.sg e).any (kM (nT aa) (d :: r)));rw[ih];rfl
theorem G9 (aa:List PEl)(cs:List eb)(e:Int):tU aa cs e=q9 (nT aa) cs e:=wU aa _ e
theorem If (aa:List PEl)(e:Int):eG aa e=fE (nT aa) e:=by
 have:hJ aa e=jy (nT aa) e:=by
  funext a cs;unfold hJ jy;rw[G9]
 funext ss;unfold eG fE;rw[this]
theorem CJ (aa:List PEl)(rs:List dx)(e:Int):bL aa rs e=fy (nT aa) rs e:=by
 have:lR aa e=gZ (nT aa) e:=by
  funext W r;unfold lR gZ;rw[If]
 unfold bL fy;rw[this]
theorem To (aa:List PEl)(rs:List dx):MP aa rs=Hd (nT aa) rs:=by
 funext e ai;unfold MP Hd;rw[CJ]
def ep (T:aU)(p:Int):List Nat:=(bF T p).getD []
def fS (T:aU)(M:Nat->Mk)(e l:Int):Bool:=(bF T e).isSome&&(M e.toNat).kd==l
def eV (T:aU)(M:Nat->Mk)(e l:Int):Bool:=(bF T e).isSome&&(decide (97<=l/\l<=122)&&(M e.toNat).cl (l - 97).toNat)
def fR (T:aU)(M:Nat->Mk)(e l:Int):Bool:=(bF T e).isSome&&(M e.toNat).nm==l
def bh (T:aU):Nat->Int->List Int
 | 0,_=>[]
 | k+1,e=>if bi T e=-1 then[] else bi T e :: bh T k (bi T e)
def dO (T:aU)(e:Int):List Int:=if(bF T e).isSome then(((ep T (bi T e)).takeWhile λ(k:Nat)=>decide (¬(k:Int)=e)).map λ(k:Nat)=>(k:Int)).reverse else[]
def qE (T:aU)(e:Int):Bool:=(bF T e).isSome&&decide (((ep T (bi T e)).dropWhile λ(k:Nat)=>decide (¬(k:Int)=e)).length<=1)
def mI (T:aU)(e:Int):Bool:=(bF T e).isSome&&(ep T e).isEmpty
def bp (T:aU)(M:Nat->Mk):Vw:=⟨fS T M,eV T M,fR T M,bh T T.length,dO T,qE T,mI T⟩
section
variable {aa:List PEl}{T:aU}{ae:Nat}{M:Nat->Mk}
theorem jO (h:PT aa T)(hw:TW T ae)(e:Int):(dB aa e).isSome=(bF T e).isSome:=by
 cases hf:dB aa e with
 | none=>rw[h.find_none hf];rfl
 | some x=>rw[(h.find_some hw hf).1];rfl
theorem wK (h:PT aa T)(hw:TW T ae):∀k e,bY aa k e=bh T k e
 | 0,_=>rfl
 | k+1,e=>by
  have e1:=h.parP hw e;show(if parP aa e=-1 then[] else parP aa e :: bY aa k (parP aa e))=(if bi T e=-1 then[] else bi T e :: bh T k (bi T e));rw[e1,wK h hw k]
theorem yu (hx:aa[i]?=some x):aa=aa.take i++x :: aa.drop (i+1):=by
 obtain⟨hi,he⟩:=ee.1 hx;rw[<-he,<-List.drop_eq_getElem_cons hi,List.take_append_drop]
theorem G5 (hx:aa[i]?=some x):aZ aa x.par=aZ (aa.take i) x.par++x.num :: aZ (aa.drop (i+1)) x.par:=by
 conv=>lhs;rw[yu hx]
 rw[eO,show x :: aa.drop (i+1)=[x]++aa.drop (i+1) from rfl,eO,qc,aE rfl];rfl
theorem Li (hn:(aa.map PEl.num).Nodup)(hx:aa[i]?=some x):∀k∈aZ (aa.take i) x.par,k≠x.num:=by
 intro k hk e;rw[fU] at hk;obtain⟨y,hy,_,h2⟩:=hk;have hs:=yu hx;rw[hs,List.map_append,List.nodup_append] at hn;exact hn.2.2 y.num (bx.2 ⟨y,hy,rfl⟩) x.num (by simp) (by rw[h2,e])
theorem lV (hn:(aa.map PEl.num).Nodup)(hx:aa[i]?=some x):(aZ aa x.par).takeWhile (λ(k:Nat)=>decide (¬(k:Int)=(x.num:Int)))=aZ (aa.take i) x.par/\(aZ aa x.par).dropWhile (λ(k:Nat)=>decide (¬(k:Int)=(x.num:Int)))=x.num :: aZ (aa.drop (i+1)) x.par:=by
 have hna:=Li hn hx
 have h1:∀k∈aZ (aa.take i) x.par,decide (¬(k:Int)=(x.num:Int))=true:=λk hk=>by
  have:=hna k hk;rw[bO];omega
 rw[G5 hx];constructor
 ·rw[List.takeWhile_append_of_pos h1];simp
 ·rw[List.dropWhile_append_of_pos h1];simp
theorem AY (h:PT aa T)(hw:TW T ae){y:PEl}(hx:x∈aa)(hy:y∈aa)(h1:x.par=-1)(h2:y.par=-1):x=y:=by
 have z:∀z∈aa,z.par=-1->z.num=0:=λz hz hp=>by
  by_cases h0:z.num=0
  ·exact h0
  ·obtain⟨l,hl⟩:=h.to' z hz;obtain⟨q,hq,_,kK⟩:=hw.up hl h0;have:=h.par hw hz;rw[hp,kK] at this;omega
 exact Co h.nums hx hy (by rw[z x hx h1,z y hy h2])
theorem qY (h:PT aa T)(hw:TW T ae)(hx:x∈aa)(hp:x.par≠-1):ep T (bi T x.num)=aZ aa x.par:=by
 rw[<-h.par hw hx];have h2:=h.par hw hx;rcases db T x.num with⟨h1,_⟩ | ⟨e,he,_,h1⟩
 ·rw[h1] at h2;exact absurd h2 hp
 ·rw[h2,h1];unfold ep;rw[eg hw.nums (k:=e.1) (l:=e.2) he];show e.2=_;exact h.kids e.1 e.2 he
theorem Et (h:PT aa T)(hw:TW T ae)(hx:x∈aa)(hp:x.par=-1):ep T (bi T x.num)=[]:=by
 rw[<-h.par hw hx,hp];unfold ep;cases ht:bF T (-1) with
 | none=>rfl
 | some l=>
  obtain⟨k,hk,_⟩:=gJ ht;omega
theorem AG (hx:aa[i]?=some x):x∈aa:=List.mem_of_getElem? hx
theorem yh (h:PT aa T)(hw:TW T ae)(hx:aa[i]?=some x)(hp:x.par=-1):aZ (aa.take i) x.par=[]/\aZ (aa.drop (i+1)) x.par=[]:=by
 have hd:(aa.map PEl.num).Nodup:=h.nums;have hs:=yu hx;constructor
 ·rw[List.eq_nil_iff_forall_not_mem];intro k hk;rw[fU] at hk;obtain⟨y,hy,h1,_⟩:=hk;have:=AY h hw (AG hx) (List.mem_of_mem_take hy) hp (h1.trans hp);subst this;rw[hs,List.map_append,List.nodup_append] at hd;exact hd.2.2 x.num (bx.2 ⟨x,hy,rfl⟩) x.num (by simp) rfl
 ·rw[List.eq_nil_iff_forall_not_mem];intro k hk;rw[fU] at hk;obtain⟨y,hy,h1,_⟩:=hk;have:=AY h hw (AG hx) (List.mem_of_mem_drop hy) hp (h1.trans hp);subst this;rw[hs,List.map_append,List.nodup_append] at hd;have h3:=hd.2.1;rw[List.map_cons,List.nodup_cons] at h3;exact h3.1 (bx.2 ⟨x,hy,rfl⟩)
theorem Ef {e:Int}(hn:(aa.map PEl.num).Nodup)(hf:dB aa e=some x):aa[nB aa e]?=some x:=by
 obtain⟨hm,he⟩:=dQ hf;obtain⟨i,hi,hx⟩:=List.getElem_of_mem hm;have h1:aa[i]?=some x:=by rw[bW hi,hx]
 have h2:=qX hn h1;rw[he] at h2;rw[h2];exact h1
theorem Nn (h:PT aa T)(hw:TW T ae)(e:Int):cO aa e=dO T e:=by
 unfold cO dO;cases hf:dB aa e with
 | none=>rw[h.find_none hf];rfl
 | some x=>
  have hi:=Ef h.nums hf;obtain⟨hm,rfl⟩:=dQ hf;rw[(h.find_some hw hf).1];show fh aa (nB aa x.num) x.par=(((ep T (bi T x.num)).takeWhile λ(k:Nat)=>decide (¬(k:Int)=(x.num:Int))).map λ(k:Nat)=>(k:Int)).reverse
  have e1:fh aa (nB aa x.num) x.par=((aZ (aa.take (nB aa x.num)) x.par).map λ(k:Nat)=>(k:Int)).reverse:=by
   unfold fh aZ;rw[List.map_map];rfl
  rw[e1]
  by_cases hp:x.par=-1
  ·rw[Et h hw hm hp,(yh h hw hi hp).1];rfl
  ·rw[qY h hw hm hp,(lV h.nums hi).1]
theorem Tk (h:PT aa T)(hw:TW T ae)(e:Int):kE aa e=qE T e:=by
 unfold kE qE;cases hf:dB aa e with
 | none=>rw[h.find_none hf];rfl
 | some x=>
  have hi:=Ef h.nums hf;obtain⟨hm,rfl⟩:=dQ hf;rw[(h.find_some hw hf).1];show((aa.drop (nB aa x.num+1)).all λy=>decide (¬y.par=x.par))=(true&&decide (((ep T (bi T x.num)).dropWhile λ(k:Nat)=>decide (¬(k:Int)=(x.num:Int))).length<=1))
  have e1:((aa.drop (nB aa x.num+1)).all λy=>decide (¬y.par=x.par))=decide (aZ (aa.drop (nB aa x.num+1)) x.par=[]):=by
   rw[Bool.eq_iff_iff,List.all_eq_true,bO];constructor
   ·intro h1;rw[List.eq_nil_iff_forall_not_mem];intro k hk;rw[fU] at hk;obtain⟨y,hy,h2,_⟩:=hk;have:=h1 y hy;rw[bO] at this;exact this h2
   ·intro h1 y hy;rw[bO];intro h2;have:y.num∈aZ (aa.drop (nB aa x.num+1)) x.par:=fU.2 ⟨y,hy,h2,rfl⟩;rw[h1] at this;cases this
  rw[e1,Bool.true_and]
  by_cases hp:x.par=-1
  ·rw[Et h hw hm hp,(yh h hw hi hp).2];rfl
  ·rw[qY h hw hm hp,(lV h.nums hi).2];cases aZ (aa.drop (nB aa x.num+1)) x.par<;>simp
theorem OB (h:PT aa T)(hw:TW T ae)(e:Int):iY aa e=mI T e:=by
 unfold iY mI;rw[jO h hw,Bool.and_comm];cases ht:bF T e with
 | none=>rfl
 | some l=>
  show(true&&_)=(true&&_);rw[Bool.true_and,Bool.true_and]
  have hk:ep T e=aZ aa e:=by
   unfold ep;rw[ht];obtain⟨k,rfl,hk⟩:=gJ ht;exact h.kids k l hk
  rw[hk,Bool.eq_iff_iff,List.all_eq_true,List.isEmpty_iff];constructor
  ·intro h1;rw[List.eq_nil_iff_forall_not_mem];intro k hk;rw[fU] at hk;obtain⟨y,hy,h2,_⟩:=hk;have:=h1 y hy;rw[bO] at this;exact this h2
  ·intro h1 y hy;rw[bO];intro h2;have:y.num∈aZ aa e:=fU.2 ⟨y,hy,h2,rfl⟩;rw[h1] at this;cases this
theorem T7 (h:PT aa T)(hw:TW T ae)(hM:M7 aa M):nT aa=bp T M:=by
 have e1:ec aa=fS T M:=by
  funext e l;unfold ec fS;rw[<-jO h hw];cases hf:dB aa e with
  | none=>rfl
  | some x=>
   obtain⟨hm,rfl⟩:=dQ hf;show(kD x==l)=(true&&((M x.num).kd==l));rw[(hM x hm).1,Bool.true_and]
 have e2:ex aa=eV T M:=by
  funext e l;unfold ex eV;rw[<-jO h hw];cases hf:dB aa e with
  | none=>rfl
  | some x=>
   obtain⟨hm,rfl⟩:=dQ hf;show(if 97<=l/\l<=122 then eN x (l - 97).toNat else false)=(true&&(decide (97<=l/\l<=122)&&(M x.num).cl (l - 97).toNat))
   by_cases hl:97<=l/\l<=122
   ·rw[aE hl,decide_eq_true hl,(hM x hm).2.1 _ (by omega)];rfl
   ·rw[aA hl,decide_eq_false hl];rfl
 have e3:gV aa=fR T M:=by
  funext e l;unfold gV fR;rw[<-jO h hw];cases hf:dB aa e with
  | none=>rfl
  | some x=>
   obtain⟨hm,rfl⟩:=dQ hf;show(jC x==l)=(true&&((M x.num).nm==l));rw[(hM x hm).2.2.1,Bool.true_and]
 unfold nT bp;rw[e1,e2,e3,h.len hw,funext (wK h hw T.length),funext (Nn h hw),funext (Tk h hw),funext (OB h hw)]
end
end
section
variable {T:aU}{e:Int}{j k ae p:Nat}{l:List Nat}{q:Nat × List Nat}{rs:List dx}
structure o7 (v v':Vw)(ok:PPt->Prop)(S:Int->Prop):Prop where
 ty:∀e,S e->∀l,v.ty e l=v'.ty e l
 sm:∀e,S e->∀p,ok p->pV v p e=pV v' p e
 ab:∀e,S e->v.ab e=v'.ab e
 ah:∀e,S e->v.ah e=v'.ah e
 sab:∀e,S e->∀x∈v.ab e,S x
 sah:∀e,S e->∀x∈v.ah e,S x
section
variable {v v':Vw}{ok:PPt->Prop}{S:Int->Prop}
theorem wN {α:Type}{f g:α->Bool}:∀{l:List α},(∀x∈l,f x=g x)->l.all f=l.all g
 | [],_=>rfl
 | x :: l,h=>by
  rw[List.all_cons,List.all_cons,h x List.mem_cons_self,wN (λy hy=>h y (List.mem_cons_of_mem _ hy))]
theorem wO {α:Type}{f g:α->Bool}:∀{l:List α},(∀x∈l,f x=g x)->l.any f=l.any g
 | [],_=>rfl
 | x :: l,h=>by
  rw[List.any_cons,List.any_cons,h x List.mem_cons_self,wO (λy hy=>h y (List.mem_cons_of_mem _ hy))]
theorem oj {α β:Type}{f g:β->α->β}:∀{l:List α} {b:β},(∀x∈l,∀b,f b x=g b x)->l.foldl f b=l.foldl g b
 | [],_,_=>rfl
 | x :: l,b,h=>by
  rw[List.foldl_cons,List.foldl_cons,h x List.mem_cons_self b,oj (λy hy=>h y (List.mem_cons_of_mem _ hy))]
theorem rY {α β:Type}{f g:α->β->β}:∀{l:List α} {b:β},(∀x∈l,∀b,f x b=g x b)->l.foldr f b=l.foldr g b
 | [],_,_=>rfl
 | x :: l,b,h=>by
  rw[List.foldr_cons,List.foldr_cons,rY (λy hy=>h y (List.mem_cons_of_mem _ hy)),h x List.mem_cons_self]
theorem Dr (h:o7 v v' ok S)(he:S e){c:eb}(hc:∀p∈c.ps,ok p):me v c e=me v' c e:=by
 unfold me;rw[h.ty e he,wN (λp hp=>by rw[h.sm e he p (hc p hp)])]
theorem yr (h:o7 v v' ok S)(he:S e)(sg:Int):fx v sg e=fx v' sg e/\∀x∈fx v sg e,S x:=by
 refine⟨?_,λx hx=>?_⟩
 ·unfold fx;rw[h.ab e he,h.ah e he]
 ·unfold fx at hx;split at hx
  ·exact h.sab e he x hx
  ·split at hx
   ·exact h.sab e he x (List.mem_of_mem_take hx)
   ·split at hx
    ·exact h.sah e he x hx
    ·split at hx
     ·exact h.sah e he x (List.mem_of_mem_take hx)
     ·cases hx
theorem zR (h:o7 v v' ok S):∀(cs:List eb),(∀c∈cs,∀p∈c.ps,ok p)->∀e,S e->kM v cs e=kM v' cs e
 | [],_,_,_=>rfl
 | [c],hc,_,he=>Dr h he (hc c List.mem_cons_self)
 | c :: d :: r,hc,e,he=>by
  show(me v c e&&(fx v c.sg e).any (kM v (d :: r)))=(me v' c e&&(fx v' c.sg e).any (kM v' (d :: r)));rw[Dr h he (hc c List.mem_cons_self),<-(yr h he c.sg).1,wO (λx hx=>zR h (d :: r) (λc' Rn=>hc c' (List.mem_cons_of_mem _ Rn)) x ((yr h he c.sg).2 x hx))]
theorem Lf (h:o7 v v' ok S){cs:List eb}(hc:∀c∈cs,∀p∈c.ps,ok p)(he:S e):q9 v cs e=q9 v' cs e:=zR h _ (λc hx=>hc c (List.mem_reverse.1 hx)) e he
theorem Mo (h:o7 v v' ok S){ss:List (List eb)}(hc:∀cs∈ss,∀c∈cs,∀p∈c.ps,ok p)(he:S e):fE v e ss=fE v' e ss:=by
 unfold fE;refine oj λcs kr a=>?_;unfold jy;rw[Lf h (hc cs kr) he]
theorem FD (h:o7 v v' ok S)(hc:∀r∈rs,∀cs∈r.ss,∀c∈cs,∀p∈c.ps,ok p)(he:S e):fy v rs e=fy v' rs e:=by
 unfold fy;refine oj λr hr W=>?_;unfold gZ;rw[Mo h (hc r hr) he]
theorem PU (h:o7 v v' ok S)(hc:∀r∈rs,∀cs∈r.ss,∀c∈cs,∀p∈c.ps,ok p)(he:S e)(ai:List Int):Hd v rs e ai=Hd v' rs e ai:=by
 unfold Hd;rw[FD h hc he]
theorem Bf (h:o7 v v' ok S)(hc:∀r∈rs,∀cs∈r.ss,∀c∈cs,∀p∈c.ps,ok p)(he:S e):dU v rs e=dU v' rs e:=by
 unfold dU;rw[h.ab e he,PU h hc he,rY (λx hx b=>PU h hc (h.sab e he x (by rw[h.ab e he];exact hx)) b)]
end
theorem wL (T:aU):∀(j i:Nat) (e:Int),io T (j+1) e<0->bh T j e=bh T (j+i) e
 | 0,0,_,_=>rfl
 | 0,i+1,e,h=>by
  have h1:bi T e<0:=h
  have h2:bi T e=-1:=by
   rcases db T e with⟨h3,_⟩ | ⟨q,_,_,h3⟩
   ·exact h3
   ·omega
  rw[Nat.zero_add];show[]=if bi T e=-1 then[] else _
  rw[aE h2]
 | j+1,i,e,h=>by
  have e1:j+1+i=(j+i)+1:=by omega
  rw[e1];show(if bi T e=-1 then[] else bi T e :: bh T j (bi T e))=(if bi T e=-1 then[] else bi T e :: bh T (j+i) (bi T e));rw[wL T j i (bi T e) h]
theorem TW.up_end (h:TW T ae)(hk:(k,l)∈T)(hj:T.length<=j):io T j k<0:=by
 obtain⟨rk,hr⟩:=h.rank;rcases Int.lt_or_le (io T j k) 0 with h1 | h1
 ·exact h1
 ·obtain⟨L,hL,hd,jZ,_⟩:=h.chain hr h1 j k ⟨l,hk⟩ rfl
  have:=dG hd (m:=T.map Prod.fst) (λx hx=>by
   obtain⟨c,hc⟩:=jZ x hx;exact bx.2 ⟨_,hc,rfl⟩)
  simp at this;omega
theorem TW.above_any (h:TW T ae)(hk:(k,l)∈T)(hj:T.length<=j):bh T T.length k=bh T j k:=by
 have:=wL T T.length (j - T.length) k (h.up_end hk (by omega));rw[this]
 congr 1
 omega
def Bg (T:aU)(p:Nat):List Nat:=if bi T p<0 then[p] else(ep T (bi T p)).dropWhile λ(k:Nat)=>decide (¬k=p)
def mE (T:aU)(p:Nat)(x:Nat):Prop:=∃t∈Bg T p,dM T t x
theorem tK (hp:p∈l):∃A B,l=A++p :: B/\p ∉ A/\(l.dropWhile λ(k:Nat)=>decide (¬k=p))=p :: B:=by
 induction l with
 | nil=>cases hp
 | cons x l ih=>
  by_cases h:x=p
  ·subst h;exact⟨[],l,rfl,by simp,by simp⟩
  ·rcases List.mem_cons.1 hp with h1 | h1
   ·exact absurd h1.symm h
   ·obtain⟨A,B,h2,h3,h4⟩:=ih h1;refine⟨x :: A,B,by rw[h2];rfl,by rw[List.mem_cons];exact λh5=>h5.elim (λh6=>h h6.symm) h3,?_⟩;rw[List.dropWhile_cons_of_pos (by simpa using h)];exact h4
theorem No (hn:l.Nodup)(hp:p∈l)(hk:k∈l)(hj:j∈l.takeWhile λ(x:Nat)=>decide (¬(x:Int)=(k:Int)))(hjd:j∈l.dropWhile λ(x:Nat)=>decide (¬x=p)):k∈l.dropWhile λ(x:Nat)=>decide (¬x=p):=by
 obtain⟨A,B,h1,_,h2⟩:=tK hp;rw[h2] at hjd ⊢;rw[h1,List.mem_append] at hk;rcases hk with hk | hk
 ·exfalso;obtain⟨C,D,h3,_,_⟩:=tK hk
  have h4:∀x∈(l.takeWhile λ(x:Nat)=>decide (¬(x:Int)=(k:Int))),x∈C:=by
   intro x hx;rw[h1,h3,List.append_assoc] at hx
   have:∀(C:List Nat) (E:List Nat),x∈((C++(k :: E)).takeWhile λ(x:Nat)=>decide (¬(x:Int)=(k:Int)))->x∈C:=by
    intro C E
    induction C with
    | nil=>intro h;simp at h
    | cons c C ih=>
     intro h;rw[List.cons_append,List.takeWhile_cons] at h;split at h
     ·rcases List.mem_cons.1 h with rfl | h
      ·exact List.mem_cons_self
      ·exact List.mem_cons_of_mem _ (ih h)
     ·cases h
   exact this C _ hx
  have h5:j∈A:=by rw[h3];exact List.mem_append_left _ (h4 j hj)
  rw[h1,List.nodup_append] at hn;exact hn.2.2 j h5 j hjd rfl
 ·exact hk
section
variable {T T':aU}{ae made':Nat}
theorem gF (h:TW T ae){q:Nat}(hq:(q,l)∈T):ep T q=l:=by
 unfold ep;rw[eg h.nums hq];rfl
theorem Bh (h:TW T ae)(_hp:(p,l)∈T):p∈Bg T p:=by
 unfold Bg;split
 ·simp
 ·rename_i h0;rcases db T p with⟨h1,_⟩ | ⟨q,hq,h1,h2⟩
  ·omega
  ·rw[h2,gF h (q:=q.1) (l:=q.2) hq];obtain⟨A,B,_,_,h3⟩:=tK (iI.1 h1);rw[h3];exact List.mem_cons_self
theorem pO (h:TW T ae)(hp:(p,l)∈T):mE T p p:=⟨p,Bh h hp,iJ T p⟩
theorem Jq (h:TW T ae)(hq:q∈T)(hk:k∈q.2)(hr:mE T p q.1):mE T p k:=by
 obtain⟨t,ht,hu⟩:=hr;exact⟨t,ht,(h.under_kid hq hk t).2 (az hu)⟩
theorem LN (h:TW T ae)(hp:(p,l)∈T)(hq:q∈T)(hk:k∈q.2)(hj:j∈q.2.takeWhile λ(x:Nat)=>decide (¬(x:Int)=(k:Int)))(hr:mE T p j):mE T p k:=by
 have hjm:j∈q.2:=(List.takeWhile_sublist _).subset hj;obtain⟨t,ht,hu⟩:=hr;rcases(h.under_kid hq hjm t).1 hu with h1 | h1
 ·subst h1;unfold Bg at ht;split at ht
  ·rename_i h0;rw[ft] at ht;subst ht;have:=h.parent hq hjm;omega
  ·rename_i h0;rcases db T p with⟨h1,_⟩ | ⟨f,hf,h1,h2⟩
   ·omega
   ·have CQ:=iI.1 h1
    have hfq:f=q:=by
     rw[h2,gF h (q:=f.1) (l:=f.2) hf] at ht;exact h.one f hf q hq j ((List.dropWhile_sublist _).subset ht) hjm
    subst hfq;rw[h2,gF h (q:=f.1) (l:=f.2) hf] at ht;refine⟨k,?_,iJ T k⟩;unfold Bg;rw[aA h0,h2,gF h (q:=f.1) (l:=f.2) hf];exact No (h.kdup f hf) CQ hk hj ht
 ·exact⟨t,ht,(h.under_kid hq hk t).2 (az h1)⟩
structure BB (T:aU)(R:Nat->Prop):Prop where
 kid:∀q∈T,∀k∈q.2,R q.1->R k
 next:∀q∈T,∀k∈q.2,∀j∈q.2.takeWhile (λ(x:Nat)=>decide (¬(x:Int)=(k:Int))),R j->R k
theorem pU (h:TW T ae)(hp:(p,l)∈T):BB T (mE T p):=⟨λ_ hq _ hk hr=>Jq h hq hk hr,λ_ hq _ hk _ hj hr=>LN h hp hq hk hj hr⟩
theorem TU {R R':Nat->Prop}(h:BB T R)(h':BB T R'):BB T (λk=>R k∨R' k):=⟨λq hq k hk hr=>hr.imp (h.kid q hq k hk) (h'.kid q hq k hk),λq hq k hk j hj hr=>hr.imp (h.next q hq k hk j hj) (h'.next q hq k hk j hj)⟩
theorem CD:BB T (λ_=>False):=⟨λ_ _ _ _ h=>h,λ_ _ _ _ _ _ h=>h⟩
variable {M M':Nat->Mk}{R:Nat->Prop}{ok:PPt->Prop}
def Ri (T:aU)(R:Nat->Prop)(e:Int):Prop:=∃k l,e=(k:Nat)/\(k,l)∈T/\¬R k
theorem xS (h:TW T ae)(h':TW T' made')(hs:BB T R)(jZ:∀k l,(k,l)∈T->¬R k->(k,l)∈T')(hk:(k,l)∈T)(hr:¬R k):bi T' k=bi T k/\(bi T k=-1∨∃q∈T,k∈q.2/\bi T k=q.1/\¬R q.1/\q∈T'):=by
 by_cases h0:k=0
 ·subst h0;exact⟨h'.root_par.trans h.root_par.symm,ax h.root_par⟩
 ·obtain⟨q,hq,hm,hp⟩:=h.up hk h0;have Tc:¬R q.1:=λhx=>hr (hs.kid q hq k hm hx);have Ap:=jZ q.1 q.2 hq Tc;exact⟨by rw[hp];exact h'.parent Ap hm,az ⟨q,hq,hm,hp,Tc,Ap⟩⟩
theorem qP (h:TW T ae)(h':TW T' made')(hs:BB T R)(jZ:∀k l,(k,l)∈T->¬R k->(k,l)∈T'):∀(n k:Nat) (l:List Nat),(k,l)∈T->¬R k->bh T n k=bh T' n k/\∀x∈bh T n k,Ri T R x
 | 0,_,_,_,_=>⟨rfl,λx hx=>by cases hx⟩
 | n+1,k,l,hk,hr=>by
  obtain⟨h1,h2⟩:=xS h h' hs jZ hk hr;show(if bi T k=-1 then[] else bi T k :: bh T n (bi T k))=(if bi T' k=-1 then[] else bi T' k :: bh T' n (bi T' k))/\∀x∈(if bi T k=-1 then[] else bi T k :: bh T n (bi T k)),Ri T R x;rw[h1];rcases h2 with h2 | ⟨q,hq,hm,hp,Tc,Ap⟩
  ·rw[aE h2,aE h2];exact⟨rfl,λx hx=>by cases hx⟩
  ·have fG:¬bi T k=-1:=by omega
   rw[aA fG,aA fG,hp];obtain⟨h3,h4⟩:=qP h h' hs jZ n q.1 q.2 hq Tc;refine⟨by rw[h3],λx hx=>?_⟩;rcases List.mem_cons.1 hx with rfl | hx
   ·exact⟨q.1,q.2,rfl,hq,Tc⟩
   ·exact h4 x hx
theorem Fi (h:TW T ae)(h':TW T' made')(hs:BB T R)(jZ:∀k l,(k,l)∈T->¬R k->(k,l)∈T')(hk:(k,l)∈T)(hr:¬R k):ep T (bi T k)=ep T' (bi T' k):=by
 obtain⟨h1,h2⟩:=xS h h' hs jZ hk hr;rw[h1];rcases h2 with h2 | ⟨q,hq,hm,hp,Tc,Ap⟩
 ·rw[h2]
  have:∀T:aU,ep T (-1)=[]:=λT=>by
   unfold ep;cases ht:bF T (-1) with
   | none=>rfl
   | some l=>
    obtain⟨k,hk,_⟩:=gJ ht;omega
  rw[this,this]
 ·rw[hp,gF h (q:=q.1) (l:=q.2) hq,gF h' (q:=q.1) (l:=q.2) Ap]
theorem kh (h:TW T ae)(h':TW T' made')(hs:BB T R)(jZ:∀k l,(k,l)∈T->¬R k->(k,l)∈T')
  (Ww:∀k l,(k,l)∈T->¬R k->(M k).kd=(M' k).kd) (lX:∀k l,(k,l)∈T->¬R k->∀p,ok p->p.kd=2->97<=p.lt->p.lt<=122->(M k).cl (p.lt - 97).toNat=(M' k).cl (p.lt - 97).toNat) (uC:∀k l,(k,l)∈T->¬R k->∀p,ok p->p.kd=3->((M k).nm==p.lt)=((M' k).nm==p.lt)) :
  o7 (bp T M) (bp T' M') ok (Ri T R):=by
 have hty:∀e,Ri T R e->∀l,fS T M e l=fS T' M' e l:=by
  rintro _ ⟨k,l,rfl,hk,hr⟩ x;unfold fS;rw[eg h.nums hk,eg h'.nums (jZ k l hk hr),Int.toNat_natCast,Ww k l hk hr]
 have hah:∀e,Ri T R e->dO T e=dO T' e:=by
  rintro _ ⟨k,l,rfl,hk,hr⟩;unfold dO;rw[eg h.nums hk,eg h'.nums (jZ k l hk hr),Fi h h' hs jZ hk hr]
 refine⟨hty,?_,?_,hah,?_,?_⟩
 ·rintro _ ⟨k,l,rfl,hk,hr⟩ p hp;have ht:=eg h.nums hk;have Ru:=eg h'.nums (jZ k l hk hr);have e1:=hty k ⟨k,l,rfl,hk,hr⟩ p.lt;have e4:=hah k ⟨k,l,rfl,hk,hr⟩
  have e2:p.kd=2->eV T M k p.lt=eV T' M' k p.lt:=λh2=>by
   unfold eV;rw[ht,Ru,Int.toNat_natCast]
   by_cases hl:97<=p.lt/\p.lt<=122
   ·rw[lX k l hk hr p hp h2 hl.1 hl.2]
   ·rw[decide_eq_false hl];rfl
  have e3:p.kd=3->fR T M k p.lt=fR T' M' k p.lt:=λh3=>by
   unfold fR;rw[ht,Ru,Int.toNat_natCast,uC k l hk hr p hp h3]
  have e5:qE T k=qE T' k:=by
   unfold qE;rw[ht,Ru,Fi h h' hs jZ hk hr]
  have e6:mI T k=mI T' k:=by
   unfold mI;rw[ht,Ru,gF h hk,gF h' (jZ k l hk hr)]
  unfold pV;show(if p.kd=1 then fS T M k p.lt else if p.kd=2 then eV T M k p.lt else if p.kd=3 then fR T M k p.lt else if p.kd=4 then decide (((dO T k).length:Int)+1=1) else if p.kd=5 then qE T k else if p.kd=6 then mI T k else if p.kd=7 then nH (((dO T k).length:Int)+1) p.st p.sr else false)=(if p.kd=1 then fS T' M' k p.lt else if p.kd=2 then eV T' M' k p.lt else if p.kd=3 then fR T' M' k p.lt else if p.kd=4 then decide (((dO T' k).length:Int)+1=1) else if p.kd=5 then qE T' k else if p.kd=6 then mI T' k else if p.kd=7 then nH (((dO T' k).length:Int)+1) p.st p.sr else false);rw[e1,e4,e5,e6]
  by_cases h2:p.kd=2
  ·rw[e2 h2]
   by_cases h3:p.kd=3
   ·omega
   ·rw[aA h3,aA h3]
  ·rw[aA h2,aA h2]
   by_cases h3:p.kd=3
   ·rw[e3 h3]
   ·rw[aA h3,aA h3]
 ·rintro _ ⟨k,l,rfl,hk,hr⟩;show bh T T.length k=bh T' T'.length k;rw[h.above_any hk (j:=T.length+T'.length) (by omega),h'.above_any (jZ k l hk hr) (j:=T.length+T'.length) (by omega)];exact(qP h h' hs jZ _ k l hk hr).1
 ·rintro _ ⟨k,l,rfl,hk,hr⟩;exact(qP h h' hs jZ T.length k l hk hr).2
 ·rintro _ ⟨k,l,rfl,hk,hr⟩ x hx;have Ed:x∈dO T k:=hx;unfold dO at Ed;rw[eg h.nums hk,Option.isSome_some,aE rfl,List.mem_reverse,bx] at Ed;obtain⟨j,hj,rfl⟩:=Ed;obtain⟨_,h2⟩:=xS h h' hs jZ hk hr;rcases h2 with h2 | ⟨q,hq,hm,hp,Tc,Ap⟩
  ·rw[h2] at hj
   have:ep T (-1)=[]:=by
    unfold ep;cases ht:bF T (-1) with
    | none=>rfl
    | some l=>
     obtain⟨k,hk,_⟩:=gJ ht;omega
   rw[this] at hj;cases hj
  ·rw[hp,gF h (q:=q.1) (l:=q.2) hq] at hj;obtain⟨lj,GW⟩:=h.kin q hq j ((List.takeWhile_sublist _).subset hj);exact⟨j,lj,rfl,GW,λhx=>hr (hs.next q hq k hm j hj hx)⟩
end
def Iv (aa:List PEl)(n:Int)(k:Nat):Prop:=∃i x,aa[i]?=some x/\(x.num:Int)=n/\∃t∈aa.drop i,t.par=x.par/\∃y∈aa,y.num=k/\∃j,j<aa.length/\upP aa j y.num=t.num
theorem Ow (l:List Nat)(p:Nat):(l.dropWhile λ(k:Nat)=>decide (¬k=p))=l.dropWhile λ(k:Nat)=>decide (¬(k:Int)=(p:Int)):=by
 congr 1
 funext k
 congr 1
 rw[eq_iff_iff];omega
theorem Qx {aa:List PEl}(h:PT aa T)(hw:TW T ae){lk:List Nat}(hp:(p,l)∈T)(hk:(k,lk)∈T)(hr:mE T p k):Iv aa p k:=by
 obtain⟨t,ht,hu⟩:=hr;obtain⟨x,hx,MN⟩:=h.of' p l hp;obtain⟨i,hi,hxi⟩:=List.getElem_of_mem hx;have hix:aa[i]?=some x:=by rw[bW hi,hxi]
 obtain⟨y,hy,As⟩:=h.of' k lk hk
 have hxd:x∈aa.drop i:=by
  rw[List.drop_eq_getElem_cons hi,hxi];exact List.mem_cons_self
 refine⟨i,x,hix,by rw[MN],?_⟩
 have nY:∃z∈aa.drop i,z.par=x.par/\z.num=t:=by
  unfold Bg at ht;split at ht
  ·rw[ft] at ht;exact⟨x,hxd,rfl,by rw[MN,ht]⟩
  ·rename_i h0;have fi:=h.par hw hx;have fG:x.par≠-1:=by rw[fi,MN];omega
   have e1:=qY h hw hx fG;rw[MN] at e1;rw[e1,Ow,<-MN,(lV h.nums hix).2] at ht;rcases List.mem_cons.1 ht with h1 | h1
   ·exact⟨x,hxd,rfl,h1.symm⟩
   ·rw[fU] at h1;obtain⟨z,hz,h2,h3⟩:=h1;exact⟨z,List.mem_of_mem_drop (i:=1) (by rw[List.drop_drop];exact hz),h2,h3⟩
 obtain⟨z,hz,h1,h2⟩:=nY;refine⟨z,hz,h1,y,hy,As,?_⟩;rw[<-As] at hu;rw[h2];exact(nK h hw hy (a:=t) (by omega)).2 hu
end
section
variable {M:Nat->Mk}{T:aU}{a k ae p:Nat}{l la:List Nat}{q:Nat × List Nat}{rs:List dx}
structure KOK (T:aU)(M:Nat->Mk)(rs:List dx)(kl:List (Int × List Int)):Prop where
 nums:(kl.map Prod.fst).Nodup
 els:∀x∈kl,∃k l,x.1=((k:Nat):Int)/\(k,l)∈T
 right:∀x∈kl,x.2=dU (bp T M) rs x.1
theorem lS (v:Vw)(rs:List dx)(e:Int):(dU v rs e).length=9:=by
 unfold dU Hd;rw[List.length_map,List.length_range]
section
variable {T T':aU}{ae made':Nat}{M M':Nat->Mk}{rs:List dx}{kl dw:List (Int × List Int)}{R:Nat->Prop}{ok:PPt->Prop}
theorem I7:KOK T M rs []:=⟨by simp,λ_ h=>(by cases h),λ_ h=>by cases h⟩
theorem KOK.len (h:KOK T M rs kl):kl.length<=T.length:=by
 have h1:(kl.map λx=>x.1.toNat).Nodup:=by
  have h2:=h.nums;have h3:=h.els;clear h
  induction kl with
  | nil=>simp
  | cons x l ih=>
   rw[List.map_cons,List.nodup_cons] at h2 ⊢;refine⟨λhm=>?_,ih h2.2 (λy hy=>h3 y (List.mem_cons_of_mem _ hy))⟩;obtain⟨y,hy,he⟩:=bx.1 hm;obtain⟨k,_,hk,_⟩:=h3 x List.mem_cons_self;obtain⟨j,_,hj,_⟩:=h3 y (List.mem_cons_of_mem _ hy);exact h2.1 (bx.2 ⟨y,hy,by omega⟩)
 have:=dG h1 (m:=T.map Prod.fst) (λk hk=>by
  obtain⟨x,hx,rfl⟩:=bx.1 hk;obtain⟨j,l,hj,hl⟩:=h.els x hx;exact bx.2 ⟨_,hl,by show j=_;omega⟩)
 simpa using this
theorem KOK.sub (h:KOK T M rs kl)(hs:dw.Sublist kl):KOK T M rs dw:=⟨h.nums.sublist (hs.map _),λx hx=>h.els x (hs.subset hx),λx hx=>h.right x (hs.subset hx)⟩
theorem KOK.fwd (h:KOK T M rs kl)(hv:o7 (bp T' M') (bp T M) ok (Ri T' R))(qV:∀r∈rs,∀cs∈r.ss,∀c∈cs,∀p∈c.ps,ok p)(hs:dw.Sublist kl)(ho:∀x∈dw,Ri T' R x.1):KOK T' M' rs dw:=
 ⟨h.nums.sublist (hs.map _),λx hx=>by obtain⟨k,l,h1,h2,_⟩:=ho x hx;exact⟨k,l,h1,h2⟩,λx hx=>by rw[h.right x (hs.subset hx),Bf hv qV (ho x hx)]⟩
theorem KOK.bwd (h:KOK T M rs kl)(hv:o7 (bp T M) (bp T' M') ok (Ri T R))(qV:∀r∈rs,∀cs∈r.ss,∀c∈cs,∀p∈c.ps,ok p)(hs:dw.Sublist kl)(ho:∀x∈dw,Ri T R x.1)(ht:∀x∈dw,∃k l,x.1=((k:Nat):Int)/\(k,l)∈T'):KOK T' M' rs dw:=
 ⟨h.nums.sublist (hs.map _),ht,λx hx=>by rw[h.right x (hs.subset hx),Bf hv qV (ho x hx)]⟩
theorem KOK.marks (h:KOK T M rs kl)(hw:TW T ae)(hm:∀k l,(k,l)∈T->M k=M' k):KOK T M' rs kl:=
 h.fwd (kh (ok:=λ_=>True) hw hw CD (λ_ _ hk _=>hk) (λk l hk _=>by rw[hm k l hk]) (λk l hk _ p _ _ _ _=>by rw[hm k l hk]) (λk l hk _ p _ _=>by rw[hm k l hk])) (λ_ _ _ _ _ _ _ _=>trivial) (List.Sublist.refl _) (λx hx=>by
  obtain⟨k,l,h1,h2⟩:=h.els x hx;exact⟨k,l,h1,h2,id⟩)
theorem KOK.ins (h:KOK T M rs kl)(hw:TW T ae)(hp:(p,l)∈T)(mk:Mk)(hs:dw.Sublist kl)(ho:∀x∈dw,∀j:Nat,x.1=j->¬mE (lT T p k ae) p j):KOK (lT T p k ae) (bU M ae mk) rs dw:=by
 have vE:TW (lT T p k ae) (ae+1):=hw.ins ⟨l,hp⟩;have ml:p<ae:=hw.lt _ hp;have uF:(p,dp l k ae)∈lT T p k ae:=cQ.2 (ax ⟨(p,l),hp,rfl,by simp⟩);have I0:=pO vE uF;have nA:mE (lT T p k ae) p ae:=Jq vE uF (xL.2 (ax rfl)) I0
 have jZ:∀k' l',(k',l')∈lT T p k ae->¬mE (lT T p k ae) p k'->(k',l')∈T:=by
  intro k' l' hk hr;rcases cQ.1 hk with⟨x,hx,h1,h2⟩ | h1
  ·have tc:k'=x.1:=h1;have GJ:l'=if x.1=p then dp x.2 k ae else x.2:=h2
   have fG:¬x.1=p:=λe=>hr (by rw[tc,e];exact I0);rw[aA fG] at GJ;rw[tc,GJ];exact hx
  ·injection h1 with h1 _
   exact absurd (by rw[h1];exact nA) hr
 have FU:∀k' l',(k',l')∈lT T p k ae->¬mE (lT T p k ae) p k'->bU M ae mk k'=M k':=λk' l' _ hr=>by
  unfold bU;rw[aA (λe=>hr (by rw[e];exact nA))]
 refine h.fwd (kh (ok:=λ_=>True) vE hw (pU vE uF) jZ (λk' l' h1 h2=>by rw[FU k' l' h1 h2]) (λk' l' h1 h2 p _ _ _ _=>by rw[FU k' l' h1 h2]) (λk' l' h1 h2 p _ _=>by rw[FU k' l' h1 h2])) (λ_ _ _ _ _ _ _ _=>trivial) hs (λx hx=>?_);obtain⟨j,lj,h1,h2⟩:=h.els x (hs.subset hx);exact⟨j,if j=p then dp lj k ae else lj,h1,cQ.2 (ax ⟨(j,lj),h2,rfl,rfl⟩),ho x hx j h1⟩
theorem Ft {b c:Nat}(h1:dM T a b)(h2:dM T b c):dM T a c:=by
 obtain⟨h0,k,hk⟩:=h1;obtain⟨_,j,hj⟩:=h2;exact⟨h0,j+k,by rw[qm,hj,hk]⟩
theorem KOK.rem (h:KOK T M rs kl)(hw:TW T ae)(ha:(a,la)∈T)(h0:a≠0)(hq:q∈T)(hm:a∈q.2)(hs:dw.Sublist kl)(ho:∀x∈dw,∀j:Nat,x.1=j->¬mE T q.1 j):KOK (kj T a) M rs dw:=by
 have vE:=hw.rem ha h0;have hp:=hw.parent hq hm;have I0:=pO hw (p:=q.1) (l:=q.2) hq
 have jZ:∀k' l',(k',l')∈T->¬mE T q.1 k'->(k',l')∈kj T a:=by
  intro k' l' hk hr;refine(er hp).2 ⟨(k',l'),hk,λhu=>hr ?_,rfl,?_⟩
  ·refine⟨q.1,Bh hw (l:=q.2) hq,Ft ?_ hu⟩;exact(hw.under_kid hq hm q.1).2 (az (iJ T q.1))
  ·show l'=if k'=q.1 then _ else l'
   rw[aA (λe=>hr (by rw[e];exact I0))]
 have D7:∀x∈dw,Ri T (mE T q.1) x.1:=λx hx=>by
  obtain⟨j,lj,h1,h2⟩:=h.els x (hs.subset hx);exact⟨j,lj,h1,h2,ho x hx j h1⟩
 refine h.bwd (kh (ok:=λ_=>True) hw vE (pU hw (l:=q.2) hq) jZ (λ_ _ _ _=>rfl) (λ_ _ _ _ _ _ _ _ _=>rfl) (λ_ _ _ _ _ _ _=>rfl)) (λ_ _ _ _ _ _ _ _=>trivial) hs D7 (λx hx=>?_);obtain⟨j,lj,h1,h2,h3⟩:=D7 x hx;exact⟨j,lj,h1,jZ j lj h2 h3⟩
theorem KOK.mov (h:KOK T M rs kl)(hw:TW T ae){lp:List Nat}(ha:(a,la)∈T)(h0:a≠0)(zi:(p,lp)∈T)(KU:¬dM T a p)(hq:q∈T)(hm:a∈q.2)(hs:dw.Sublist kl)(ho:∀x∈dw,∀j:Nat,x.1=j->¬mE (lU T a p k) q.1 j/\¬mE (lU T a p k) p j):KOK (lU T a p k) M rs dw:=by
 have vE:TW (lU T a p k) ae:=hw.mov ha h0 zi KU;have kK:=hw.parent hq hm;have mem:∀j lj,(j,lj)∈T->∃l,(j,l)∈lU T a p k:=λj lj hj=>⟨if j=p then dp (aG a (if j=q.1 then aG a lj else lj)) k a else if j=q.1 then aG a lj else lj,(ed kK).2 ⟨(j,lj),hj,rfl,rfl⟩⟩;obtain⟨lq,Ap⟩:=mem q.1 q.2 hq;obtain⟨lp',uF⟩:=mem p lp zi
 have jZ:∀k' l',(k',l')∈lU T a p k->¬(mE (lU T a p k) q.1 k'∨mE (lU T a p k) p k')->(k',l')∈T:=by
  intro k' l' hk hr;obtain⟨x,hx,h1,h2⟩:=(ed kK).1 hk;have tc:k'=x.1:=h1;have CO:¬x.1=p:=λe=>hr (az (by rw[tc,e];exact pO vE uF));have Am:¬x.1=q.1:=λe=>hr (ax (by rw[tc,e];exact pO vE Ap))
  have GJ:l'=x.2:=by
   have h3:l'=if x.1=p then dp (aG a (if x.1=q.1 then aG a x.2 else x.2)) k a else if x.1=q.1 then aG a x.2 else x.2:=h2
   rw[aA CO,aA Am] at h3;exact h3
  rw[tc,GJ];exact hx
 refine h.fwd (kh (ok:=λ_=>True) vE hw (TU (pU vE Ap) (pU vE uF)) jZ (λ_ _ _ _=>rfl) (λ_ _ _ _ _ _ _ _ _=>rfl) (λ_ _ _ _ _ _ _=>rfl)) (λ_ _ _ _ _ _ _ _=>trivial) hs (λx hx=>?_);obtain⟨j,lj,h1,h2⟩:=h.els x (hs.subset hx);obtain⟨l,hl⟩:=mem j lj h2;have:=ho x hx j h1;exact⟨j,l,h1,hl,λh3=>h3.elim this.1 this.2⟩
theorem KOK.mark (h:KOK T M rs kl)(hw:TW T ae)(hp:(p,l)∈T)(mk:Mk)(hs:dw.Sublist kl)(ho:∀x∈dw,∀j:Nat,x.1=j->¬mE T p j):KOK T (bU M p mk) rs dw:=by
 have FU:∀k' l',(k',l')∈T->¬mE T p k'->bU M p mk k'=M k':=λk' l' _ hr=>by
  unfold bU;rw[aA (λe=>hr (by rw[e];exact pO hw hp))]
 refine h.fwd (kh (ok:=λ_=>True) hw hw (pU hw hp) (λ_ _ hk _=>hk) (λk' l' h1 h2=>by rw[FU k' l' h1 h2]) (λk' l' h1 h2 p _ _ _ _=>by rw[FU k' l' h1 h2]) (λk' l' h1 h2 p _ _=>by rw[FU k' l' h1 h2])) (λ_ _ _ _ _ _ _ _=>trivial) hs (λx hx=>?_);obtain⟨j,lj,h1,h2⟩:=h.els x (hs.subset hx);exact⟨j,lj,h1,h2,ho x hx j h1⟩
def dD (rs:List dx)(kd lt:Int):Bool:=rs.any λr=>r.ss.any λcs=>cs.any λc=>c.ps.any λp=>decide (p.kd=kd)&&decide (p.lt=lt)
theorem xM {kd lt:Int}(h:dD rs kd lt=false):∀r∈rs,∀cs∈r.ss,∀c∈cs,∀p∈c.ps,¬(p.kd=kd/\p.lt=lt):=by
 intro r hr cs kr c hc p hp hx;unfold dD at h;rw[List.any_eq_false] at h;have h1:=h r hr;rw[Bool.not_eq_true,List.any_eq_false] at h1;have h2:=h1 cs kr;rw[Bool.not_eq_true,List.any_eq_false] at h2;have h3:=h2 c hc;rw[Bool.not_eq_true,List.any_eq_false] at h3;have h4:=h3 p hp;rw[hx.1,hx.2] at h4;simp at h4
theorem KOK.cls (h:KOK T M rs kl)(hw:TW T ae)(s:ByteArray)(on:Bool)(ol:dD rs 2 (bt s 0)=false∨(97<=bt s 0/\(M p).cl (bt s 0 - 97)=on)):KOK T (bU M p (kA (M p) s on)) rs kl:=by
 have Ww:∀k,(bU M p (kA (M p) s on) k).kd=(M k).kd:=λk=>by
  unfold bU;split
  ·rename_i e;rw[e];rfl
  ·rfl
 have uC:∀k,(bU M p (kA (M p) s on) k).nm=(M k).nm:=λk=>by
  unfold bU;split
  ·rename_i e;rw[e];rfl
  ·rfl
 refine h.fwd (R:=λ_=>False) (kh (ok:=λx=>dD rs 2 (bt s 0)=false->¬(x.kd=2/\x.lt=bt s 0)) hw hw CD (λ_ _ hk _=>hk) (λk l _ _=>Ww k) (λk l _ _ x hx h2 h3 h4=>?_) (λk l _ _ x _ _=>by rw[uC])) (λr hr cs kr c hc x hx hf=>xM hf r hr cs kr c hc x hx) (List.Sublist.refl _) (λx hx=>by
  obtain⟨k,l,h1,h2⟩:=h.els x hx;exact⟨k,l,h1,h2,id⟩)
 unfold bU;split
 ·rename_i e;rw[e];show(if(x.lt - 97).toNat+97=bt s 0 then on else(M p).cl (x.lt - 97).toNat)=_;split
  ·rename_i e2;rcases ol with ol | ⟨_,ol⟩
   ·exact absurd ⟨h2,by omega⟩ (hx ol)
   ·rw[<-ol]
    congr 1
    omega
  ·rfl
 ·rfl
theorem KOK.nam (h:KOK T M rs kl)(hw:TW T ae)(s:ByteArray)(ol:(M p).nm=(fW (M p) s).nm∨(dD rs 3 (M p).nm=false/\dD rs 3 (fW (M p) s).nm=false)):KOK T (bU M p (fW (M p) s)) rs kl:=by
 have Ww:∀k,(bU M p (fW (M p) s) k).kd=(M k).kd:=λk=>by
  unfold bU;split
  ·rename_i e;rw[e];rfl
  ·rfl
 have lX:∀k,(bU M p (fW (M p) s) k).cl=(M k).cl:=λk=>by
  unfold bU;split
  ·rename_i e;rw[e];rfl
  ·rfl
 refine h.fwd (R:=λ_=>False) (kh (ok:=λx=>(dD rs 3 (M p).nm=false->¬(x.kd=3/\x.lt=(M p).nm))/\(dD rs 3 (fW (M p) s).nm=false->¬(x.kd=3/\x.lt=(fW (M p) s).nm))) hw hw CD (λ_ _ hk _=>hk) (λk l _ _=>Ww k) (λk l _ _ x hx h2 h3 h4=>by rw[lX]) (λk l _ _ x hx h3=>?_)) (λr hr cs kr c hc x hx=>⟨λhf=>xM hf r hr cs kr c hc x hx,λhf=>xM hf r hr cs kr c hc x hx⟩) (List.Sublist.refl _) (λx hx=>by
  obtain⟨k,l,h1,h2⟩:=h.els x hx;exact⟨k,l,h1,h2,id⟩)
 unfold bU;split
 ·rename_i e;rw[e];rcases ol with ol | ⟨h1,h2⟩
  ·rw[ol]
  ·have e1:((fW (M p) s).nm==x.lt)=false:=by
    rw[fq];exact λe=>hx.2 h2 ⟨h3,e.symm⟩
   have e2:((M p).nm==x.lt)=false:=by
    rw[fq];exact λe=>hx.1 h1 ⟨h3,e.symm⟩
   rw[e1,e2]
 ·rfl
end
theorem KOK.more {kl:List (Int × List Int)}(h:KOK T M rs kl)(hk:(k,l)∈T)(hn:∀x∈kl,x.1≠((k:Nat):Int)):KOK T M rs (kl++[((k:Int),dU (bp T M) rs k)]):=by
 refine⟨?_,λx hx=>?_,λx hx=>?_⟩
 ·rw[List.map_append,List.nodup_append];refine⟨h.nums,by simp,λa ha b hb=>?_⟩;obtain⟨x,hx,rfl⟩:=bx.1 ha;have:b=(k:Int):=by simpa using hb
  rw[this];exact hn x hx
 ·rcases List.mem_append.1 hx with hx | hx
  ·exact h.els x hx
  ·rw[ft] at hx;rw[hx];exact⟨k,l,rfl,hk⟩
 ·rcases List.mem_append.1 hx with hx | hx
  ·exact h.right x hx
  ·rw[ft] at hx;rw[hx]
def iX (T:aU)(M:Nat->Mk)(rs:List dx):List Int->List Int
 | []=>eL
 | x :: _=>dU (bp T M) rs x
theorem n8 (h:TW T ae)(hk:(k,l)∈T):bh T T.length k=[]∨∃q∈T,k∈q.2/\bh T T.length k=(q.1:Int) :: bh T T.length q.1:=by
 by_cases h0:k=0
 ·left;subst h0;cases hl:T.length with
  | zero=>rfl
  | succ n=>
   show(if bi T 0=-1 then[] else _)=_;rw[aE h.root_par]
 ·obtain⟨q,hq,hm,hp⟩:=h.up hk h0;refine az ⟨q,hq,hm,?_⟩;rw[h.above_any hk (j:=T.length+1) (by omega)];show(if bi T k=-1 then[] else bi T k :: bh T T.length (bi T k))=_;rw[hp,aA (by omega)]
theorem yB (h:TW T ae)(hk:(k,l)∈T):dU (bp T M) rs k=Hd (bp T M) rs k (iX T M rs (bh T T.length k)):=by
 have e1:dU (bp T M) rs k=Hd (bp T M) rs k ((bh T T.length k).foldr (λx ai=>Hd (bp T M) rs x ai) eL):=rfl;rw[e1]
 congr 1
 rcases n8 h hk with h1 | ⟨q,hq,_,h1⟩
 ·rw[h1];rfl
 ·rw[h1];rfl
theorem qO (h:TW T ae):∀(i:Nat) {k:Nat} {l:List Nat},(k,l)∈T->∀{x:Int},(bh T T.length k)[i]?=some x->∃j lj,x=((j:Nat):Int)/\(j,lj)∈T/\bh T T.length x=(bh T T.length k).drop (i+1)
 | 0,k,l,hk,x,hx=>by
  rcases n8 h hk with h1 | ⟨q,hq,_,h1⟩
  ·rw[h1] at hx;cases hx
  ·rw[h1] at hx ⊢;have:(q.1:Int)=x:=by simpa using hx
   subst this;exact⟨q.1,q.2,rfl,hq,rfl⟩
 | i+1,k,l,hk,x,hx=>by
  rcases n8 h hk with h1 | ⟨q,hq,_,h1⟩
  ·rw[h1] at hx;cases hx
  ·rw[h1] at hx ⊢;rw[List.getElem?_cons_succ] at hx;obtain⟨j,lj,h2,h3,h4⟩:=qO h i (k:=q.1) (l:=q.2) hq hx;exact⟨j,lj,h2,h3,h4⟩
end
section
variable {a:Option Addr}{b c:Nat}{aa:List PEl}{w:World}
structure TRd (w:World)(b:Nat)(a:Option Addr)(c:Nat)(els:List PEl):Prop where
 cell:w.cell? ⟨b,1,none⟩=some (.slice a els.length c)
 pl:PL w (.slice a els.length c) els
 few:els.length<=24
 nums:(els.map PEl.num).Nodup
 shp:∀e∈els,Shp e
theorem TRd.lt (h:TRd w b a c aa):b<w.heap.size:=World.block_lt_of_cell? w _ h.cell
theorem TRd.below {w':World}(h:TRd w b a c aa)(hB:Below w.heap.size w w'):TRd w' b a c aa:=
 ⟨(hB.cell (p:=⟨b,1,none⟩) h.lt).trans h.cell,⟨aY h.pl.row hB,h.pl.ok⟩,h.few,h.nums,h.shp⟩
def bK (w:World)(r:Bool)(e:Ending)(w':World):Prop:=e=.returned (.bool r)/\Below w.heap.size w w'
section
variable (w:World)(b:Nat)(a:Option Addr)(c:Nat)(aa:List PEl)(n:Int)
theorem EC (h:TRd w b a c aa):Calls prog 96 #[.pointer (some ⟨b,1,none⟩),.int .i64 n] w λe w'=>bK w (dB aa n).isSome e w':=by
 have HT:=aw h;clear h;go_enter func96,ntmps96;go_wp2_with fail;refine(dX w b _ aa n HT.out.cell HT.out.pl HT.out.few).mono ?_;rintro e w1 ⟨hB,⟨hf,rfl⟩ | ⟨i,x,hx,hf,rfl⟩⟩
 ·have HE:Hid (bK w (dB aa n).isSome (.returned (.bool false)) w1):=by rw[hf];exact⟨rfl,hB⟩
  clear hf hB;go_wp2;go_ret;exact HE.out
 ·have HE:Hid (bK w (dB aa n).isSome (.returned (.bool true)) w1):=by rw[hf];exact⟨rfl,hB⟩
  clear hf hB hx;go_wp2;go_ret;exact HE.out
theorem sJ (l:Int)(h:TRd w b a c aa):Calls prog 183 #[.pointer (some ⟨b,1,none⟩),.int .i64 n,.int .u8 l] w λe w'=>bK w (ec aa n l) e w':=by
 have HT:=aw h;clear h;go_enter func183,ntmps183;go_wp2_with fail;refine(dX w b _ aa n HT.out.cell HT.out.pl HT.out.few).mono ?_;rintro e w1 ⟨hB,⟨hf,rfl⟩ | ⟨i,x,hx,hf,rfl⟩⟩
 ·have HE:Hid (bK w (ec aa n l) (.returned (.bool false)) w1):=by unfold ec;rw[hf];exact⟨rfl,hB⟩
  clear hf hB;go_wp2;go_ret;exact HE.out
 ·have HE:Hid (bK w (ec aa n l) (.returned (.bool (kD x==l))) w1):=by unfold ec;rw[hf];exact⟨rfl,hB⟩
  have T1:=HT.out.below hB;have hi:=(ee.1 hx).1;have oM:=(ee.1 hx).2;obtain⟨g,hg,di,hr⟩:=T1.pl.at' hi;subst hg;have q2:w1.cell? ⟨g,i*31+2,none⟩=some (.int .u8 (kD x)):=by rw[<-oM];exact hr 2 _ (T1.shp _ (bN hi)).kd
  have q0:=T1.cell;have jQ:(i:Int)<(aa.length:Int):=by omega
  clear hf hB hx oM hr T1;generalize kD x=kx at q2 HE;go_wp2;go_ret;exact HE.out
theorem Cp (l:Int)(h:TRd w b a c aa):Calls prog 189 #[.pointer (some ⟨b,1,none⟩),.int .i64 n,.int .u8 l] w λe w'=>bK w (gV aa n l) e w':=by
 have HT:=aw h;clear h;go_enter func189,ntmps189;go_wp2_with fail;refine(dX w b _ aa n HT.out.cell HT.out.pl HT.out.few).mono ?_;rintro e w1 ⟨hB,⟨hf,rfl⟩ | ⟨i,x,hx,hf,rfl⟩⟩
 ·have HE:Hid (bK w (gV aa n l) (.returned (.bool false)) w1):=by unfold gV;rw[hf];exact⟨rfl,hB⟩
  clear hf hB;go_wp2;go_ret;exact HE.out
 ·have HE:Hid (bK w (gV aa n l) (.returned (.bool (jC x==l))) w1):=by unfold gV;rw[hf];exact⟨rfl,hB⟩
  have T1:=HT.out.below hB;have hi:=(ee.1 hx).1;have oM:=(ee.1 hx).2;obtain⟨g,hg,di,hr⟩:=T1.pl.at' hi;subst hg;have q2:w1.cell? ⟨g,i*31+29,none⟩=some (.int .u8 (jC x)):=by rw[<-oM];exact hr 29 _ (T1.shp _ (bN hi)).nm
  have q0:=T1.cell;have jQ:(i:Int)<(aa.length:Int):=by omega
  clear hf hB hx oM hr T1;generalize jC x=kx at q2 HE;go_wp2;go_ret;exact HE.out
theorem zt (l:Int)(h:TRd w b a c aa):Calls prog 188 #[.pointer (some ⟨b,1,none⟩),.int .i64 n,.int .u8 l] w λe w'=>bK w (ex aa n l) e w':=by
 have HT:=aw h;clear h;go_enter func188,ntmps188;go_wp2_with fail;refine(dX w b _ aa n HT.out.cell HT.out.pl HT.out.few).mono ?_;rintro e w1 ⟨hB,⟨hf,rfl⟩ | ⟨i,x,hx,hf,rfl⟩⟩
 ·have HE:Hid (bK w (ex aa n l) (.returned (.bool false)) w1):=by unfold ex;rw[hf];exact⟨rfl,hB⟩
  clear hf hB;go_wp2;go_ret;exact HE.out
 ·by_cases hl:97<=l/\l<=122
  ·have HE:Hid (bK w (ex aa n l) (.returned (.bool (eN x (l - 97).toNat))) w1):=by unfold ex;rw[hf];simp only[aE hl];exact⟨rfl,hB⟩
   have T1:=HT.out.below hB;have hi:=(ee.1 hx).1;have oM:=(ee.1 hx).2;obtain⟨g,hg,di,hr⟩:=T1.pl.at' hi;subst hg;obtain⟨k,rfl⟩:∃k:Nat,l=97+k:=⟨(l - 97).toNat,by omega⟩;have hk:k<26:=by omega
   have e1:((97:Int)+k - 97).toNat=k:=by omega
   rw[e1] at HE;have q2:w1.cell? ⟨g,i*31+3+k,none⟩=some (.bool (eN x k)):=by rw[<-oM,Nat.add_assoc];exact hr (3+k) _ ((T1.shp _ (bN hi)).cl hk)
   have q0:=T1.cell;have jQ:(i:Int)<(aa.length:Int):=by omega
   have d1:decide ((97:Int)+k<97)=false:=by rw[ii];omega
   have d2:decide ((122:Int)<97+k)=false:=by rw[ii];omega
   clear hf hB hx oM hr T1 hl e1;generalize eN x k=kx at q2 HE;go_wp2;go_ret;exact HE.out
  ·have HE:Hid (bK w (ex aa n l) (.returned (.bool false)) w1):=by unfold ex;rw[hf];simp only[aA hl];exact⟨rfl,hB⟩
   clear hf hB hx
   by_cases h1:l<97
   ·have d1:decide (l<97)=true:=by simpa using h1
    clear hl h1;go_wp2;go_ret;exact HE.out
   ·have d1:decide (l<97)=false:=by simpa using h1
    have d2:decide (122<l)=true:=by simp;omega
    clear hl h1;go_wp2;go_ret;exact HE.out
end
end
section
variable {a:Option Addr}{aB c k n sz:Nat}{e:Int}{aa:List PEl}{l:List Int}{w:World}{xs:List Value}
abbrev aJ (l:List Int):List Value:=l.map (Value.int .i64)
def RowI (w:World)(a:Option Addr)(l:List Int):Prop:=∀i (_:i<l.length),∃g,a=some ⟨g,0,none⟩/\g<w.heap.size/\w.cell? ⟨g,i,none⟩=l[i]?.map (Value.int .i64)
theorem RowI.below {w':World}(h:RowI w a l)(hB:Below w.heap.size w w'):RowI w' a l:=λi hi=>by
 obtain⟨g,h1,h2,h3⟩:=h i hi;exact⟨g,h1,Nat.lt_of_lt_of_le h2 hB.size,(hB.cell (p:=⟨g,i,none⟩) h2).trans h3⟩
theorem RowI.own (h:w.ownsRow aB 3 1 (.slice a l.length c) l.length (aJ l)):RowI w a l:=λi hi=>by
 obtain⟨g,hg,di,hc⟩:=aX h (by omega);refine⟨g,hg,di,?_⟩;have:=hc i (.int .i64 l[i]) (by simp[hi]);rw[this,bW hi];rfl
theorem mp {e:TypeId}(h:w.ownsRow aB e sz (.slice a n c) n xs):n<=c:=by
 rcases h.2 with⟨h1,h2⟩ | ⟨g,ij,gu,hv,_,hh,hc,_⟩
 ·omega
 ·injection hv with h1 h2 h3
  omega
theorem nJ {e:TypeId}(h:w.ownsRow aB e sz (.slice a n c) n xs):c<=maxLen:=by
 rcases h.2 with⟨h1,h2⟩ | ⟨g,ij,gu,hv,_,hh,hc,hm,_⟩
 ·injection h1 with _ _ h3
  rw[h3];exact bm
 ·injection hv with h1 h2 h3
  rw[h3];exact hm
def lA (w:World)(l:List Int)(e:Ending)(w':World):Prop:=∃(a:Option Addr) (c:Nat),e=.returned (.slice a l.length c)/\l.length<=c/\c<=maxLen/\RowI w' a l/\Below w.heap.size w w'
def ve (w:World)(r:Int)(e:Ending)(w':World):Prop:=e=.returned (.int .i64 r)/\Below w.heap.size w w'
theorem sF (x:Int):∀u∈[Value.int .i64 x],u.oneCell'=true:=by
 intro u hu;simp only[List.mem_cons,List.not_mem_nil,or_false] at hu;rcases hu with rfl;rfl
theorem Dh (h:parP aa e≠-1):bY aa (k+1) e=parP aa e :: bY aa k (parP aa e):=by
 show(if parP aa e=-1 then[] else _)=_;rw[aA h]
theorem wM (h:parP aa e=-1):bY aa k e=[]:=by
 cases k with
 | zero=>rfl
 | succ k=>
  show(if parP aa e=-1 then[] else _)=_;rw[aE h]
theorem Gk {an:Int}(h:k<aa.length):fh aa (k+1) an=(if aa[k].par=an then[(aa[k].num:Int)] else[])++fh aa k an:=by
 unfold fh;rw[gj h,List.filter_append,List.map_append,List.reverse_append]
 congr 1
 by_cases hp:aa[k].par=an
 ·simp[hp]
 ·simp[hp]
section
variable (w:World)(b:Nat)(a:Option Addr)(c:Nat)(aa:List PEl)(n:Int)
theorem xR (h:TRd w b a c aa):Calls prog 99 #[.pointer (some ⟨b,1,none⟩),.int .i64 n] w λe w'=>lA w (bY aa aa.length n) e w':=by
 obtain⟨i0,hi,gP,gQ,gR⟩:=info_parts Tryz.info3;have HT:=aw h;have bJ:=h.few;have q0:=h.cell;clear h;go_enter func99,ntmps99;go_wp2_with fail
 go_loopg [1,5,11] aa.length (λgk nv v iv wr=>∃(i:Nat) (m:Int) (L:List Int),iv=.int .i64 i/\nv=.int .i64 m/\i<=aa.length/\aa.length - i<=gk/\L.length<=i/\Hid (wr.ownsRow w.heap.size 3 1 v L.length (aJ L)/\Below w.heap.size w wr/\bY aa aa.length n=L++bY aa (aa.length - i) m))
 case atStart=>exact⟨0,n,[],rfl,rfl,bm,by omega,by simp,eB,bo,by simp⟩
 case round=>
  obtain⟨i,m,L,rfl,rfl,jQ,fT,hL,HN⟩:=hrel;obtain⟨a2,c2,jJ⟩:=aK HN.out.1;subst jJ;have i8:=HN.out.2.1.size
  by_cases bc:i<aa.length
  ·have hd:decide ((i:Int)<(aa.length:Int))=true:=by simp;omega
   have MG:=aw (HT.out.below HN.out.2.1);clear q0;go_wp2_with fail;refine(jh wr b _ aa m MG.out.cell MG.out.pl bJ).mono ?_;rintro e w1 ⟨rfl,cH⟩;have dk:=HN.out.2.1.trans (cH.mono i8);have HO:=aw (aY HN.out.1 (cH.mono aF));have GM:=dk.size;have eM:=aw dk;clear cH dk
   by_cases hp:parP aa m=-1
   ·have gp:(parP aa m==-1)=true:=by simp[hp]
    have HE:Hid (lA w (bY aa aa.length n) (.returned (.slice a2 L.length c2)) w1):=by
     have e1:bY aa aa.length n=L:=by rw[HN.out.2.2,wM hp,List.append_nil]
     unfold Hid;rw[e1];exact⟨a2,c2,rfl,mp HO.out,nJ HO.out,RowI.own HO.out,eM.out⟩
    clear hp;generalize parP aa m=p at gp ⊢;go_wp2;go_ret;exact HE.out
   ·have gp:(parP aa m==-1)=false:=by simp[hp]
    have HA:Hid (bY aa aa.length n=(L++[parP aa m])++bY aa (aa.length - (i+1)) (parP aa m)):=by
     unfold Hid;rw[HN.out.2.2,show aa.length - i=aa.length - (i+1)+1 from by omega,Dh hp];simp
    clear hp HN;generalize parP aa m=p at gp HA ⊢;go_wp2_with (at_builtin;refine wpList_append_own _ rfl (.tmp 19) (.tmp 21) 28 rfl w.heap.size 3 i0 (.int .i64 0) 1 8 underlying28 hi gP gQ gR rfl (by decide) _ _ _ rfl (HO.out.alloc _) ⟨w1.heap.size,0,none⟩ 1 1 [.int .i64 p] rfl rfl ?c1 ?c2 ?c3 ?c4 ?c5 ?_)
    case c1=>exact bg w1 _ rfl _ _ _ rfl
    case c2=>exact sF p
    case c3=>unfold maxLen;omega
    case c4=>omega
    case c5=>simp;omega
    intro v5 w5 cf jn _
    have uo:Hid (w5.ownsRow w.heap.size 3 1 v5 (L++[p]).length (aJ (L++[p]))/\Below w.heap.size w w5/\bY aa aa.length n=(L++[p])++bY aa (aa.length - (i+1)) p):=
     ⟨by simpa using cf,(eM.out.alloc GM _).grown jn (by simp;omega) (λk hk=>(HO.out.lt k hk).1),HA.out⟩
    have Uz:(L++[p]).length<=i+1:=by simp;omega
    clear cf jn HO eM HA MG;generalize L++[p]=L2 at uo Uz;go_wp2;go_roundg (aa.length - (i+1))
    case measure=>omega
    case rel=>exact⟨i+1,p,L2,by go_num,rfl,by omega,aF,Uz,uo⟩
  ·have hd:decide ((i:Int)<(aa.length:Int))=false:=by simp;omega
   obtain rfl:i=aa.length:=by omega
   have HE:Hid (lA w (bY aa aa.length n) (.returned (.slice a2 L.length c2)) wr):=by
    have e1:bY aa aa.length n=L:=by rw[HN.out.2.2,Nat.sub_self];exact List.append_nil _
    unfold Hid;rw[e1];exact⟨a2,c2,rfl,mp HN.out.1,nJ HN.out.1,RowI.own HN.out.1,HN.out.2.1⟩
   go_wp2;go_ret;exact HE.out
theorem rg (h:TRd w b a c aa):Calls prog 186 #[.pointer (some ⟨b,1,none⟩),.int .i64 n] w λe w'=>lA w (cO aa n) e w':=by
 obtain⟨i0,hi,gP,gQ,gR⟩:=info_parts Tryz.info3;have HT:=aw h;have bJ:=h.few;clear h;go_enter func186,ntmps186;go_wp2_with fail;refine(dX w b _ aa n HT.out.cell HT.out.pl HT.out.few).mono ?_;rintro e w1 ⟨hB,⟨hf,rfl⟩ | ⟨ip,x,hx,hf,rfl⟩⟩
 ·have HE:Hid (lA w (cO aa n) (.returned (.slice none 0 0)) w1):=by unfold cO;rw[hf];exact⟨none,0,rfl,aF,bm,λi hi=>absurd hi (by simp),hB⟩
  clear hf hB;go_wp2;go_ret;exact HE.out
 ·have nW:=(ee.1 hx).1;have oM:=(ee.1 hx).2
  have HA:Hid (cO aa n=fh aa ip x.par):=by
   unfold Hid cO;rw[hf];have h1:=(dQ hf).2;have h2:=qX HT.out.nums hx;rw[h1] at h2;show fh aa (nB aa n) x.par=_;rw[h2]
  have T1:=HT.out.below hB;obtain⟨g,hg,di,he⟩:=T1.pl.el nW;subst hg;have q1:=he.cell1;rw[oM] at q1;have q0:=T1.cell;have jQ:(ip:Int)<(aa.length:Int):=by omega
  have eu:=aw hB;clear hf hB hx oM he T1;generalize x.par=an at HA q1;go_wp2_with fail
  go_loopg [8,9] ip (λgk v iv wr=>∃(k:Nat) (iz:Int) (L:List Int),iv=.int .i64 iz/\iz=(k:Int) - 1/\k<=ip/\k<=gk/\L.length+k<=ip/\Hid (wr.ownsRow w.heap.size 3 1 v L.length (aJ L)/\Below w.heap.size w wr/\cO aa n=L++fh aa k an))
  case atStart=>exact⟨ip,_,[],rfl,by go_num,aF,aF,by simp,eB,eu.out,HA.out⟩
  case round=>
   obtain⟨k,iz,L,rfl,hiz,XL,fT,hL,HN⟩:=hrel;obtain⟨a2,c2,jJ⟩:=aK HN.out.1;subst jJ;have i8:=HN.out.2.1.size;cases k with
   | zero=>
    have hd:decide ((0:Int)<=iz)=false:=by rw[ii];omega
    clear hiz
    have HE:Hid (lA w (cO aa n) (.returned (.slice a2 L.length c2)) wr):=by
     have e1:cO aa n=L:=by rw[HN.out.2.2];unfold fh;simp
     unfold Hid;rw[e1];exact⟨a2,c2,rfl,mp HN.out.1,nJ HN.out.1,RowI.own HN.out.1,HN.out.2.1⟩
    go_wp2;go_ret;exact HE.out
   | succ k=>
    obtain rfl:iz=(k:Int):=by omega
    clear hiz q0 q1;have hk:k<aa.length:=by omega
    have qu:(k:Int)<(aa.length:Int):=by omega
    have T2:=HT.out.below HN.out.2.1;obtain⟨g2,iD,l9,GP⟩:=T2.pl.el hk;injection iD with iD
    injection iD with iD _ _
    subst iD;have q0:=T2.cell;have q1:=GP.cell1;have q2:wr.cell? ⟨g,k*31,none⟩=some (.int .i64 aa[k].num):=GP.rng 0 _ GP.c0;have HS:Hid (fh aa (k+1) an=(if aa[k].par=an then[(aa[k].num:Int)] else[])++fh aa k an):=Gk hk;clear T2 GP;generalize aa[k].par=py at q1 HS;obtain⟨ny,UO⟩:∃ny:Int,ny=(aa[k].num:Int):=⟨_,rfl⟩;rw[<-UO] at q2 HS;clear UO
    by_cases hp:py=an
    ·have gp:(py==an)=true:=by simp[hp]
     have HA2:Hid (cO aa n=(L++[ny])++fh aa k an):=by
      unfold Hid;rw[HN.out.2.2,HS.out,aE hp];simp
     clear hp HS;have HO:=bZ HN.out.1 HN.out.2.1;clear HN;go_wp2_with (at_builtin;refine wpList_append_own _ rfl (.tmp 42) (.tmp 51) 28 rfl w.heap.size 3 i0 (.int .i64 0) 1 8 underlying28 hi gP gQ gR rfl (by decide) _ _ _ rfl (HO.out.1.alloc _) ⟨wr.heap.size,0,none⟩ 1 1 [.int .i64 ny] rfl rfl ?c1 ?c2 ?c3 ?c4 ?c5 ?_)
     case c2=>first | exact sF ny | rfl
     case c3=>unfold maxLen;omega
     case c4=>omega
     case c5=>first | (simp;omega) | omega
     intro v5 w5 cf jn _
     have uo:Hid (w5.ownsRow w.heap.size 3 1 v5 (L++[ny]).length (aJ (L++[ny]))/\Below w.heap.size w w5/\cO aa n=(L++[ny])++fh aa k an):=
      ⟨by simpa using cf,(HO.out.2.alloc i8 _).grown jn (by simp;omega) (λk hk=>(HO.out.1.lt k hk).1),HA2.out⟩
     have Uz:(L++[ny]).length+k<=ip:=by simp;omega
     clear cf jn HO HA2 q0 q1 q2;generalize L++[ny]=L2 at uo Uz;go_wp2;go_roundg k
     case measure=>omega
     case rel=>exact⟨k,_,L2,rfl,by go_num,by omega,aF,Uz,uo⟩
    ·have gp:(py==an)=false:=by simp[hp]
     have uo:Hid (wr.ownsRow w.heap.size 3 1 (.slice a2 L.length c2) L.length (aJ L)/\Below w.heap.size w wr/\cO aa n=L++fh aa k an):=⟨HN.out.1,HN.out.2.1,by rw[HN.out.2.2,HS.out,aA hp];rfl⟩;clear hp HS HN;go_wp2;go_roundg k
     case measure=>omega
     case rel=>exact⟨k,_,L,rfl,by go_num,by omega,aF,by omega,uo⟩
theorem Di (i:Nat)(an:Int):(fh aa i an).length<=aa.length:=by
 unfold fh;rw[List.length_reverse,List.length_map];refine Nat.le_trans (List.length_filter_le _ _) ?_;exact List.length_take_le' _ _
theorem oa:(cO aa n).length<=aa.length:=by
 unfold cO;split
 ·exact Di aa _ _
 ·simp
theorem sM (h:TRd w b a c aa):Calls prog 190 #[.pointer (some ⟨b,1,none⟩),.int .i64 n] w λe w'=>ve w (((cO aa n).length:Int)+1) e w':=by
 have HT:=aw h;have bJ:=h.few;have hl:=oa aa n;clear h;go_enter func190,ntmps190;go_wp2_with fail;refine(rg w b a c aa n HT.out).mono ?_;rintro e w1 ⟨a2,c2,rfl,_,_,_,hB⟩;obtain⟨k,hk⟩:∃k,(cO aa n).length=k:=⟨_,rfl⟩;have HE:Hid (ve w (((cO aa n).length:Int)+1) (.returned (.int .i64 ((k:Int)+1))) w1):=⟨by rw[hk],hB⟩;rw[hk] at hl ⊢;clear hB hk;go_wp2;go_ret;exact HE.out
end
end
end Go.Proofs.YtblfffbmklkhmabGreat
