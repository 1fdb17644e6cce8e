/- Own work. -/
import Derived.Test.YtblfffbmklkhmabGreatAl6
import Derived.Deep.MidRow
import Derived.Deep.WholeRow
import Derived.Great.BuildSlice
set_option maxRecDepth 100000
set_option maxHeartbeats 40000000
namespace Go.Proofs.YtblfffbmklkhmabGreat
open Go.RowKit Go.Proofs.Tryz
section
variable {cs:List Value}{e:PEl}{aa:List PEl}{g i num o:Nat}{n an:Int}{w:World}
section
variable {P:Program}{Cj:Array Oper}{rest:List Oper}{o:Oper}{a:Act}{w:World}{Q:Exit->Act->World->Prop}
theorem aO (hgd:o.guard=none)(ty:TypeId)(x y:Operand)(ho:o.op=.store ty x y)(c c':Array Value)(t:TypeId)(hx:a.eval x=.pointer (some ⟨w.heap.size,0,none⟩))(hy:a.eval y=.agg c')
  (hi:(P.info? ty).map (·.size)=some c'.size) (hs:c.size=c'.size) (h1:c'.all (·.oneCell')=true) (h:wpList P Cj Q rest (a.put o.dst undef) (w.alloc (.cells c' t))):wpList P Cj Q (o :: rest) a (w.alloc (.cells c t)):=by
 refine wpList_store_row hgd ty x y ho w.heap.size c' hx hy t c (heap_alloc_last w _) hi hs h1 ?_;rw[World.setRow_alloc_new];exact h
theorem OE {s:Nat}(hs:0<s)(c z:Array Value)(h1:c.size=s)(h2:z.size=s):Instr.fill (λi=>some (i*s,s)) z [(0,.agg c)]=some c:=by
 have h:=Great.fill_whole hs [Value.agg c] z (λv hv=>by rw[ft] at hv;rw[hv];exact h1) (by simp[h2]);have e1:(([Value.agg c].zipIdx 0).map λx=>(x.2,x.1))=[(0,Value.agg c)]:=rfl;rw[e1] at h;rw[h];simp[Value.cells]
theorem vu (hg:o.guard=none)(t e:TypeId)(x:Operand)(ho:o.op=.buildSlice t 1 #[(0,x)])(c:Array Value)(hx:a.eval x=.agg c)(ie:TypeInfo)(z:Value)
  (hu:P.underlying t=some (.slice e)) (hie:P.info? e=some ie) (hz:ie.zero=some z) (hs:ie.size=c.size) (mb:0<c.size) (FX:c.size<=1000)
  (h:wpList P Cj Q rest (a.put o.dst (.slice (some ⟨w.heap.size,0,none⟩) 1 1)) (w.alloc (.cells c e))):wpList P Cj Q (o :: rest) a w:=by
 refine wpList_buildSlice hg t e 1 _ ho c ie z hu hie hz (by omega) (by omega) ?_ h;rw[hs];have e1:(#[((0:Nat),x)].map λ(p:Nat × Operand)=>(p.1,a.eval p.2)).toList=[(0,Value.agg c)]:=by simp[hx]
 show Instr.fill _ _ (#[((0:Nat),x)].map λ(p:Nat × Operand)=>(p.1,a.eval p.2)).toList=some c;rw[e1];exact OE mb c _ rfl (by simp)
end
def PEl.cells (e:PEl):List Value:=.int .i64 e.num :: .int .i64 e.par :: e.rest
def PEl.ok (e:PEl):Prop:=e.rest.length=29/\∀v∈e.rest,v.oneCell'=true
theorem PEl.ok.len (h:e.ok):e.cells.length=31:=by
 unfold PEl.cells;rw[List.length_cons,List.length_cons,h.1]
theorem PEl.ok.one (h:e.ok):∀v∈e.cells,v.oneCell'=true:=by
 intro v hv;unfold PEl.cells at hv;rcases List.mem_cons.1 hv with rfl | hv
 ·rfl
 rcases List.mem_cons.1 hv with rfl | hv
 ·rfl
 ·exact h.2 v hv
def iw (aa:List PEl):List Value:=aa.flatMap PEl.cells
theorem OM (h:∀e∈aa,e.ok):(iw aa).length=aa.length*31:=by
 induction aa with
 | nil=>rfl
 | cons x l ih=>
  have h1:=(h x List.mem_cons_self).len;have h2:=ih (λe he=>h e (List.mem_cons_of_mem _ he));unfold iw at h2 ⊢;rw[List.flatMap_cons,List.length_append,h1,h2,List.length_cons];omega
theorem SM (h:∀e∈aa,e.ok){j:Nat}(hi:i<aa.length)(hj:j<31):(iw aa)[i*31+j]?=aa[i].cells[j]?:=by
 induction aa generalizing i with
 | nil=>simp at hi
 | cons x l ih=>
  have h1:=(h x List.mem_cons_self).len;unfold iw;rw[List.flatMap_cons];cases i with
  | zero=>
   rw[List.getElem?_append_left (by omega)];simp
  | succ i=>
   rw[List.getElem?_append_right (by omega),h1,show(i+1)*31+j - 31=i*31+j from by omega];have:=ih (λe he=>h e (List.mem_cons_of_mem _ he)) (i:=i) (by simpa using hi);unfold iw at this;rw[this];simp
structure PL (w:World)(v:Value)(els:List PEl):Prop where
 row:w.ownsRow 0 156 31 v els.length (iw els)
 ok:∀e∈els,e.ok
theorem PL.shape {v:Value}(h:PL w v aa):∃a c,v=.slice a aa.length c:=aK h.row
theorem PL.at' {a:Option Addr}{c:Nat}(h:PL w (.slice a aa.length c) aa)(hi:i<aa.length):
  ∃g,a=some ⟨g,0,none⟩/\g<w.heap.size/\w.rangeAt g (i*31) aa[i].cells:=by
 obtain⟨g,hg,di,hc⟩:=aX h.row (by omega);refine⟨g,hg,di,λj v hv=>hc _ _ ?_⟩;have hl:=(h.ok aa[i] (bN hi)).len
 have hj:j<31:=by
  have:=(ee.1 hv).1;omega
 rw[SM h.ok hi hj];exact hv
theorem bB {wr:World}{aB:Nat}(hB:Below aB w wr)(hg:g<aB)(h:w.rangeAt g o cs):wr.rangeAt g o cs:=
 λj v hv=>(hB.cell (p:=⟨g,o+j,none⟩) hg).trans (h j v hv)
theorem Tryz.size156:(Tryz.prog.info? 156).map (·.size)=some 31:=by kernel_rfl
structure ElAt (w:World)(g o:Nat)(cs:List Value)(num:Nat)(par:Int):Prop where
 rng:w.rangeAt g o cs
 len:cs.length=31
 one:∀v∈cs,v.oneCell'=true
 c0:cs[0]?=some (.int .i64 num)
 c1:cs[1]?=some (.int .i64 par)
theorem ElAt.size (h:ElAt w g o cs num an):(prog.info? 156).map (·.size)=some cs.length:=by rw[h.len];exact Tryz.size156
theorem ElAt.size' (h:ElAt w g o cs num an):(prog.info? 156).map (·.size)=some cs.toArray.size:=by rw[List.size_toArray];exact h.size
theorem ElAt.same (h:ElAt w g o cs num an):31=cs.toArray.size:=by rw[List.size_toArray,h.len]
theorem ElAt.all (h:ElAt w g o cs num an):cs.toArray.all (·.oneCell')=true:=all_oneCell_toArray h.one
def J6 (w:World)(aa:List PEl)(n:Int)(e:Ending)(w':World):Prop:=
 Below w.heap.size w w'/\((dB aa n=none/\e=.returned (.tuple #[.int .i64 0,.bool false]))∨∃(i:Nat) (x:PEl),aa[i]?=some x/\dB aa n=some x/\e=.returned (.tuple #[.int .i64 i,.bool true]))
theorem OH (hi:i<aa.length)(ol:∀j (hj:j<aa.length),j<i->((aa[j].num:Int)=n)->False)(h:(aa[i].num:Int)=n):dB aa n=some aa[i]:=by
 unfold dB;rw[List.find?_eq_some_iff_getElem];refine⟨by simpa using h,i,hi,rfl,λj hj=>?_⟩;have:=ol j (by omega) hj;simpa using this
theorem OI (ol:∀j (hj:j<aa.length),((aa[j].num:Int)=n)->False):dB aa n=none:=by
 unfold dB;rw[List.find?_eq_none];intro e he;obtain⟨j,hj,rfl⟩:=List.getElem_of_mem he;simpa using ol j hj
theorem dX (w:World)(b:Nat)(v:Value)(aa:List PEl)(n:Int)(hb:w.cell? ⟨b,1,none⟩=some v)(h:PL w v aa)(bJ:aa.length<=24):
  Calls prog 95 #[.pointer (some ⟨b,1,none⟩),.int .i64 n] w λe w'=>J6 w aa n e w':=by
 obtain⟨a,c,hv⟩:=h.shape;subst hv;have HP:=aw h;clear h;go_enter func95,ntmps95;go_wp2_with fail
 go_loopg [13] aa.length (λgk iv wr=>∃i:Nat,iv=.int .i64 i/\i<=aa.length/\aa.length - i<=gk/\Hid (Below w.heap.size w wr/\∀j (hj:j<aa.length),j<i->((aa[j].num:Int)=n)->False))
 case atStart=>exact⟨0,rfl,bm,by omega,bo,λj hj h=>by omega⟩
 case round=>
  obtain⟨i,rfl,hi,fT,HN⟩:=hrel
  by_cases bc:i<aa.length
  ·have hd:decide ((i:Int)<(aa.length:Int))=true:=by simp;omega
   obtain⟨g,hg,di,hr⟩:=HP.out.at' bc;subst hg;obtain⟨x,hx⟩:∃x,aa[i]=x:=⟨_,rfl⟩;have HX:Hid (aa[i]?=some x):=by unfold Hid;rw[bW bc,hx]
   have hxo:x.ok:=hx▸HP.out.ok _ (bN bc);have HF:Hid ((x.num:Int)=n->dB aa n=some x):=λh=>by rw[<-hx] at h ⊢;exact OH bc HN.out.2 h
   have iQ:Hid (¬(x.num:Int)=n->∀j (hj:j<aa.length),j<i+1->((aa[j].num:Int)=n)->False):=λhm j hj h1 h2=>by
    by_cases e:j=i
    ·subst e;rw[hx] at h2;exact hm h2
    ·exact HN.out.2 j hj (by omega) h2
   have HE:Hid (ElAt wr g (i*31) x.cells x.num x.par):=by rw[<-hx];exact⟨bB HN.out.1 di hr,(HP.out.ok _ (bN bc)).len,(HP.out.ok _ (bN bc)).one,rfl,rfl⟩
   clear hx hr hxo;generalize x.cells=cs at HE;have c0:cs[0]?=some (.int .i64 x.num):=HE.out.c0;have eM:Hid (Below w.heap.size w (wr.alloc (.cells cs.toArray 156))):=HN.out.1.alloc HN.out.1.size _
   by_cases hn:(x.num:Int)=n
   ·have gn:((x.num:Int)==n)=true:=by simp[hn]
    have tj:=aw (HF.out hn);clear hn;go_wp2_with (first | (refine wpList_load_mid rfl 156 _ rfl g (i*31) rfl cs _ HE.out.rng underlying156 rfl HE.out.size ?_) | (refine aO rfl 156 _ _ rfl _ cs.toArray 156 rfl rfl HE.out.size' HE.out.same HE.out.all ?_));go_ret2;exact⟨eM.out,az ⟨i,x,HX.out,tj.out,rfl⟩⟩
   ·have gn:((x.num:Int)==n)=false:=by simp[hn]
    have fj:=iQ.out hn;have oF:Hid (Below w.heap.size w (wr.alloc (.cells cs.toArray 156))/\∀j (hj:j<aa.length),j<i+1->((aa[j].num:Int)=n)->False):=⟨eM.out,fj⟩;clear hn fj;go_wp2_with (first | (refine wpList_load_mid rfl 156 _ rfl g (i*31) rfl cs _ HE.out.rng underlying156 rfl HE.out.size ?_) | (refine aO rfl 156 _ _ rfl _ cs.toArray 156 rfl rfl HE.out.size' HE.out.same HE.out.all ?_));go_roundg (aa.length - (i+1))
    case measure=>omega
    case rel=>exact⟨i+1,by go_num,by omega,aF,oF⟩
  ·have hd:decide ((i:Int)<(aa.length:Int))=false:=by simp;omega
   have C2:Hid (dB aa n=none):=OI (λj hj h=>HN.out.2 j hj (by omega) h);go_wp2;go_ret2;exact⟨HN.out.1,ax ⟨C2.out,rfl⟩⟩
end
section
variable {cs:List Value}{aa:List PEl}{g i num o:Nat}{an:Int}{w:World}
theorem PL.el {a:Option Addr}{c:Nat}(h:PL w (.slice a aa.length c) aa)(hi:i<aa.length):∃g,a=some ⟨g,0,none⟩/\g<w.heap.size/\ElAt w g (i*31) aa[i].cells aa[i].num aa[i].par:=by
 obtain⟨g,hg,di,hr⟩:=h.at' hi;exact⟨g,hg,di,hr,(h.ok _ (bN hi)).len,(h.ok _ (bN hi)).one,rfl,rfl⟩
theorem ElAt.below {wr:World}{aB:Nat}(h:ElAt w g o cs num an)(hB:Below aB w wr)(hg:g<aB):ElAt wr g o cs num an:=⟨bB hB hg h.rng,h.len,h.one,h.c0,h.c1⟩
theorem ElAt.cell1 (h:ElAt w g o cs num an):w.cell? ⟨g,o+1,none⟩=some (.int .i64 an):=h.rng 1 _ h.c1
theorem Aw (h:i<aa.length)(n:Int):aZ (aa.take (i+1)) n=aZ (aa.take i) n++if aa[i].par=n then[aa[i].num] else[]:=by
 rw[gj h,eO,qc]
theorem Eh (aa:List PEl)(n:Int):(aZ aa n).length<=aa.length:=by
 unfold aZ;rw[List.length_map];exact List.length_filter_le _ _
def Gf (w:World)(aa:List PEl)(an af:Int)(e:Ending)(w':World):Prop:=
 Below w.heap.size w w'/\((∃place:Nat,e=.returned (.tuple #[.int .i64 place,.bool true])/\place<=aa.length/\((aZ (aa.take place) an).length:Int)=af)∨(∃n:Int,e=.returned (.tuple #[.int .i64 n,.bool false])/\(af<0∨((aZ aa an).length:Int)<af)))
theorem xX (w:World)(v:Value)(aa:List PEl)(an af:Int)(h:PL w v aa)(bJ:aa.length<=24):
  Calls prog 133 #[v,.int .i64 an,.int .i64 af] w λe w'=>Gf w aa an af e w':=by
 obtain⟨a,c,hv⟩:=h.shape;subst hv;have HP:=aw h;clear h;go_enter func133,ntmps133;go_wp2_with fail
 go_loopg [8,13] aa.length (λgk av iv wr=>∃i:Nat,iv=.int .i64 i/\i<=aa.length/\aa.length - i<=gk/\av=.int .i64 ((aZ (aa.take i) an).length:Nat)/\Hid (Below w.heap.size w wr/\(af<0∨((aZ (aa.take i) an).length:Int)<=af)))
 case atStart=>exact⟨0,rfl,bm,by omega,rfl,bo,by simp[aZ];omega⟩
 case round=>
  obtain⟨i,rfl,hi,fT,rfl,HN⟩:=hrel
  have qu:(aZ (aa.take i) an).length<=24:=by
   have:=Eh (aa.take i) an;have:(aa.take i).length<=aa.length:=List.length_take_le' _ _;omega
  by_cases bc:i<aa.length
  ·have hd:decide ((i:Int)<(aa.length:Int))=true:=by simp;omega
   obtain⟨g,hg,di,he⟩:=HP.out.el bc;subst hg;have F9:=aw (Aw bc an);have HE:=aw (he.below HN.out.1 di);have HK:Hid (∀k,(aZ (aa.take i) an).length=k->(k:Int)=af->((aZ (aa.take i) an).length:Int)=af):=λk h1 h2=>by rw[h1];exact h2
   clear he;generalize aa[i]=x at HE F9;generalize x.cells=cs at HE;have c1:cs[1]?=some (.int .i64 x.par):=HE.out.c1;have eM:Hid (Below w.heap.size w (wr.alloc (.cells cs.toArray 156))):=HN.out.1.alloc HN.out.1.size _
   by_cases fi:x.par=an
   ·have gp:(x.par != an)=false:=by simp[fi]
    have Ga:Hid (aZ (aa.take (i+1)) an=aZ (aa.take i) an++[x.num]):=by unfold Hid;rw[F9.out,aE fi]
    clear fi F9
    by_cases B1:((aZ (aa.take i) an).length:Int)=af
    ·have Bm:=aw B1;have ga:(((aZ (aa.take i) an).length:Int)==af)=true:=by simp[B1]
     clear B1;go_wp2_with (first | (refine wpList_load_mid rfl 156 _ rfl g (i*31) rfl cs _ HE.out.rng underlying156 rfl HE.out.size ?_) | (refine aO rfl 156 _ _ rfl _ cs.toArray 156 rfl rfl HE.out.size' HE.out.same HE.out.all ?_));go_ret2;exact⟨eM.out,ax ⟨i,rfl,hi,Bm.out⟩⟩
    ·have ga:(((aZ (aa.take i) an).length:Int)==af)=false:=by rw[fq];exact B1
     have fj:Hid (Below w.heap.size w (wr.alloc (.cells cs.toArray 156))/\(af<0∨((aZ (aa.take (i+1)) an).length:Int)<=af)):=by
      refine⟨eM.out,?_⟩;rw[Ga.out,List.length_append];have:=HN.out.2;simp;omega
     have Ud:Hid (((aZ (aa.take (i+1)) an).length:Nat)=(aZ (aa.take i) an).length+1):=by unfold Hid;rw[Ga.out];simp
     clear B1;generalize (aZ (aa.take i) an).length=n0 at qu ga Ud ⊢;go_wp2_with (first | (refine wpList_load_mid rfl 156 _ rfl g (i*31) rfl cs _ HE.out.rng underlying156 rfl HE.out.size ?_) | (refine aO rfl 156 _ _ rfl _ cs.toArray 156 rfl rfl HE.out.size' HE.out.same HE.out.all ?_));go_roundg (aa.length - (i+1))
     case measure=>omega
     case rel=>exact⟨i+1,by go_num,by omega,aF,by rw[Ud.out];go_num,fj⟩
   ·have gp:(x.par != an)=true:=by simp[fi]
    have Ga:Hid (aZ (aa.take (i+1)) an=aZ (aa.take i) an):=by unfold Hid;rw[F9.out,aA fi,List.append_nil]
    have fj:Hid (Below w.heap.size w (wr.alloc (.cells cs.toArray 156))/\(af<0∨((aZ (aa.take (i+1)) an).length:Int)<=af)):=⟨eM.out,by rw[Ga.out];exact HN.out.2⟩;clear fi F9;go_wp2_with (first | (refine wpList_load_mid rfl 156 _ rfl g (i*31) rfl cs _ HE.out.rng underlying156 rfl HE.out.size ?_) | (refine aO rfl 156 _ _ rfl _ cs.toArray 156 rfl rfl HE.out.size' HE.out.same HE.out.all ?_));go_roundg (aa.length - (i+1))
    case measure=>omega
    case rel=>exact⟨i+1,by go_num,by omega,aF,by rw[Ga.out],fj⟩
  ·have hd:decide ((i:Int)<(aa.length:Int))=false:=by simp;omega
   obtain rfl:i=aa.length:=by omega
   rw[List.take_length] at HN qu ⊢
   by_cases B1:((aZ aa an).length:Int)=af
   ·have Bm:=aw B1;have ga:(((aZ aa an).length:Int)==af)=true:=by simp[B1]
    clear B1;go_wp2;go_ret2;refine⟨HN.out.1,ax ⟨aa.length,rfl,aF,?_⟩⟩;rw[List.take_length];exact Bm.out
   ·have ga:(((aZ aa an).length:Int)==af)=false:=by rw[fq];exact B1
    have Bm:=aw B1;clear B1;go_wp2;go_ret2;refine⟨HN.out.1,az ⟨_,rfl,?_⟩⟩;have:=HN.out.2;have:=Bm.out;omega
theorem jh (w:World)(b:Nat)(v:Value)(aa:List PEl)(n:Int)(hb:w.cell? ⟨b,1,none⟩=some v)(h:PL w v aa)(bJ:aa.length<=24):
  Calls prog 109 #[.pointer (some ⟨b,1,none⟩),.int .i64 n] w λe w'=>e=.returned (.int .i64 (parP aa n))/\Below w.heap.size w w':=by
 obtain⟨a,c,hv⟩:=h.shape;subst hv;have HP:=aw h;have jM:b<w.heap.size:=World.block_lt_of_cell? w _ hb;clear h;go_enter func109,ntmps109;go_wp2_with fail;refine(dX w b _ aa n hb HP.out bJ).mono ?_;rintro e w1 ⟨hB,⟨hf,rfl⟩ | ⟨i,x,hx,hf,rfl⟩⟩
 ·have HE:Hid (parP aa n=-1):=by unfold Hid parP;rw[hf]
  clear hf;go_wp2;go_ret;rw[HE.out];exact⟨rfl,hB⟩
 ·have HE:Hid (parP aa n=x.par):=by unfold Hid parP;rw[hf]
  have hi:=(ee.1 hx).1;have oM:=(ee.1 hx).2;obtain⟨g,hg,di,he⟩:=HP.out.el hi;subst hg;have q1:=(he.below hB di).cell1;rw[oM] at q1;have mS:w1.cell? ⟨b,1,none⟩=some (.slice (some ⟨g,0,none⟩) aa.length c):=(hB.cell (p:=⟨b,1,none⟩) jM).trans hb;have jQ:(i:Int)<(aa.length:Int):=by omega
  clear hx hf oM he;go_wp2;go_ret;rw[HE.out];exact⟨rfl,hB⟩
def upP (aa:List PEl):Nat->Int->Int
 | 0,n=>n
 | k+1,n=>parP aa (upP aa k n)
theorem PT.upP {T:aU}{ae:Nat}(h:PT aa T)(hw:TW T ae)(n:Int):∀k,upP aa k n=io T k n
 | 0=>rfl
 | k+1=>by
  rw[qm T n k 1];show Go.Proofs.YtblfffbmklkhmabGreat.parP aa (Go.Proofs.YtblfffbmklkhmabGreat.upP aa k n)=bi T (io T k n);rw[PT.upP h hw n k,h.parP hw]
def Da (w:World)(aa:List PEl)(n top:Int)(e:Ending)(w':World):Prop:=
 Below w.heap.size w w'/\∃r:Bool,e=.returned (.bool r)/\(r=true↔∃k,k<aa.length/\upP aa k n=top)
theorem mu (w:World)(b:Nat)(v:Value)(aa:List PEl)(n top:Int)(hb:w.cell? ⟨b,1,none⟩=some v)(h:PL w v aa)(bJ:aa.length<=24):
  Calls prog 135 #[.pointer (some ⟨b,1,none⟩),.int .i64 n,.int .i64 top] w λe w'=>Da w aa n top e w':=by
 obtain⟨a,c,hv⟩:=h.shape;subst hv;have HP:=aw h;have jM:b<w.heap.size:=World.block_lt_of_cell? w _ hb;have oE:=aw hb;clear h;go_enter func135,ntmps135;go_wp2_with fail
 go_loopg [1,12] aa.length (λgk nv iv wr=>∃i:Nat,iv=.int .i64 i/\i<=aa.length/\aa.length - i<=gk/\nv=.int .i64 (upP aa i n)/\Hid (Below w.heap.size w wr/\∀k,k<i->upP aa k n≠top))
 case atStart=>exact⟨0,rfl,bm,by omega,rfl,bo,λk hk=>by omega⟩
 case round=>
  obtain⟨i,rfl,hi,fT,rfl,HN⟩:=hrel
  by_cases bc:i<aa.length
  ·have hd:decide ((i:Int)<(aa.length:Int))=true:=by simp;omega
   by_cases ht:upP aa i n=top
   ·have HE:Hid (∃k,k<aa.length/\upP aa k n=top):=⟨i,bc,ht⟩;have gt:(upP aa i n==top)=true:=by simp[ht]
    clear ht;go_wp2;go_ret;exact⟨HN.out.1,true,rfl,λ_=>HE.out,λ_=>rfl⟩
   ·have gt:(upP aa i n==top)=false:=by simp[ht]
    have fj:Hid (∀k,k<i+1->upP aa k n≠top):=λk hk=>by
     by_cases e:k=i
     ·rw[e];exact ht
     ·exact HN.out.2 k (by omega)
    have HU:Hid (upP aa (i+1) n=parP aa (upP aa i n)):=rfl;clear ht;generalize upP aa i n=m at gt HU ⊢;have hbr:wr.cell? ⟨b,1,none⟩=some (.slice a aa.length c):=(HN.out.1.cell (p:=⟨b,1,none⟩) jM).trans oE.out;have HPr:Hid (PL wr (.slice a aa.length c) aa):=⟨aY HP.out.row HN.out.1,HP.out.ok⟩;go_wp2_with fail;refine(jh wr b _ aa m hbr HPr.out bJ).mono ?_;rintro e w1 ⟨rfl,hB⟩;have oF:Hid (Below w.heap.size w w1/\∀k,k<i+1->upP aa k n≠top):=⟨HN.out.1.trans (hB.mono HN.out.1.size),fj.out⟩;clear hB hbr;go_wp2;go_roundg (aa.length - (i+1))
    case measure=>omega
    case rel=>exact⟨i+1,by go_num,by omega,aF,by rw[HU.out],oF⟩
  ·have hd:decide ((i:Int)<(aa.length:Int))=false:=by simp;omega
   go_wp2;go_ret;refine⟨HN.out.1,false,rfl,λh=>(by cases h),λ⟨k,hk,gg⟩=>absurd gg (HN.out.2 k (by omega))⟩
end
section
variable {aa:List PEl}{i place:Nat}{x:PEl}
theorem Tryz.infoE:∃(i:TypeInfo) (z:Value),Tryz.prog.info? 156=some i/\i.zero=some z/\i.size=31/\i.bytes=48/\z.cells.size=31:=by
 have h:(prog.info? 156).map (λi=>(i.zero.map (·.cells.size),i.size,i.bytes))=some (some 31,31,48):=by kernel_rfl
 cases hq:prog.info? 156 with
 | none=>rw[hq] at h;cases h
 | some i=>
  rw[hq] at h;simp only[Option.map_some,Option.some.injEq,Prod.mk.injEq] at h;cases hz:i.zero with
  | none=>rw[hz] at h;cases h.1
  | some z=>
   rw[hz] at h;simp only[Option.map_some,Option.some.injEq] at h;exact⟨i,z,rfl,hz,h.2.1,h.2.2,h.1⟩
theorem dh {P:Program}{Cj:Array Oper}{rest:List Oper}{o:Oper}{a:Act}{w:World}{Q:Exit->Act->World->Prop}(N:Nat)(hN:w.heap.size=N)(hg:o.guard=none)(t e:TypeId)(x:Operand)(ho:o.op=.buildSlice t 1 #[(0,x)])(c:Array Value)(hx:a.eval x=.agg c)(ie:TypeInfo)(z:Value)
  (hu:P.underlying t=some (.slice e)) (hie:P.info? e=some ie) (hz:ie.zero=some z) (hs:ie.size=c.size) (mb:0<c.size) (FX:c.size<=1000)
  (h:wpList P Cj Q rest (a.put o.dst (.slice (some ⟨N,0,none⟩) 1 1)) (w.alloc (.cells c e))):wpList P Cj Q (o :: rest) a w:=by
 subst hN;exact vu hg t e x ho c hx ie z hu hie hz hs mb FX h
section
variable {w:World}{g o:Nat}{cs:List Value}{num:Nat}{an:Int}
theorem ElAt.info (h:ElAt w g o cs num an){n:Nat}(hn:n=31):n=cs.toArray.size:=by rw[hn];exact h.same
theorem ElAt.pos (h:ElAt w g o cs num an):0<cs.toArray.size:=by rw[<-h.same];omega
theorem ElAt.small (h:ElAt w g o cs num an):cs.toArray.size<=1000:=by rw[<-h.same];omega
theorem ElAt.len1 (h:ElAt w g o cs num an):cs.length=1*31:=by rw[h.len]
theorem ElAt.keep (h:ElAt w g o cs num an){w':World}(hk:w'.heap[g]?=w.heap[g]?):ElAt w' g o cs num an:=by
 refine⟨λj v hv=>?_,h.len,h.one,h.c0,h.c1⟩;have:=h.rng j v hv;unfold World.cell? at this ⊢;rw[hk];exact this
theorem ElAt.new (h:ElAt w g o cs num an)(w':World):ElAt (w'.alloc (.cells cs.toArray 156)) w'.heap.size 0 cs num an:=by
 refine⟨λj v hv=>?_,h.len,h.one,h.c0,h.c1⟩;rw[Nat.zero_add,cell_of_row _ _ j cs.toArray 156 (0,0) (heap_alloc_new w' _)];simpa using hv
end
theorem Gy (h:x.ok)(w':World):ElAt (w'.alloc (.cells x.cells.toArray 156)) w'.heap.size 0 x.cells x.num x.par:=by
 refine⟨λj v hv=>?_,h.len,h.one,rfl,rfl⟩;rw[Nat.zero_add,cell_of_row _ _ j x.cells.toArray 156 (0,0) (heap_alloc_new w' _)];simpa using hv
theorem Ky (L:List PEl)(x:PEl):iw (L++[x])=iw L++x.cells:=by simp[iw]
def iV (aa:List PEl)(place:Nat)(x:PEl)(i:Nat):List PEl:=if place<i then dW (aa.take i) place x else aa.take i
theorem Ij (x:PEl)(h:i<aa.length):iV aa place x (i+1)=(if i=place then iV aa place x i++[x] else iV aa place x i)++[aa[i]]:=by
 unfold iV;have ht:=gj h;have hl:(aa.take i).length=i:=by rw[List.length_take];omega
 by_cases h1:i=place
 ·subst h1;rw[aE (Nat.lt_succ_self i),aE rfl,aA (Nat.lt_irrefl i)];unfold dW;rw[ht,List.take_left' hl,List.drop_left' hl]
 ·rw[aA h1]
  by_cases h2:place<i
  ·rw[aE (by omega),aE h2];unfold dW;rw[ht,List.take_append_of_le_length (by omega),List.drop_append_of_le_length (by omega)];simp
  ·rw[aA (by omega),aA h2,ht]
theorem Bj (x:PEl)(h:place<aa.length):iV aa place x aa.length=dW aa place x:=by
 unfold iV;rw[aE h,List.take_length]
theorem Ii (aa:List PEl)(x:PEl):iV aa aa.length x aa.length++[x]=dW aa aa.length x:=by
 unfold iV dW;rw[aA (by omega),List.take_length,List.drop_length,List.append_nil]
theorem Mp (aa:List PEl)(place:Nat)(x:PEl)(i:Nat):(iV aa place x i).length<=aa.length+1:=by
 unfold iV;split
 ·unfold dW;simp;omega
 ·rw[List.length_take];omega
def C9 (w:World)(L:List PEl)(e:Ending)(w':World):Prop:=
 ∃(a:Option Addr) (c:Nat),e=.returned (.slice a L.length c)/\w'.ownsRow w.heap.size 156 31 (.slice a L.length c) L.length (iw L)/\Below w.heap.size w w'
structure WI (aB:Nat)(W wr:World)(v:Value)(L:List PEl):Prop where
 own:wr.ownsRow aB 156 31 v L.length (iw L)
 below:Below aB W wr
theorem WI.app {aB:Nat}{W wr:World}{v:Value}{L:List PEl}(h:WI aB W wr v L){w2 w3:World}{v3:Value}(hb:Below aB W w2)(hz:aB<=w2.heap.size)(hg:w2.grownBy w3 v.ownBlock)(ho:w3.ownsRow aB 156 31 v3 (L.length+1) (iw L++x.cells)):WI aB W w3 v3 (L++[x]):=by
 refine⟨?_,hb.grown hg hz (λk hk=>(h.own.lt k hk).1)⟩;rw[Ky,List.length_append];exact ho
theorem GA (h:i<aa.length):(aa.take (i+1)).eraseIdx place=if i=place then(aa.take i).eraseIdx place else(aa.take i).eraseIdx place++[aa[i]]:=by
 have ht:=gj h;have hl:(aa.take i).length=i:=by rw[List.length_take];omega
 rw[ht]
 by_cases h1:i=place
 ·subst h1;have h3:(aa.take i).eraseIdx i=aa.take i:=List.eraseIdx_of_length_le (by omega);rw[aE rfl,List.eraseIdx_append_of_length_le (by omega),hl,Nat.sub_self,h3];simp
 ·rw[aA h1]
  by_cases h2:place<i
  ·rw[List.eraseIdx_append_of_lt_length (by omega)]
  ·rw[List.eraseIdx_of_length_le (by simp;omega),List.eraseIdx_of_length_le (by omega)]
end
theorem AV (w:World)(v:Value)(aa:List PEl)(place:Nat)(x:PEl)(h:PL w v aa)(hx:x.ok)(hp:place<=aa.length)(bJ:aa.length<=24):
  Calls prog 134 #[v,.int .i64 place,.agg x.cells.toArray] w λe w'=>C9 w (dW aa place x) e w':=by
 obtain⟨i0,z0,hi,iz,is,ib,K7⟩:=Tryz.infoE;obtain⟨a,c,hv⟩:=h.shape;subst hv;have HP:=aw h;have HX:=aw (Gy hx w);clear h hx;obtain⟨cx,hcx⟩:∃cx,x.cells=cx:=⟨_,rfl⟩;have HCX:=aw hcx;rw[hcx] at HX ⊢;clear hcx;have Ir:Hid (WI (w.heap.size+1) (w.alloc (.cells cx.toArray 156)) (w.alloc (.cells cx.toArray 156)) (.slice none 0 0) (iV aa place x 0)):=⟨eB,bo⟩;go_enter func134,ntmps134;go_wp2_with fail
 go_loopg [7,12] aa.length (λgk v iv wr=>∃i:Nat,iv=.int .i64 i/\i<=aa.length/\aa.length - i<=gk/\Hid (WI (w.heap.size+1) (w.alloc (.cells cx.toArray 156)) wr v (iV aa place x i)))
 case atStart=>exact⟨0,rfl,bm,by omega,Ir⟩
 case round=>
  obtain⟨i,rfl,jQ,fT,HN⟩:=hrel;obtain⟨a2,c2,jJ⟩:=aK HN.out.own;subst jJ;have GX:=Mp aa place x i;have i8:w.heap.size+1<=wr.heap.size:=by have:=HN.out.below.size;simpa using this
  have My:=aw (HX.out.below HN.out.below (Nat.lt_succ_self _))
  by_cases bc:i<aa.length
  ·have hd:decide ((i:Int)<(aa.length:Int))=true:=by simp;omega
   obtain⟨g,hg,di,he⟩:=HP.out.el bc;subst hg;have HE:=aw ((he.below (bo.alloc aF (.cells cx.toArray 156)) di).below HN.out.below (Nat.lt_succ_of_lt di));have fI:Hid (iV aa place x (i+1)=(if i=place then iV aa place x i++[x] else iV aa place x i)++[aa[i]]):=Ij x bc;clear he;generalize aa[i]=y at HE fI;obtain⟨cs,kr⟩:∃cs,y.cells=cs:=⟨_,rfl⟩;have Ua:=aw kr;rw[kr] at HE;clear kr;generalize iV aa place x i=L at HN fI GX ⊢;have Bn:Hid (ElAt (wr.alloc (.cells cs.toArray 156)) w.heap.size 0 cx x.num x.par):=My.out.keep (Below.heap_alloc _ _ _ (by omega));have kL:=aw (HE.out.new wr)
   by_cases nW:i=place
   ·have gi:((i:Int)==(place:Int))=true:=by simp[nW]
    have gE:Hid (iV aa place x (i+1)=L++[x]++[y]):=by unfold Hid;rw[fI.out,aE nW]
    clear nW fI;go_wp2_with (first | (refine wpList_load_mid rfl 156 _ rfl g (i*31) rfl cs _ HE.out.rng underlying156 rfl HE.out.size ?_) | (refine aO rfl 156 _ _ rfl _ cs.toArray 156 rfl rfl HE.out.size' HE.out.same HE.out.all ?_) | (refine wpList_load_mid rfl 156 _ rfl (w.heap.size) (0) rfl cx _ Bn.out.rng underlying156 rfl Bn.out.size ?_) | (refine dh (wr.heap.size+1) (by simp) rfl 120 156 _ rfl cx.toArray rfl i0 z0 underlying120 hi iz (Bn.out.info is) (Bn.out.pos) (Bn.out.small) ?_) | (at_builtin;refine wpList_append_own _ rfl (.tmp 20) (.tmp 22) 120 rfl (w.heap.size+1) 156 i0 z0 31 48 underlying120 hi iz is ib K7 (by decide) _ _ _ rfl ((HN.out.own.alloc _).alloc _) ⟨wr.heap.size+1,0,none⟩ 1 1 cx rfl Bn.out.len1 ?c1 Bn.out.one ?c3 ?c4 ?c5 ?_))
    case c1=>exact bg (wr.alloc _) _ (by simp) _ _ _ (by simp)
    case c3=>unfold maxLen;omega
    case c4=>omega
    case c5=>simp;omega
    intro v3 w3 bH fB _;have Xv:Hid (WI (w.heap.size+1) (w.alloc (.cells cx.toArray 156)) w3 v3 (L++[x])):=HN.out.app ((HN.out.below.alloc i8 _).alloc (by simp;omega) _) (by simp;omega) fB (by rw[HCX.out];exact bH);have G4:wr.heap.size+2<=w3.heap.size:=by have:=fB.size;simpa using this
    have jH:Hid (ElAt w3 wr.heap.size 0 cs y.num y.par):=by
     refine kL.out.keep ((fB.block wr.heap.size (by simp;omega) (λe=>?_)).trans (Below.heap_alloc _ _ _ (by simp)));have:=(HN.out.own.lt wr.heap.size e.symm).2;omega
    have hl3:(L++[x]).length<=L.length+1:=by simp
    clear bH fB HN Bn kL My HE;obtain⟨a3,c3,zm⟩:=aK Xv.out.own;subst zm;generalize L++[x]=L3 at Xv gE hl3 ⊢;go_wp2_with (first | (refine wpList_load_mid rfl 156 _ rfl (wr.heap.size) (0) rfl cs _ jH.out.rng underlying156 rfl jH.out.size ?_) | (refine dh w3.heap.size rfl rfl 120 156 _ rfl cs.toArray rfl i0 z0 underlying120 hi iz (jH.out.info is) (jH.out.pos) (jH.out.small) ?_) | (at_builtin;refine wpList_append_own _ rfl (.tmp 24) (.tmp 26) 120 rfl (w.heap.size+1) 156 i0 z0 31 48 underlying120 hi iz is ib K7 (by decide) _ _ _ rfl (Xv.out.own.alloc _) ⟨w3.heap.size,0,none⟩ 1 1 cs rfl jH.out.len1 ?c1 jH.out.one ?c3 ?c4 ?c5 ?_))
    case c1=>exact bg w3 _ rfl _ _ _ (by simp)
    case c3=>unfold maxLen;omega
    case c4=>omega
    case c5=>simp;omega
    intro v5 w5 cf jn _
    have yS:Hid (WI (w.heap.size+1) (w.alloc (.cells cx.toArray 156)) w5 v5 (iV aa place x (i+1))):=by
     rw[gE.out];exact Xv.out.app (Xv.out.below.alloc (by omega) _) (by simp;omega) jn (by rw[Ua.out];exact cf)
    clear cf jn Xv jH;go_wp2;go_roundg (aa.length - (i+1))
    case measure=>omega
    case rel=>exact⟨i+1,by go_num,by omega,aF,yS⟩
   ·have gi:((i:Int)==(place:Int))=false:=by rw[fq];omega
    have gE:Hid (iV aa place x (i+1)=L++[y]):=by unfold Hid;rw[fI.out,aA nW]
    clear nW fI;go_wp2_with (first | (refine wpList_load_mid rfl 156 _ rfl g (i*31) rfl cs _ HE.out.rng underlying156 rfl HE.out.size ?_) | (refine aO rfl 156 _ _ rfl _ cs.toArray 156 rfl rfl HE.out.size' HE.out.same HE.out.all ?_) | (refine wpList_load_mid rfl 156 _ rfl (wr.heap.size) (0) rfl cs _ kL.out.rng underlying156 rfl kL.out.size ?_) | (refine dh (wr.heap.size+1) (by simp) rfl 120 156 _ rfl cs.toArray rfl i0 z0 underlying120 hi iz (kL.out.info is) (kL.out.pos) (kL.out.small) ?_) | (at_builtin;refine wpList_append_own _ rfl (.tmp 24) (.tmp 26) 120 rfl (w.heap.size+1) 156 i0 z0 31 48 underlying120 hi iz is ib K7 (by decide) _ _ _ rfl ((HN.out.own.alloc _).alloc _) ⟨wr.heap.size+1,0,none⟩ 1 1 cs rfl kL.out.len1 ?c1 kL.out.one ?c3 ?c4 ?c5 ?_))
    case c1=>exact bg (wr.alloc _) _ (by simp) _ _ _ (by simp)
    case c3=>unfold maxLen;omega
    case c4=>omega
    case c5=>simp;omega
    intro v5 w5 cf jn _
    have yS:Hid (WI (w.heap.size+1) (w.alloc (.cells cx.toArray 156)) w5 v5 (iV aa place x (i+1))):=by
     rw[gE.out];exact HN.out.app ((HN.out.below.alloc i8 _).alloc (by simp;omega) _) (by simp;omega) jn (by rw[Ua.out];exact cf)
    clear cf jn HN Bn kL My HE;go_wp2;go_roundg (aa.length - (i+1))
    case measure=>omega
    case rel=>exact⟨i+1,by go_num,by omega,aF,yS⟩
  ·have hd:decide ((i:Int)<(aa.length:Int))=false:=by simp;omega
   obtain rfl:i=aa.length:=by omega
   have C1:Hid (∀w3,Below (w.heap.size+1) (w.alloc (.cells cx.toArray 156)) w3->Below w.heap.size w w3):=λw3 hb=>((Below.refl w.heap.size w).alloc aF _).trans (hb.mono (Nat.le_succ _))
   by_cases ml:place=aa.length
   ·have gp:((place:Int)==(aa.length:Int))=true:=by simp[ml]
    have qo:Hid (iV aa place x aa.length++[x]=dW aa place x):=by rw[ml];exact Ii aa x
    clear ml;generalize iV aa place x aa.length=L at HN qo GX ⊢;go_wp2_with (first | (refine wpList_load_mid rfl 156 _ rfl (w.heap.size) (0) rfl cx _ My.out.rng underlying156 rfl My.out.size ?_) | (refine dh wr.heap.size rfl rfl 120 156 _ rfl cx.toArray rfl i0 z0 underlying120 hi iz (My.out.info is) (My.out.pos) (My.out.small) ?_) | (at_builtin;refine wpList_append_own _ rfl (.tmp 33) (.tmp 35) 120 rfl (w.heap.size+1) 156 i0 z0 31 48 underlying120 hi iz is ib K7 (by decide) _ _ _ rfl (HN.out.own.alloc _) ⟨wr.heap.size,0,none⟩ 1 1 cx rfl My.out.len1 ?c1 My.out.one ?c3 ?c4 ?c5 ?_))
    case c1=>exact bg wr _ rfl _ _ _ (by simp)
    case c3=>unfold maxLen;omega
    case c4=>omega
    case c5=>simp;omega
    intro v5 w5 cf jn _
    have yS:Hid (WI (w.heap.size+1) (w.alloc (.cells cx.toArray 156)) w5 v5 (dW aa place x)):=by
     rw[<-qo.out];exact HN.out.app (HN.out.below.alloc i8 _) (by simp;omega) jn (by rw[HCX.out];exact cf)
    clear cf jn HN My;obtain⟨a5,c5,G3⟩:=aK yS.out.own;subst G3;go_wp2;go_ret;exact⟨a5,c5,rfl,ba yS.out.own (Nat.le_succ _),C1.out _ yS.out.below⟩
   ·have gp:((place:Int)==(aa.length:Int))=false:=by rw[fq];omega
    have yS:Hid (WI (w.heap.size+1) (w.alloc (.cells cx.toArray 156)) wr (.slice a2 (dW aa place x).length c2) (dW aa place x)):=by
     have:=HN.out;rw[Bj x (by omega)] at this;exact this
    rw[Bj x (by omega)];clear ml HN My;go_wp2;go_ret;exact⟨a2,c2,rfl,ba yS.out.own (Nat.le_succ _),C1.out _ yS.out.below⟩
theorem Cs (w:World)(v:Value)(aa:List PEl)(place:Nat)(h:PL w v aa)(bJ:aa.length<=24):
  Calls prog 137 #[v,.int .i64 place] w λe w'=>C9 w (aa.eraseIdx place) e w':=by
 obtain⟨i0,z0,hi,iz,is,ib,K7⟩:=Tryz.infoE;obtain⟨a,c,hv⟩:=h.shape;subst hv;have HP:=aw h;clear h;have Ir:Hid (WI w.heap.size w w (.slice none 0 0) ((aa.take 0).eraseIdx place)):=⟨eB,bo⟩;go_enter func137,ntmps137;go_wp2_with fail
 go_loopg [5,10] aa.length (λgk v iv wr=>∃i:Nat,iv=.int .i64 i/\i<=aa.length/\aa.length - i<=gk/\Hid (WI w.heap.size w wr v ((aa.take i).eraseIdx place)))
 case atStart=>exact⟨0,rfl,bm,by omega,Ir⟩
 case round=>
  obtain⟨i,rfl,jQ,fT,HN⟩:=hrel;obtain⟨a2,c2,jJ⟩:=aK HN.out.own;subst jJ
  have GX:((aa.take i).eraseIdx place).length<=24:=by
   have h1:=List.length_eraseIdx_le (aa.take i) place;have h2:(aa.take i).length<=aa.length:=List.length_take_le' _ _;omega
  have i8:=HN.out.below.size
  by_cases bc:i<aa.length
  ·have hd:decide ((i:Int)<(aa.length:Int))=true:=by simp;omega
   obtain⟨g,hg,di,he⟩:=HP.out.el bc;subst hg;have HE:=aw (he.below HN.out.below di);have fI:Hid ((aa.take (i+1)).eraseIdx place=if i=place then(aa.take i).eraseIdx place else(aa.take i).eraseIdx place++[aa[i]]):=GA bc;clear he;generalize aa[i]=y at HE fI;obtain⟨cs,kr⟩:∃cs,y.cells=cs:=⟨_,rfl⟩;have Ua:=aw kr;rw[kr] at HE;clear kr;generalize (aa.take i).eraseIdx place=L at HN fI GX ⊢;have kL:=aw (HE.out.new wr)
   by_cases nW:i=place
   ·have gi:((i:Int) != (place:Int))=false:=by simp[nW]
    have yS:Hid (WI w.heap.size w (wr.alloc (.cells cs.toArray 156)) (.slice a2 L.length c2) ((aa.take (i+1)).eraseIdx place)):=by
     rw[fI.out,aE nW];exact⟨HN.out.own.alloc _,HN.out.below.alloc i8 _⟩
    clear nW fI;go_wp2_with (first | (refine wpList_load_mid rfl 156 _ rfl g (i*31) rfl cs _ HE.out.rng underlying156 rfl HE.out.size ?_) | (refine aO rfl 156 _ _ rfl _ cs.toArray 156 rfl rfl HE.out.size' HE.out.same HE.out.all ?_));go_roundg (aa.length - (i+1))
    case measure=>omega
    case rel=>exact⟨i+1,by go_num,by omega,aF,yS⟩
   ·have gi:((i:Int) != (place:Int))=true:=by rw[bne_iff_ne];omega
    have gE:Hid ((aa.take (i+1)).eraseIdx place=L++[y]):=by unfold Hid;rw[fI.out,aA nW]
    clear nW fI;go_wp2_with (first | (refine wpList_load_mid rfl 156 _ rfl g (i*31) rfl cs _ HE.out.rng underlying156 rfl HE.out.size ?_) | (refine aO rfl 156 _ _ rfl _ cs.toArray 156 rfl rfl HE.out.size' HE.out.same HE.out.all ?_) | (refine wpList_load_mid rfl 156 _ rfl (wr.heap.size) (0) rfl cs _ kL.out.rng underlying156 rfl kL.out.size ?_) | (refine dh (wr.heap.size+1) (by simp) rfl 120 156 _ rfl cs.toArray rfl i0 z0 underlying120 hi iz (kL.out.info is) (kL.out.pos) (kL.out.small) ?_) | (at_builtin;refine wpList_append_own _ rfl (.tmp 18) (.tmp 20) 120 rfl (w.heap.size) 156 i0 z0 31 48 underlying120 hi iz is ib K7 (by decide) _ _ _ rfl ((HN.out.own.alloc _).alloc _) ⟨wr.heap.size+1,0,none⟩ 1 1 cs rfl kL.out.len1 ?c1 kL.out.one ?c3 ?c4 ?c5 ?_))
    case c1=>exact bg (wr.alloc _) _ (by simp) _ _ _ (by simp)
    case c3=>unfold maxLen;omega
    case c4=>omega
    case c5=>simp;omega
    intro v5 w5 cf jn _
    have yS:Hid (WI w.heap.size w w5 v5 ((aa.take (i+1)).eraseIdx place)):=by
     rw[gE.out];exact HN.out.app ((HN.out.below.alloc i8 _).alloc (by simp;omega) _) (by simp;omega) jn (by rw[Ua.out];exact cf)
    clear cf jn HN kL HE;go_wp2;go_roundg (aa.length - (i+1))
    case measure=>omega
    case rel=>exact⟨i+1,by go_num,by omega,aF,yS⟩
  ·have hd:decide ((i:Int)<(aa.length:Int))=false:=by simp;omega
   obtain rfl:i=aa.length:=by omega
   rw[List.take_length] at HN ⊢;go_wp2;go_ret;exact⟨a2,c2,rfl,HN.out.own,HN.out.below⟩
section
variable {e x:PEl}{aa:List PEl}{i:Nat}
noncomputable def dR (T:aU)(f n:Int):Bool:=decide (bi T f<0)||cu T (bi T f) n
def kD (e:PEl):Int:=match (e.rest[0]?:Option Value) with | some (.int .u8 k)=>k | _=>0
def eN (e:PEl)(i:Nat):Bool:=match (e.rest[1+i]?:Option Value) with | some (.bool b)=>b | _=>false
def jC (e:PEl):Int:=match (e.rest[27]?:Option Value) with | some (.int .u8 k)=>k | _=>0
structure Shp (e:PEl):Prop where
 kind:∃k,e.rest[0]?=some (.int .u8 k)
 cls:∀i,i<26->∃b,e.rest[1+i]?=some (.bool b)
 name:∃k,e.rest[27]?=some (.int .u8 k)
 shown:∃b,e.rest[28]?=some (.bool b)
theorem Shp.kd (h:Shp e):e.cells[2]?=some (.int .u8 (kD e)):=by
 obtain⟨k,hk⟩:=h.kind;unfold kD PEl.cells;rw[hk];exact hk
theorem Shp.cl (h:Shp e)(hi:i<26):e.cells[3+i]?=some (.bool (eN e i)):=by
 obtain⟨b,hb⟩:=h.cls i hi;unfold eN PEl.cells;rw[hb,show 3+i=(1+i)+1+1 from by omega,List.getElem?_cons_succ,List.getElem?_cons_succ];exact hb
theorem Shp.nm (h:Shp e):e.cells[29]?=some (.int .u8 (jC e)):=by
 obtain⟨k,hk⟩:=h.name;unfold jC PEl.cells;rw[hk];exact hk
def fZ (e:PEl):Bool:=match (e.rest[28]?:Option Value) with | some (.bool b)=>b | _=>false
theorem Shp.sh (h:Shp e):e.cells[30]?=some (.bool (fZ e)):=by
 obtain⟨k,hk⟩:=h.shown;unfold fZ PEl.cells;rw[hk];exact hk
structure Mk where
 kd:Int
 cl:Nat->Bool
 nm:Int
def Il (x:PEl)(m:Mk):Prop:=kD x=m.kd/\(∀i,i<26->eN x i=m.cl i)/\jC x=m.nm/\fZ x=m.cl 26
def M7 (aa:List PEl)(M:Nat->Mk):Prop:=∀x∈aa,Il x (M x.num)
def bU (M:Nat->Mk)(k:Nat)(m:Mk):Nat->Mk:=λj=>if j=k then m else M j
def eh (aj:ByteArray):Mk:=⟨bt aj 0,λ_=>false,0⟩
def kA (m:Mk)(s:ByteArray)(on:Bool):Mk:=⟨m.kd,λi=>if i+97=bt s 0 then on else m.cl i,m.nm⟩
def fW (m:Mk)(s:ByteArray):Mk:=⟨m.kd,m.cl,if s.size=0 then 0 else bt s 0⟩
def iG (m:Mk)(on:Bool):Mk:=⟨m.kd,λi=>if i=26 then on else m.cl i,m.nm⟩
def MkO (aa:List PEl)(M:Nat->Mk):Prop:=M7 aa M/\∀x∈aa,Shp x
theorem MkO.sub {bX:List PEl}{M:Nat->Mk}(h:MkO aa M)(hs:∀x∈bX,x∈aa):MkO bX M:=⟨λx hx=>h.1 x (hs x hx),λx hx=>h.2 x (hs x hx)⟩
theorem MkO.ext {M M':Nat->Mk}(h:MkO aa M)(hm:∀x∈aa,M x.num=M' x.num):MkO aa M':=⟨λx hx=>by rw[<-hm x hx];exact h.1 x hx,h.2⟩
theorem MkO.more {M:Nat->Mk}(h:MkO aa M){m:Mk}(place:Nat)(hx:Shp x)(hm:Il x m)(hn:∀e∈aa,e.num≠x.num):MkO (dW aa place x) (bU M x.num m):=by
 refine⟨λe he=>?_,λe he=>?_⟩
 ·unfold bU;rcases fV.1 he with rfl | he
  ·rw[aE rfl];exact hm
  ·rw[aA (hn e he)];exact h.1 e he
 ·rcases fV.1 he with rfl | he
  ·exact hx
  ·exact h.2 e he
def ec (aa:List PEl)(e l:Int):Bool:=match dB aa e with | some x=>kD x==l | none=>false
def ex (aa:List PEl)(e l:Int):Bool:=match dB aa e with | some x=>if 97<=l/\l<=122 then eN x (l - 97).toNat else false | none=>false
def gV (aa:List PEl)(e l:Int):Bool:=match dB aa e with | some x=>jC x==l | none=>false
def bY (aa:List PEl):Nat->Int->List Int
 | 0,_=>[]
 | k+1,e=>if parP aa e=-1 then[] else parP aa e :: bY aa k (parP aa e)
def fh (aa:List PEl)(i:Nat)(an:Int):List Int:=(((aa.take i).filter λy=>decide (y.par=an)).map λy=>(y.num:Int)).reverse
def nB (aa:List PEl)(e:Int):Nat:=aa.findIdx λy=>decide ((y.num:Int)=e)
def cO (aa:List PEl)(e:Int):List Int:=match dB aa e with | some x=>fh aa (nB aa e) x.par | none=>[]
def kE (aa:List PEl)(e:Int):Bool:=match dB aa e with | some x=>(aa.drop (nB aa e+1)).all λy=>decide (¬y.par=x.par) | none=>false
def iY (aa:List PEl)(e:Int):Bool:=(aa.all λy=>decide (¬y.par=e))&&(dB aa e).isSome
theorem qX (hn:(aa.map PEl.num).Nodup)(hx:aa[i]?=some x):nB aa x.num=i:=by
 obtain⟨hi,he⟩:=ee.1 hx;unfold nB;rw[List.findIdx_eq hi];refine⟨by rw[he];simp,λj hj=>?_⟩;rw[ii];intro h;refine List.pairwise_iff_getElem.1 hn j i (by simp;omega) (by simpa using hi) hj ?_;simp only[List.getElem_map];rw[he];omega
def nH (place step start:Int):Bool:=if step<=0∨place<start then place==start else(place - start) % step==0
def dT (aa:List PEl)(p:PPt)(e:Int):Bool:=
 if p.kd=1 then ec aa e p.lt else if p.kd=2 then ex aa e p.lt else if p.kd=3 then gV aa e p.lt
 else if p.kd=4 then decide (((cO aa e).length:Int)+1=1) else if p.kd=5 then kE aa e else if p.kd=6 then iY aa e
 else if p.kd=7 then nH (((cO aa e).length:Int)+1) p.st p.sr else false
def iu (aa:List PEl)(c:eb)(e:Int):Bool:=(c.ty==0||ec aa e c.ty)&&c.ps.all λp=>dT aa p e != p.nt
def dS (aa:List PEl)(sg e:Int):List Int:=
 if sg=32 then bY aa aa.length e else if sg=62 then(bY aa aa.length e).take 1 else if sg=126 then cO aa e else if sg=43 then(cO aa e).take 1 else[]
def dZ (aa:List PEl):List eb->Int->Bool
 | [],_=>false
 | [c],e=>iu aa c e
 | c :: d :: r,e=>iu aa c e&&(dS aa c.sg e).any (dZ aa (d :: r))
def tU (aa:List PEl)(cs:List eb)(e:Int):Bool:=dZ aa cs.reverse e
structure Clm where
 th:Bool
 im:Bool
 ly:Int
 wt:Int
 kd:Int
 nu:Int
 va:Int
def Clm.cells (c:Clm):List Value:=[.bool c.th,.bool c.im,.int .i64 c.ly,.int .i64 c.wt,.int .i64 c.kd,.int .i64 c.nu,.int .u8 c.va]
def Clm.none:Clm:=⟨false,false,0,0,0,0,0⟩
def iW (c d:Clm):Bool:=
 if d.th=false then true else if c.im≠d.im then c.im else if c.ly≠d.ly then decide (c.ly<d.ly)==c.im else decide (d.wt<=c.wt)
def bP (p:Int):Option Nat:=if 65<=p/\p<71 then some (p - 65).toNat else if 88<=p/\p<91 then some (6+(p - 88).toNat) else none
theorem ms {p:Int}{k:Nat}(h:bP p=some k):k<9:=by
 unfold bP at h;split at h
 ·injection h with h;omega
 ·split at h
  ·injection h with h;omega
  ·cases h
def mL (ly wt:Int)(d:PDc):Clm:=⟨true,d.im,ly,wt,d.kd,d.nu,d.va⟩
def fl (ly wt:Int)(W:List Clm)(d:PDc):List Clm:=match bP d.pr with | some k=>if iW (mL ly wt d) (W.getD k Clm.none) then W.set k (mL ly wt d) else W | none=>W
def Gj (W:List Clm)(r:dx)(wt:Int):List Clm:=r.ds.foldl (fl r.ly wt) W
theorem Bc (ly wt:Int)(W:List Clm)(d:PDc):(fl ly wt W d).length=W.length:=by
 unfold fl;split
 ·split
  ·rw[List.length_set]
  ·rfl
 ·rfl
def hJ (aa:List PEl)(e:Int)(a:Int × Bool)(cs:List eb):Int × Bool:=if tU aa cs e then(max a.1 ((qS cs:Nat):Int),true) else a
def eG (aa:List PEl)(e:Int)(ss:List (List eb)):Int × Bool:=ss.foldl (hJ aa e) (0,false)
def lR (aa:List PEl)(e:Int)(W:List Clm)(r:dx):List Clm:=if(eG aa e r.ss).2 then Gj W r (eG aa e r.ss).1 else W
def bL (aa:List PEl)(rs:List dx)(e:Int):List Clm:=rs.foldl (lR aa e) (List.replicate 9 Clm.none)
def eL:List Int:=[1,2,3,4,5,6,0,0,0]
def m8 (p:Nat):Bool:=decide (p<3∨6<=p)
def co (W:List Clm)(p:Nat):Option Nat:=if(W.getD p Clm.none).kd=5 then bP (W.getD p Clm.none).va else Option.none
def jA (W:List Clm)(start:Nat):Nat->Option Nat->Bool
 | 0,_=>false
 | k+1,q=>match q with | Option.none=>false | some p=>if p=start then true else jA W start k (co W p)
def cF (W:List Clm)(p:Nat)(ai:List Int):Int:=
 if(W.getD p Clm.none).kd=1 then(W.getD p Clm.none).nu else if(W.getD p Clm.none).kd=2 then ai.getD p 0 else if(W.getD p Clm.none).kd=3 then eL.getD p 0 else if m8 p then ai.getD p 0 else eL.getD p 0
def dV (W:List Clm)(ai:List Int):Nat->Nat->Int
 | 0,p=>ai.getD p 0
 | k+1,p=>if jA W p 3 (co W p) then ai.getD p 0 else match co W p with | Option.none=>cF W p ai | some q=>dV W ai k q
def MP (aa:List PEl)(rs:List dx)(e:Int)(ai:List Int):List Int:=(List.range 9).map λp=>dV (bL aa rs e) ai 9 p
end
section
variable {T:aU}{b ae:Nat}{aa:List PEl}{aj:ByteArray}{v:Value}{vS:Value × Value}{w w':World}
def Nb (w:World)(s:ByteArray)(e:Ending)(w':World):Prop:=∃c:Int,e=.returned (.tuple #[.int .u8 c,.bool (aQ s)])/\Drew w w'/\(aQ s=true->c=bt s 0)/\(s.size=0->c=0)
theorem sL (w:World)(s:ByteArray):Calls prog 94 #[.string s] w λe w'=>Nb w s e w':=by
 by_cases h1:s.size=1
 ·have g1:((s.size:Int) != 1)=false:=by simp[h1]
  have h0:0<s.size:=by omega
  have hb:(bt s 0:Int)=(s[0].toNat:Int):=by rw[bV s 0 h0]
  have Mx:=aw hb.symm
  by_cases h2:(97:Int)<=bt s 0
  ·by_cases h3:(bt s 0:Int)<=122
   ·have HR:Hid (aQ s=true):=by unfold Hid aQ gN;simp only[h1,decide_true,Bool.true_and,bO];omega
    rw[hb] at h2 h3;have iC:decide ((97:Int)<=(s[0].toNat:Int))=true:=by simpa using h2
    have uA:decide ((s[0].toNat:Int)<=122)=true:=by simpa using h3
    clear hb h1;go_enter func94,ntmps94;go_upto_region 3 with fail;go_quiet (fail);go_wp2;go_ret2;unfold Nb;rw[HR.out];exact⟨_,rfl,⟨_,rfl⟩,λ_=>Mx.out,λh=>by omega⟩
   ·have HR:Hid (aQ s=false):=by unfold Hid aQ gN;simp only[h1,decide_true,Bool.true_and,ii];omega
    rw[hb] at h2 h3;have iC:decide ((97:Int)<=(s[0].toNat:Int))=true:=by simpa using h2
    have uA:decide ((s[0].toNat:Int)<=122)=false:=by simpa using h3
    clear hb h1;go_enter func94,ntmps94;go_upto_region 3 with fail;go_quiet (fail);go_wp2;go_ret2;unfold Nb;rw[HR.out];exact⟨_,rfl,⟨_,rfl⟩,λ_=>Mx.out,λh=>by omega⟩
  ·have HR:Hid (aQ s=false):=by unfold Hid aQ gN;simp only[h1,decide_true,Bool.true_and,ii];omega
   rw[hb] at h2;have iC:decide ((97:Int)<=(s[0].toNat:Int))=false:=by simpa using h2
   clear hb h1;go_enter func94,ntmps94;go_upto_region 3 with fail;go_quiet (fail);go_wp2;go_ret2;unfold Nb;rw[HR.out];exact⟨_,rfl,⟨_,rfl⟩,λ_=>Mx.out,λh=>by omega⟩
 ·have g1:((s.size:Int) != 1)=true:=by rw[bne_iff_ne];omega
  have HR:Hid (aQ s=false):=by unfold Hid aQ;simp only[h1,decide_false,Bool.false_and]
  clear h1;go_enter func94,ntmps94;go_wp2;go_ret2;unfold Nb;rw[HR.out];exact⟨0,rfl,⟨0,rfl⟩,λh=>(by cases h),λ_=>rfl⟩
abbrev fK (c:Int):List Value:=[.int .u8 c,.bool false,.bool false,.bool false,.bool false,.bool false,.bool false,.bool false,.bool false,.bool false,.bool false,.bool false,.bool false,.bool false,.bool false,.bool false,.bool false,.bool false,.bool false,.bool false,.bool false,.bool false,.bool false,.bool false,.bool false,.bool false,.bool false,.int .u8 0,.bool false]
theorem Hb (c:Int):fK c=.int .u8 c :: (List.replicate 26 (Value.bool false)++[.int .u8 0,.bool false]):=rfl
theorem uI (c:Int){i:Nat}(hi:i<26):(fK c)[1+i]?=some (.bool false):=by
 rw[Hb,Nat.add_comm,List.getElem?_cons_succ,List.getElem?_append_left (by simpa using hi),List.getElem?_replicate,aE hi]
theorem PI (n:Nat)(p c:Int):PEl.ok ⟨n,p,fK c⟩:=by
 refine⟨rfl,λu hu=>?_⟩;simp only[List.mem_cons,List.not_mem_nil,or_false] at hu;rcases hu with rfl | hu
 ·rfl
 ·have:u=.bool false∨u=.int .u8 0∨u=.bool false:=by simpa using hu
  rcases this with rfl | rfl | rfl<;>rfl
theorem Je (n:Nat)(p c:Int):Shp ⟨n,p,fK c⟩:=⟨⟨c,rfl⟩,λ_ hi=>⟨false,uI c hi⟩,⟨0,rfl⟩,⟨false,rfl⟩⟩
theorem PH (n:Nat)(p:Int){c:Int}(hc:c=bt aj 0):Il ⟨n,p,fK c⟩ (eh aj):=by
 refine⟨hc,λi hi=>?_,rfl,rfl⟩;unfold eN;show(match (fK c)[1+i]? with | some (.bool b)=>b | _=>false)=_;rw[uI c hi];rfl
abbrev tI (vS:Value × Value)(v:Value)(ae:Nat):Obj:=.cells #[vS.1,v,.int .i64 ae,vS.2] 129 (0,0)
structure PB3 (w:World)(b:Nat)(vS:Value × Value)(v:Value)(els:List PEl)(T:aU)(made:Nat):Prop where
 doc:w.heap[b]?=some (tI vS v made)
 pl:PL w v els
 pt:PT els T
 few:els.length<=24
theorem PB3.c1 (h:PB3 w b vS v aa T ae):w.cell? ⟨b,1,none⟩=some v:=au h.doc rfl
theorem PB3.c2 (h:PB3 w b vS v aa T ae):w.cell? ⟨b,2,none⟩=some (.int .i64 ae):=au h.doc rfl
theorem PB3.below (h:PB3 w b vS v aa T ae)(hB:Below w.heap.size w w'):PB3 w' b vS v aa T ae:=
 ⟨(hB.block b (bG.1 h.doc).1).trans h.doc,⟨aY h.pl.row hB,h.pl.ok⟩,h.pt,h.few⟩
theorem PB3.set (h:PB3 w b vS v aa T ae)(hB:Below w.heap.size w w'){v':Value}{bX:List PEl}{T':aU}{aB:Nat}(ho:w'.ownsRow aB 156 31 v' bX.length (iw bX))(qV:∀e∈bX,e.ok)(ht:PT bX T')(hf:bX.length<=24):PB3 (w'.setCell ⟨b,1,none⟩ v') b vS v' bX T' ae:=by
 have hb':=(hB.block b (bG.1 h.doc).1).trans h.doc;refine⟨?_,⟨bw (ba ho bm) (aN ho hb' (by decide)) _,qV⟩,ht,hf⟩;rw[aP hb'];rfl
theorem PB3.count (h:PB3 w b vS v aa T ae):PB3 (w.setCell ⟨b,2,none⟩ (.int .i64 ((ae:Int)+1))) b vS v aa T (ae+1):=by
 refine⟨?_,⟨bw h.pl.row (aN h.pl.row h.doc (by decide)) _,h.pl.ok⟩,h.pt,h.few⟩;rw[aP h.doc];rfl
def wn (w:World)(b:Nat)(vS:Value × Value)(v:Value)(aa:List PEl)(T:aU)(ae:Nat)(an af:Int)(aj:ByteArray)(e:Ending)(w':World):Prop:=
 ∃y T' made' n v' bX,e=.returned (.tuple #[.int .i64 n,.int .i64 y])/\TIns T ae an af aj y T' made' n/\PB3 w' b vS v' bX T' made'/\Fr w w' (λk=>k=b)/\(∀j,v'.ownBlock=some j->v.ownBlock=some j∨w.heap.size<=j)/\∀M,MkO aa M->MkO bX (if y=0 then bU M ae (eh aj) else M)
theorem Ps {an af:Int}(h:bF T an=none):jU T an af aj=5:=by unfold jU;rw[h]
theorem Jh (h:∀e∈aa,e.ok){x:PEl}(hx:x.ok)(place:Nat):∀e∈dW aa place x,e.ok:=λe he=>(fV.1 he).elim (λh1=>h1▸hx) (h e)
theorem FE (aa:List PEl)(place:Nat)(x:PEl):(dW aa place x).length=aa.length+1:=by
 unfold dW;simp;omega
theorem Qf (w:World)(b:Nat)(vS:Value × Value)(v:Value)(aa:List PEl)(T:aU)(ae:Nat)(an af:Int)(aj:ByteArray)(h:PB3 w b vS v aa T ae)(hw:TW T ae)(nA:ae<=4611686018427387904):
  Calls prog 105 #[.pointer (some ⟨b,1,none⟩),.int .i64 an,.int .i64 af,.string aj] w λe w'=>wn w b vS v aa T ae an af aj e w':=by
 have HB:=aw h;have HW:=aw hw;have bJ:=h.few;have hTl:=h.pt.len hw;have HTL:=aw hTl;clear h hw hTl
 have n6:Hid (∀(y:Int) (w':World),Below w.heap.size w w'->y≠0->jU T an af aj=y->wn w b vS v aa T ae an af aj (.returned (.tuple #[.int .i64 0,.int .i64 y])) w'):=λy w' hb hy he=>
  ⟨y,T,ae,0,v,aa,rfl,⟨he.symm,ax ⟨hy,rfl,rfl,rfl⟩⟩,HB.out.below hb,(Fr.refl w _).below hb,λj hj=>ax hj,λM hM=>by rw[aA hy];exact hM⟩
 go_enter func105,ntmps105;go_wp2_with fail;refine(dX w b v aa an HB.out.c1 HB.out.pl bJ).mono ?_;rintro e w1 ⟨cH,⟨hf,rfl⟩ | ⟨ip,xp,_,hf,rfl⟩⟩
 ·have HE:=n6.out 5 w1 cH (by decide) (Ps (HB.out.pt.find_none hf));clear hf;go_wp2;go_ret2;exact HE
 ·obtain⟨OT,OU,fi⟩:=HB.out.pt.find_some HW.out hf;have HT:=kC OT OU fi;clear hf OT OU fi;have lZ:=(HB.out.below cH).c1;go_wp2_with fail;refine(xX w1 v aa an af (HB.out.below cH).pl bJ).mono ?_;rintro e w2 ⟨dk,⟨place,rfl,ml,qu⟩ | ⟨n,rfl,ld⟩⟩
  ·have We:=cH.trans (dk.mono cH.size);have HK:=aw qu;clear cH dk lZ qu;go_wp2_with fail;refine(sL w2 aj).mono ?_;rintro e w3 ⟨c,rfl,rB,B3,_⟩;have HCB:=aw B3;clear B3;have fA:=We.trans (rB.below.mono We.size);clear We rB
   have Bm:Hid (¬(af<0∨((aZ aa an).length:Int)<af)):=by
    have h1:=HK.out
    have h2:(aZ (aa.take place) an).length<=(aZ aa an).length:=by
     have h3:aZ aa an=aZ (aa.take place) an++aZ (aa.drop place) an:=by rw[<-eO,List.take_append_drop]
     rw[h3,List.length_append];omega
    intro h3;omega
   cases hl:aQ aj with
   | false=>
    have HE:=n6.out 4 w3 fA (by decide) (by unfold jU;rw[HT.out.1];show(if _ then _ else _)=_;rw[aA Bm.out,aE hl]);clear hl;go_wp2;go_ret2;exact HE
   | true=>
    have lZ:=(HB.out.below fA).c1;have zf:=(HB.out.below fA).c2;obtain⟨av,cv,K3⟩:=HB.out.pl.shape;subst K3
    by_cases SO:24<=aa.length
    ·have g24:decide ((24:Int)<=(aa.length:Int))=true:=by simp;omega
     have HE:=n6.out 9 w3 fA (by decide) (by unfold jU;rw[HT.out.1];show(if _ then _ else _)=_;rw[aA Bm.out,aA (by rw[hl];decide),aE (by rw[<-HTL.out];exact SO)]);clear hl SO;go_wp2;go_ret2;exact HE
    ·have g24:decide ((24:Int)<=(aa.length:Int))=false:=by simp;omega
     have MC:Hid (jU T an af aj=0):=by unfold Hid jU;rw[HT.out.1];show(if _ then _ else _)=_;rw[aA Bm.out,aA (by rw[hl];decide),aA (by rw[<-HTL.out];exact SO)]
     have H24:Hid (aa.length<24):=by unfold Hid;omega
     have Rb:Hid (∀M,MkO aa M->MkO (dW aa place ⟨ae,an,fK c⟩) (bU M ae (eh aj))):=λM hM=>hM.more (x:=⟨ae,an,fK c⟩) place (Je _ _ _) (PH _ _ (HCB.out hl)) (λe he=>by
      obtain⟨l,FT⟩:=HB.out.pt.to' e he;have:e.num<ae:=HW.out.lt _ FT;show e.num≠ae;omega)
     have ez:∀k,w3.frozen? ⟨b,k,none⟩=false:=λ_=>aH (HB.out.below fA).doc;have zI:=aw ((HB.out.below fA).count);clear hl SO;go_upto_region 14 with fail;have Xk:Hid (Fr w (w3.setCell ⟨b,2,none⟩ (.int .i64 ((ae:Int)+1))) (λk=>k=b)):=((Fr.refl w (λk=>k=b)).below fA).set (p:=⟨b,2,none⟩) (ax rfl) _;obtain⟨W4,DU⟩:∃W4,W4=w3.setCell ⟨b,2,none⟩ (.int .i64 ((ae:Int)+1)):=⟨_,rfl⟩;rw[<-DU] at zI Xk ⊢;clear DU lZ zf ez fA;have lZ:=zI.out.c1;go_wp2_with fail;have VN:Hid (PEl.ok ⟨ae,an,fK c⟩):=PI _ _ _;refine(AV W4 _ aa place ⟨ae,an,fK c⟩ zI.out.pl VN.out ml bJ).mono ?_;generalize fK c=rst at VN Rb;rintro e w5 ⟨a5,c5,rfl,cf,xr⟩
     have HPT:Hid (PT (dW aa place ⟨ae,an,rst⟩) (lT T xp.num (aZ (aa.take place) an).length ae)):=by
      have hp:=HT.out.2.2;have:=HB.out.pt.ins HW.out (p:=xp.num) (k:=(aZ (aa.take place) an).length) (place:=place) ⟨_,HT.out.2.1⟩ rst (by rw[hp]);rw[<-hp] at this;exact this
     have vw:Hid (PB3 (w5.setCell ⟨b,1,none⟩ (.slice a5 (dW aa place ⟨ae,an,rst⟩).length c5)) b vS (.slice a5 (dW aa place ⟨ae,an,rst⟩).length c5) (dW aa place ⟨ae,an,rst⟩) (lT T xp.num (aZ (aa.take place) an).length ae) (ae+1)):=
      zI.out.set xr cf (Jh zI.out.pl.ok VN.out place) HPT.out (by rw[FE];have:=H24.out;omega)
     have e1:=(zI.out.below xr).c1;have ez:∀k,w5.frozen? ⟨b,k,none⟩=false:=λ_=>aH (zI.out.below xr).doc
     have HE:Hid (wn w b vS (.slice av aa.length cv) aa T ae an af aj (.returned (.tuple #[.int .i64 ae,.int .i64 0])) (w5.setCell ⟨b,1,none⟩ (.slice a5 (dW aa place ⟨ae,an,rst⟩).length c5))):=by
      refine⟨0,_,ae+1,ae,_,_,rfl,⟨MC.out.symm,az ⟨rfl,rfl,rfl,xp.num,(aZ (aa.take place) an).length,HT.out.2.2,HK.out.symm,⟨_,HT.out.2.1,?_⟩,rfl⟩⟩,vw.out,(Xk.out.below xr).set (p:=⟨b,1,none⟩) (ax rfl) _,λj hj=>az ?_,λM hM=>by rw[aE rfl];exact Rb.out M hM⟩
      ·have h3:aZ aa an=aZ (aa.take place) an++aZ (aa.drop place) an:=by rw[<-eO,List.take_append_drop]
       rw[h3,List.length_append];omega
      ·have:=(cf.lt j hj).1;have:=Xk.out.size;omega
     clear cf xr lZ;generalize (dW aa place ⟨ae,an,rst⟩).length=n5 at HE vw ⊢;go_wp2;go_ret2;exact HE.out
  ·have HE:=n6.out 8 w2 (cH.trans (dk.mono cH.size)) (by decide) (by unfold jU;rw[HT.out.1];show(if _ then _ else _)=_;rw[aE ld]);clear ld cH dk lZ;go_wp2;go_ret2;exact HE
end
section
variable {T:aU}{aa:List PEl}{ae:Nat}
theorem nK (h:PT aa T)(hw:TW T ae){x:PEl}(hx:x∈aa){a:Int}(ha:0<=a):(∃k,k<aa.length/\upP aa k x.num=a)↔dM T a x.num:=by
 obtain⟨l,hl⟩:=h.to' x hx;rw[hw.short ha ⟨l,hl⟩,h.len hw];constructor
 ·rintro⟨k,h1,h2⟩;exact⟨k,h1,by rw[<-h.upP hw];exact h2⟩
 ·rintro⟨k,h1,h2⟩;exact⟨k,h1,by rw[h.upP hw];exact h2⟩
noncomputable def oT (T:aU)(a:Int)(aa:List PEl):List PEl:=aa.filter λe=>!cu T a e.num
theorem Qy {i:Nat}(T:aU)(a:Int)(h:i<aa.length):oT T a (aa.take (i+1))=if cu T a aa[i].num=true then oT T a (aa.take i) else oT T a (aa.take i)++[aa[i]]:=by
 unfold oT;rw[gj h,List.filter_append];cases hu:cu T a aa[i].num<;>simp[hu]
theorem TK (T:aU)(a:Int)(aa:List PEl):(oT T a aa).length<=aa.length:=List.length_filter_le _ _
theorem TW.par_neg (h:TW T ae){a:Nat}{l:List Nat}(ha:(a,l)∈T):bi T a<0↔a=0:=by
 constructor
 ·intro h1
  by_cases h0:a=0
  ·exact h0
  ·obtain⟨q,_,_,hq⟩:=h.up ha h0;omega
 ·rintro rfl;have:=h.root_par;show bi T ((0:Nat):Int)<0;have e:bi T ((0:Nat):Int)=bi T 0:=rfl;omega
def ww (w:World)(b:Nat)(vS:Value × Value)(v:Value)(aa:List PEl)(T:aU)(ae:Nat)(n:Int)(e:Ending)(w':World):Prop:=
 ∃y T' v' bX,e=.returned (.int .i64 y)/\TRem T n y T'/\PB3 w' b vS v' bX T' ae/\Fr w w' (λk=>k=b)/\(∀j,v'.ownBlock=some j->v.ownBlock=some j∨w.heap.size<=j)/\∀M,MkO aa M->MkO bX M
theorem Qn (w:World)(b:Nat)(vS:Value × Value)(v:Value)(aa:List PEl)(T:aU)(ae:Nat)(n:Int)(h:PB3 w b vS v aa T ae)(hw:TW T ae):
  Calls prog 111 #[.pointer (some ⟨b,1,none⟩),.int .i64 n] w λe w'=>ww w b vS v aa T ae n e w':=by
 obtain⟨i0,z0,hi,iz,is,ib,K7⟩:=Tryz.infoE;have HB:=aw h;have HW:=aw hw;have bJ:=h.few;clear h hw
 have n6:Hid (∀(y:Int) (w':World),Below w.heap.size w w'->y≠0->lh T n=y->ww w b vS v aa T ae n (.returned (.int .i64 y)) w'):=λy w' hb hy he=>
  ⟨y,T,v,aa,rfl,⟨he.symm,ax ⟨hy,rfl⟩⟩,HB.out.below hb,(Fr.refl w _).below hb,λj hj=>ax hj,λM hM=>hM⟩
 go_enter func111,ntmps111;go_wp2_with fail;refine(dX w b v aa n HB.out.c1 HB.out.pl bJ).mono ?_;rintro e w1 ⟨cH,⟨hf,rfl⟩ | ⟨ip,xp,_,hf,rfl⟩⟩
 ·have HE:=n6.out 5 w1 cH (by decide) (by unfold lh;rw[HB.out.pt.find_none hf]);clear hf;go_wp2;go_ret;exact HE
 ·obtain⟨OT,OU,fi⟩:=HB.out.pt.find_some HW.out hf;have HT:=kC OT OU fi;clear hf OT OU fi
  by_cases h0:n=0
  ·have g0:(n==0)=true:=by simp[h0]
   have HE:=n6.out 6 w1 cH (by decide) (by
    unfold lh;rw[HT.out.1];show(if _ then _ else _)=_;have h1:=HT.out.2.2;rw[aE (by rw[h1];exact(HW.out.par_neg HT.out.2.1).2 (by omega))])
   clear h0;go_wp2;go_ret;exact HE
  ·have g0:(n==0)=false:=by simp[h0]
   have H0:Hid (xp.num≠0):=by have h1:=HT.out.2.2;unfold Hid;omega
   have MC:Hid (lh T n=0):=by
    unfold Hid lh;rw[HT.out.1];show(if _ then _ else _)=_;have h1:=HT.out.2.2;rw[aA (by rw[h1];exact λhx=>H0.out ((HW.out.par_neg HT.out.2.1).1 hx))]
   clear h0;have eu:=aw (HB.out.below cH);have C1:=aw cH;have lZ:=eu.out.c1;have jM:=(bG.1 eu.out.doc).1;obtain⟨a,c,hv⟩:=HB.out.pl.shape;subst hv;have Ir:Hid (WI w1.heap.size w1 w1 (.slice none 0 0) (oT T n (aa.take 0))):=⟨eB,bo⟩;clear cH;go_wp2_with fail
   go_loopg [7,25] aa.length (λgk v iv wr=>∃i:Nat,iv=.int .i64 i/\i<=aa.length/\aa.length - i<=gk/\Hid (WI w1.heap.size w1 wr v (oT T n (aa.take i))))
   case atStart=>exact⟨0,rfl,bm,by omega,Ir⟩
   case round=>
    obtain⟨i,rfl,jQ,fT,HN⟩:=hrel;obtain⟨a2,c2,jJ⟩:=aK HN.out.own;subst jJ
    have GX:(oT T n (aa.take i)).length<=24:=by
     have h1:=TK T n (aa.take i);have h2:(aa.take i).length<=aa.length:=List.length_take_le' _ _;omega
    have i8:=HN.out.below.size
    by_cases bc:i<aa.length
    ·have hd:decide ((i:Int)<(aa.length:Int))=true:=by simp;omega
     obtain⟨g,hg,di,he⟩:=eu.out.pl.el bc;subst hg;have HE:=aw (he.below HN.out.below di);have fI:=aw (Qy T n bc)
     have HUN:Hid ((∃k,k<aa.length/\upP aa k aa[i].num=n)↔cu T n aa[i].num=true):=by
      unfold Hid;rw[bC];exact nK HB.out.pt HW.out (bN bc) (a:=n) (by have:=HT.out.2.2;omega)
     clear he;generalize aa[i]=y at HE fI HUN;obtain⟨cs,kr⟩:∃cs,y.cells=cs:=⟨_,rfl⟩;have Ua:=aw kr;rw[kr] at HE;clear kr;have c0:cs[0]?=some (.int .i64 y.num):=HE.out.c0;generalize oT T n (aa.take i)=L at HN fI GX ⊢;have kL:=aw (HE.out.new wr);have eM:Hid (PB3 (wr.alloc (.cells cs.toArray 156)) b vS (.slice (some ⟨g,0,none⟩) aa.length c) aa T ae):=eu.out.below (HN.out.below.alloc i8 _);go_wp2_with (first | (refine wpList_load_mid rfl 156 _ rfl g (i*31) rfl cs _ HE.out.rng underlying156 rfl HE.out.size ?_) | (refine aO rfl 156 _ _ rfl _ cs.toArray 156 rfl rfl HE.out.size' HE.out.same HE.out.all ?_));refine(mu (wr.alloc (.cells cs.toArray 156)) b _ aa y.num n eM.out.c1 eM.out.pl bJ).mono ?_;rintro e w3 ⟨fA,r,rfl,hr⟩;have G4:wr.heap.size+1<=w3.heap.size:=by have:=fA.size;simpa using this
     have iP:Hid (Below (wr.heap.size+1) (wr.alloc (.cells cs.toArray 156)) w3):=by simpa[Hid] using fA
     have oF:Hid (WI w1.heap.size w1 w3 (.slice a2 L.length c2) L):=⟨aY (HN.out.own.alloc _) fA,(HN.out.below.alloc i8 _).trans (fA.mono (by simp;omega))⟩;have jH:Hid (ElAt w3 wr.heap.size 0 cs y.num y.par):=kL.out.below iP.out (by omega);have HR:=aw (hr.trans HUN.out);clear fA hr HN kL HE iP eM c0;cases r with
     | true=>
      have yS:Hid (WI w1.heap.size w1 w3 (.slice a2 L.length c2) (oT T n (aa.take (i+1)))):=by
       rw[fI.out,aE (HR.out.1 rfl)];exact oF.out
      clear fI HR;go_wp2;go_roundg (aa.length - (i+1))
      case measure=>omega
      case rel=>exact⟨i+1,by go_num,by omega,aF,yS⟩
     | false=>
      have gE:Hid (oT T n (aa.take (i+1))=L++[y]):=by
       unfold Hid;rw[fI.out,aA (λhx=>by have:=HR.out.2 hx;cases this)]
      clear fI HR;go_wp2_with (first | (refine wpList_load_mid rfl 156 _ rfl (wr.heap.size) (0) rfl cs _ jH.out.rng underlying156 rfl jH.out.size ?_) | (refine dh w3.heap.size rfl rfl 120 156 _ rfl cs.toArray rfl i0 z0 underlying120 hi iz (jH.out.info is) (jH.out.pos) (jH.out.small) ?_) | (at_builtin;refine wpList_append_own _ rfl (.tmp 35) (.tmp 37) 120 rfl (w1.heap.size) 156 i0 z0 31 48 underlying120 hi iz is ib K7 (by decide) _ _ _ rfl (oF.out.own.alloc _) ⟨w3.heap.size,0,none⟩ 1 1 cs rfl jH.out.len1 ?c1 jH.out.one ?c3 ?c4 ?c5 ?_))
      case c1=>exact bg w3 _ rfl _ _ _ (by simp)
      case c3=>unfold maxLen;omega
      case c4=>omega
      case c5=>simp;omega
      intro v5 w5 cf jn _
      have yS:Hid (WI w1.heap.size w1 w5 v5 (oT T n (aa.take (i+1)))):=by
       rw[gE.out];exact oF.out.app (oF.out.below.alloc (by omega) _) (by simp;omega) jn (by rw[Ua.out];exact cf)
      clear cf jn oF jH;go_wp2;go_roundg (aa.length - (i+1))
      case measure=>omega
      case rel=>exact⟨i+1,by go_num,by omega,aF,yS⟩
    ·have hd:decide ((i:Int)<(aa.length:Int))=false:=by simp;omega
     obtain rfl:i=aa.length:=by omega
     rw[List.take_length] at HN GX ⊢
     have HPT:Hid (PT (oT T n aa) (kj T xp.num)):=by
      have h1:=HT.out.2.2;have:=HB.out.pt.rem HW.out HT.out.2.1 H0.out;rw[<-h1] at this;exact this
     have vw:Hid (PB3 (wr.setCell ⟨b,1,none⟩ (.slice a2 (oT T n aa).length c2)) b vS (.slice a2 (oT T n aa).length c2) (oT T n aa) (kj T xp.num) ae):=
      eu.out.set HN.out.below HN.out.own (λe he=>HB.out.pl.ok e (dJ.1 he).1) HPT.out GX
     have e1:=(eu.out.below HN.out.below).c1;have ez:∀k,wr.frozen? ⟨b,k,none⟩=false:=λ_=>aH (eu.out.below HN.out.below).doc
     have HE:Hid (ww w b vS (.slice a aa.length c) aa T ae n (.returned (.int .i64 0)) (wr.setCell ⟨b,1,none⟩ (.slice a2 (oT T n aa).length c2))):=by
      refine⟨0,_,_,_,rfl,⟨MC.out.symm,az ⟨rfl,xp.num,HT.out.2.2,H0.out,⟨_,HT.out.2.1⟩,rfl⟩⟩,vw.out,?_,λj hj=>az ?_,λM hM=>hM.sub (λx hx=>(dJ.1 hx).1)⟩
      ·exact(((Fr.refl w (λk=>k=b)).below C1.out).below HN.out.below).set (p:=⟨b,1,none⟩) (ax rfl) _
      ·have:=(HN.out.own.lt j hj).1;have:=C1.out.size;omega
     clear lZ;generalize (oT T n aa).length=n5 at HE vw GX ⊢;go_wp2;go_ret;exact HE.out
end
section
variable {T:aU}{af m n:Int}
def wu (w:World)(b:Nat)(vS:Value × Value)(v:Value)(aa:List PEl)(T:aU)(ae:Nat)(n m af:Int)(e:Ending)(w':World):Prop:=
 ∃y T' v' bX,e=.returned (.int .i64 y)/\TMov T n m af y T'/\PB3 w' b vS v' bX T' ae/\Fr w w' (λk=>k=b)/\(∀j,v'.ownBlock=some j->v.ownBlock=some j∨w.heap.size<=j)/\∀M,MkO aa M->MkO bX M
theorem Eo (h:bF T n=none∨bF T m=none):jo T n m af=5:=by
 unfold jo;rcases h with h | h
 ·rw[h]
 ·rw[h];cases bF T n<;>rfl
theorem PE {l l':List Nat}(h:bF T n=some l')(h2:bF T m=some l):jo T n m af=if bi T n<0 then 6 else if cu T n m=true then 7 else if af<0∨((aG n l).length:Int)<af then 8 else 0:=by
 unfold jo;rw[h,h2]
theorem Kt {aa:List PEl}{i:Nat}:(aa.eraseIdx i).length<=aa.length:=List.length_eraseIdx_le _ _
theorem Qj (w:World)(b:Nat)(vS:Value × Value)(v:Value)(aa:List PEl)(T:aU)(ae:Nat)(n m af:Int)(h:PB3 w b vS v aa T ae)(hw:TW T ae):
  Calls prog 115 #[.pointer (some ⟨b,1,none⟩),.int .i64 n,.int .i64 m,.int .i64 af] w λe w'=>wu w b vS v aa T ae n m af e w':=by
 have HB:Hid (PB3 w b vS v aa T ae):=h;have HW:Hid (TW T ae):=hw;have bJ:=h.few;clear h hw
 have n6:Hid (∀(y:Int) (w':World),Below w.heap.size w w'->y≠0->jo T n m af=y->wu w b vS v aa T ae n m af (.returned (.int .i64 y)) w'):=λy w' hb hy he=>
  ⟨y,T,v,aa,rfl,⟨he.symm,ax ⟨hy,rfl⟩⟩,HB.out.below hb,(Fr.refl w _).below hb,λj hj=>ax hj,λM hM=>hM⟩
 go_enter func115,ntmps115;go_wp2_with fail;refine(dX w b v aa n HB.out.c1 HB.out.pl bJ).mono ?_;rintro e w1 ⟨cH,⟨hf,rfl⟩ | ⟨ip,xp,oN,hf,rfl⟩⟩
 ·have HE:=n6.out 5 w1 cH (by decide) (Eo (ax (HB.out.pt.find_none hf)));clear hf;go_wp2;go_ret;exact HE
 ·obtain⟨OT,OU,fi⟩:=HB.out.pt.find_some HW.out hf;have HT:Hid (bF T n=some (aZ aa n)/\(xp.num,aZ aa n)∈T/\n=xp.num):=⟨OT,OU,fi⟩;have JX:Hid (aa[ip]?=some xp):=oN;have nW:ip<aa.length:=(ee.1 oN).1;clear hf OT OU fi oN;have lZ:=(HB.out.below cH).c1;go_wp2_with fail;refine(dX w1 b v aa m lZ (HB.out.below cH).pl bJ).mono ?_;rintro e w2 ⟨hB2',⟨hf,rfl⟩ | ⟨iq,xq,_,hf,rfl⟩⟩
  ·have dk:Below w.heap.size w w2:=cH.trans (hB2'.mono cH.size);have HE:=n6.out 5 w2 dk (by decide) (Eo (az (HB.out.pt.find_none hf)));clear hf hB2' cH lZ;go_wp2;go_ret;exact HE
  ·have dk:Below w.heap.size w w2:=cH.trans (hB2'.mono cH.size);clear cH hB2' lZ;obtain⟨OT,OU,fi⟩:=HB.out.pt.find_some HW.out hf;have hxq:=(dQ hf).1;have HQ:Hid (bF T m=some (aZ aa m)/\(xq.num,aZ aa m)∈T/\m=xq.num/\xq∈aa):=⟨OT,OU,fi,hxq⟩;clear hf OT OU fi hxq;have ME:Hid (jo T n m af=if bi T n<0 then 6 else if cu T n m=true then 7 else if af<0∨((aG n (aZ aa m)).length:Int)<af then 8 else 0):=PE HT.out.1 HQ.out.1
   by_cases h0:n=0
   ·have g0:(n==0)=true:=by simp[h0]
    have HE:=n6.out 6 w2 dk (by decide) (by
     have h1:=HT.out.2.2;rw[ME.out,aE (by rw[h1];exact(HW.out.par_neg HT.out.2.1).2 (by omega))])
    clear h0;go_wp2;go_ret;exact HE
   ·have g0:(n==0)=false:=by simp[h0]
    have H0:Hid (xp.num≠0):=by have h1:=HT.out.2.2;unfold Hid;omega
    have HPN:Hid (0<=bi T n):=by
     have h1:=HT.out.2.2;unfold Hid;rw[h1];exact Int.not_lt.1 λhx=>H0.out ((HW.out.par_neg HT.out.2.1).1 hx)
    clear h0;have lZ:=(HB.out.below dk).c1
    have HUN:Hid ((∃k,k<aa.length/\upP aa k m=n)↔cu T n m=true):=by
     unfold Hid;have h1:=HQ.out.2.2.1;rw[bC,h1];exact nK HB.out.pt HW.out HQ.out.2.2.2 (a:=n) (by have:=HT.out.2.2;omega)
    go_wp2_with fail;refine(mu w2 b v aa m n lZ (HB.out.below dk).pl bJ).mono ?_;rintro e w3 ⟨aan,r,rfl,hr⟩;have fA:Below w.heap.size w w3:=dk.trans (aan.mono dk.size);have HR:Hid (r=true↔cu T n m=true):=hr.trans HUN.out;clear dk aan hr lZ;cases r with
    | true=>
     have HE:=n6.out 7 w3 fA (by decide) (by rw[ME.out,aA (Int.not_lt.2 HPN.out),aE (HR.out.1 rfl)]);go_wp2;go_ret;exact HE
    | false=>
     have VC:Hid (¬cu T n m=true):=λhx=>by have:=HR.out.2 hx;cases this
     clear HR;have lZ:=(HB.out.below fA).c1;have iP:Hid (PB3 w3 b vS v aa T ae):=HB.out.below fA;go_wp2_with fail;refine(Cs w3 v aa ip iP.out.pl bJ).mono ?_;rintro e w4 ⟨a4,c4,rfl,P3,aao⟩;have XC:Below w.heap.size w w4:=fA.trans (aao.mono fA.size);have Xj:Hid (aa.eraseIdx ip=aa.filter λx=>decide (x.num≠xp.num)):=HB.out.pt.without JX.out
     have Vv:Hid (aZ (aa.eraseIdx ip) m=aG n (aZ aa m)):=by
      unfold Hid;rw[Xj.out,sq,HT.out.2.2]
     have Br:Hid (PL w4 (.slice a4 (aa.eraseIdx ip).length c4) (aa.eraseIdx ip)):=⟨ba P3 bm,λe he=>HB.out.pl.ok e (List.mem_of_mem_eraseIdx he)⟩;have fF:(aa.eraseIdx ip).length<=24:=Nat.le_trans Kt bJ;clear fA aao P3 lZ iP;generalize aa.eraseIdx ip=R at Xj Vv Br fF ⊢;go_wp2_with fail;refine(xX w4 _ R m af Br.out fF).mono ?_;rintro e w5 ⟨OP,⟨place,rfl,ml,qu⟩ | ⟨n',rfl,ld⟩⟩
     ·have xr:Below w.heap.size w w5:=XC.trans (OP.mono XC.size);have VG:Hid (PL w5 (.slice a4 R.length c4) R):=⟨aY Br.out.row OP,Br.out.ok⟩;have HK:Hid (((aZ (R.take place) m).length:Int)=af):=qu;have qJ:Hid (PB3 w5 b vS v aa T ae):=HB.out.below xr;obtain⟨av,cv,K3⟩:=HB.out.pl.shape;subst K3;obtain⟨g,hg,di,he⟩:=qJ.out.pl.el nW;have oM:aa[ip]=xp:=(ee.1 JX.out).2;rw[oM] at he;subst hg;have Xh:Hid (ElAt w5 g (ip*31) xp.cells xp.num xp.par):=he;have Xk:Hid (Fr w w5 (λk=>k=b)):=(Fr.refl w _).below xr;have lZ:=qJ.out.c1;clear XC OP qu he oM Br xr;have jQ:(ip:Int)<(aa.length:Int):=by omega
      go_upto_region 16 with(first | (refine wpList_load_mid rfl 156 _ rfl g (ip*31) rfl xp.cells _ Xh.out.rng underlying156 rfl Xh.out.size ?_) | (refine aO rfl 156 _ _ rfl _ xp.cells.toArray 156 rfl rfl Xh.out.size' Xh.out.same Xh.out.all ?_))
      go_upto_region 17 with fail;have HYO:Hid (PEl.ok ⟨xp.num,m,xp.rest⟩):=HB.out.pl.ok xp (List.mem_of_getElem? JX.out);have Pk:xp.cells.set 1 (.int .i64 m)=(PEl.mk xp.num m xp.rest).cells:=rfl;rw[Pk];clear Pk
      have HYM:Hid (∀k,(aZ (R.take place) m).length=k->PT (dW R place ⟨xp.num,m,xp.rest⟩) (lU T xp.num xq.num k)):=λk hk=>by
       have h1:=HQ.out.2.2.1;have:=HB.out.pt.mov HW.out (p:=xq.num) (k:=k) (place:=place) HT.out.2.1 H0.out xp.rest (by rw[<-Xj.out,<-h1];exact hk);rw[<-Xj.out,<-h1] at this;exact this
      have WL:=FE R place ⟨xp.num,m,xp.rest⟩
      have HRL:Hid (R.length+1<=aa.length):=by
       unfold Hid;have h1:=HT.out.2.1
       have h2:R.length<aa.length:=by
        rw[Xj.out]
        have h3:(aa.filter λx=>decide (x.num≠xp.num)).length+1<=aa.length:=by
         have h4:=List.length_eraseIdx_of_lt nW;rw[HB.out.pt.without JX.out] at h4;omega
        omega
       omega
      have Rb:Hid (∀M,MkO aa M->MkO (dW R place ⟨xp.num,m,xp.rest⟩) M):=λM hM=>by
       have FY:xp∈aa:=List.mem_of_getElem? JX.out
       have hR:∀e∈R,e∈aa/\e.num≠xp.num:=λe he=>by
        rw[Xj.out,dJ,bO] at he;exact he
       have h1:=(hM.sub (λe he=>(hR e he).1):MkO R M).more (x:=⟨xp.num,m,xp.rest⟩) (m:=M xp.num) place ⟨(hM.2 xp FY).kind,(hM.2 xp FY).cls,(hM.2 xp FY).name,(hM.2 xp FY).shown⟩ (hM.1 xp FY) (λe he=>(hR e he).2);refine h1.ext (λe _=>?_);unfold bU;split
       ·rename_i h2;rw[h2]
       ·rfl
      generalize PEl.mk xp.num m xp.rest=yp at HYO HYM Rb WL ⊢;have HE6:Hid (ElAt (w5.alloc (.cells yp.cells.toArray 156)) w5.heap.size 0 yp.cells yp.num yp.par):=Gy HYO.out w5;have vw:Hid (PB3 (w5.alloc (.cells yp.cells.toArray 156)) b vS (.slice (some ⟨g,0,none⟩) aa.length cv) aa T ae):=qJ.out.below (bo.alloc aF _);have RK:Hid (PL (w5.alloc (.cells yp.cells.toArray 156)) (.slice a4 R.length c4) R):=⟨VG.out.row.alloc _,VG.out.ok⟩;have Vs:Hid (Fr w (w5.alloc (.cells yp.cells.toArray 156)) (λk=>k=b)):=Xk.out.alloc _;obtain⟨W6,DV⟩:∃W6,W6=w5.alloc (.cells yp.cells.toArray 156):=⟨_,rfl⟩;rw[<-DV] at HE6 vw RK Vs ⊢;clear DV lZ Xh qJ VG Xk;have lZ:=vw.out.c1;go_wp2_with (first | (refine wpList_load_mid rfl 156 _ rfl w5.heap.size 0 rfl yp.cells _ HE6.out.rng underlying156 rfl HE6.out.size ?_));refine(AV W6 _ R place yp RK.out HYO.out ml fF).mono ?_;rintro e w7 ⟨a7,c7,rfl,Ck,hB7⟩
      have HB8:Hid (PB3 (w7.setCell ⟨b,1,none⟩ (.slice a7 (dW R place yp).length c7)) b vS (.slice a7 (dW R place yp).length c7) (dW R place yp) (lU T xp.num xq.num (aZ (R.take place) m).length) ae):=
       vw.out.set hB7 Ck (Jh RK.out.ok HYO.out place) (HYM.out _ rfl) (by rw[WL];have:=HRL.out;omega)
      have e1:w7.cell? ⟨b,1,none⟩=some (.slice (some ⟨g,0,none⟩) aa.length cv):=(vw.out.below hB7).c1;have ez:∀k,w7.frozen? ⟨b,k,none⟩=false:=λ_=>aH (vw.out.below hB7).doc
      have Bm:Hid (¬(af<0∨((aG n (aZ aa m)).length:Int)<af)):=by
       have h1:=HK.out
       have h2:(aZ (R.take place) m).length<=(aZ R m).length:=by
        have h3:aZ R m=aZ (R.take place) m++aZ (R.drop place) m:=by rw[<-eO,List.take_append_drop]
        rw[h3,List.length_append];omega
       rw[Vv.out] at h2;intro h3;omega
      have HE:Hid (wu w b vS (.slice (some ⟨g,0,none⟩) aa.length cv) aa T ae n m af (.returned (.int .i64 0)) (w7.setCell ⟨b,1,none⟩ (.slice a7 (dW R place yp).length c7))):=by
       refine⟨0,_,_,_,rfl,⟨?_,az ⟨rfl,xp.num,xq.num,(aZ (R.take place) m).length,HT.out.2.2,HQ.out.2.2.1,HK.out.symm,H0.out,⟨_,HT.out.2.1⟩,⟨_,HQ.out.2.1,?_⟩,?_,rfl⟩⟩,HB8.out,(Vs.out.below hB7).set (p:=⟨b,1,none⟩) (ax rfl) _,λj hj=>az ?_,Rb.out⟩
       ·rw[ME.out,aA (Int.not_lt.2 HPN.out),aA VC.out,aA Bm.out]
       ·have h1:=Bm.out;have h2:=HK.out;rw[<-HT.out.2.2];omega
       ·have h1:=VC.out;rw[bC,HT.out.2.2,HQ.out.2.2.1] at h1;exact h1
       ·have:=(Ck.lt j hj).1;have:=Vs.out.size;omega
      clear Ck hB7 lZ;generalize (dW R place yp).length=n7 at HE HB8 WL ⊢;clear WL;go_wp2;go_ret;exact HE.out
     ·have HE:=n6.out 8 w5 (XC.trans (OP.mono XC.size)) (by decide) (by rw[ME.out,aA (Int.not_lt.2 HPN.out),aA VC.out,aE (by rw[<-Vv.out];exact ld)]);clear ld XC OP;go_wp2;go_ret;exact HE
end
end Go.Proofs.YtblfffbmklkhmabGreat
