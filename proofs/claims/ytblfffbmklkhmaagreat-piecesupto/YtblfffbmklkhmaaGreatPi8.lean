/- Own work. -/
import Derived.Test.YtblfffbmklkhmaaGreatPi1
import Derived.Test.YtblfffbmklkhmaaGreatPi7
import Derived.Deep.MidRow
import Derived.Deep.RegionHeld3
import Derived.BigRegion
import Derived.Test.YtblfffbmklkhmaaGreatPi5
set_option maxRecDepth 100000
set_option maxHeartbeats 40000000
namespace Go.Proofs.YtblfffbmklkhmaaGreat
open Go.RowKit Go.Proofs.Tryz
section
variable {W:Nat->ByteArray}{cs:List Value}
def km (s:ByteArray):Nat->Nat
 | 0=>0
 | i+1=>km s i*10+(bt s i - 48)
theorem NO (s:ByteArray):∀i,i<=3->(∀k,k<i->bt s k<=57)->km s i<=999
 | 0,_,_=>aZ
 | 1,_,h=>by have:=h 0 (by omega);simp[km];omega
 | 2,_,h=>by have:=h 0 (by omega);have:=h 1 (by omega);simp[km];omega
 | 3,_,h=>by have:=h 0 (by omega);have:=h 1 (by omega);have:=h 2 (by omega);simp[km];omega
 | i+4,h,_=>by omega
structure qo (s:ByteArray):Prop where
 num:0<s.size->bt s 0≠36->bt s 0≠105->bt s 0≠114->bt s 0≠117->s.size<=3/\∀k,k<s.size->48<=bt s k/\bt s k<=57
 one:bt s 0=117->s.size=1
noncomputable def dg (W:Nat->ByteArray)(C:Nat->Int):Nat->Nat->Int
 | 0,p=>C p
 | f+1,p=>
  if(W p).size=0∨bt (W p) 0=117 then(if jk p=true then C p else eL p)
  else if bt (W p) 0=105 then C p
  else if bt (W p) 0=114 then eL p
  else if bt (W p) 0=36 then(if bS W p 9 p=true then C p else dg W C f ((fu (bt (W p) 1)).getD 0))
  else(km (W p) (W p).size:Int)
def vR (W:Nat->ByteArray):Nat->Nat->Prop
 | 0,p=>eT (W p)=none∨bS W p 9 p=true
 | f+1,p=>eT (W p)=none∨bS W p 9 p=true∨∃q,eT (W p)=some q/\vR W f q
structure NineL (cs:List Value)(W:Nat->ByteArray):Prop where
 len:cs.length=9
 at':∀i,i<9->cs[i]?=some (.string (W i))
 ok:∀i,i<9->qa (W i)
 num:∀i,i<9->qo (W i)
 one:∀v∈cs,v.oneCell'=true
structure p9 (cs:List Value)(C:Nat->Int):Prop where
 len:cs.length=9
 at':∀i,i<9->cs[i]?=some (.int .i64 (C i))
 one:∀v∈cs,v.oneCell'=true
theorem NineL.nine (h:NineL cs W):UZ cs.toArray W:=⟨by simp[h.len],λi hi=>by simpa using h.at' i hi,h.ok⟩
def MD (w:World)(n:Int)(e:Ending)(w':World):Prop:=e=.returned (.int .i64 n)/\Below w.heap.size w w'
theorem nj {w wr:World}{an:Nat}(hB:Below an w wr){g o:Nat}(hg:g<an)(h:w.rangeAt g o cs):wr.rangeAt g o cs:=
 λj v hv=>(hB.cell (p:=⟨g,o+j,none⟩) hg).trans (h j v hv)
theorem xJ (w:World)(cs:List Value)(t:TypeId):(w.alloc (.cells cs.toArray t)).rangeAt w.heap.size 0 cs:=λj v hv=>by
 rw[Nat.zero_add,cell_of_row _ _ j cs.toArray t (0,0) (heap_alloc_new w _)];simpa using hv
theorem DY (h:NineL cs W):cs.toArray=#[.string (W 0),.string (W 1),.string (W 2),.string (W 3),.string (W 4),.string (W 5),.string (W 6),.string (W 7),.string (W 8)]:=by
 apply Array.ext_getElem?;intro i
 by_cases hi:i<9
 ·have h1:=h.at' i hi;rw[List.getElem?_toArray,h1];have:i=0∨i=1∨i=2∨i=3∨i=4∨i=5∨i=6∨i=7∨i=8:=by omega
  rcases this with rfl | rfl | rfl | rfl | rfl | rfl | rfl | rfl | rfl<;>rfl
 ·rw[Array.getElem?_eq_none (by have:=h.len;simp;omega),Array.getElem?_eq_none (by simp;omega)]
theorem BL {C:Nat->Int}(h:p9 cs C):cs.toArray=#[.int .i64 (C 0),.int .i64 (C 1),.int .i64 (C 2),.int .i64 (C 3),.int .i64 (C 4),.int .i64 (C 5),.int .i64 (C 6),.int .i64 (C 7),.int .i64 (C 8)]:=by
 apply Array.ext_getElem?;intro i
 by_cases hi:i<9
 ·have h1:=h.at' i hi;rw[List.getElem?_toArray,h1];have:i=0∨i=1∨i=2∨i=3∨i=4∨i=5∨i=6∨i=7∨i=8:=by omega
  rcases this with rfl | rfl | rfl | rfl | rfl | rfl | rfl | rfl | rfl<;>rfl
 ·rw[Array.getElem?_eq_none (by have:=h.len;simp;omega),Array.getElem?_eq_none (by simp;omega)]
theorem Ks (v:ByteArray)(i:Nat)(r:List UInt8):ByteArray.toList.loop v i r=r.reverse++v.data.toList.drop i:=by
 generalize hn:v.size - i=n
 induction n generalizing i r with
 | zero=>
  unfold ByteArray.toList.loop;rw[aj (by omega),List.drop_of_length_le (by rw[Array.length_toList];exact Nat.le_of_sub_eq_zero hn),List.append_nil]
 | succ n ih=>
  unfold ByteArray.toList.loop;have hi:i<v.data.toList.length:=by rw[Array.length_toList];exact(show i<v.size from by omega)
  rw[aq (by omega),ih _ _ (by omega),List.drop_eq_getElem_cons hi,List.reverse_cons,List.append_assoc]
  congr 1
  have h2:i<v.data.size:=by simpa using hi
  have h3:v.get! i=v.data.toList[i]:=by
   show v.data[i]! = _;rw[getElem!_pos v.data i h2];simp
  rw[h3];rfl
theorem mf (v:ByteArray):v.toList=v.data.toList:=by
 unfold ByteArray.toList;rw[Ks];simp
theorem EU (v:ByteArray)(h:0<v.size):(v.toList==[117])=decide (v.size=1/\bt v 0=117):=by
 rw[mf];have hl:v.data.toList.length=v.size:=by rw[Array.length_toList];rfl
 have hb:bt v 0=(v.data.toList[0]'(by omega)).toNat:=by
  rw[bN v 0 h];simp;rfl
 by_cases hc:v.size=1/\bt v 0=117
 ·rw[decide_eq_true hc,beq_iff_eq];obtain⟨h1,h2⟩:=hc;apply List.ext_getElem (by rw[hl,h1];rfl);intro j WM LZ;have hj:j=0:=by simp at LZ;omega
  subst hj;rw[hb] at h2;simp only[List.getElem_cons_zero];exact UInt8.toNat_inj.1 h2
 ·rw[decide_eq_false hc,ff];intro he;refine hc ⟨by rw[<-hl,he];rfl,?_⟩;rw[hb];simp only[he,List.getElem_cons_zero];rfl
theorem Tryz.sz234:(Tryz.prog.info? 234).map (·.size)=some 9:=by kernel_rfl
theorem Tryz.sz38:(Tryz.prog.info? 38).map (·.size)=some 9:=by kernel_rfl
noncomputable def jP (W:Nat->ByteArray)(C V:Nat->Int)(p:Nat):Int:=
 if(W p).size=0∨bt (W p) 0=117 then(if jk p=true then C p else eL p)
 else if bt (W p) 0=105 then C p
 else if bt (W p) 0=114 then eL p
 else if bt (W p) 0=36 then(if bS W p 9 p=true then C p else V ((fu (bt (W p) 1)).getD 0))
 else(km (W p) (W p).size:Int)
theorem yq (cs ci:List Value)(W:Nat->ByteArray)(C V:Nat->Int)(P:Nat->Prop)(h:NineL cs W)(hC:p9 ci C)
  (ih:∀(w:World) (q:Nat),q<9->P q->Calls prog 170 #[.agg cs.toArray,.agg ci.toArray,.int .i64 q] w λe w'=>MD w (V q) e w') (w:World) (p:Nat) (hp:p<9) (ht:eT (W p)=none∨bS W p 9 p=true∨∃q,eT (W p)=some q/\P q) :
  Calls prog 170 #[.agg cs.toArray,.agg ci.toArray,.int .i64 p] w λe w'=>MD w (jP W C V p) e w':=by
 have HL:Hid (NineL cs W/\p9 ci C):=⟨h,hC⟩;have HT:Hid (eT (W p)=none∨bS W p 9 p=true∨∃q,eT (W p)=some q/\P q):=ht;have UF:Hid (∀(w:World) (q:Nat),q<9->P q->Calls prog 170 #[.agg cs.toArray,.agg ci.toArray,.int .i64 q] w λe w'=>MD w (V q) e w'):=ih;have HB:Hid (Below w.heap.size w ((w.alloc (.cells cs.toArray 234)).alloc (.cells ci.toArray 38))):=(bd.alloc au _).alloc (by simp) _
 have Mn:Hid (((w.alloc (.cells cs.toArray 234)).alloc (.cells ci.toArray 38)).rangeAt w.heap.size 0 cs/\((w.alloc (.cells cs.toArray 234)).alloc (.cells ci.toArray 38)).rangeAt (w.heap.size+1) 0 ci/\w.heap.size+2<=((w.alloc (.cells cs.toArray 234)).alloc (.cells ci.toArray 38)).heap.size):=by
  refine⟨λj v hv=>?_,?_,by simp⟩
  ·have h1:Below (w.heap.size+1) (w.alloc (.cells cs.toArray 234)) ((w.alloc (.cells cs.toArray 234)).alloc (.cells ci.toArray 38)):=bd.alloc (by simp) _;exact(h1.cell (p:=⟨w.heap.size,0+j,none⟩) (Nat.lt_succ_self _)).trans (xJ w cs _ j v hv)
  ·have:=xJ (w.alloc (.cells cs.toArray 234)) ci 38;simpa using this
 clear h hC ht ih;go_enter func170,ntmps170;go_upto_region 1 with fail;generalize (w.alloc (.cells cs.toArray 234)).alloc (.cells ci.toArray 38)=W1 at HB Mn ⊢;have q1:W1.cell? ⟨w.heap.size,p,none⟩=some (.string (W p)):=by have:=Mn.out.1 p _ (HL.out.1.at' p hp);rw[Nat.zero_add] at this;exact this
 have q2:W1.cell? ⟨w.heap.size+1,p,none⟩=some (.int .i64 (C p)):=by have:=Mn.out.2.1 p _ (HL.out.2.at' p hp);rw[Nat.zero_add] at this;exact this
 have lU:(p:Int)<9:=by omega
 have HV:Hid (qa (W p)/\qo (W p)):=⟨HL.out.1.ok p hp,HL.out.1.num p hp⟩;have HW:Hid (jP W C V p=if(W p).size=0∨bt (W p) 0=117 then(if jk p=true then C p else eL p) else if bt (W p) 0=105 then C p else if bt (W p) 0=114 then eL p else if bt (W p) 0=36 then(if bS W p 9 p=true then C p else V ((fu (bt (W p) 1)).getD 0)) else(km (W p) (W p).size:Int)):=rfl;generalize W p=s at q1 HV HW HT
 by_cases hU:s.size=0∨bt s 0=117
 ·have ra:Hid (jP W C V p=if jk p=true then C p else eL p):=by unfold Hid;rw[HW.out,aq hU]
  have WP:(s.toList.isEmpty||s.toList==[117])=true:=by
   by_cases h0:s.size=0
   ·obtain rfl:=eJ h0;rw[mf];rfl
   ·rw[iF s (by omega),EU s (by omega),decide_eq_true ⟨HV.out.2.one (hU.resolve_left h0),hU.resolve_left h0⟩];rfl
  by_cases he:s.toList.isEmpty=true
  ·clear WP hU HW;go_wp2_with fail;refine(zH W1 p hp).mono ?_;rintro e w2 ⟨rfl,rfl⟩;obtain⟨W1,rfl⟩:∃W1,W1=w2:=⟨_,rfl⟩;cases hfa:jk p with
   | true=>
    have HE:Hid (jP W C V p=C p):=by unfold Hid;rw[ra.out,aq hfa]
    clear hfa ra;go_wp2;go_ret;exact⟨by rw[HE.out];rfl,HB.out⟩
   | false=>
    have HE:Hid (jP W C V p=eL p):=by unfold Hid;rw[ra.out,aj (by rw[hfa];decide)]
    clear hfa ra;go_wp2_with fail;refine(lW W1 p hp).mono ?_;rintro e w2 ⟨rfl,rfl⟩;go_wp2;go_ret;exact⟨by rw[HE.out];rfl,HB.out⟩
  ·have zN:s.toList.isEmpty=false:=by simpa using he
   have Ge:(s.toList==[117])=true:=by rw[zN] at WP;simpa using WP
   clear WP hU HW he;go_wp2_with fail;refine(zH W1 p hp).mono ?_;rintro e w2 ⟨rfl,rfl⟩;obtain⟨W1,rfl⟩:∃W1,W1=w2:=⟨_,rfl⟩;cases hfa:jk p with
   | true=>
    have HE:Hid (jP W C V p=C p):=by unfold Hid;rw[ra.out,aq hfa]
    clear hfa ra;go_wp2;go_ret;exact⟨by rw[HE.out];rfl,HB.out⟩
   | false=>
    have HE:Hid (jP W C V p=eL p):=by unfold Hid;rw[ra.out,aj (by rw[hfa];decide)]
    clear hfa ra;go_wp2_with fail;refine(lW W1 p hp).mono ?_;rintro e w2 ⟨rfl,rfl⟩;go_wp2;go_ret;exact⟨by rw[HE.out];rfl,HB.out⟩
 ·have h0:0<s.size:=by omega
  have BA:bt s 0≠117:=λe=>hU (ai e);have zN:=iF s h0;have Ge:(s.toList==[117])=false:=by rw[EU s h0];exact decide_eq_false (λx=>BA x.2)
  have Qy:Hid (jP W C V p=if bt s 0=105 then C p else if bt s 0=114 then eL p else if bt s 0=36 then(if bS W p 9 p=true then C p else V ((fu (bt s 1)).getD 0)) else(km s s.size:Int)):=by unfold Hid;rw[HW.out,aj hU]
  have mo:(s[0].toNat:Int)=(bt s 0:Int):=by rw[bN s 0 h0]
  have Uy:Hid (bt s 0≠117):=BA;clear hU HW BA
  by_cases h105:bt s 0=105
  ·have Vh:((bt s 0:Int)==105)=true:=by simp[h105]
   have HE:Hid (jP W C V p=C p):=by unfold Hid;rw[Qy.out,aq h105]
   clear h105 Qy;go_wp2;go_ret;exact⟨by rw[HE.out];rfl,HB.out⟩
  have Vh:((bt s 0:Int)==105)=false:=by rw[ff];omega
  by_cases h114:bt s 0=114
  ·have Vk:((bt s 0:Int)==114)=true:=by simp[h114]
   have HE:Hid (jP W C V p=eL p):=by unfold Hid;rw[Qy.out,aj h105,aq h114]
   clear h105 h114 Qy;go_wp2_with fail;refine(lW W1 p hp).mono ?_;rintro e w2 ⟨rfl,rfl⟩;go_wp2;go_ret;exact⟨by rw[HE.out];rfl,HB.out⟩
  have Vk:((bt s 0:Int)==114)=false:=by rw[ff];omega
  by_cases uN:bt s 0=36
  ·have Zw:((bt s 0:Int)==36)=true:=by simp[uN]
   obtain⟨h1,qq,rJ,yP,hq3⟩:=HV.out.1.var h0 uN;have qW:(s[1].toNat:Int)=(bt s 1:Int):=by rw[bN s 1 h1]
   have iH:Hid (eT s=some qq/\fu (bt s 1)=some qq):=by
    refine⟨?_,rJ⟩;unfold eT;rw[aj (by omega),aq uN,rJ]
   have ra:Hid (jP W C V p=if bS W p 9 p=true then C p else V qq):=by unfold Hid;rw[Qy.out,aj h105,aj h114,aq uN,rJ];rfl
   have uI:Hid ((prog.info? 234).map (·.size)=some cs.length):=by unfold Hid;rw[HL.out.1.len];exact Tryz.sz234
   clear h105 h114 uN Qy rJ;go_wp2_with (refine wpList_load_mid rfl 234 _ rfl w.heap.size 0 rfl cs _ Mn.out.1 underlying234 rfl uI.out ?_);refine(ML W1 cs.toArray W p HL.out.1.nine hp).mono ?_;rintro e w2 ⟨rfl,dq⟩;have eD:Hid (Below w.heap.size w w2):=HB.out.trans (dq.mono HB.out.size);have q3:w2.cell? ⟨w.heap.size+1,p,none⟩=some (.int .i64 (C p)):=(dq.cell (p:=⟨w.heap.size+1,p,none⟩) (by show w.heap.size+1<W1.heap.size;have:=Mn.out.2.2;omega)).trans q2;have UT:Hid (w2.rangeAt w.heap.size 0 cs/\w2.rangeAt (w.heap.size+1) 0 ci/\w.heap.size+2<=w2.heap.size):=⟨nj dq (by have:=Mn.out.2.2;omega) Mn.out.1,nj dq (by have:=Mn.out.2.2;omega) Mn.out.2.1,by have:=dq.size;have:=Mn.out.2.2;omega⟩;clear dq q1 q2;cases yJ:bS W p 9 p with
   | true=>
    have HE:Hid (jP W C V p=C p):=by unfold Hid;rw[ra.out,aq yJ]
    clear yJ ra;go_wp2;go_ret;exact⟨by rw[HE.out];rfl,eD.out⟩
   | false=>
    have HE:Hid (jP W C V p=V qq):=by unfold Hid;rw[ra.out,aj (by rw[yJ];decide)]
    have HP:Hid (P qq):=by
     rcases HT.out with h | h | ⟨q,h,hP⟩
     ·rw[iH.out.1] at h;cases h
     ·rw[yJ] at h;cases h
     ·rw[iH.out.1] at h;injection h with h
      rw[h];exact hP
    have yD:Hid (w2.drew.rangeAt w.heap.size 0 cs/\w2.drew.rangeAt (w.heap.size+1) 0 ci):=⟨UT.out.1,UT.out.2.1⟩;have HBD:Hid (Below w.heap.size w w2.drew/\w.heap.size+2<=w2.drew.heap.size):=⟨eD.out.drew,UT.out.2.2⟩;have hu1:=underlying234;have hu2:=underlying38;have WL:(prog.info? 234).map (·.size)=some cs.length:=uI.out;have VB:(prog.info? 38).map (·.size)=some ci.length:=by rw[HL.out.2.len];exact Tryz.sz38
    clear yJ ra q3 Mn HB;go_upto_region 15 with fail;have HBL:Hid (∀w3,Below w2.drew.heap.size w2.drew w3->(w3.rangeAt w.heap.size 0 cs/\w3.rangeAt (w.heap.size+1) 0 ci)/\Below w.heap.size w w3):=λw3 fj=>⟨⟨nj fj (by have:=HBD.out.2;omega) yD.out.1,nj fj (by have:=HBD.out.2;omega) yD.out.2⟩,HBD.out.1.trans (fj.mono HBD.out.1.size)⟩;generalize w.heap.size+1=b2 at yD HBL ⊢;have a0:w2.drew.cell? ⟨w.heap.size,0,none⟩=some (.string (W 0)):=yD.out.1 0 _ (HL.out.1.at' 0 (by omega));have b0:w2.drew.cell? ⟨b2,0,none⟩=some (.int .i64 (C 0)):=yD.out.2 0 _ (HL.out.2.at' 0 (by omega));have a1:w2.drew.cell? ⟨w.heap.size,1,none⟩=some (.string (W 1)):=yD.out.1 1 _ (HL.out.1.at' 1 (by omega));have b1:w2.drew.cell? ⟨b2,1,none⟩=some (.int .i64 (C 1)):=yD.out.2 1 _ (HL.out.2.at' 1 (by omega));have a2:w2.drew.cell? ⟨w.heap.size,2,none⟩=some (.string (W 2)):=yD.out.1 2 _ (HL.out.1.at' 2 (by omega));have b2x:w2.drew.cell? ⟨b2,2,none⟩=some (.int .i64 (C 2)):=yD.out.2 2 _ (HL.out.2.at' 2 (by omega));have a3:w2.drew.cell? ⟨w.heap.size,3,none⟩=some (.string (W 3)):=yD.out.1 3 _ (HL.out.1.at' 3 (by omega));have b3:w2.drew.cell? ⟨b2,3,none⟩=some (.int .i64 (C 3)):=yD.out.2 3 _ (HL.out.2.at' 3 (by omega));have a4:w2.drew.cell? ⟨w.heap.size,4,none⟩=some (.string (W 4)):=yD.out.1 4 _ (HL.out.1.at' 4 (by omega));have b4:w2.drew.cell? ⟨b2,4,none⟩=some (.int .i64 (C 4)):=yD.out.2 4 _ (HL.out.2.at' 4 (by omega));have a5:w2.drew.cell? ⟨w.heap.size,5,none⟩=some (.string (W 5)):=yD.out.1 5 _ (HL.out.1.at' 5 (by omega));have b5:w2.drew.cell? ⟨b2,5,none⟩=some (.int .i64 (C 5)):=yD.out.2 5 _ (HL.out.2.at' 5 (by omega));have a6:w2.drew.cell? ⟨w.heap.size,6,none⟩=some (.string (W 6)):=yD.out.1 6 _ (HL.out.1.at' 6 (by omega));have b6:w2.drew.cell? ⟨b2,6,none⟩=some (.int .i64 (C 6)):=yD.out.2 6 _ (HL.out.2.at' 6 (by omega));have a7:w2.drew.cell? ⟨w.heap.size,7,none⟩=some (.string (W 7)):=yD.out.1 7 _ (HL.out.1.at' 7 (by omega));have b7:w2.drew.cell? ⟨b2,7,none⟩=some (.int .i64 (C 7)):=yD.out.2 7 _ (HL.out.2.at' 7 (by omega));have a8:w2.drew.cell? ⟨w.heap.size,8,none⟩=some (.string (W 8)):=yD.out.1 8 _ (HL.out.1.at' 8 (by omega));have b8:w2.drew.cell? ⟨b2,8,none⟩=some (.int .i64 (C 8)):=yD.out.2 8 _ (HL.out.2.at' 8 (by omega));have We:Hid (cs.toArray=#[.string (W 0),.string (W 1),.string (W 2),.string (W 3),.string (W 4),.string (W 5),.string (W 6),.string (W 7),.string (W 8)]):=DY HL.out.1;have HCI:Hid (ci.toArray=#[.int .i64 (C 0),.int .i64 (C 1),.int .i64 (C 2),.int .i64 (C 3),.int .i64 (C 4),.int .i64 (C 5),.int .i64 (C 6),.int .i64 (C 7),.int .i64 (C 8)]):=BL HL.out.2
    have abW:Hid (∀(w:World) (q:Nat),q<9->P q->Calls prog 170 #[.agg #[.string (W 0),.string (W 1),.string (W 2),.string (W 3),.string (W 4),.string (W 5),.string (W 6),.string (W 7),.string (W 8)],.agg #[.int .i64 (C 0),.int .i64 (C 1),.int .i64 (C 2),.int .i64 (C 3),.int .i64 (C 4),.int .i64 (C 5),.int .i64 (C 6),.int .i64 (C 7),.int .i64 (C 8)],.int .i64 q] w λe w'=>MD w (V q) e w'):=by
     rw[<-We.out,<-HCI.out];exact UF.out
    clear hu1 hu2 WL VB
    go_cut [6] (λnv wx=>nv=.int .i64 (V qq)/\Below w.heap.size w wx)
    case first=>
     go_region_with (first | (go_at_call 131;refine(pW _ (bt s 1)).mono ?_;rintro e w3 ⟨r,rfl,rfl,HRR⟩;obtain rfl:r=qq:=(by
       have h1:=iH.out.2;rcases HRR.out with⟨_,h2⟩ | ⟨_,h2⟩
       ·rw[h1] at h2;injection h2 with h2;exact h2.symm
       ·rw[h1] at h2;cases h2)) | (go_at_call 170;refine(abW.out _ _ (by omega) HP.out).mono ?_;rintro e w3 ⟨rfl,fj⟩;have pX:Hid (Below w.heap.size w w3):=(HBL.out w3 fj).2))
     all_goals
      go_wp2_with fail;go_meet;exact⟨rfl,pX.out⟩
    case rest=>
     obtain⟨rfl,pX⟩:=hcut;go_wp2;go_ret;exact⟨by rw[HE.out];rfl,pX⟩
  have Zw:((bt s 0:Int)==36)=false:=by rw[ff];omega
  obtain⟨h3,hdg⟩:=HV.out.2.num h0 uN h105 h114 Uy.out;have HE:Hid (jP W C V p=(km s s.size:Int)):=by unfold Hid;rw[Qy.out,aj h105,aj h114,aj uN]
  have HDG:Hid (∀k,k<s.size->48<=bt s k/\bt s k<=57):=hdg;clear h105 h114 uN Qy hdg;go_wp2_with fail
  go_loop [9,10] (λnv iv=>∃i:Nat,iv=.int .i64 i/\i<=s.size/\nv=.int .i64 (km s i:Nat)) (λ_ iv=>s.size - (intOf iv).toNat)
  case atStart=>exact⟨0,rfl,aZ,rfl⟩
  case round=>
   obtain⟨i,rfl,jJ,rfl⟩:=hrel
   by_cases aU:i<s.size
   ·have hd:decide ((i:Int)<(s.size:Int))=true:=by simp;omega
    have hbi:(s[i].toNat:Int)=(bt s i:Int):=by rw[bN s i aU]
    obtain⟨Ka,hhi⟩:=HDG.out i aU;have QG:=NO s i (by omega) (λk hk=>(HDG.out k (by omega)).2);have HDS:Hid (km s (i+1)=km s i*10+(bt s i - 48)):=rfl;generalize km s i=n0 at QG HDS ⊢;go_wp2
    go_round
    case rel=>exact⟨i+1,by go_num,by omega,by rw[HDS.out];go_num⟩
    case measure=>simp[intOf];omega
   ·have hd:decide ((i:Int)<(s.size:Int))=false:=by simp;omega
    obtain rfl:i=s.size:=by omega
    go_wp2;go_ret;exact⟨by rw[HE.out];rfl,HB.out⟩
theorem AW (cs ci:List Value)(W:Nat->ByteArray)(C:Nat->Int)(h:NineL cs W)(hC:p9 ci C):∀(f:Nat) (w:World) (p:Nat),p<9->vR W f p->
  Calls prog 170 #[.agg cs.toArray,.agg ci.toArray,.int .i64 p] w λe w'=>MD w (dg W C (f+1) p) e w'
 | 0,w,p,hp,ht=>yq cs ci W C (dg W C 0) (λ_=>False) h hC (λ_ _ _ hF=>hF.elim) w p hp (ht.imp id af)
 | f+1,w,p,hp,ht=>yq cs ci W C (dg W C (f+1)) (vR W f) h hC (λw q hq hP=>AW cs ci W C h hC f w q hq hP) w p hp ht
end
section
variable {W:Nat->ByteArray}{a v:Nat}
theorem m8 {s:ByteArray}(h:qa s){q:Nat}(hn:eT s=some q):6<=q/\q<9:=by
 unfold eT at hn;split at hn
 ·cases hn
 ·rename_i h0;split at hn
  ·rename_i uN;obtain⟨_,q',h1,h2,h3⟩:=h.var (by omega) uN;rw[hn] at h1;injection h1 with h1
   omega
  ·cases hn
theorem wi (h:eT (W v)=some v)(n:Nat):bS W v (n+1) v=true:=by
 unfold bS;rw[h];simp
theorem CV (h:eT (W v)=some a)(h2:eT (W a)=some v)(n:Nat):bS W v (n+2) v=true:=by
 unfold bS;rw[h];show(if a=v then true else bS W v (n+1) a)=true;split
 ·rfl
 ·unfold bS;rw[h2];simp
theorem FH {b:Nat}(h:eT (W v)=some a)(h2:eT (W a)=some b)(h3:eT (W b)=some v)(n:Nat):bS W v (n+3) v=true:=by
 unfold bS;rw[h];show(if a=v then true else bS W v (n+2) a)=true;split
 ·rfl
 ·unfold bS;rw[h2];show(if b=v then true else bS W v (n+1) b)=true;split
  ·rfl
  ·unfold bS;rw[h3];simp
theorem I2 (hW:∀i,i<9->qa (W i)){p:Nat}(hp:p<9):vR W 3 p:=by
 cases ha:eT (W p) with
 | none=>exact af ha
 | some a=>
  obtain⟨a1,a2⟩:=m8 (hW p hp) ha;refine ai (ai ⟨a,ha,?_⟩);cases hb:eT (W a) with
  | none=>exact af hb
  | some b=>
   obtain⟨b1,b2⟩:=m8 (hW a a2) hb
   by_cases J3:b=a
   ·subst J3;exact ai (af (wi hb 8))
   ·refine ai (ai ⟨b,hb,?_⟩);cases hc:eT (W b) with
    | none=>exact af hc
    | some c=>
     obtain⟨c1,c2⟩:=m8 (hW b b2) hc
     by_cases BD:c=b
     ·subst BD;exact ai (af (wi hc 8))
     ·by_cases hca:c=a
      ·subst hca;exact ai (af (CV hc hb 7))
      ·refine ai (ai ⟨c,hc,?_⟩);cases hd:eT (W c) with
       | none=>exact af hd
       | some d=>
        obtain⟨d1,d2⟩:=m8 (hW c c2) hd;right;have:d=a∨d=b∨d=c:=by omega
        rcases this with rfl | rfl | rfl
        ·exact FH hd hb hc 6
        ·exact CV hd hc 7
        ·exact wi hd 8
end
section
variable {C V:Nat->Int}{Tb:Nat->Nat->ByteArray}{b3 i:Nat}{ci ws:List Value}{w wr:World}
def iK (els:List REl)(n:Int):Nat->Option Nat
 | 0=>none
 | i+1=>if(els[i]?.map λe=>(e.num:Int))=some n then some i else iK els n i
def Er (Tb:Nat->Nat->ByteArray)(o:Option Nat)(p:Nat):ByteArray:=match o with | some i=>Tb i p | none=>⟨#[]⟩
noncomputable def kH (els:List REl)(Tb:Nat->Nat->ByteArray):Nat->Int->Nat->Int
 | 0,n=>λp=>dg (Er Tb (iK els n els.length)) eL 4 p
 | f+1,n=>λp=>dg (Er Tb (iK els n els.length)) (if bc els n<0 then eL else kH els Tb f (bc els n)) 4 p
def vA (els:List REl):Nat->Int->Prop
 | 0,n=>bc els n<0
 | f+1,n=>bc els n<0∨vA els f (bc els n)
def lR (Tb:Nat->Nat->ByteArray)(n:Nat):List Value:=(List.range n).flatMap λi=>(List.range 9).map λp=>Value.string (Tb i p)
def pu (Tb:Nat->Nat->ByteArray)(i:Nat):List Value:=(List.range 9).map λp=>Value.string (Tb i p)
theorem zK (Tb:Nat->Nat->ByteArray)(n:Nat):(lR Tb n).length=n*9:=by
 induction n with
 | zero=>rfl
 | succ n ih=>
  unfold lR at ih ⊢;rw[show List.range (n+1)=List.range n++[n] from List.range_succ,List.flatMap_append,List.length_append,ih];simp;omega
theorem Dj (Tb:Nat->Nat->ByteArray){n p:Nat}(hi:i<n)(hp:p<9):(lR Tb n)[i*9+p]?=some (.string (Tb i p)):=by
 induction n with
 | zero=>omega
 | succ n ih=>
  unfold lR;rw[show List.range (n+1)=List.range n++[n] from List.range_succ,List.flatMap_append];have hl:=zK Tb n;unfold lR at hl
  by_cases h:i<n
  ·rw[List.getElem?_append_left (by omega)];have:=ih h;unfold lR at this;exact this
  ·obtain rfl:i=n:=by omega
   rw[List.getElem?_append_right (by omega),hl,show i*9+p - i*9=p from by omega];simp[hp]
structure TM (w:World)(vT:Value)(n:Nat)(Tb:Nat->Nat->ByteArray):Prop where
 row:w.ownsRow 0 234 9 vT n (lR Tb n)
 ok:∀i p,i<n->p<9->qa (Tb i p)/\qo (Tb i p)
theorem Es (h:∀p,p<9->qa (Tb i p)/\qo (Tb i p)):NineL (pu Tb i) (Tb i):=by
 refine⟨by simp[pu],λp hp=>by simp[pu,hp],λp hp=>(h p hp).1,λp hp=>(h p hp).2,λv hv=>?_⟩;obtain⟨p,_,rfl⟩:=bm.1 hv;rfl
def wF:List Value:=List.replicate 9 (.string ⟨#[]⟩)
theorem FR:NineL wF (λ_=>⟨#[]⟩):=by
 refine⟨by simp[wF],λp hp=>by unfold wF;rw[List.getElem?_replicate,aq hp],λp _=>⟨by decide,λh=>absurd h (by decide)⟩,λp _=>⟨λh=>absurd h (by decide),λh=>absurd h (by decide)⟩,λv hv=>?_⟩
 ·rw[(List.mem_replicate.1 hv).2];rfl
def oW:List Value:=(List.range 9).map λp=>Value.int .i64 (eL p)
theorem Km:p9 oW eL:=by
 refine⟨by simp[oW],λp hp=>by simp[oW,hp],λv hv=>?_⟩;obtain⟨p,_,rfl⟩:=bm.1 hv;rfl
def Bg (w:World)(C:Nat->Int)(e:Ending)(w':World):Prop:=∃ci,e=.returned (.agg ci.toArray)/\p9 ci C/\Below w.heap.size w w'
abbrev eX:Array Value:=#[.int .i64 0,.int .i64 0,.int .i64 0,.int .i64 0,.int .i64 0,.int .i64 0,.int .i64 0,.int .i64 0,.int .i64 0]
def ob (Tb:Nat->Nat->ByteArray)(o:Option Nat):List Value:=match o with | some i=>pu Tb i | none=>wF
structure SB (w wr:World)(ci:List Value)(C:Nat->Int)(b3:Nat)(ws:List Value):Prop where
 comes:wr.heap[w.heap.size+1]?=some (.cells ci.toArray 38 (0,0))
 nine:p9 ci C
 res:wr.heap[w.heap.size]?=some (.cells eX 38 (0,0))
 win:wr.heap[b3]?=some (.cells ws.toArray 234 (0,0))
 below:Below w.heap.size w wr
 far:w.heap.size+2<=b3
 lt:b3<wr.heap.size
theorem SB.setWin (h:SB w wr ci C b3 ws)(ws':List Value):SB w (wr.setRow b3 ws'.toArray) ci C b3 ws':=by
 have hf:=h.far;refine⟨?_,h.nine,?_,setRow_heap wr _ _ _ _ _ h.win,h.below.trans ⟨rfl,rfl,rfl,by simp,λk hk=>setRow_other wr _ _ _ (by omega)⟩,hf,by have:=h.lt;simpa using this⟩
 ·rw[setRow_other wr _ _ _ (by omega)];exact h.comes
 ·rw[setRow_other wr _ _ _ (by omega)];exact h.res
theorem SB.go {w':World}(h:SB w wr ci C b3 ws)(hB:Below wr.heap.size wr w'):SB w w' ci C b3 ws:=by
 have hf:=h.far;have hl:=h.lt;have hs:=hB.size;have hb:=h.below.size;exact⟨(hB.block _ (by omega)).trans h.comes,h.nine,(hB.block _ (by omega)).trans h.res,(hB.block _ hl).trans h.win,h.below.trans (hB.mono hb),hf,by omega⟩
theorem SB.setOut (h:SB w wr ci C b3 ws){b4:Nat}(hb:b3<b4)(i:Nat)(u:Value):SB w (wr.setCell ⟨b4,i,none⟩ u) ci C b3 ws:=by
 have hf:=h.far;refine⟨(Below.heap_setCell _ _ _ _ (by show w.heap.size+1≠b4;omega)).trans h.comes,h.nine,(Below.heap_setCell _ _ _ _ (by show w.heap.size≠b4;omega)).trans h.res,(Below.heap_setCell _ _ _ _ (by show b3≠b4;omega)).trans h.win,h.below.setCell (by show w.heap.size<=b4;omega) _,hf,by have:=h.lt;simpa using this⟩
theorem SB.range (h:SB w wr ci C b3 ws):wr.rangeAt b3 0 ws/\wr.rangeAt (w.heap.size+1) 0 ci:=by
 refine⟨λj v hv=>?_,λj v hv=>?_⟩
 ·rw[Nat.zero_add,cell_of_row _ _ j ws.toArray _ (0,0) h.win];simpa using hv
 ·rw[Nat.zero_add,cell_of_row _ _ j ci.toArray _ (0,0) h.comes];simpa using hv
theorem uF {N:Nat}(h:∀i p,i<N->p<9->qa (Tb i p)/\qo (Tb i p)){o:Option Nat}(ho:∀i,o=some i->i<N):NineL (ob Tb o) (Er Tb o):=by
 cases o with
 | none=>exact FR
 | some i=>exact Es (λp hp=>h i p (ho i rfl) hp)
theorem wZ {els:List REl}{n:Int}:∀{k i:Nat},iK els n k=some i->i<k
 | 0,i,h=>by cases h
 | k+1,i,h=>by
  unfold iK at h;split at h
  ·injection h with h;omega
  ·have:=wZ h;omega
def n9 (V:Nat->Int):List Value:=(List.range 9).map λp=>Value.int .i64 (V p)
theorem jO (V:Nat->Int):(n9 V).length=9:=by simp[n9]
theorem EZ (V:Nat->Int):p9 (n9 V) V:=by
 refine⟨jO V,λp hp=>by simp[n9,hp],λv hv=>?_⟩;obtain⟨p,_,rfl⟩:=bm.1 hv;rfl
def tE (V:Nat->Int)(i:Nat):List Value:=(n9 V).take i++List.replicate (9 - i) (.int .i64 0)
theorem Pc (h:i<=9):(tE V i).length=9:=by
 unfold tE;rw[List.length_append,List.length_take,jO,List.length_replicate];omega
theorem Pd (h:i<9):(tE V i).set i (.int .i64 (V i))=tE V (i+1):=by
 unfold tE;have hl:((n9 V).take i).length=i:=by rw[List.length_take,jO];omega
 have hg:(n9 V)[i]'(by rw[jO];exact h)=.int .i64 (V i):=by simp[n9]
 rw[List.set_append_right _ _ (by omega),hl,Nat.sub_self,show 9 - i=(9 - (i+1))+1 from by omega,List.replicate_succ,List.set_cons_zero,fU (by rw[jO];exact h),hg,List.append_assoc];rfl
theorem Pb (V:Nat->Int):tE V 9=n9 V:=by
 unfold tE;rw[List.take_of_length_le (by rw[jO];exact au)];simp
def uL (i:Nat):List Value:=(oW.take i)++List.replicate (9 - i) (.int .i64 0)
theorem mY:oW.length=9:=by simp[oW]
theorem MR:(uL i).length=9 - i+min i 9:=by
 unfold uL;rw[List.length_append,List.length_take,mY,List.length_replicate];omega
theorem MS (h:i<9):(uL i).set i (.int .i64 (eL i))=uL (i+1):=by
 unfold uL;have hl:(oW.take i).length=i:=by rw[List.length_take,mY];omega
 have hg:oW[i]'(by rw[mY];exact h)=.int .i64 (eL i):=by simp[oW]
 rw[List.set_append_right _ _ (by omega),hl,Nat.sub_self,show 9 - i=(9 - (i+1))+1 from by omega,List.replicate_succ,List.set_cons_zero,fU (by rw[mY];exact h),hg,List.append_assoc];rfl
theorem MQ:uL 9=oW:=by
 unfold uL;rw[List.take_of_length_le (by rw[mY];exact au)];simp
theorem qQ (els:List REl)(Tb:Nat->Nat->ByteArray)(C:Nat->Int)(w:World)(d:Nat)(made:Nat)(hp:Option Addr)(Uv:Value)(bi:Bool)(vL:Value)(n:Int)(vT:Value)(h:RD w d els made hp Uv bi vL)(hT:TM w vT els.length Tb)
  (ih:bc els n<0/\C=eL∨(¬bc els n<0/\∀w1,Below w.heap.size w w1->Calls prog 141 #[.pointer (some ⟨d,0,none⟩),vT,.int .i64 (bc els n)] w1 λe w'=>Bg w1 C e w')) :
  Calls prog 141 #[.pointer (some ⟨d,0,none⟩),vT,.int .i64 n] w λe w'=>Bg w (dg (Er Tb (iK els n els.length)) C 4) e w':=by
 obtain⟨aT,cT,hvT⟩:=aA hT.row;subst hvT;obtain⟨aL,cL,uR⟩:=h.shape;subst uR;have HR:=bT h hT;have UF:=ae ih;have bC:=h.few;clear h hT ih;have od:Hid (Below w.heap.size w ((w.alloc (.cells eX 38)).alloc (.cells eX 38))):=(bd.alloc au _).alloc (by simp) _
 have Tl:Hid (((w.alloc (.cells eX 38)).alloc (.cells eX 38)).heap[w.heap.size]?=some (.cells eX 38 (0,0))/\((w.alloc (.cells eX 38)).alloc (.cells eX 38)).heap[w.heap.size+1]?=some (.cells eX 38 (0,0))/\((w.alloc (.cells eX 38)).alloc (.cells eX 38)).heap.size=w.heap.size+2):=by
  refine⟨heap_alloc2_old w _ _,heap_alloc2_new w _ _,by simp⟩
 go_enter func141,ntmps141;go_upto_region 2 with fail;generalize (w.alloc (.cells eX 38)).alloc (.cells eX 38)=W1 at od Tl ⊢;go_wp2_with fail;refine(f9 _ d els made hp Uv bi _ n (HR.out.1.below od.out)).mono ?_;rintro e w1 ⟨rfl,rfl⟩;obtain⟨W1,rfl⟩:∃W1,W1=w1:=⟨_,rfl⟩;generalize bc els n=up at UF ⊢;go_upto_if 18 with fail
 go_cut [9] (λ_ wx=>∃ci:List Value,Hid (wx.heap[w.heap.size+1]?=some (.cells ci.toArray 38 (0,0))/\p9 ci C/\wx.heap[w.heap.size]?=some (.cells eX 38 (0,0))/\Below w.heap.size w wx/\w.heap.size+2<=wx.heap.size))
 case first=>
  rcases UF.out with⟨hneg,hCi⟩ | ⟨lN,mV⟩
  ·have gn:decide (0<=up)=false:=by simpa using hneg
   have HCI:=ae hCi;have Xn:Hid (W1.heap[w.heap.size+1]?=some (.cells (uL 0).toArray 38 (0,0))/\W1.heap[w.heap.size]?=some (.cells eX 38 (0,0))/\Below w.heap.size w W1/\w.heap.size+2<=W1.heap.size):=⟨Tl.out.2.1,Tl.out.1,od.out,by have:=Tl.out.2.2;omega⟩;clear hneg hCi UF;rw[gn];go_wp2_with fail
   go_loopg [9] 9 (λgk pv wr=>∃i:Nat,pv=.int .i64 i/\i<=9/\9 - i<=gk/\Hid (wr.heap[w.heap.size+1]?=some (.cells (uL i).toArray 38 (0,0))/\wr.heap[w.heap.size]?=some (.cells eX 38 (0,0))/\Below w.heap.size w wr/\w.heap.size+2<=wr.heap.size))
   case atStart=>exact⟨0,rfl,aZ,by omega,Xn⟩
   case round=>
    obtain⟨i,rfl,jJ,fS,HN⟩:=hrel
    by_cases aU:i<9
    ·have hd:decide ((i:Int)<9)=true:=by simp;omega
     have Z2:(i:Int)<9:=by omega
     obtain⟨gE,wS⟩:∃gE,(uL i).toArray[i]?=some gE:=by
      have jF:i<(uL i).length:=by rw[MR];omega
      exact⟨_,by rw[List.getElem?_toArray,bO jF]⟩
     have q:=aa HN.out.1 wS;have qz:∀k,wr.frozen? ⟨w.heap.size+1,k,none⟩=false:=λ_=>ax HN.out.1
     have e9:Hid ((wr.setCell ⟨w.heap.size+1,i,none⟩ (.int .i64 (eL i))).heap[w.heap.size+1]?=some (.cells (uL (i+1)).toArray 38 (0,0))/\(wr.setCell ⟨w.heap.size+1,i,none⟩ (.int .i64 (eL i))).heap[w.heap.size]?=some (.cells eX 38 (0,0))/\Below w.heap.size w (wr.setCell ⟨w.heap.size+1,i,none⟩ (.int .i64 (eL i)))/\w.heap.size+2<=(wr.setCell ⟨w.heap.size+1,i,none⟩ (.int .i64 (eL i))).heap.size):=by
      refine⟨?_,(Below.heap_setCell _ _ _ _ (by show w.heap.size≠w.heap.size+1;omega)).trans HN.out.2.1,HN.out.2.2.1.setCell (by show w.heap.size<=w.heap.size+1;omega) _,by have:=HN.out.2.2.2;simpa using this⟩;rw[aF HN.out.1,<-MS aU];simp
     clear HN wS;go_wp2_with fail;refine(lW wr i aU).mono ?_;rintro e w5 ⟨rfl,rfl⟩;go_wp2;go_roundg (9 - (i+1))
     case measure=>omega
     case rel=>exact⟨i+1,by go_num,by omega,au,e9⟩
    ·have hd:decide ((i:Int)<9)=false:=by simp;omega
     obtain rfl:i=9:=by omega
     go_wp2;go_meet;exact⟨oW,by rw[<-MQ];exact HN.out.1,by rw[HCI.out];exact Km,HN.out.2⟩
  ·have gn:decide (0<=up)=true:=by simpa using lN
   have E7:=ae mV;clear lN mV UF;rw[gn];go_wp2_with fail;refine(E7.out W1 od.out).mono ?_;rintro e w2 ⟨ci,rfl,If,dq⟩
   have Ck:Hid (p9 ci C/\w2.heap[w.heap.size+1]?=some (.cells eX 38 (0,0))/\w2.heap[w.heap.size]?=some (.cells eX 38 (0,0))/\Below w.heap.size w w2/\w.heap.size+2<=w2.heap.size):=by
    have hz:=Tl.out.2.2;exact⟨If,(dq.block _ (by omega)).trans Tl.out.2.1,(dq.block _ (by omega)).trans Tl.out.1,od.out.trans (dq.mono od.out.size),by have:=dq.size;omega⟩
   have Fz:Hid ((prog.info? 38).map (·.size)=some ci.toArray.size/\(9:Nat)=ci.toArray.size/\ci.toArray.all (·.oneCell')=true):=⟨by simp only[List.size_toArray,If.len];exact Tryz.sz38,by simp[If.len],all_oneCell_toArray If.one⟩;clear If dq;go_wp2_with (refine wpList_store_row rfl 38 _ _ rfl (w.heap.size+1) ci.toArray rfl rfl 38 eX Ck.out.2.1 Fz.out.1 Fz.out.2.1 Fz.out.2.2 ?_);go_meet;refine⟨ci,setRow_heap w2 _ _ _ _ _ Ck.out.2.1,Ck.out.1,?_,?_,?_⟩
   ·rw[setRow_other w2 _ _ _ (by omega)];exact Ck.out.2.2.1
   ·exact Ck.out.2.2.2.1.trans ⟨rfl,rfl,rfl,by simp,λk hk=>setRow_other w2 _ _ _ (by omega)⟩
   ·have:=Ck.out.2.2.2.2;simpa using this
 case rest=>
  obtain⟨ci,HC⟩:=hcut;clear od Tl UF;have hz:=HC.out.2.2.2.2;have Jp:Hid (SB w (wc.alloc (.cells wF.toArray 234)) ci C wc.heap.size (ob Tb none)):=⟨(Below.heap_alloc _ _ _ (by omega)).trans HC.out.1,HC.out.2.1,(Below.heap_alloc _ _ _ (by omega)).trans HC.out.2.2.1,heap_alloc_new wc _,HC.out.2.2.2.1.alloc (by omega) _,by omega,by simp⟩;go_upto_region 10 with fail;generalize lT:wc.heap.size=b3 at Jp ⊢;clear lT hz HC;go_wp2_with fail
  go_loopg [11] els.length (λgk iv wr=>∃i:Nat,iv=.int .i64 i/\i<=els.length/\els.length - i<=gk/\Hid (SB w wr ci C b3 (ob Tb (iK els n i))))
  case atStart=>exact⟨0,rfl,aZ,by omega,Jp⟩
  case round=>
   obtain⟨i,rfl,jJ,fS,HS⟩:=hrel;have d1:=(HR.out.1.below HS.out.below).c1
   by_cases aU:i<els.length
   ·have hd:decide ((i:Int)<(els.length:Int))=true:=by simp;omega
    have Z2:(i:Int)<(els.length:Int):=by omega
    obtain⟨gL,hgL,e1⟩:=(HR.out.1.below HS.out.below).at' aU;subst hgL;have z0:wr.cell? ⟨els[i].blk,0,none⟩=some (.int .i64 els[i].num):=aa ((HR.out.1.below HS.out.below).el _ (bK aU)) rfl
    have Tn:Hid (iK els n (i+1)=if(els[i].num:Int)=n then some i else iK els n i):=by
     unfold Hid;show(if _ then _ else _)=_;rw[bO aU];simp
    generalize els[i]=z at e1 z0 Tn
    by_cases hn:(z.num:Int)=n
    ·have gn:((z.num:Int)==n)=true:=by simp[hn]
     have Xk:Hid (iK els n (i+1)=some i):=by unfold Hid;rw[Tn.out,aq hn]
     obtain⟨gT,hgT,dn,iC⟩:=aR HR.out.2.row (by omega);subst hgT
     have Xy:Hid (wr.rangeAt gT (i*9) (pu Tb i)):=nj HS.out.below dn (λj v hv=>iC _ _ (by
      have hj:j<9:=by have:=(dY.1 hv).1;simpa[pu] using this
      rw[Dj Tb aU hj];rw[<-hv];simp[pu,hj]))
     have QK:(pu Tb i).length=9:=by simp[pu]
     have uI:Hid ((prog.info? 234).map (·.size)=some (pu Tb i).length/\(prog.info? 234).map (·.size)=some (pu Tb i).toArray.size/\(ob Tb (iK els n i)).toArray.size=(pu Tb i).toArray.size/\(pu Tb i).toArray.all (·.oneCell')=true):=by
      refine⟨by rw[QK];exact Tryz.sz234,by rw[List.size_toArray,QK];exact Tryz.sz234,?_,all_oneCell_toArray (Es (λp hp=>HR.out.2.ok i p aU hp)).one⟩;rw[List.size_toArray,List.size_toArray,QK];exact(uF HR.out.2.ok (λj hj=>by have:=wZ hj;omega)).len
     have sF:Hid (SB w (wr.setRow b3 (pu Tb i).toArray) ci C b3 (ob Tb (iK els n (i+1)))):=by
      rw[Xk.out];exact HS.out.setWin (pu Tb i)
     clear iC hn Tn QK;go_wp2_with (first | (refine wpList_load_mid rfl 234 _ rfl gT (i*9) rfl (pu Tb i) _ Xy.out underlying234 rfl uI.out.1 ?_) | (refine wpList_store_row rfl 234 _ _ rfl b3 (pu Tb i).toArray rfl rfl 234 (ob Tb (iK els n i)).toArray HS.out.win uI.out.2.1 uI.out.2.2.1 uI.out.2.2.2 ?_));go_roundg (els.length - (i+1))
     case measure=>omega
     case rel=>exact⟨i+1,by go_num,by omega,au,sF⟩
    ·have gn:((z.num:Int)==n)=false:=by simp[hn]
     have sF:Hid (SB w wr ci C b3 (ob Tb (iK els n (i+1)))):=by
      rw[Tn.out,aj hn];exact HS.out
     clear hn Tn HS;go_wp2;go_roundg (els.length - (i+1))
     case measure=>omega
     case rel=>exact⟨i+1,by go_num,by omega,au,sF⟩
   ·have hd:decide ((i:Int)<(els.length:Int))=false:=by simp;omega
    obtain rfl:i=els.length:=by omega
    have LX:Hid (NineL (ob Tb (iK els n els.length)) (Er Tb (iK els n els.length))):=uF HR.out.2.ok (λj hj=>wZ hj);generalize ob Tb (iK els n els.length)=ws at HS LX;generalize hWe:Er Tb (iK els n els.length)=W at LX;have UX:=ae hWe;clear hWe;have HO0:Hid (SB w (wr.alloc (.cells eX 38)) ci C b3 ws/\(wr.alloc (.cells eX 38)).heap[wr.heap.size]?=some (.cells (tE (dg W C 4) 0).toArray 38 (0,0))/\b3<wr.heap.size/\wr.heap.size<(wr.alloc (.cells eX 38)).heap.size):=⟨HS.out.go (bd.alloc au _),heap_alloc_new wr _,HS.out.lt,by simp⟩;go_upto_region 16 with fail;generalize wr.heap.size=b4 at HO0 ⊢;clear d1 HS;go_wp2_with fail
    go_loopg [13] 9 (λgk pv wq=>∃p:Nat,pv=.int .i64 p/\p<=9/\9 - p<=gk/\Hid (SB w wq ci C b3 ws/\wq.heap[b4]?=some (.cells (tE (dg W C 4) p).toArray 38 (0,0))/\b3<b4/\b4<wq.heap.size))
    case atStart=>exact⟨0,rfl,aZ,by omega,HO0⟩
    case round=>
     obtain⟨p,rfl,lU,Om,HO⟩:=hrel
     by_cases hpt:p<9
     ·have yw:decide ((p:Int)<9)=true:=by simp;omega
      have adv:(p:Int)<9:=by omega
      have uI:Hid ((prog.info? 234).map (·.size)=some ws.length/\(prog.info? 38).map (·.size)=some ci.length):=⟨by rw[LX.out.len];exact Tryz.sz234,by rw[HO.out.1.nine.len];exact Tryz.sz38⟩;go_wp2_with (first | (refine wpList_load_mid rfl 234 _ rfl b3 0 rfl ws _ HO.out.1.range.1 underlying234 rfl uI.out.1 ?_) | (refine wpList_load_mid rfl 38 _ rfl (w.heap.size+1) 0 rfl ci _ HO.out.1.range.2 underlying38 rfl uI.out.2 ?_));refine(AW ws ci W C LX.out HO.out.1.nine 3 wr p hpt (I2 LX.out.ok hpt)).mono ?_;rintro e w5 ⟨rfl,wN⟩;have To:Hid (SB w w5 ci C b3 ws/\w5.heap[b4]?=some (.cells (tE (dg W C 4) p).toArray 38 (0,0))/\b3<b4/\b4<w5.heap.size):=⟨HO.out.1.go wN,(wN.block _ HO.out.2.2.2).trans HO.out.2.1,HO.out.2.2.1,by have:=wN.size;have:=HO.out.2.2.2;omega⟩;clear wN HO
      obtain⟨gE,wS⟩:∃gE,(tE (dg W C 4) p).toArray[p]?=some gE:=by
       have jF:p<(tE (dg W C 4) p).length:=by rw[Pc lU];exact hpt
       exact⟨_,by rw[List.getElem?_toArray,bO jF]⟩
      have q:=aa To.out.2.1 wS;have qz:∀k,w5.frozen? ⟨b4,k,none⟩=false:=λ_=>ax To.out.2.1
      have HO6:Hid (SB w (w5.setCell ⟨b4,p,none⟩ (.int .i64 (dg W C 4 p))) ci C b3 ws/\(w5.setCell ⟨b4,p,none⟩ (.int .i64 (dg W C 4 p))).heap[b4]?=some (.cells (tE (dg W C 4) (p+1)).toArray 38 (0,0))/\b3<b4/\b4<(w5.setCell ⟨b4,p,none⟩ (.int .i64 (dg W C 4 p))).heap.size):=by
       refine⟨To.out.1.setOut To.out.2.2.1 p _,?_,To.out.2.2.1,by have:=To.out.2.2.2;simpa using this⟩;rw[aF To.out.2.1,<-Pd hpt];simp
      clear To wS;generalize dg W C 4 p=vp at HO6 ⊢;go_wp2;go_roundg (9 - (p+1))
      case measure=>omega
      case rel=>exact⟨p+1,by go_num,by omega,au,HO6⟩
     ·have yw:decide ((p:Int)<9)=false:=by simp;omega
      obtain rfl:p=9:=by omega
      rw[Pb] at HO
      have HRO:Hid (wr.rangeAt b4 0 (n9 (dg W C 4))):=λj v hv=>by
       rw[Nat.zero_add,cell_of_row _ _ j _ _ (0,0) HO.out.2.1];simpa using hv
      have Q0:Hid ((prog.info? 38).map (·.size)=some (n9 (dg W C 4)).length/\(prog.info? 38).map (·.size)=some (n9 (dg W C 4)).toArray.size/\(9:Nat)=(n9 (dg W C 4)).toArray.size/\(n9 (dg W C 4)).toArray.all (·.oneCell')=true):=⟨by rw[jO];exact Tryz.sz38,by rw[List.size_toArray,jO];exact Tryz.sz38,by rw[List.size_toArray,jO],all_oneCell_toArray (EZ _).one⟩
      have pX:Hid (Bg w (dg W C 4) (.returned (.agg (n9 (dg W C 4)).toArray)) (wr.setRow w.heap.size (n9 (dg W C 4)).toArray)/\(wr.setRow w.heap.size (n9 (dg W C 4)).toArray).heap[w.heap.size]?=some (.cells (n9 (dg W C 4)).toArray 38 (0,0))):=by
       refine⟨⟨_,rfl,EZ _,HO.out.1.below.trans ⟨rfl,rfl,rfl,by simp,λk hk=>setRow_other wr _ _ _ (by omega)⟩⟩,setRow_heap wr _ _ _ _ _ HO.out.1.res⟩
      generalize n9 (dg W C 4)=vl at HO HRO Q0 pX;go_wp2_with (first | (refine wpList_load_mid rfl 38 _ rfl b4 0 rfl vl _ HRO.out underlying38 rfl Q0.out.1 ?_) | (refine wpList_store_row rfl 38 _ _ rfl w.heap.size vl.toArray rfl rfl 38 eX HO.out.1.res Q0.out.2.1 Q0.out.2.2.1 Q0.out.2.2.2 ?_));exact bodyPost_ret (v:=.agg vl.toArray) (results_cell_row Tryz.results141 _ _ w.heap.size 38 vl.toArray (0,0) _ rfl pX.out.2 underlying38 rfl Q0.out.2.1) rfl (by rw[UX.out];exact pX.out.1)
theorem AP (els:List REl)(Tb:Nat->Nat->ByteArray)(d:Nat)(made:Nat)(hp:Option Addr)(Uv:Value)(bi:Bool)(vL:Value)(vT:Value):∀(f:Nat) (w:World) (n:Int),RD w d els made hp Uv bi vL->TM w vT els.length Tb->vA els f n->
  Calls prog 141 #[.pointer (some ⟨d,0,none⟩),vT,.int .i64 n] w λe w'=>Bg w (kH els Tb f n) e w'
 | 0,w,n,h,hT,hd=>qQ els Tb eL w d made hp Uv bi vL n vT h hT (af ⟨hd,rfl⟩)
 | f+1,w,n,h,hT,hd=>by
  by_cases hn:bc els n<0
  ·have:=qQ els Tb (if bc els n<0 then eL else kH els Tb f (bc els n)) w d made hp Uv bi vL n vT h hT (af ⟨hn,aq hn⟩);exact this
  ·refine qQ els Tb (if bc els n<0 then eL else kH els Tb f (bc els n)) w d made hp Uv bi vL n vT h hT (ai ⟨hn,λw1 hB=>?_⟩);rw[aj hn];exact AP els Tb d made hp Uv bi vL vT f w1 (bc els n) (h.below hB) ⟨aN hT.row hB,hT.ok⟩ (hd.resolve_left hn)
end
section
variable {av:Value}{an i n nb:Nat}{els:List REl}{on:List Bool}{row:List Value}{w wq:World}
structure RComp where
 sg:Nat
 tx:ByteArray
def RComp.no:RComp:=⟨0,⟨#[]⟩⟩
def mR (cs:List RComp):List Value:=cs.flatMap λc=>[.int .u8 c.sg,.string c.tx]
theorem rC {cs:List RComp}(h:i<cs.length):(mR cs)[i*2]?=some (.int .u8 cs[i].sg)/\(mR cs)[i*2+1]?=some (.string cs[i].tx):=by
 induction cs generalizing i with
 | nil=>simp at h
 | cons c l ih=>
  unfold mR;rw[List.flatMap_cons];cases i with
  | zero=>exact⟨rfl,rfl⟩
  | succ i=>
   have:=ih (i:=i) (by simpa using h);unfold mR at this;rw[show(i+1)*2=i*2+2 from by omega];exact⟨by simpa using this.1,by simpa using this.2⟩
def ID (els:List REl)(a:Nat):Int:=((els[a]?.map REl.num).getD 0:Nat)
theorem xj {a:Nat}(h:a<els.length):ID els a=els[a].num:=by
 unfold ID;rw[bO h];rfl
noncomputable def fD (els:List REl)(on:List Bool)(sg:Nat)(b:Int):Nat->Bool
 | 0=>false
 | a+1=>fD els on sg b a||((on[a]?).getD false&&dj els (ID els a) sg b)
noncomputable def kr (els:List REl)(cs:List RComp):Nat->List Bool
 | 0=>[]
 | c+1=>els.map λb=>gF els b 400 (cs[c]?.getD RComp.no).tx&&(decide (c=0)||fD els (kr els cs c) (cs[c]?.getD RComp.no).sg b.num els.length)
theorem rX {cs:List RComp}{c:Nat}(h:0<c):(kr els cs c).length=els.length:=by
 cases c with
 | zero=>omega
 | succ c=>simp[kr]
theorem Tryz.info4:(Tryz.prog.info? 4).map (λi=>(i.zero,i.size,i.bytes))=some (some (.bool false),1,1):=by kernel_rfl
abbrev hE (l:List Bool):List Value:=l.map Value.bool
def WV (w:World)(l:List Bool)(e:Ending)(w':World):Prop:=∃(a:Option Addr) (c:Nat),e=.returned (.slice a l.length c)/\w'.ownsRow w.heap.size 4 1 (.slice a l.length c) l.length (hE l)/\Below w.heap.size w w'
theorem OM (w:World)(an n:Nat)(hb:an<=w.heap.size)(hn:n<=24):(w.alloc (.cells (madeCells #[.bool false] n) 4)).ownsRow an 4 1 (.slice (some ⟨w.heap.size,0,none⟩) n n) n (List.replicate n (.bool false)):=
 ⟨by simp,ai ⟨w.heap.size,n,madeCells #[.bool false] n,rfl,hb,heap_alloc_new w _,au,by unfold maxLen;omega,by rw[size_madeCells,Nat.mul_one],by rw[toList_madeCells_one];simp⟩⟩
theorem P5 {l:List Bool}(h:i<l.length)(hn:l.length=n):(hE (l.take i)++List.replicate (n - i) (Value.bool false)).set i (.bool l[i])=hE (l.take (i+1))++List.replicate (n - (i+1)) (.bool false):=by
 have hl:(hE (l.take i)).length=i:=by simp;omega
 rw[List.set_append_right _ _ (by omega),hl,Nat.sub_self,show n - i=(n - (i+1))+1 from by omega,List.replicate_succ,List.set_cons_zero,fU h];unfold hE;rw[List.map_append,List.append_assoc];rfl
theorem HPost.quiet {k:Nat}{r:Bool}{f:FuncId}{args:Array Value}(h:Calls prog f args (w.drewN k) λe w'=>HPost (w.drewN k) r e w'):Calls prog f args (w.drewN k) λe w''=>e=.returned (.bool r)/\∃m,w''=w.drewN m:=
 h.mono λ_ _ ⟨he,j,hj⟩=>⟨he,k+j,by rw[hj,World.drewN_drewN]⟩
structure NI (w:World)(an:Nat)(wq:World)(av:Value)(on:List Bool)(nb n:Nat)(row:List Value):Prop where
 onr:wq.ownsRow an 4 1 av on.length (hE on)
 nowr:wq.ownsRow an 4 1 (.slice (some ⟨nb,0,none⟩) n n) n row
 below:Below an w wq
 ne:∀j,av.ownBlock=some j->j≠nb
theorem x7 {sg:Nat}{b:Int}:∀{i n:Nat},i<=n->fD els on sg b i=true->fD els on sg b n=true
 | i,0,h,h1=>by
  obtain rfl:i=0:=by omega
  exact h1
 | i,n+1,h,h1=>by
  by_cases e:i=n+1
  ·rw[<-e];exact h1
  ·have:=x7 (i:=i) (n:=n) (by omega) h1;show(fD els on sg b n||_)=true;rw[this];rfl
theorem NI.set (h:NI w an wq av on nb n row)(i:Nat)(u:Value):NI w an (wq.setCell ⟨nb,i,none⟩ u) av on nb n (row.set i u):=by
 have hb:an<=nb:=(h.nowr.lt nb rfl).1;exact⟨bj h.onr (λe=>h.ne nb e rfl) _,(h.nowr.stored i u).1,h.below.setCell hb _,h.ne⟩
theorem NI.drawn (h:NI w an wq av on nb n row)(iW:an<=wq.heap.size){w':World}(hd:Drew wq w'):NI w an w' av on nb n row:=
 ⟨aN h.onr hd.below,aN h.nowr hd.below,h.below.trans (hd.below.mono iW),h.ne⟩
theorem DV (w:World)(d:Nat)(els:List REl)(made:Nat)(hp:Option Addr)(vT:Value)(bi:Bool)(vL:Value)(h:RD w d els made hp vT bi vL)(rk:Nat->Nat)(hr:rl els rk)(lL:∀y∈els,y.cl.size<=maxLen)
  (an:Nat) (a:Option Addr) (c:Nat) (cs:List RComp) (ho:w.ownsRow an 206 2 (.slice a cs.length c) cs.length (mR cs)) (qA:∀x∈cs,ro 400 x.tx) (kf:cs.length<=400) :
  Calls prog 188 #[.pointer (some ⟨d,0,none⟩),.slice a cs.length c] w λe w'=>WV w (kr els cs cs.length) e w':=by
 obtain⟨i0,hi,gx,gA,gB⟩:=info_parts Tryz.info4;have bC:=h.few
 have Fi:∀u:World,(Instr.makeSlice 245 (.int .i64 (els.length:Int)) (.int .i64 (els.length:Int))).run prog u=.ok (.slice (some ⟨u.heap.size,0,none⟩) els.length els.length) (u.alloc (.cells (madeCells #[.bool false] els.length) 4)):=λu=>by
  have h:=run_make (P:=prog) u 245 4 i0 (.bool false) underlying245 hi gx .i64 .i64 (els.length:Int) (els.length:Int) (by omega) (Int.le_refl _) (by rw[gB];omega) (by omega);simpa[gA,Value.cells] using h
 obtain⟨aL,cL,uR⟩:=h.shape;subst uR;have HR:Hid (RD w d els made hp vT bi (.slice aL els.length cL)/\rl els rk/\∀y∈els,y.cl.size<=maxLen):=⟨h,hr,lL⟩;have HO:Hid (w.ownsRow an 206 2 (.slice a cs.length c) cs.length (mR cs)/\∀x∈cs,ro 400 x.tx):=⟨ho,qA⟩;clear h hr lL ho qA;go_enter func188,ntmps188;go_wp2_with fail
 go_loopg [5,6] cs.length (λgk onv cv wr=>∃k:Nat,cv=.int .i64 k/\k<=cs.length/\cs.length - k<=gk/\Hid (wr.ownsRow w.heap.size 4 1 onv (kr els cs k).length (hE (kr els cs k))/\Below w.heap.size w wr))
 case atStart=>exact⟨0,rfl,aZ,by omega,er,bd⟩
 case round=>
  obtain⟨k,rfl,p8,fS,HN⟩:=hrel;obtain⟨a2,c2,jC⟩:=aA HN.out.1;subst jC;have iW:=HN.out.2.size
  by_cases aU:k<cs.length
  ·have hd:decide ((k:Int)<(cs.length:Int))=true:=by simp;omega
   obtain⟨g,hg,dn,iC⟩:=aR HO.out.1 (by omega);subst hg;obtain⟨f0,f1⟩:=rC aU;have s0:=iC _ _ f0;have s1:=iC _ _ f1;have XJ:=ae (HO.out.2 _ (bK aU))
   have zk:Hid (kr els cs (k+1)=els.map λb=>gF els b 400 cs[k].tx&&(decide (k=0)||fD els (kr els cs k) cs[k].sg b.num els.length)):=by
    unfold Hid;show(els.map λb=>_)=_;rw[bO aU];rfl
   have Qw:Hid (k≠0->(kr els cs k).length=els.length):=λh0=>rX (by omega);clear iC f0 f1;generalize cs[k]=x at s0 s1 XJ zk;generalize kr els cs k=on at HN zk Qw ⊢;have d1:=(HR.out.1.below HN.out.2).c1
   have HNI:Hid (NI w w.heap.size (wr.alloc (.cells (madeCells #[.bool false] els.length) 4)) (.slice a2 on.length c2) on wr.heap.size els.length (hE ((kr els cs (k+1)).take 0)++List.replicate (els.length - 0) (.bool false))):=
    ⟨HN.out.1.alloc _,OM wr _ _ iW bC,HN.out.2.alloc iW _,λj hj=>by have:=(HN.out.1.lt j hj).2;omega⟩
   have Sm:(kr els cs (k+1)).length=els.length:=rX (by omega);clear HN;generalize hnw:kr els cs (k+1)=nowT at zk HNI Sm;have UO:=ae hnw.symm;clear hnw;go_wp2_with fail;clear d1;generalize wr.alloc (.cells (madeCells #[.bool false] els.length) 4)=W0 at HNI ⊢;generalize wr.heap.size=nb at HNI ⊢
   have HNT:Hid (∀b (hb:b<els.length),∃hb':b<nowT.length,nowT[b]=(gF els els[b] 400 x.tx&&(decide (k=0)||fD els on x.sg els[b].num els.length))):=λb hb=>⟨by rw[Sm];exact hb,by
    have h1:=zk.out;subst h1;simp⟩
   clear zk
   go_loopg [8] els.length (λJY bv wq=>∃b:Nat,bv=.int .i64 b/\b<=els.length/\els.length - b<=JY/\Hid (NI w w.heap.size wq (.slice a2 on.length c2) on nb els.length (hE (nowT.take b)++List.replicate (els.length - b) (.bool false))))
   case atStart=>exact⟨0,rfl,aZ,by omega,HNI⟩
   case round=>
    obtain⟨b,rfl,jF,rG,HM⟩:=hrel;have d1:=(HR.out.1.below HM.out.below).c1
    by_cases Ga:b<els.length
    ·have iR:decide ((b:Int)<(els.length:Int))=true:=by simp;omega
     obtain⟨gL,hgL,e1⟩:=(HR.out.1.below HM.out.below).at' Ga;subst hgL;have OG:=bK Ga;have WT:=(HM.out.below.cell (p:=⟨g,k*2,none⟩) dn).trans s0;have s1r:=(HM.out.below.cell (p:=⟨g,k*2+1,none⟩) dn).trans s1;have Vx:=HM.out.below.size;obtain⟨hbn,HNB'⟩:=HNT.out b Ga;have E8:=ae HNB';have A8:=ae (P5 hbn Sm);have vB:Hid (∀j,Calls prog 202 #[.pointer (some ⟨d,0,none⟩),.pointer (some ⟨els[b].blk,0,none⟩),.string x.tx] (wr.drewN j) λe w'=>e=.returned (.bool (gF els els[b] 400 x.tx))/\∃m,w'=wr.drewN m):=λj=>HPost.quiet (N3 _ d els made hp vT bi _ els[b] x.tx 400 (HR.out.1.below (HM.out.below.trans ((du wr j).mono Vx))) OG (HR.out.2.2 _ OG) XJ.out);have Vu:(b:Int)<(els.length:Int):=by omega
     have Z7:(k:Int)<(cs.length:Int):=by omega
     clear HNB';generalize nowT[b]=res at E8 A8;go_upto_region 9 with fail;go_quiet ((go_at_call 202;exact(vB.out _)));have Qt:Hid (NI w w.heap.size (wr.drewN nq) (.slice a2 on.length c2) on nb els.length (hE (nowT.take b)++List.replicate (els.length - b) (.bool false))):=HM.out.drawn Vx ⟨nq,rfl⟩;generalize wr.drewN nq=wz at Qt ⊢;clear vB d1 e1 WT s1r HM
     have A4:Hid ((hE (nowT.take b)++List.replicate (els.length - b) (Value.bool false))[b]?=some (.bool false)):=by
      unfold Hid;have hl:(hE (nowT.take b)).length=b:=by simp;omega
      rw[List.getElem?_append_right (by omega),hl,Nat.sub_self,List.getElem?_replicate,aq (by omega)]
     generalize hy:els[b]=y at E8 OG ⊢;have HY:=ae hy;clear hy;cases hf:gF els y 400 x.tx with
     | false=>
      have Fv:Hid (res=false):=by unfold Hid;rw[E8.out,hf];rfl
      clear hf E8;have q:=Qt.out.nowr.cellAt b (by omega);rw[A4.out] at q;have qz:=Qt.out.nowr.frozenAt b
      have UJ:Hid (NI w w.heap.size (wz.setCell ⟨nb,b,none⟩ (.bool false)) (.slice a2 on.length c2) on nb els.length (hE (nowT.take (b+1))++List.replicate (els.length - (b+1)) (.bool false))):=by
       have:=Qt.out.set b (.bool res);rw[A8.out,Fv.out] at this;exact this
      go_wp2_with fail;refine wp_loop_rounds 1 ?_;rw[rounds_succ];go_wp2;go_roundg (els.length - (b+1))
      case measure=>omega
      case rel=>exact⟨b+1,by go_num,by omega,au,UJ⟩
     | true=>
      by_cases Dz:k=0
      ·have gk0:((k:Int)==0)=true:=by simp[Dz]
       have Fv:Hid (res=true):=by unfold Hid;rw[E8.out,hf,decide_eq_true Dz];rfl
       clear hf E8 Dz;have q:=Qt.out.nowr.cellAt b (by omega);rw[A4.out] at q;have qz:=Qt.out.nowr.frozenAt b
       have UJ:Hid (NI w w.heap.size (wz.setCell ⟨nb,b,none⟩ (.bool true)) (.slice a2 on.length c2) on nb els.length (hE (nowT.take (b+1))++List.replicate (els.length - (b+1)) (.bool false))):=by
        have:=Qt.out.set b (.bool res);rw[A8.out,Fv.out] at this;exact this
       go_wp2_with fail;refine wp_loop_rounds 1 ?_;rw[rounds_succ];go_wp2;go_roundg (els.length - (b+1))
       case measure=>omega
       case rel=>exact⟨b+1,by go_num,by omega,au,UJ⟩
      ·have gk0:((k:Int)==0)=false:=by rw[ff];omega
       have Xo:Hid (res=fD els on x.sg y.num els.length):=by unfold Hid;rw[E8.out,hf,decide_eq_false Dz];rfl
       have hol:=Qw.out Dz;clear hf E8 Dz;go_wp2_with fail
       go_loopg [10,11] els.length (λgk3 sv av wq=>∃(i:Nat) (t:Bool),sv=.bool t/\av=.int .i64 i/\i<=els.length/\els.length - i<=gk3/\Hid (t=fD els on x.sg y.num i/\NI w w.heap.size wq (.slice a2 on.length c2) on nb els.length (hE (nowT.take b)++List.replicate (els.length - b) (.bool false))))
       case atStart=>exact⟨0,false,rfl,rfl,aZ,by omega,rfl,Qt.out⟩
       case round=>
        obtain⟨i,t,rfl,rfl,jJ,Om,HJ⟩:=hrel;have d1:=(HR.out.1.below HJ.out.2.below).c1;cases t with
        | true=>
         have Fv:Hid (res=true):=by unfold Hid;rw[Xo.out];exact x7 jJ HJ.out.1.symm
         have qU:=ae HJ.out.2;clear HJ d1;have q:=qU.out.nowr.cellAt b (by omega);rw[A4.out] at q;have qz:=qU.out.nowr.frozenAt b
         have UJ:Hid (NI w w.heap.size (wr.setCell ⟨nb,b,none⟩ (.bool true)) (.slice a2 on.length c2) on nb els.length (hE (nowT.take (b+1))++List.replicate (els.length - (b+1)) (.bool false))):=by
          have:=qU.out.set b (.bool res);rw[A8.out,Fv.out] at this;exact this
         go_wp2;go_roundg (els.length - (b+1))
         case measure=>omega
         case rel=>exact⟨b+1,by go_num,by omega,au,UJ⟩
        | false=>
         by_cases hit:i<els.length
         ·have yw:decide ((i:Int)<(els.length:Int))=true:=by simp;omega
          obtain⟨gO,hgO,_,hoc⟩:=aR HJ.out.2.onr (by omega);have o1:=hoc i (.bool (on[i]'(by omega))) (by simp[hol,hit]);obtain⟨gL2,hgL2,e1⟩:=(HR.out.1.below HJ.out.2.below).at' hit;obtain rfl:gL=gL2:=by simpa using hgL2
          obtain⟨gL3,ZV,e2⟩:=(HR.out.1.below HJ.out.2.below).at' Ga;obtain rfl:gL=gL3:=by simpa using ZV
          rw[HY.out] at e2;have y0:wr.cell? ⟨y.blk,0,none⟩=some (.int .i64 y.num):=aa ((HR.out.1.below HJ.out.2.below).el y OG) rfl;have z0:wr.cell? ⟨els[i].blk,0,none⟩=some (.int .i64 els[i].num):=aa ((HR.out.1.below HJ.out.2.below).el _ (bK hit)) rfl;have WT:=(HJ.out.2.below.cell (p:=⟨g,k*2,none⟩) dn).trans s0
          have LU:Hid (fD els on x.sg y.num (i+1)=(on[i]'(by omega)&&dj els els[i].num x.sg y.num)):=by
           unfold Hid;show(fD els on x.sg y.num i||_)=_;rw[<-HJ.out.1,bO (by omega),xj hit];rfl
          have HSA:Hid (∀j,Calls prog 203 #[.pointer (some ⟨d,0,none⟩),.int .i64 els[i].num,.int .u8 x.sg,.int .i64 y.num] (wr.drewN j) λe w'=>e=.returned (.bool (dj els els[i].num x.sg y.num))/\w'=wr.drewN j):=λj=>G1 _ d els made hp vT bi _ els[i].num x.sg y.num (HR.out.1.below (HJ.out.2.below.trans ((du wr j).mono HJ.out.2.below.size))) rk HR.out.2.1;have qU:=ae HJ.out.2;clear hoc HJ hgL2 ZV;subst hgO;generalize els[i]=z at e1 z0 LU HSA;have ahF:(b:Int)<(els.length:Int):=by omega
          have aij:(k:Int)<(cs.length:Int):=by omega
          have hio:(i:Int)<(on.length:Int):=by omega
          cases ho:on[i]'(by omega) with
          | false=>
           rw[ho] at o1 LU;have Hm:Hid (false=fD els on x.sg y.num (i+1)/\NI w w.heap.size wr (.slice (some ⟨gO,0,none⟩) on.length c2) on nb els.length (hE (nowT.take b)++List.replicate (els.length - b) (.bool false))):=⟨by rw[LU.out];rfl,qU.out⟩;clear ho LU qU HSA;go_wp2;go_roundg (els.length - (i+1))
           case measure=>omega
           case rel=>exact⟨i+1,false,rfl,by go_num,by omega,au,Hm⟩
          | true=>
           rw[ho] at o1 LU;clear ho;go_upto_region 15 with fail;go_quiet ((go_at_call 203;exact Calls.quiet_of_same (HSA.out _)));have Hm:Hid (dj els z.num x.sg y.num=fD els on x.sg y.num (i+1)/\NI w w.heap.size (wr.drewN nq) (.slice (some ⟨gO,0,none⟩) on.length c2) on nb els.length (hE (nowT.take b)++List.replicate (els.length - b) (.bool false))):=⟨by rw[LU.out];rfl,qU.out.drawn qU.out.below.size ⟨nq,rfl⟩⟩;generalize dj els z.num x.sg y.num=st at Hm ⊢;clear LU qU HSA;go_wp2;go_roundg (els.length - (i+1))
           case measure=>omega
           case rel=>exact⟨i+1,st,rfl,by go_num,by omega,au,Hm⟩
         ·have yw:decide ((i:Int)<(els.length:Int))=false:=by simp;omega
          obtain rfl:i=els.length:=by omega
          have Fv:Hid (res=false):=by unfold Hid;rw[Xo.out];exact HJ.out.1.symm
          have qU:=ae HJ.out.2;clear HJ;have q:=qU.out.nowr.cellAt b (by omega);rw[A4.out] at q;have qz:=qU.out.nowr.frozenAt b
          have UJ:Hid (NI w w.heap.size (wr.setCell ⟨nb,b,none⟩ (.bool false)) (.slice a2 on.length c2) on nb els.length (hE (nowT.take (b+1))++List.replicate (els.length - (b+1)) (.bool false))):=by
           have:=qU.out.set b (.bool res);rw[A8.out,Fv.out] at this;exact this
          go_wp2;go_roundg (els.length - (b+1))
          case measure=>omega
          case rel=>exact⟨b+1,by go_num,by omega,au,UJ⟩
    ·have iR:decide ((b:Int)<(els.length:Int))=false:=by simp;omega
     obtain rfl:b=els.length:=by omega
     have HF:Hid (wr.ownsRow w.heap.size 4 1 (.slice (some ⟨nb,0,none⟩) els.length els.length) (kr els cs (k+1)).length (hE (kr els cs (k+1)))/\Below w.heap.size w wr):=by
      have h1:=HM.out.nowr;rw[Nat.sub_self,List.replicate_zero,List.append_nil,List.take_of_length_le (by omega)] at h1;refine⟨?_,HM.out.below⟩;rw[<-UO.out,Sm];exact h1
     go_wp2;go_roundg (cs.length - (k+1))
     case measure=>omega
     case rel=>exact⟨k+1,by go_num,by omega,au,HF⟩
  ·have hd:decide ((k:Int)<(cs.length:Int))=false:=by simp;omega
   obtain rfl:k=cs.length:=by omega
   go_wp2;go_ret;exact⟨a2,c2,rfl,HN.out.1,HN.out.2⟩
end
def LB:Nat->ByteArray->Nat
 | 0,_=>0
 | f+1,u=>if u.size=0 then 0 else mI (u.extract 0 (cW u 0)) 0+LB f (u.extract (cW u 0) u.size)
theorem Hz (s:ByteArray)(i:Nat):mI s i<=1000000:=by
 unfold mI qS
 (repeat' split)<;>omega
theorem Qi:∀(f:Nat) (u:ByteArray),LB f u<=1000000*f
 | 0,_=>aZ
 | f+1,u=>by
  show(if _ then _ else _)<=_;split
  ·exact aZ
  ·have h1:=Hz (u.extract 0 (cW u 0)) 0;have h2:=Qi f (u.extract (cW u 0) u.size);exact Nat.le_trans (Nat.add_le_add h1 h2) (by omega)
def kI (cs:List RComp):Nat:=(cs.map λc=>LB 400 c.tx).sum
theorem LA {cs:List RComp}{i:Nat}(h:i<cs.length):kI (cs.take (i+1))=kI (cs.take i)+LB 400 cs[i].tx:=by
 unfold kI;rw[fU h,List.map_append,List.sum_append];simp
theorem I7 (cs:List RComp):kI cs<=400000000*cs.length:=by
 induction cs with
 | nil=>simp[kI]
 | cons c l ih=>
  have:=Qi 400 c.tx;unfold kI at ih ⊢;rw[List.map_cons,List.sum_cons,List.length_cons];omega
theorem PartOK.cut {p:ByteArray}(h:PartOK p):gW p 0<p.size:=by
 unfold gW;split
 ·rename_i iV;have:=(h.turned iV).pos;rw[ByteArray.size_extract] at this;omega
 ·exact h.pos
def U7 (w:World)(n:Nat)(e:Ending)(w':World):Prop:=e=.returned (.int .i64 n)/\Drew w w'
theorem Lg (w:World)(pa:Option Addr)(an:Nat)(a:Option Addr)(c:Nat)(cs:List RComp)(ho:w.ownsRow an 206 2 (.slice a cs.length c) cs.length (mR cs))(qA:∀x∈cs,ro 400 x.tx)(kf:cs.length<=400):
  Calls prog 89 #[.pointer pa,.slice a cs.length c] w λe w'=>U7 w (kI cs) e w':=by
 have HO:Hid (w.ownsRow an 206 2 (.slice a cs.length c) cs.length (mR cs)/\∀x∈cs,ro 400 x.tx):=⟨ho,qA⟩;clear ho qA;go_enter func89,ntmps89;go_wp2_with fail
 go_loopg [5,6] cs.length (λgk sv iv wr=>∃i:Nat,iv=.int .i64 i/\i<=cs.length/\cs.length - i<=gk/\sv=.int .i64 ((kI (cs.take i):Nat):Int)/\Hid (Drew w wr))
 case atStart=>exact⟨0,rfl,aZ,by omega,by simp[kI],0,rfl⟩
 case round=>
  obtain⟨i,rfl,hi,fS,rfl,hD⟩:=hrel
  by_cases aU:i<cs.length
  ·have hd:decide ((i:Int)<(cs.length:Int))=true:=by simp;omega
   obtain⟨g,hg,dn,iC⟩:=aR HO.out.1 (by omega);subst hg;have s1:=(hD.out.below.cell (p:=⟨g,i*2+1,none⟩) dn).trans (iC _ _ (rC aU).2);have XJ:=ae (HO.out.2 _ (bK aU));have HP:=ae (LA aU)
   have qW:kI (cs.take i)<=400000000*400:=by
    have h1:=I7 (cs.take i);have h2:(cs.take i).length<=cs.length:=List.length_take_le' _ _;omega
   clear iC;generalize cs[i].tx=u at s1 XJ HP;generalize kI (cs.take i)=p0 at HP qW ⊢;obtain⟨P,hP⟩:∃P,P=kI (cs.take (i+1)):=⟨_,rfl⟩;rw[<-hP] at HP;have Wq:=ae hP;clear hP;go_wp2_with fail
   go_loopg [5,7] 400 (λgk sv uv wr=>∃(v:ByteArray) (t:Nat),uv=.string v/\sv=.int .i64 (t:Int)/\gk<=400/\t<=p0+1000000*(400 - gk)/\Hid (ro gk v/\t+LB gk v=P/\Drew w wr))
   case atStart=>exact⟨u,p0,rfl,rfl,au,by omega,XJ.out,HP.out.symm,hD.out⟩
   case round=>
    obtain⟨v,t,rfl,rfl,Z0,htl,HR⟩:=hrel
    by_cases h0:v.size=0
    ·have HT:Hid (t=P):=by
      unfold Hid;have h1:=HR.out.2.1
      have h2:LB gk v=0:=by
       cases gk with
       | zero=>rfl
       | succ n=>show(if _ then _ else _)=_;rw[aq h0]
      omega
     obtain rfl:=eJ h0;have oD:=ae HR.out.2.2;clear h0 HR;go_wp2;go_roundg (cs.length - (i+1))
     case measure=>omega
     case rel=>exact⟨i+1,by go_num,by omega,au,by rw[<-Wq.out,<-HT.out],oD⟩
    ·obtain⟨n,rfl⟩:∃n,gk=n+1:=by
      cases gk with
      | zero=>exact absurd HR.out.1 h0
      | succ n=>exact⟨n,rfl⟩
     have fY:=iF v (by omega);have HQ:Hid (cW v 0<=v.size/\v.size<=400/\PartOK (v.extract 0 (cW v 0))/\ro n (v.extract (cW v 0) v.size)):=(show ro (n+1) v from HR.out.1).resolve_left h0
     have HS:Hid (t+(mI (v.extract 0 (cW v 0)) 0+LB n (v.extract (cW v 0) v.size))=P):=by
      unfold Hid;have h1:=HR.out.2.1;have h2:LB (n+1) v=mI (v.extract 0 (cW v 0)) 0+LB n (v.extract (cW v 0) v.size):=by show(if _ then _ else _)=_;rw[aj h0]
      rw[h2] at h1;exact h1
     have Qr:=ae HR.out.2.2;have hcv:=Hz (v.extract 0 (cW v 0)) 0;clear h0 HR;go_wp2_with fail;refine(H2 _ v HQ.out.1 HQ.out.2.1).mono ?_;rintro e w2 ⟨rfl,n2,rfl⟩;go_wp2_with fail;refine(Hf _ (v.extract 0 (cW v 0)) HQ.out.2.2.1.cut (by have:=HQ.out.2.1;rw[ByteArray.size_extract];omega)).mono ?_;rintro e w3 ⟨rfl,rfl⟩;have oD:=ae (kU Qr.out n2);have ix:=ae HQ.out.2.2.2;generalize mI (v.extract 0 (cW v 0)) 0=y at HS hcv ⊢;generalize v.extract (cW v 0) v.size=v2 at HS ix ⊢;generalize v.extract 0 (cW v 0)=v3;clear HQ fY Qr;go_wp2;go_roundg n
     case measure=>omega
     case rel=>exact⟨v2,t+y,rfl,by go_num,by omega,by omega,ix.out,by have:=HS.out;omega,oD.out⟩
  ·have hd:decide ((i:Int)<(cs.length:Int))=false:=by simp;omega
   obtain rfl:i=cs.length:=by omega
   go_wp2;go_ret;refine⟨?_,hD.out⟩;rw[List.take_length];rfl
section
variable {W0 wr:World}{an i n nb:Nat}{l m:List Int}{x:Int}
noncomputable def bW (els:List REl)(sels:List (List RComp)):Nat->List Int
 | 0=>List.replicate els.length (-1)
 | k+1=>(List.range els.length).map λi=>
  if(kr els (sels[k]?.getD []) (sels[k]?.getD []).length)[i]?.getD false=true/\(bW els sels k)[i]?.getD 0<(kI (sels[k]?.getD []):Int) then(kI (sels[k]?.getD []):Int) else(bW els sels k)[i]?.getD 0
theorem fW (els:List REl)(sels:List (List RComp))(k:Nat):(bW els sels k).length=els.length:=by
 cases k<;>simp[bW]
theorem Oh {els:List REl}{sels:List (List RComp)}{k:Nat}(hk:k<sels.length)(hi:i<els.length)(hs:0<sels[k].length):
  ∃(o:Bool) (l:Int),(kr els sels[k] sels[k].length)[i]?=some o/\(bW els sels k)[i]?=some l/\(bW els sels (k+1))[i]?=some (if o=true/\l<(kI sels[k]:Int) then(kI sels[k]:Int) else l):=by
 have l2:=fW els sels k;have l3:=rX (els:=els) (cs:=sels[k]) hs;have e1:sels[k]?.getD []=sels[k]:=by rw[bO hk];rfl
 refine⟨(kr els sels[k] sels[k].length)[i]'(by omega),(bW els sels k)[i]'(by omega),bO _,bO _,?_⟩;show((List.range els.length).map λi=>_)[i]?=_;rw[List.getElem?_map,List.getElem?_range hi,e1];show some (if _ then _ else _)=_;rw[bO (by omega),bO (by omega)];rfl
def SelsM (w:World)(an:Nat)(xs:List Value)(sels:List (List RComp)):Prop:=
 ∀i (hi:i<sels.length),∃(a:Option Addr) (c:Nat),xs[i]?=some (.slice a sels[i].length c)/\w.ownsRow an 206 2 (.slice a sels[i].length c) sels[i].length (mR sels[i])
structure Hu (cs:List RComp):Prop where
 some:0<cs.length
 few:cs.length<=400
 ok:∀x∈cs,ro 400 x.tx
abbrev oX (l:List Int):List Value:=l.map (Value.int .i64)
def TE (w:World)(l:List Int)(e:Ending)(w':World):Prop:=∃(a:Option Addr) (c:Nat),e=.returned (.slice a l.length c)/\w'.ownsRow w.heap.size 3 1 (.slice a l.length c) l.length (oX l)/\Below w.heap.size w w'
theorem Ku (w:World)(an n:Nat)(hb:an<=w.heap.size)(hn:n<=24):(w.alloc (.cells (madeCells #[.int .i64 0] n) 3)).ownsRow an 3 1 (.slice (some ⟨w.heap.size,0,none⟩) n n) n (oX (List.replicate n 0)):=
 ⟨by simp,ai ⟨w.heap.size,n,madeCells #[.int .i64 0] n,rfl,hb,heap_alloc_new w _,au,by unfold maxLen;omega,by rw[size_madeCells,Nat.mul_one],by rw[toList_madeCells_one];simp[oX]⟩⟩
def o9 (l m:List Int)(i:Nat):List Int:=m.take i++l.drop i
theorem OQ (hm:m.length=n)(hi:i<n):(o9 l m i)[i]?=l[i]?:=by
 unfold o9;have:(m.take i).length=i:=by rw[List.length_take];omega
 rw[List.getElem?_append_right (by omega),this,Nat.sub_self,List.getElem?_drop,Nat.add_zero]
theorem Iz (hl:l.length=n)(hm:m.length=n)(hi:i<n)(hx:m[i]?=some x):(o9 l m i).set i x=o9 l m (i+1):=by
 obtain rfl:m[i]'(by omega)=x:=(dY.1 hx).2;unfold o9;have h1:(m.take i).length=i:=by rw[List.length_take];omega
 rw[List.set_append_right _ _ (by omega),h1,Nat.sub_self,fU (by omega),List.append_assoc]
 congr 1
 rw[List.drop_eq_getElem_cons (by omega)];rfl
theorem OR (hl:l.length=n)(hm:m.length=n)(hi:i<n)(Vz:m[i]?=l[i]?):o9 l m i=o9 l m (i+1):=by
 have he:m[i]'(by omega)=l[i]'(by omega):=by
  rw[bO (by omega),bO (by omega)] at Vz;injection Vz
 unfold o9;rw[fU (by omega),List.append_assoc,he,List.drop_eq_getElem_cons (i:=i) (by omega)];rfl
theorem Ix (hl:l.length=n)(hm:m.length=n):o9 l m n=m:=by
 unfold o9;rw[List.take_of_length_le (by omega),List.drop_of_length_le (by omega),List.append_nil]
theorem S3:(oX l).set i (.int .i64 x)=oX (l.set i x):=by
 unfold oX;rw[List.map_set]
structure HI (W0:World)(an:Nat)(wr:World)(nb n:Nat)(l:List Int):Prop where
 row:wr.ownsRow an 3 1 (.slice (some ⟨nb,0,none⟩) n n) n (oX l)
 below:Below an W0 wr
theorem HI.set (h:HI W0 an wr nb n l)(i:Nat)(x:Int):HI W0 an (wr.setCell ⟨nb,i,none⟩ (.int .i64 x)) nb n (l.set i x):=by
 refine⟨?_,h.below.setCell ((h.row.lt nb rfl).1) _⟩;have:=(h.row.stored i (.int .i64 x)).1;rw[S3] at this;exact this
theorem HI.go (h:HI W0 an wr nb n l)(hb:an<=wr.heap.size){w':World}(hB:Below wr.heap.size wr w'):HI W0 an w' nb n l:=⟨aN h.row hB,h.below.trans (hB.mono hb)⟩
theorem J7 (w:World)(d:Nat)(els:List REl)(made:Nat)(hp:Option Addr)(vT:Value)(bi:Bool)(vL:Value)(h:RD w d els made hp vT bi vL)(rk:Nat->Nat)(hr:rl els rk)(lL:∀y∈els,y.cl.size<=maxLen)
  (an:Nat) (ly:Int) (a:Option Addr) (c:Nat) (vD:Value) (sels:List (List RComp)) (xs:List Value) (ho:w.ownsRow an 166 1 (.slice a sels.length c) sels.length xs) (hs:SelsM w an xs sels) (qA:∀x∈sels,Hu x) (hfs:sels.length<=400) :
  Calls prog 167 #[.pointer (some ⟨d,0,none⟩),.agg #[.int .i64 ly,.slice a sels.length c,vD]] w λe w'=>TE w (bW els sels sels.length) e w':=by
 obtain⟨i0,hi,gx,gA,gB⟩:=info_parts Tryz.info3;have bC:=h.few
 have Fi:∀u:World,(Instr.makeSlice 40 (.int .i64 (els.length:Int)) (.int .i64 (els.length:Int))).run prog u=.ok (.slice (some ⟨u.heap.size,0,none⟩) els.length els.length) (u.alloc (.cells (madeCells #[.int .i64 0] els.length) 3)):=λu=>by
  have h:=run_make (P:=prog) u 40 3 i0 (.int .i64 0) underlying40 hi gx .i64 .i64 (els.length:Int) (els.length:Int) (by omega) (Int.le_refl _) (by rw[gB];omega) (by omega);simpa[gA,Value.cells] using h
 obtain⟨aL,cL,uR⟩:=h.shape;subst uR;have od:Hid (Below w.heap.size w (w.alloc (.cells #[.int .i64 ly,.slice a sels.length c,vD] 164))):=bd.alloc au _;have HR:Hid (RD (w.alloc (.cells #[.int .i64 ly,.slice a sels.length c,vD] 164)) d els made hp vT bi (.slice aL els.length cL)/\rl els rk/\∀y∈els,y.cl.size<=maxLen):=⟨h.below od.out,hr,lL⟩;have HO:Hid (w.ownsRow an 166 1 (.slice a sels.length c) sels.length xs/\SelsM w an xs sels/\∀x∈sels,Hu x):=⟨ho,hs,qA⟩;have qT:Hid ((w.alloc (.cells #[.int .i64 ly,.slice a sels.length c,vD] 164)).heap[w.heap.size]?=some (.cells #[.int .i64 ly,.slice a sels.length c,vD] 164 (0,0))):=heap_alloc_new w _;have d1:=HR.out.1.c1;have Ud:(w.alloc (.cells #[.int .i64 ly,.slice a sels.length c,vD] 164)).heap.size=w.heap.size+1:=by simp
 clear h hr lL ho hs qA;go_enter func167,ntmps167;go_wp2_with fail
 have Jk:Hid (HI (w.alloc (.cells #[.int .i64 ly,.slice a sels.length c,vD] 164)) (w.heap.size+1) ((w.alloc (.cells #[.int .i64 ly,.slice a sels.length c,vD] 164)).alloc (.cells (madeCells #[.int .i64 0] els.length) 3)) (w.heap.size+1) els.length (o9 (List.replicate els.length 0) (bW els sels 0) 0)):=by
  have:=Ku (w.alloc (.cells #[.int .i64 ly,.slice a sels.length c,vD] 164)) (w.heap.size+1) els.length (by omega) bC;rw[Ud] at this;refine⟨?_,bd.alloc (by omega) _⟩;show World.ownsRow _ _ _ _ _ _ (oX (List.take 0 _++List.drop 0 _));exact this
 generalize hW0:w.alloc (.cells #[.int .i64 ly,.slice a sels.length c,vD] 164)=W0 at od HR qT d1 Ud Jk ⊢;generalize W0.alloc (.cells (madeCells #[.int .i64 0] els.length) 3)=W1 at Jk ⊢;clear hW0 d1
 go_loopg [6] els.length (λgk iv wr=>∃i:Nat,iv=.int .i64 i/\i<=els.length/\els.length - i<=gk/\Hid (HI W0 (w.heap.size+1) wr (w.heap.size+1) els.length (o9 (List.replicate els.length 0) (bW els sels 0) i)))
 case atStart=>exact⟨0,rfl,aZ,by omega,Jk⟩
 case round=>
  obtain⟨i,rfl,jJ,fS,HN⟩:=hrel
  by_cases aU:i<els.length
  ·have hd:decide ((i:Int)<(els.length:Int))=true:=by simp;omega
   have yM:(List.replicate els.length (0:Int)).length=els.length:=by simp
   have Co:=fW els sels 0;have q:=HN.out.row.cellAt i (by omega);have qz:=HN.out.row.frozenAt i;rw[List.getElem?_map,OQ Co aU,List.getElem?_replicate,aq aU] at q;have DJ:(bW els sels 0)[i]?=some (-1):=by simp[bW,aU]
   have e9:Hid (HI W0 (w.heap.size+1) (wr.setCell ⟨w.heap.size+1,i,none⟩ (.int .i64 (-1))) (w.heap.size+1) els.length (o9 (List.replicate els.length 0) (bW els sels 0) (i+1))):=by
    have:=HN.out.set i (-1);rw[<-Iz yM Co aU DJ];exact this
   clear HN yM Co DJ;go_wp2;go_roundg (els.length - (i+1))
   case measure=>omega
   case rel=>exact⟨i+1,by go_num,by omega,au,e9⟩
  ·have hd:decide ((i:Int)<(els.length:Int))=false:=by simp;omega
   obtain rfl:i=els.length:=by omega
   have kJ:Hid (HI W0 (w.heap.size+1) wr (w.heap.size+1) els.length (bW els sels 0)):=by
    have:=HN.out;rw[Ix (by simp) (fW els sels 0)] at this;exact this
   clear HN;go_wp2_with fail
   go_loopg [7] sels.length (λgk kv wr=>∃k:Nat,kv=.int .i64 k/\k<=sels.length/\sels.length - k<=gk/\Hid (HI W0 (w.heap.size+1) wr (w.heap.size+1) els.length (bW els sels k)))
   case atStart=>exact⟨0,rfl,aZ,by omega,kJ⟩
   case round=>
    obtain⟨k,rfl,p8,fS,HN⟩:=hrel
    by_cases hkt:k<sels.length
    ·have iR:decide ((k:Int)<(sels.length:Int))=true:=by simp;omega
     have iW:=HN.out.below.size;have VJ:=(HN.out.row.lt (w.heap.size+1) rfl).2;have CB:=ae (od.out.trans (HN.out.below.mono (Nat.le_succ _)));have r1:wr.cell? ⟨w.heap.size,1,none⟩=some (.slice a sels.length c):=(HN.out.below.cell (p:=⟨w.heap.size,1,none⟩) (Nat.lt_succ_self _)).trans (aa qT.out rfl);obtain⟨g,hg,dn,iC⟩:=aR HO.out.1 (by omega);subst hg;obtain⟨ak,ck,hx,OA⟩:=HO.out.2.1 k hkt;have s0:=iC _ _ hx;have WT:=(CB.out.cell (p:=⟨g,k,none⟩) dn).trans s0;have OD:=HO.out.2.2 _ (bK hkt);have QZ:=bT OD (aN OA CB.out);have Fa:=ae OA;have AY:Hid (∀i,i<els.length->∃(o:Bool) (l:Int),(kr els sels[k] sels[k].length)[i]?=some o/\(bW els sels k)[i]?=some l/\(bW els sels (k+1))[i]?=some (if o=true/\l<(kI sels[k]:Int) then(kI sels[k]:Int) else l)):=λi hi=>Oh hkt hi OD.some;have Si:=fW els sels k;have Oo:=fW els sels (k+1);have hwb:kI sels[k]<=160000000000:=by have h1:=I7 sels[k];have h2:=OD.few;omega
     have hol:=rX (els:=els) (cs:=sels[k]) OD.some;clear iC hx OA OD;generalize sels[k]=sel at s0 WT QZ Fa AY hwb hol;generalize pJ:bW els sels (k+1)=m1 at AY Oo;have HK1:=ae pJ;clear pJ;generalize bW els sels k=m0 at HN AY Si;have A7:Hid (RD wr d els made hp vT bi (.slice aL els.length cL)):=HR.out.1.below (by rw[Ud];exact HN.out.below);go_wp2_with fail;refine(DV wr d els made hp vT bi _ A7.out rk HR.out.2.1 HR.out.2.2 an ak ck sel QZ.out.2 QZ.out.1.ok QZ.out.1.few).mono ?_;rintro e w2 ⟨a2,c2,rfl,L4,dq⟩;have e9:Hid (HI W0 (w.heap.size+1) w2 (w.heap.size+1) els.length m0):=HN.out.go (by omega) dq;have zk:=ae L4;have eD:=ae (CB.out.trans (dq.mono CB.out.size));have HWT:Hid (∀j,Calls prog 89 #[.pointer hp,.slice ak sel.length ck] (w2.drewN j) λe w'=>e=.returned (.int .i64 (kI sel))/\∃m,w'=w2.drewN m):=λj=>(Lg _ hp an ak ck sel (aN Fa.out (eD.out.trans ((du w2 j).mono eD.out.size))) QZ.out.1.ok QZ.out.1.few).mono λ_ _ ⟨he,i,hi⟩=>⟨he,j+i,by rw[hi,World.drewN_drewN]⟩;have t0:w2.cell? ⟨d,0,none⟩=some (.pointer hp):=aa (A7.out.below dq).doc rfl;have r2:w2.cell? ⟨w.heap.size,1,none⟩=some (.slice (some ⟨g,0,none⟩) sels.length c):=(dq.cell (p:=⟨w.heap.size,1,none⟩) (by show w.heap.size<wr.heap.size;omega)).trans r1;have s2:=(dq.cell (p:=⟨g,k,none⟩) (by show g<wr.heap.size;omega)).trans WT;have Z7:(k:Int)<(sels.length:Int):=by omega
     clear L4 s0 WT r1 dq HN A7;go_upto_region 10 with fail;go_quiet ((go_at_call 89;exact(HWT.out _)));have og:Hid (HI W0 (w.heap.size+1) (w2.drewN nq) (w.heap.size+1) els.length (o9 m0 m1 0)):=e9.out.go (by have:=e9.out.below.size;omega) (du w2 nq);have QV:=ae (aN zk.out (du w2 nq));generalize w2.drewN nq=w3 at og QV ⊢;clear t0 r2 s2 HWT e9 zk eD QZ Fa;have Xp:Hid (∀j,(Value.slice a2 (kr els sel sel.length).length c2).ownBlock=some j->j≠w.heap.size+1):=λj hj e=>by have h1:=(QV.out.lt j hj).1;omega
     generalize kr els sel sel.length=on at QV AY hol Xp ⊢;generalize kI sel=ws at AY hwb ⊢;go_wp2_with fail
     go_loopg [10] els.length (λJY iv wq=>∃i:Nat,iv=.int .i64 i/\i<=els.length/\els.length - i<=JY/\Hid (HI W0 (w.heap.size+1) wq (w.heap.size+1) els.length (o9 m0 m1 i)/\wq.ownsRow 0 4 1 (.slice a2 on.length c2) on.length (hE on)))
     case atStart=>exact⟨0,rfl,aZ,by omega,og.out,aP QV.out aZ⟩
     case round=>
      obtain⟨i,rfl,Z2,rG,HJ⟩:=hrel
      by_cases hit:i<els.length
      ·have yw:decide ((i:Int)<(els.length:Int))=true:=by simp;omega
       obtain⟨o,l,T6,DA,yx⟩:=AY.out i hit;have q:=HJ.out.1.row.cellAt i (by omega);rw[List.getElem?_map,OQ Oo hit,DA] at q;have qz:=HJ.out.1.row.frozenAt i;obtain⟨gO,hgO,_,hoc⟩:=aR HJ.out.2 (by omega);subst hgO;have q2:=hoc i (.bool o) (by rw[List.getElem?_map,T6];rfl);have hio:(i:Int)<(on.length:Int):=by omega
       clear hoc
       by_cases hc:o=true/\l<(ws:Int)
       ·obtain⟨rfl,hlw⟩:=hc;have Cp:m1[i]?=some (ws:Int):=by rw[yx,aq ⟨rfl,hlw⟩]
        have gl:decide (l<(ws:Int))=true:=by simpa using hlw
        have qU:Hid (HI W0 (w.heap.size+1) (wr.setCell ⟨w.heap.size+1,i,none⟩ (.int .i64 (ws:Int))) (w.heap.size+1) els.length (o9 m0 m1 (i+1))/\(wr.setCell ⟨w.heap.size+1,i,none⟩ (.int .i64 (ws:Int))).ownsRow 0 4 1 (.slice (some ⟨gO,0,none⟩) on.length c2) on.length (hE on)):=by
         refine⟨?_,bj HJ.out.2 (λe=>Xp.out _ e rfl) _⟩;have:=HJ.out.1.set i (ws:Int);rw[Iz Si Oo hit Cp] at this;exact this
        clear HJ yx Cp T6 DA hlw;go_wp2;go_roundg (els.length - (i+1))
        case measure=>omega
        case rel=>exact⟨i+1,by go_num,by omega,au,qU⟩
       ·have Cp:m1[i]?=some l:=by rw[yx,aj hc]
        have qU:Hid (HI W0 (w.heap.size+1) wr (w.heap.size+1) els.length (o9 m0 m1 (i+1))/\wr.ownsRow 0 4 1 (.slice (some ⟨gO,0,none⟩) on.length c2) on.length (hE on)):=by
         refine⟨?_,HJ.out.2⟩;rw[<-OR Si Oo hit (Cp.trans DA.symm)];exact HJ.out.1
        cases o with
        | false=>
         clear HJ yx Cp T6 DA hc;go_wp2;go_roundg (els.length - (i+1))
         case measure=>omega
         case rel=>exact⟨i+1,by go_num,by omega,au,qU⟩
        | true=>
         have gl:decide (l<(ws:Int))=false:=by simpa using hc
         clear HJ yx Cp T6 DA hc;go_wp2;go_roundg (els.length - (i+1))
         case measure=>omega
         case rel=>exact⟨i+1,by go_num,by omega,au,qU⟩
      ·have yw:decide ((i:Int)<(els.length:Int))=false:=by simp;omega
       obtain rfl:i=els.length:=by omega
       have HF:Hid (HI W0 (w.heap.size+1) wr (w.heap.size+1) els.length (bW els sels (k+1))):=by
        have:=HJ.out.1;rw[Ix Si Oo] at this;rw[HK1.out];exact this
       clear HJ;go_wp2;go_roundg (sels.length - (k+1))
       case measure=>omega
       case rel=>exact⟨k+1,by go_num,by omega,au,HF⟩
    ·have iR:decide ((k:Int)<(sels.length:Int))=false:=by simp;omega
     obtain rfl:k=sels.length:=by omega
     have HF:Hid (TE w (bW els sels sels.length) (.returned (.slice (some ⟨w.heap.size+1,0,none⟩) els.length els.length)) wr):=by
      refine⟨some ⟨w.heap.size+1,0,none⟩,els.length,by rw[fW],?_,od.out.trans (HN.out.below.mono (Nat.le_succ _))⟩;rw[fW];exact aP HN.out.row (Nat.le_succ _)
     have r1:wr.cell? ⟨w.heap.size,1,none⟩=some (.slice a sels.length c):=(HN.out.below.cell (p:=⟨w.heap.size,1,none⟩) (Nat.lt_succ_self _)).trans (aa qT.out rfl);go_wp2;go_ret;exact HF.out
end
section
variable {i j n p:Nat}{w wr:World}
structure Cl where
 d:ea
 ly:Int
 hv:Int
 no:Int
def oJ:Cl:=⟨⟨0,⟨#[]⟩,false⟩,0,0,0⟩
def tc (c:Cl):Nat->Value
 | 0=>.int .u8 c.d.pr
 | 1=>.string c.d.val
 | 2=>.bool c.d.must
 | 3=>.int .i64 c.ly
 | 4=>.int .i64 c.hv
 | _=>.int .i64 c.no
abbrev Zt (c:Cl):List Value:=[.int .u8 c.d.pr,.string c.d.val,.bool c.d.must,.int .i64 c.ly,.int .i64 c.hv,.int .i64 c.no]
def yo (a b:Cl):Bool:=nC a.d.must a.ly a.hv a.no b.d.must b.ly b.hv b.no
abbrev pZ:=Nat->Nat->ByteArray × Cl
def tT (hi:Int)(c:Cl)(o:ByteArray × Cl):ByteArray × Cl:=
 if hi<0 then o else if o.1.size=0∨yo {c with hv:=hi} o.2=true then(c.d.val,{c with hv:=hi}) else o
def iM (S:pZ)(c:Cl)(hv:Nat->Int)(p k:Nat):pZ:=λi q=>if i<k/\q=p then tT (hv i) c (S i q) else S i q
theorem G6 (S:pZ)(c:Cl)(hv:Nat->Int)(p:Nat):iM S c hv p 0=S:=by
 funext i q;unfold iM;rw[aj (by omega)]
def gf (S:pZ)(i p:Nat)(x:ByteArray × Cl):pZ:=λi' p'=>if i'=i/\p'=p then x else S i' p'
theorem P7 (S:pZ)(c:Cl)(hv:Nat->Int)(p k:Nat):iM S c hv p k k p=S k p:=by
 unfold iM;rw[aj (by omega)]
theorem G5 (S:pZ)(c:Cl)(hv:Nat->Int)(p k:Nat):iM S c hv p (k+1)=gf (iM S c hv p k) k p (tT (hv k) c (S k p)):=by
 funext i q;unfold gf iM
 by_cases h:i=k/\q=p
 ·obtain⟨rfl,rfl⟩:=h;rw[aq ⟨by omega,rfl⟩,aq ⟨rfl,rfl⟩]
 ·rw[aj h]
  by_cases h2:i<k/\q=p
  ·rw[aq ⟨by omega,h2.2⟩,aq h2]
  ·rw[aj h2,aj (λh3=>h2 ⟨Nat.lt_of_le_of_ne (by omega) (λe=>h ⟨e,h3.2⟩),h3.2⟩)]
theorem uA (S:pZ)(i p:Nat):gf S i p (S i p)=S:=by
 funext i' p';unfold gf;split
 ·rename_i h;rw[h.1,h.2]
 ·rfl
structure eA where
 ly:Int
 sels:List (List RComp)
 dl:List ea
def KS (c:Nat):Nat:=(fu c).getD 9
def pF (n:Nat)(hv:Nat->Int)(ly:Int)(dl:List ea)(n0:Nat)(S:pZ):Nat->pZ
 | 0=>S
 | d+1=>match dl[d]? with
  | none=>pF n hv ly dl n0 S d
  | some x=>iM (pF n hv ly dl n0 S d) ⟨x,ly,0,((n0+d+1:Nat):Int)⟩ hv (KS x.pr) n
def lK (rs:List eA):Nat->Nat
 | 0=>0
 | r+1=>lK rs r+(rs[r]?.map λx=>x.dl.length).getD 0
noncomputable def sA (els:List REl)(rs:List eA):Nat->pZ
 | 0=>λ_ _=>(⟨#[]⟩,oJ)
 | r+1=>match rs[r]? with
  | none=>sA els rs r
  | some x=>pF els.length (λi=>(bW els x.sels x.sels.length)[i]?.getD 0) x.ly x.dl (lK rs r) (sA els rs r) x.dl.length
noncomputable def Lt (els:List REl)(rs:List eA)(i p:Nat):ByteArray:=(sA els rs rs.length i p).1
def oO (S:pZ)(n:Nat):List Value:=(List.range (n*54)).map λj=>tc (S (j / 54) (j / 6 % 9)).2 (j % 6)
def lQ (S:pZ)(n:Nat):List Value:=(List.range (n*9)).map λj=>Value.string (S (j / 9) (j % 9)).1
theorem gJ (S:pZ)(n:Nat):(oO S n).length=n*54:=by simp[oO]
theorem kV (S:pZ)(n:Nat):(lQ S n).length=n*9:=by simp[lQ]
theorem tj {S:pZ}(h:j<n*54):(oO S n)[j]?=some (tc (S (j / 54) (j / 6 % 9)).2 (j % 6)):=by
 unfold oO;rw[List.getElem?_map,List.getElem?_range h];rfl
theorem pI {S:pZ}(h:j<n*9):(lQ S n)[j]?=some (.string (S (j / 9) (j % 9)).1):=by
 unfold lQ;rw[List.getElem?_map,List.getElem?_range h];rfl
theorem Dg {S:pZ}{r:Nat}(hi:i<n)(hp:p<9)(hr:r<6):(oO S n)[i*54+p*6+r]?=some (tc (S i p).2 r):=by
 rw[tj (by omega),show(i*54+p*6+r) / 54=i from by omega,show(i*54+p*6+r) / 6 % 9=p from by omega,show(i*54+p*6+r) % 6=r from by omega]
theorem Dh {S:pZ}(hi:i<n)(hp:p<9):(lQ S n)[i*9+p]?=some (.string (S i p).1):=by
 rw[pI (by omega),show(i*9+p) / 9=i from by omega,show(i*9+p) % 9=p from by omega]
theorem Di (S:pZ)(n:Nat):lQ S n=lR (λi p=>(S i p).1) n:=by
 apply List.ext_getElem?;intro j
 by_cases h:j<n*9
 ·have h2:=Dj (λi p=>(S i p).1) (n:=n) (i:=j / 9) (p:=j % 9) (by omega) (by omega);rw[show j / 9*9+j % 9=j from by omega] at h2;rw[pI h,h2]
 ·rw[List.getElem?_eq_none (by rw[kV];omega),List.getElem?_eq_none (by rw[zK];omega)]
theorem JT {S:pZ}(hp:p<9)(v:ByteArray)(c:Cl):(lQ S n).set (i*9+p) (.string v)=lQ (gf S i p (v,c)) n:=by
 apply List.ext_getElem?;intro j
 by_cases h:j<n*9
 ·rw[pI h]
  by_cases he:i*9+p=j
  ·subst he;rw[List.getElem?_set_self (by rw[kV];omega)];unfold gf;rw[aq ⟨by omega,by omega⟩]
  ·rw[List.getElem?_set_ne he,pI h];unfold gf;rw[aj (by omega)]
 ·rw[List.getElem?_eq_none (by rw[List.length_set,kV];omega),List.getElem?_eq_none (by rw[kV];omega)]
theorem JR {S:pZ}(hp:p<9)(v:ByteArray)(c:Cl):
  ((((((oO S n).set (i*54+p*6) (.int .u8 c.d.pr)).set (i*54+p*6+1) (.string c.d.val)).set (i*54+p*6+2) (.bool c.d.must)).set (i*54+p*6+3) (.int .i64 c.ly)).set (i*54+p*6+4) (.int .i64 c.hv)).set (i*54+p*6+5) (.int .i64 c.no)=oO (gf S i p (v,c)) n:=by
 apply List.ext_getElem?;intro j
 by_cases h:j<n*54
 ·rw[tj h]
  by_cases he:j / 54=i/\j / 6 % 9=p
  ·have DJ:gf S i p (v,c) (j / 54) (j / 6 % 9)=(v,c):=by unfold gf;rw[aq he]
   rw[DJ];have h6:j % 6=0∨j % 6=1∨j % 6=2∨j % 6=3∨j % 6=4∨j % 6=5:=by omega
   rcases h6 with h6 | h6 | h6 | h6 | h6 | h6<;>rw[h6]
   ·obtain rfl:j=i*54+p*6:=by omega
    rw[List.getElem?_set_ne (by omega),List.getElem?_set_ne (by omega),List.getElem?_set_ne (by omega),List.getElem?_set_ne (by omega),List.getElem?_set_ne (by omega),List.getElem?_set_self (by simp only[gJ];omega)];rfl
   ·obtain rfl:j=i*54+p*6+1:=by omega
    rw[List.getElem?_set_ne (by omega),List.getElem?_set_ne (by omega),List.getElem?_set_ne (by omega),List.getElem?_set_ne (by omega),List.getElem?_set_self (by simp only[List.length_set,gJ];omega)];rfl
   ·obtain rfl:j=i*54+p*6+2:=by omega
    rw[List.getElem?_set_ne (by omega),List.getElem?_set_ne (by omega),List.getElem?_set_ne (by omega),List.getElem?_set_self (by simp only[List.length_set,gJ];omega)];rfl
   ·obtain rfl:j=i*54+p*6+3:=by omega
    rw[List.getElem?_set_ne (by omega),List.getElem?_set_ne (by omega),List.getElem?_set_self (by simp only[List.length_set,gJ];omega)];rfl
   ·obtain rfl:j=i*54+p*6+4:=by omega
    rw[List.getElem?_set_ne (by omega),List.getElem?_set_self (by simp only[List.length_set,gJ];omega)];rfl
   ·obtain rfl:j=i*54+p*6+5:=by omega
    rw[List.getElem?_set_self (by simp only[List.length_set,gJ];omega)];rfl
  ·have DJ:gf S i p (v,c) (j / 54) (j / 6 % 9)=S (j / 54) (j / 6 % 9):=by unfold gf;rw[aj he]
   rw[DJ,List.getElem?_set_ne (by omega),List.getElem?_set_ne (by omega),List.getElem?_set_ne (by omega),List.getElem?_set_ne (by omega),List.getElem?_set_ne (by omega),List.getElem?_set_ne (by omega),tj h]
 ·rw[List.getElem?_eq_none (by simp only[List.length_set,gJ];omega),List.getElem?_eq_none (by rw[gJ];omega)]
def zB:Array Value:=((List.range 54).map λr=>tc oJ (r % 6)).toArray
def zT:Array Value:=((List.range 9).map λ_=>Value.string ⟨#[]⟩).toArray
theorem Jb:zB.size=54:=rfl
theorem Jc:zT.size=9:=rfl
theorem Tryz.info236:(Tryz.prog.info? 236).map (λi=>(i.zero,i.size,i.bytes))=some (some (.agg zB),54,504):=by kernel_rfl
theorem Tryz.infoq234:(Tryz.prog.info? 234).map (λi=>(i.zero,i.size,i.bytes))=some (some (.agg zT),9,144):=by kernel_rfl
theorem Gx (n:Nat):(madeCells zB (n*54)).toList=oO (λ_ _=>(⟨#[]⟩,oJ)) n:=by
 unfold madeCells oO;rw[Array.toList_map,Array.toList_range];apply List.map_congr_left;intro j _;have hj:j % 54<zB.size:=by rw[Jb];omega
 have h2:zB[j % 54]?=some (tc oJ (j % 6)):=by
  unfold zB;rw[List.getElem?_toArray,List.getElem?_map,List.getElem?_range (by omega),<-show j % 54 % 6=j % 6 from by omega];rfl
 rw[Jb,getElem!_pos zB (j % 54) hj];exact(bx.1 h2).2
theorem Gy (n:Nat):(madeCells zT (n*9)).toList=lQ (λ_ _=>(⟨#[]⟩,oJ)) n:=by
 unfold madeCells lQ;rw[Array.toList_map,Array.toList_range];apply List.map_congr_left;intro j _;have hj:j % 9<zT.size:=by rw[Jc];omega
 have h2:zT[j % 9]?=some (.string ⟨#[]⟩):=by
  unfold zT;rw[List.getElem?_toArray,List.getElem?_map,List.getElem?_range (by omega)];rfl
 rw[Jc,getElem!_pos zT (j % 9) hj];exact(bx.1 h2).2
theorem Kt (w:World)(an n:Nat)(hb:an<=w.heap.size)(hn:n<=24):(w.alloc (.cells (madeCells zB (n*54)) 236)).ownsRow an 236 54 (.slice (some ⟨w.heap.size,0,none⟩) n n) n (oO (λ_ _=>(⟨#[]⟩,oJ)) n):=
 ⟨gJ _ _,ai ⟨w.heap.size,n,madeCells zB (n*54),rfl,hb,heap_alloc_new w _,au,by unfold maxLen;omega,size_madeCells _ _,by rw[Gx,List.take_of_length_le (by rw[gJ];exact au)]⟩⟩
theorem Kv (w:World)(an n:Nat)(hb:an<=w.heap.size)(hn:n<=24):(w.alloc (.cells (madeCells zT (n*9)) 234)).ownsRow an 234 9 (.slice (some ⟨w.heap.size,0,none⟩) n n) n (lQ (λ_ _=>(⟨#[]⟩,oJ)) n):=
 ⟨kV _ _,ai ⟨w.heap.size,n,madeCells zT (n*9),rfl,hb,heap_alloc_new w _,au,by unfold maxLen;omega,size_madeCells _ _,by rw[Gy,List.take_of_length_le (by rw[kV];exact au)]⟩⟩
structure TB (w:World)(n:Nat)(wr:World)(S:pZ):Prop where
 out:wr.ownsRow w.heap.size 234 9 (.slice (some ⟨w.heap.size,0,none⟩) n n) n (lQ S n)
 best:wr.ownsRow w.heap.size 236 54 (.slice (some ⟨w.heap.size+1,0,none⟩) n n) n (oO S n)
 below:Below w.heap.size w wr
theorem TB.far {S:pZ}(h:TB w n wr S):w.heap.size+2<=wr.heap.size:=by
 have:=(h.best.lt (w.heap.size+1) rfl).2;omega
theorem TB.go {S:pZ}(h:TB w n wr S){w':World}(hB:Below wr.heap.size wr w'):TB w n w' S:=
 ⟨aN h.out hB,aN h.best hB,h.below.trans (hB.mono h.below.size)⟩
theorem TB.put {S:pZ}(h:TB w n wr S){b:Nat}(hb:w.heap.size+1<b)(k:Nat)(u:Value):TB w n (wr.setCell ⟨b,k,none⟩ u) S:=
 ⟨bj h.out (λe=>by simp[Value.ownBlock] at e;omega) _,bj h.best (λe=>by simp[Value.ownBlock] at e;omega) _,h.below.setCell (by show w.heap.size<=b;omega) _⟩
theorem TB.setBest {S:pZ}(h:TB w n wr S)(hi:i<n)(hp:p<9)(v:ByteArray)(c:Cl):
  wr.there (w.heap.size+1) (i*54+p*6) 6/\TB w n ((wr.setCells (w.heap.size+1) (i*54+p*6) (Zt c)).setCell ⟨w.heap.size,i*9+p,none⟩ (.string v)) (gf S i p (v,c))/\
   (wr.setCells (w.heap.size+1) (i*54+p*6) (Zt c)).cell? ⟨w.heap.size,i*9+p,none⟩=some (.string (S i p).1)/\(wr.setCells (w.heap.size+1) (i*54+p*6) (Zt c)).frozen? ⟨w.heap.size,i*9+p,none⟩=false:=by
 have hb:=(((((((h.best.stored (i*54+p*6) (.int .u8 c.d.pr)).1).stored (i*54+p*6+1) (.string c.d.val)).1.stored (i*54+p*6+2) (.bool c.d.must)).1.stored (i*54+p*6+3) (.int .i64 c.ly)).1.stored (i*54+p*6+4) (.int .i64 c.hv)).1.stored (i*54+p*6+5) (.int .i64 c.no)).1;rw[JR hp v c] at hb;have ho:∀{wq:World},wq.ownsRow w.heap.size 234 9 (.slice (some ⟨w.heap.size,0,none⟩) n n) n (lQ S n)->∀k u,(wq.setCell ⟨w.heap.size+1,k,none⟩ u).ownsRow w.heap.size 234 9 (.slice (some ⟨w.heap.size,0,none⟩) n n) n (lQ S n):=λhq k u=>bj hq (λe=>by simp[Value.ownBlock] at e) _;have DE:=ho (ho (ho (ho (ho (ho h.out (i*54+p*6) (.int .u8 c.d.pr)) (i*54+p*6+1) (.string c.d.val)) (i*54+p*6+2) (.bool c.d.must)) (i*54+p*6+3) (.int .i64 c.ly)) (i*54+p*6+4) (.int .i64 c.hv)) (i*54+p*6+5) (.int .i64 c.no);have jF:∀{wq:World},Below w.heap.size w wq->∀k u,Below w.heap.size w (wq.setCell ⟨w.heap.size+1,k,none⟩ u):=λhq k u=>hq.setCell (by show w.heap.size<=w.heap.size+1;omega) _;have acX:=jF (jF (jF (jF (jF (jF h.below (i*54+p*6) (.int .u8 c.d.pr)) (i*54+p*6+1) (.string c.d.val)) (i*54+p*6+2) (.bool c.d.must)) (i*54+p*6+3) (.int .i64 c.ly)) (i*54+p*6+4) (.int .i64 c.hv)) (i*54+p*6+5) (.int .i64 c.no);refine⟨λj hj=>⟨?_,h.best.frozenAt _⟩,⟨?_,?_,?_⟩,?_,?_⟩
 ·rw[h.best.cellAt _ (by omega),Dg hi hp hj];rfl
 ·have:=(DE.stored (i*9+p) (.string v)).1;rw[JT hp v c] at this;exact this
 ·exact bj hb (λe=>by simp[Value.ownBlock] at e) _
 ·exact acX.setCell au _
 ·exact(DE.cellAt _ (by omega)).trans (Dh hi hp)
 ·exact DE.frozenAt _
end
section
variable {S:pZ}{ah:Option Addr}{b9 ch n:Nat}{c:Cl}{l:List Int}{w w' wq:World}
def RuM (w:World)(xs:List Value)(r:Nat)(x:eA):Prop:=
 ∃(aS:Option Addr) (cS:Nat) (aD:Option Addr) (cD:Nat) (ys:List Value),xs[r*3]?=some (.int .i64 x.ly)/\xs[r*3+1]?=some (.slice aS x.sels.length cS)/\xs[r*3+2]?=some (.slice aD x.dl.length cD)/\
  w.ownsRow 0 166 1 (.slice aS x.sels.length cS) x.sels.length ys/\SelsM w 0 ys x.sels/\w.ownsRow 0 229 3 (.slice aD x.dl.length cD) x.dl.length (lg x.dl)
structure MA (x:eA):Prop where
 sels:x.sels.length<=400
 sok:∀y∈x.sels,Hu y
 few:x.dl.length<=400
 dok:∀d∈x.dl,∃q,fu d.pr=some q/\q<9
def ShM (w:World)(hp:Option Addr)(rs:List eA):Prop:=
 ∃(b:Nat) (a:Option Addr) (c:Nat) (xs:List Value) (mn:Int),hp=some ⟨b,0,none⟩/\Sh w b (.slice a rs.length c) mn/\w.ownsRow 0 164 3 (.slice a rs.length c) rs.length xs/\∀r (h:r<rs.length),RuM w xs r rs[r]
theorem SelsM.below {an:Nat}{xs:List Value}{sels:List (List RComp)}(h:SelsM w an xs sels)(hB:Below w.heap.size w w'):SelsM w' an xs sels:=λi hi=>by
 obtain⟨a,c,h1,h2⟩:=h i hi;exact⟨a,c,h1,aN h2 hB⟩
def TF (w:World)(els:List REl)(rs:List eA)(e:Ending)(w':World):Prop:=
 e=.returned (.slice (some ⟨w.heap.size,0,none⟩) els.length els.length)/\w'.ownsRow w.heap.size 234 9 (.slice (some ⟨w.heap.size,0,none⟩) els.length els.length) els.length (lR (Lt els rs) els.length)/\Below w.heap.size w w'
structure TH (w:World)(n:Nat)(wq:World)(S:pZ)(ah:Option Addr)(ch:Nat)(l:List Int):Prop where
 tb:TB w n wq S
 hv:wq.ownsRow (w.heap.size+2) 3 1 (.slice ah l.length ch) l.length (oX l)
theorem TH.go (h:TH w n wq S ah ch l)(hB:Below wq.heap.size wq w'):TH w n w' S ah ch l:=⟨h.tb.go hB,aN h.hv hB⟩
structure TI (w:World)(n:Nat)(wq:World)(S:pZ)(ah:Option Addr)(ch:Nat)(l:List Int)(b9:Nat)(c:Cl):Prop where
 th:TH w n wq S ah ch l
 blk:∃h4:Int,wq.heap[b9]?=some (.cells #[.int .u8 c.d.pr,.string c.d.val,.bool c.d.must,.int .i64 c.ly,.int .i64 h4,.int .i64 c.no] 233 (0,0))
 far:w.heap.size+2<=b9
 ne:(Value.slice ah l.length ch).ownBlock≠some b9
theorem TI.setH (h:TI w n wq S ah ch l b9 c)(x:Int):
  TI w n (wq.setCell ⟨b9,4,none⟩ (.int .i64 x)) S ah ch l b9 c/\(wq.setCell ⟨b9,4,none⟩ (.int .i64 x)).heap[b9]?=some (.cells #[.int .u8 c.d.pr,.string c.d.val,.bool c.d.must,.int .i64 c.ly,.int .i64 x,.int .i64 c.no] 233 (0,0)):=by
 obtain⟨h4,hb⟩:=h.blk;have hf:=h.far
 have mU:(wq.setCell ⟨b9,4,none⟩ (.int .i64 x)).heap[b9]?=some (.cells #[.int .u8 c.d.pr,.string c.d.val,.bool c.d.must,.int .i64 c.ly,.int .i64 x,.int .i64 c.no] 233 (0,0)):=by
  rw[aF hb];rfl
 exact⟨⟨⟨h.th.tb.put (by omega) _ _,bj h.th.hv h.ne _⟩,⟨x,mU⟩,hf,h.ne⟩,mU⟩
theorem TI.go (h:TI w n wq S ah ch l b9 c)(hB:Below wq.heap.size wq w'):TI w n w' S ah ch l b9 c:=by
 obtain⟨h4,hb⟩:=h.blk;exact⟨h.th.go hB,⟨h4,(hB.block _ (bx.1 hb).1).trans hb⟩,h.far,h.ne⟩
theorem TI.tab {S':pZ}(h:TI w n wq S ah ch l b9 c)(hS:S=S'):TI w n wq S' ah ch l b9 c:=by rw[<-hS];exact h
theorem TI.win (h:TI w n wq S ah ch l b9 c){i p:Nat}(hi:i<n)(hp:p<9)(v:ByteArray)(c':Cl):
  TI w n ((wq.setCells (w.heap.size+1) (i*54+p*6) (Zt c')).setCell ⟨w.heap.size,i*9+p,none⟩ (.string v)) (gf S i p (v,c')) ah ch l b9 c:=by
 obtain⟨h4,hb⟩:=h.blk;have hf:=h.far;have VJ:∀k,k<=w.heap.size+1->(Value.slice ah l.length ch).ownBlock≠some k:=λk hk e=>by have:=(h.th.hv.lt k e).1;omega
 have h1:∀{wx:World},wx.ownsRow (w.heap.size+2) 3 1 (.slice ah l.length ch) l.length (oX l)->∀k u,(wx.setCell ⟨w.heap.size+1,k,none⟩ u).ownsRow (w.heap.size+2) 3 1 (.slice ah l.length ch) l.length (oX l):=λhx k u=>bj hx (VJ _ au) u;have h2:∀{wx:World} {cs:Array Value},wx.heap[b9]?=some (.cells cs 233 (0,0))->∀k u,(wx.setCell ⟨w.heap.size+1,k,none⟩ u).heap[b9]?=some (.cells cs 233 (0,0)):=λhx k u=>(Below.heap_setCell _ _ _ _ (by show b9≠w.heap.size+1;omega)).trans hx;refine⟨⟨(h.th.tb.setBest hi hp v c').2.1,bj (h1 (h1 (h1 (h1 (h1 (h1 h.th.hv _ _) _ _) _ _) _ _) _ _) _ _) (VJ w.heap.size (by omega)) _⟩,⟨h4,?_⟩,hf,h.ne⟩;exact(Below.heap_setCell _ _ _ _ (by show b9≠w.heap.size;omega)).trans (h2 (h2 (h2 (h2 (h2 (h2 hb _ _) _ _) _ _) _ _) _ _) _ _)
end
section
variable {j k:Nat}{l:List Nat}{s t:ByteArray}{y:REl}
structure RM (els:List REl)(M:Nat->Mk):Prop where
 kd:∀y∈els,aG y.kd=true/\(M y.num).kd=bt y.kd 0
 cl:∀y∈els,∀c,sI c y.cl=(decide (97<=c/\c<=122)&&(M y.num).cl (c - 97))
 nm:∀y∈els,(y.nm.size=0/\(M y.num).nm=0)∨(aG y.nm=true/\(M y.num).nm=bt y.nm 0)
theorem Ac (hn:l.Nodup)(hj:l[j]?=some k):∀i,iS l k i=if j<i then j+1 else 0
 | 0=>by rw[aj (by omega)];rfl
 | i+1=>by
  unfold iS
  by_cases h:(l[i]?.map λk:Nat=>(k:Int))=some (k:Int)
  ·rw[aq h]
   have h1:l[i]?=some k:=by
    cases hl:l[i]? with
    | none=>rw[hl] at h;cases h
    | some x=>
     rw[hl] at h;have h':(x:Int)=(k:Int):=Option.some.inj h;rw[show x=k from by omega]
   have h2:i=j:=by
    obtain⟨hi,e1⟩:=dY.1 h1;obtain⟨uQ,e2⟩:=dY.1 hj;rcases Nat.lt_trichotomy i j with h3 | h3 | h3
    ·exact absurd (e1.trans e2.symm) (List.pairwise_iff_getElem.1 hn i j hi uQ h3)
    ·exact h3
    ·exact absurd (e2.trans e1.symm) (List.pairwise_iff_getElem.1 hn j i uQ hi h3)
   rw[aq (by omega),h2]
  ·rw[aj h,Ac hn hj i];have h2:i≠j:=λe=>h (by rw[e,hj];rfl)
   by_cases h3:j<i
   ·rw[aq h3,aq (by omega)]
   ·rw[aj h3,aj (by omega)]
theorem E3 (hn:l.Nodup)(hj:l[j]?=some k):(l.takeWhile λ(x:Nat)=>decide (¬(x:Int)=(k:Int)))=l.take j/\(l.dropWhile λ(x:Nat)=>decide (¬(x:Int)=(k:Int)))=l.drop j:=by
 induction l generalizing j with
 | nil=>simp at hj
 | cons y l ih=>
  rw[List.nodup_cons] at hn;rw[List.takeWhile_cons,List.dropWhile_cons];cases j with
  | zero=>
   have h1:y=k:=by simpa using hj
   rw[h1];simp
  | succ j=>
   have h1:l[j]?=some k:=by simpa using hj
   have h2:decide (¬(y:Int)=(k:Int))=true:=by
    rw[bF];intro e;exact hn.1 (by rw[show y=k from by omega];exact List.mem_of_getElem? h1)
   obtain⟨h3,h4⟩:=ih hn.2 h1;rw[h2,aq rfl,aq rfl,h3,h4];exact⟨rfl,rfl⟩
section
variable {els:List REl}{made:Nat}{M:Nat->Mk}
theorem jK (h:y∈els):(y.num,y.kids)∈aK els:=bm.2 ⟨y,h,rfl⟩
theorem xl (h:(k,l)∈aK els):∃y∈els,y.num=k/\y.kids=l:=by
 obtain⟨y,hy,he⟩:=bm.1 h;injection he with h1 h2
 exact⟨y,hy,h1,h2⟩
theorem nK (hw:TW (aK els) made)(h:y∈els):bw (aK els) y.num=some y.kids:=dZ hw.nums (jK h)
theorem D0 (T:aJ):bw T (-1)=none:=by
 unfold bw;rw[List.find?_eq_none.2 (λx _=>by simp)];rfl
theorem tP (hw:TW (aK els) made)(hy:y∈els):((cR els y.num).1:Int)=((dG (aK els) y.num).length:Int)+1/\(decide ((cR els y.num).1=(cR els y.num).2)=qe (aK els) y.num):=by
 have hf:=nK hw hy;unfold cR dG qe;rw[hf,Option.isSome_some,aq rfl,Bool.true_and,<-dV]
 by_cases h0:y.num=0
 ·have hp:aY (aK els) y.num=-1:=by rw[h0];exact hw.root_par
  rw[hp,aq (by decide)];unfold ec;rw[D0];exact⟨rfl,rfl⟩
 ·obtain⟨q,hq,hm,hp⟩:=hw.up (jK hy) h0;rw[hp,aj (by omega)];obtain⟨z,hz,gK,nE⟩:=xl (k:=q.1) (l:=q.2) hq
  have ft:bJ els (q.1:Int)=some z∨∃z',bJ els (q.1:Int)=some z'/\z'.kids=q.2:=by
   have h1:=rp els (q.1:Int);rw[dZ hw.nums hq] at h1;cases hfz:bJ els (q.1:Int) with
   | none=>rw[hfz] at h1;cases h1
   | some z'=>
    rw[hfz] at h1;injection h1 with h1
    exact ai ⟨z',rfl,h1.symm⟩
  have hk:ec (aK els) (q.1:Int)=q.2:=by unfold ec;rw[dZ hw.nums hq];rfl
  have T4:=hw.kdup q hq;obtain⟨j,hj,hje⟩:=List.getElem_of_mem hm;have uQ:q.2[j]?=some y.num:=by rw[bO hj,hje]
  obtain⟨w1,w2⟩:=E3 T4 uQ
  have nF:∀z':REl,z'.kids=q.2->(((iS z'.kids y.num z'.kids.length:Nat):Int)=((((q.2.takeWhile λ(k:Nat)=>decide (¬(k:Int)=(y.num:Int))).map λ(k:Nat)=>(k:Int)).reverse).length:Int)+1)/\(decide (iS z'.kids y.num z'.kids.length=z'.kids.length)=decide ((q.2.dropWhile λ(k:Nat)=>decide (¬(k:Int)=(y.num:Int))).length<=1)):=λz' hz'=>by
   rw[hz',Ac T4 uQ,aq hj,w1,w2,List.length_reverse,List.length_map,List.length_take,List.length_drop];refine⟨by omega,?_⟩;rw[decide_eq_decide];omega
  rw[hk];rcases ft with h1 | ⟨z',h1,h2⟩
  ·rw[h1];exact nF z nE
  ·rw[h1];exact nF z' h2
theorem K9 {at' a b:Nat}:lE at' a b=m9 (at':Int) (a:Int) (b:Int):=by
 rw[Bool.eq_iff_iff,qN];unfold m9 My
 by_cases h:(a:Int)<=0∨(at':Int)<(b:Int)
 ·rw[aq h,beq_iff_eq];constructor
  ·rintro⟨k,hk,he⟩;rcases h with h | h
   ·have:a=0:=by omega
    subst this;omega
   ·have:b<=a*k+b:=Nat.le_add_left _ _;omega
  ·intro e;exact⟨0,aZ,by omega⟩
 ·rw[aj h,beq_iff_eq];have ha:0<a:=by omega
  have hb:b<=at':=by omega
  have hz:((at':Int) - (b:Int))=((at' - b:Nat):Int):=by omega
  rw[hz];constructor
  ·rintro⟨k,hk,he⟩;have h1:at' - b=a*k:=by omega
   rw[h1,Int.natCast_mul,Int.mul_emod_right]
  ·intro e
   have h1:(at' - b) % a=0:=by
    exact_mod_cast e
   refine⟨(at' - b) / a,?_,?_⟩
   ·have:=Nat.div_le_self (at' - b) a;omega
   ·have:=Nat.div_add_mod (at' - b) a;omega
theorem yi (h:s.size=1):s=⟨#[UInt8.ofNat (bt s 0)]⟩:=by
 apply ByteArray.ext;apply Array.ext
 ·exact h
 ·intro i h1 h2
  have:i=0:=by
   have:s.data.size=1:=h;omega
  subst this;show s.data[0]=UInt8.ofNat (bt s 0);rw[bN s 0 (by omega)];simp;rfl
theorem rx:(s.toList==t.toList)=true↔s=t:=by
 rw[beq_iff_eq];constructor
 ·intro h;apply ByteArray.ext;rw[mf,mf] at h;exact Array.toList_inj.1 h
 ·intro h;rw[h]
theorem BQ (h1:s.size=1)(h2:t.size=1):(s.toList==t.toList)=((bt s 0:Int)==(bt t 0:Int)):=by
 rw[Bool.eq_iff_iff,rx,beq_iff_eq];constructor
 ·intro h;rw[h]
 ·intro h;rw[yi h1,yi h2,show bt s 0=bt t 0 from by omega]
end
end
end Go.Proofs.YtblfffbmklkhmaaGreat
