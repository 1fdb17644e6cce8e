/- Own work. -/
import Derived.Test.YtblfffbmklkhmabGreatAl8
set_option maxRecDepth 100000
set_option maxHeartbeats 40000000
namespace Go.Proofs.YtblfffbmklkhmabGreat
open Go.RowKit Go.Proofs.Tryz
section
variable {aB i:Nat}{kl:List (Int × List Int)}{v:Value}{w wr:World}{x:Int × List Int}
def kO (x:Int × List Int):List Value:=.int .i64 x.1 :: aJ x.2
def oK (kl:List (Int × List Int)):List Value:=kl.flatMap kO
theorem xE (h:x.2.length=9):(kO x).length=10:=by
 unfold kO;rw[List.length_cons,List.length_map,h]
theorem xF (x:Int × List Int):∀v∈kO x,v.oneCell'=true:=by
 intro v hv;unfold kO at hv;rcases List.mem_cons.1 hv with rfl | hv
 ·rfl
 ·obtain⟨y,_,rfl⟩:=bx.1 hv;rfl
theorem OL (h:∀x∈kl,x.2.length=9){j:Nat}(hi:i<kl.length)(hj:j<10):(oK kl)[i*10+j]?=(kO kl[i])[j]?:=by
 induction kl generalizing i with
 | nil=>simp at hi
 | cons x l ih=>
  have h1:=xE (h x List.mem_cons_self);unfold oK;rw[List.flatMap_cons];cases i with
  | zero=>
   rw[List.getElem?_append_left (by omega)];simp
  | succ i=>
   rw[List.getElem?_append_right (by omega),h1,show(i+1)*10+j - 10=i*10+j from by omega];have:=ih (λe he=>h e (List.mem_cons_of_mem _ he)) (i:=i) (by simpa using hi);unfold oK at this;rw[this];simp
theorem xj (L:List (Int × List Int))(x:Int × List Int):oK (L++[x])=oK L++kO x:=by simp[oK]
structure KL (w:World)(v:Value)(kl:List (Int × List Int)):Prop where
 row:w.ownsRow 0 197 10 v kl.length (oK kl)
 nine:∀x∈kl,x.2.length=9
theorem KL.below {w':World}(h:KL w v kl)(hB:Below w.heap.size w w'):KL w' v kl:=⟨aY h.row hB,h.nine⟩
theorem KL.shape (h:KL w v kl):∃a c,v=.slice a kl.length c:=aK h.row
theorem Tryz.sizeK:(Tryz.prog.info? 197).map (·.size)=some 10:=by kernel_rfl
theorem Tryz.infoK:∃(i:TypeInfo) (z:Value),Tryz.prog.info? 197=some i/\i.zero=some z/\i.size=10/\i.bytes=80/\z.cells.size=10:=by
 have h:(prog.info? 197).map (λi=>(i.zero.map (·.cells.size),i.size,i.bytes))=some (some 10,10,80):=by kernel_rfl
 cases hq:prog.info? 197 with
 | none=>rw[hq] at h;cases h
 | some i=>
  rw[hq] at h;simp only[Option.map_some,Option.some.injEq,Prod.mk.injEq] at h;cases hz:i.zero with
  | none=>rw[hz] at h;cases h.1
  | some z=>
   rw[hz] at h;simp only[Option.map_some,Option.some.injEq] at h;exact⟨i,z,rfl,hz,h.2.1,h.2.2,h.1⟩
structure KAt (w:World)(g o:Nat)(cs:List Value)(n:Int):Prop where
 rng:w.rangeAt g o cs
 len:cs.length=10
 one:∀v∈cs,v.oneCell'=true
 c0:cs[0]?=some (.int .i64 n)
section
variable {w:World}{g o:Nat}{cs:List Value}{n:Int}
theorem KAt.size (h:KAt w g o cs n):(prog.info? 197).map (·.size)=some cs.length:=by rw[h.len];exact Tryz.sizeK
theorem KAt.size' (h:KAt w g o cs n):(prog.info? 197).map (·.size)=some cs.toArray.size:=by rw[List.size_toArray];exact h.size
theorem KAt.same (h:KAt w g o cs n):10=cs.toArray.size:=by rw[List.size_toArray,h.len]
theorem KAt.all (h:KAt w g o cs n):cs.toArray.all (·.oneCell')=true:=all_oneCell_toArray h.one
theorem KAt.info (h:KAt w g o cs n){m:Nat}(hn:m=10):m=cs.toArray.size:=by rw[hn];exact h.same
theorem KAt.pos (h:KAt w g o cs n):0<cs.toArray.size:=by rw[<-h.same];omega
theorem KAt.small (h:KAt w g o cs n):cs.toArray.size<=1000:=by rw[<-h.same];omega
theorem KAt.len1 (h:KAt w g o cs n):cs.length=1*10:=by rw[h.len]
theorem KAt.below (h:KAt w g o cs n)(hB:Below aB w wr)(hg:g<aB):KAt wr g o cs n:=⟨bB hB hg h.rng,h.len,h.one,h.c0⟩
theorem KAt.new (h:KAt w g o cs n)(w':World):KAt (w'.alloc (.cells cs.toArray 197)) w'.heap.size 0 cs n:=by
 refine⟨λj v hv=>?_,h.len,h.one,h.c0⟩;rw[Nat.zero_add,cell_of_row _ _ j cs.toArray 197 (0,0) (heap_alloc_new w' _)];simpa using hv
end
theorem KL.el {a:Option Addr}{c:Nat}(h:KL w (.slice a kl.length c) kl)(hi:i<kl.length):∃g,a=some ⟨g,0,none⟩/\g<w.heap.size/\KAt w g (i*10) (kO kl[i]) kl[i].1:=by
 obtain⟨g,hg,di,hc⟩:=aX h.row (by omega);have hl:=xE (h.nine _ (bN hi));refine⟨g,hg,di,λj v hv=>hc _ _ ?_,hl,xF _,rfl⟩
 have hj:j<10:=by
  have:=(ee.1 hv).1;omega
 rw[OL h.nine hi hj];exact hv
section
theorem Lt (w:World)(al:Option Addr)(cl:Nat)(L:List Int)(n:Int)(h:RowI w al L)(hL:L.length<=1000):Calls prog 136 #[.slice al L.length cl,.int .i64 n] w λe w'=>bK w (L.contains n) e w':=by
 have HI:=aw h;clear h;go_enter func136,ntmps136;go_wp2_with fail
 go_loopg [9] L.length (λgk iv wr=>∃i:Nat,iv=.int .i64 i/\i<=L.length/\L.length - i<=gk/\Hid (Below w.heap.size w wr/\∀j (_:j<L.length),j<i->¬L[j]=n))
 case atStart=>exact⟨0,rfl,bm,by omega,bo,λj _ h=>by omega⟩
 case round=>
  obtain⟨i,rfl,hi,fT,HN⟩:=hrel
  by_cases hli:i<L.length
  ·have hd:decide ((i:Int)<(L.length:Int))=true:=by simp;omega
   obtain⟨g2,iD,l9,zj⟩:=HI.out i hli;subst iD;have q1:=(HN.out.1.cell (p:=⟨g2,i,none⟩) l9).trans zj;rw[bW hli] at q1;replace q1:wr.cell? ⟨g2,i,none⟩=some (.int .i64 L[i]):=q1
   have iQ:Hid (¬L[i]=n->∀j (_:j<L.length),j<i+1->¬L[j]=n):=λhm j hj h1=>by
    by_cases e:j=i
    ·subst e;exact hm
    ·exact HN.out.2 j hj (by omega)
   have HY:Hid (L[i]=n->L.contains n=true):=λh=>by
    rw[List.contains_iff_mem];exact h▸bN hli
   clear zj;generalize L[i]=o at q1 iQ HY
   by_cases ho:o=n
   ·have go:(o==n)=true:=by simp[ho]
    have HR:Hid (bK w (L.contains n) (.returned (.bool true)) wr):=⟨by rw[HY.out ho],HN.out.1⟩;clear ho;go_wp2;go_ret;exact HR.out
   ·have go:(o==n)=false:=by simp[ho]
    have fj:Hid (Below w.heap.size w wr/\∀j (_:j<L.length),j<i+1->¬L[j]=n):=⟨HN.out.1,iQ.out ho⟩;clear ho;go_wp2;go_roundg (L.length - (i+1))
    case measure=>omega
    case rel=>exact⟨i+1,by go_num,by omega,aF,fj⟩
  ·have hd:decide ((i:Int)<(L.length:Int))=false:=by simp;omega
   have HR:Hid (bK w (L.contains n) (.returned (.bool false)) wr):=by
    refine⟨?_,HN.out.1⟩
    have:L.contains n=false:=by
     rw[Bool.eq_false_iff];intro h;rw[List.contains_iff_mem] at h;obtain⟨j,hj,h1⟩:=List.getElem_of_mem h;exact HN.out.2 j hj (by omega) h1
    rw[this]
   go_wp2;go_ret;exact HR.out
def ew (L:List Int)(kl:List (Int × List Int)):List (Int × List Int):=kl.filter λx=>!L.contains x.1
theorem Gu {L:List Int}(h:i<kl.length):ew L (kl.take (i+1))=if L.contains kl[i].1=true then ew L (kl.take i) else ew L (kl.take i)++[kl[i]]:=by
 unfold ew;rw[gj h,List.filter_append];cases hu:L.contains kl[i].1 with
 | true=>simp only[List.filter_cons,hu,Bool.not_true];simp
 | false=>simp only[List.filter_cons,hu,Bool.not_false];simp
theorem Ab (L:List Int)(kl:List (Int × List Int)):(ew L kl).length<=kl.length:=List.length_filter_le _ _
structure KI (aB:Nat)(W wr:World)(v:Value)(L:List (Int × List Int)):Prop where
 own:wr.ownsRow aB 197 10 v L.length (oK L)
 below:Below aB W wr
theorem KI.app {W:World}{L:List (Int × List Int)}(h:KI aB W wr v L){w2 w3:World}{v3:Value}(hb:Below aB W w2)(hz:aB<=w2.heap.size)(hg:w2.grownBy w3 v.ownBlock)(ho:w3.ownsRow aB 197 10 v3 (L.length+1) (oK L++kO x)):KI aB W w3 v3 (L++[x]):=by
 refine⟨?_,hb.grown hg hz (λk hk=>(h.own.lt k hk).1)⟩;rw[xj,List.length_append];exact ho
def tq (w:World)(b:Nat)(kl:List (Int × List Int))(e:Ending)(w':World):Prop:=
 e=.returned (.tuple #[])/\∃(w1:World) (a:Option Addr) (c:Nat),Below w.heap.size w w1/\w1.ownsRow w.heap.size 197 10 (.slice a kl.length c) kl.length (oK kl)/\w'=w1.setCell ⟨b,3,none⟩ (.slice a kl.length c)
theorem AP (w:World)(b:Nat)(gu:Array Value)(v:Value)(kl:List (Int × List Int))(al:Option Addr)(cl:Nat)(L:List Int)(hb:w.heap[b]?=some (.cells gu 129 (0,0)))(zm:gu[3]?=some v)(h:KL w v kl)(bJ:kl.length<=24)(hI:RowI w al L)(hL:L.length<=1000):
  Calls prog 112 #[.pointer (some ⟨b,3,none⟩),.slice al L.length cl] w λe w'=>tq w b (ew L kl) e w':=by
 obtain⟨i0,z0,hi,iz,is,ib,K7⟩:=Tryz.infoK;obtain⟨a,c,hv⟩:=h.shape;subst hv;have rx:=aw hb;have HP:=aw h;have HIL:=aw hI;have jM:=(bG.1 hb).1;have q3:=au hb zm;have HV3:=aw zm;clear h hI hb zm;have Ir:Hid (KI w.heap.size w w (.slice none 0 0) (ew L (kl.take 0))):=⟨eB,bo⟩;go_enter func112,ntmps112;go_wp2_with fail
 go_loopg [4,12] kl.length (λgk v iv wr=>∃i:Nat,iv=.int .i64 i/\i<=kl.length/\kl.length - i<=gk/\Hid (KI w.heap.size w wr v (ew L (kl.take i))))
 case atStart=>exact⟨0,rfl,bm,by omega,Ir⟩
 case round=>
  obtain⟨i,rfl,jQ,fT,HN⟩:=hrel;obtain⟨a2,c2,jJ⟩:=aK HN.out.own;subst jJ
  have GX:(ew L (kl.take i)).length<=24:=by
   have h1:=Ab L (kl.take i);have h2:(kl.take i).length<=kl.length:=List.length_take_le' _ _;omega
  have i8:=HN.out.below.size
  by_cases bc:i<kl.length
  ·have hd:decide ((i:Int)<(kl.length:Int))=true:=by simp;omega
   obtain⟨g,hg,di,he⟩:=HP.out.el bc;subst hg;have HE:=aw (he.below HN.out.below di);have fI:Hid (ew L (kl.take (i+1))=if L.contains kl[i].1=true then ew L (kl.take i) else ew L (kl.take i)++[kl[i]]):=Gu bc;clear he;generalize kl[i]=y at HE fI;obtain⟨cs,kr⟩:∃cs,kO y=cs:=⟨_,rfl⟩;have Ua:=aw kr;rw[kr] at HE;clear kr;have c0:cs[0]?=some (.int .i64 y.1):=HE.out.c0;generalize ew L (kl.take i)=R at HN fI GX ⊢;have kL:=aw (HE.out.new wr);have RA:Hid (RowI (wr.alloc (.cells cs.toArray 197)) al L):=HIL.out.below (HN.out.below.alloc i8 _);go_wp2_with (first | (refine wpList_load_mid rfl 197 _ rfl g (i*10) rfl cs _ HE.out.rng underlying197 rfl HE.out.size ?_) | (refine aO rfl 197 _ _ rfl _ cs.toArray 197 rfl rfl HE.out.size' HE.out.same HE.out.all ?_));refine(Lt (wr.alloc (.cells cs.toArray 197)) al cl L y.1 RA.out hL).mono ?_;rintro e w3 ⟨rfl,fA⟩;have G4:wr.heap.size+1<=w3.heap.size:=by have:=fA.size;simpa using this
   have iP:Hid (Below (wr.heap.size+1) (wr.alloc (.cells cs.toArray 197)) w3):=by simpa[Hid] using fA
   have oF:Hid (KI w.heap.size w w3 (.slice a2 R.length c2) R):=⟨aY (HN.out.own.alloc _) fA,(HN.out.below.alloc i8 _).trans (fA.mono (by simp;omega))⟩;have jH:Hid (KAt w3 wr.heap.size 0 cs y.1):=kL.out.below iP.out (by omega);clear fA HN kL HE iP RA c0;cases hr:L.contains y.1 with
   | true=>
    have yS:Hid (KI w.heap.size w w3 (.slice a2 R.length c2) (ew L (kl.take (i+1)))):=by
     rw[fI.out,aE hr];exact oF.out
    clear fI hr;go_wp2;go_roundg (kl.length - (i+1))
    case measure=>omega
    case rel=>exact⟨i+1,by go_num,by omega,aF,yS⟩
   | false=>
    have gE:Hid (ew L (kl.take (i+1))=R++[y]):=by
     unfold Hid;rw[fI.out,aA (by rw[hr];decide)]
    clear fI hr;go_wp2_with (first | (refine wpList_load_mid rfl 197 _ rfl (wr.heap.size) (0) rfl cs _ jH.out.rng underlying197 rfl jH.out.size ?_) | (refine dh w3.heap.size rfl rfl 125 197 _ rfl cs.toArray rfl i0 z0 underlying125 hi iz (jH.out.info is) (jH.out.pos) (jH.out.small) ?_) | (at_builtin;refine wpList_append_own _ rfl (.tmp 21) (.tmp 23) 125 rfl (w.heap.size) 197 i0 z0 10 80 underlying125 hi iz is ib K7 (by decide) _ _ _ rfl (oF.out.own.alloc _) ⟨w3.heap.size,0,none⟩ 1 1 cs rfl jH.out.len1 ?c1 jH.out.one ?c3 ?c4 ?c5 ?_))
    case c1=>exact bg w3 _ rfl _ _ _ (by simp)
    case c3=>unfold maxLen;omega
    case c4=>omega
    case c5=>simp;omega
    intro v5 w5 cf jn _
    have yS:Hid (KI w.heap.size w w5 v5 (ew L (kl.take (i+1)))):=by
     rw[gE.out];exact oF.out.app (oF.out.below.alloc (by omega) _) (by simp;omega) jn (by rw[Ua.out];exact cf)
    clear cf jn oF jH;go_wp2;go_roundg (kl.length - (i+1))
    case measure=>omega
    case rel=>exact⟨i+1,by go_num,by omega,aF,yS⟩
  ·have hd:decide ((i:Int)<(kl.length:Int))=false:=by simp;omega
   obtain rfl:i=kl.length:=by omega
   rw[List.take_length] at HN GX ⊢;have mS:=(HN.out.below.block b jM).trans rx.out;have e1:=au mS HV3.out;have ez:wr.frozen? ⟨b,3,none⟩=false:=aH mS;have HE:Hid (tq w b (ew L kl) (.returned (.tuple #[])) (wr.setCell ⟨b,3,none⟩ (.slice a2 (ew L kl).length c2))):=⟨rfl,wr,a2,c2,HN.out.below,HN.out.own,rfl⟩;clear mS q3;generalize (ew L kl).length=n5 at HE GX ⊢;go_wp2;go_end0;exact HE.out
end
end
section
variable {aa l:List PEl}{i:Nat}
def ky (aa:List PEl)(y t:Int):Bool:=(List.range aa.length).any λj=>decide (upP aa j y=t)
theorem iK {y t:Int}:ky aa y t=true↔∃k,k<aa.length/\upP aa k y=t:=by
 unfold ky;rw[List.any_eq_true];constructor
 ·rintro⟨j,hj,h⟩;exact⟨j,List.mem_range.1 hj,by simpa using h⟩
 ·rintro⟨j,hj,h⟩;exact⟨j,List.mem_range.2 hj,by simpa using h⟩
def cR (aa l:List PEl)(t:Int):List Int:=(l.filter λy=>ky aa y.num t).map λy=>(y.num:Int)
def eE (aa l:List PEl)(an:Int):List Int:=l.flatMap λt=>if t.par=an then cR aa aa t.num else[]
def eF (aa:List PEl)(n:Int):List Int:=match dB aa n with | none=>[] | some x=>eE aa (aa.drop (nB aa n)) x.par
theorem Cx (h:i<l.length)(t:Int):cR aa (l.take (i+1)) t=if ky aa l[i].num t=true then cR aa (l.take i) t++[(l[i].num:Int)] else cR aa (l.take i) t:=by
 unfold cR;rw[gj h,List.filter_append];cases hu:ky aa l[i].num t<;>simp[hu]
theorem EO (h:i<l.length)(an:Int):eE aa (l.take (i+1)) an=if l[i].par=an then eE aa (l.take i) an++cR aa aa l[i].num else eE aa (l.take i) an:=by
 unfold eE;rw[gj h,List.flatMap_append];split
 ·rename_i h1;simp[h1]
 ·rename_i h1;simp[h1]
theorem uP (aa l:List PEl)(t:Int):(cR aa l t).length<=l.length:=by
 unfold cR;rw[List.length_map];exact List.length_filter_le _ _
theorem rj (aa:List PEl)(an:Int):∀l:List PEl,(eE aa l an).length<=l.length*aa.length
 | []=>bm
 | t :: l=>by
  have ih:=rj aa an l;have h1:=uP aa aa t.num;have e:(t :: l).length*aa.length=aa.length+l.length*aa.length:=by rw[List.length_cons,Nat.succ_mul,Nat.add_comm]
  have e2:eE aa (t :: l) an=(if t.par=an then cR aa aa t.num else[])++eE aa l an:=rfl;rw[e,e2,List.length_append];split
  ·omega
  ·simp only[List.length_nil];omega
theorem yd (h:aa.length<=24)(n:Int):(eF aa n).length<=1000:=by
 unfold eF;split
 ·simp
 ·rename_i x _;have h1:=rj aa x.par (aa.drop (nB aa n));have h2:(aa.drop (nB aa n)).length*aa.length<=24*24:=Nat.mul_le_mul (by rw[List.length_drop];omega) h;omega
theorem Hs (hn:(aa.map PEl.num).Nodup){n:Int}{k:Nat}(h:Iv aa n k):(k:Int)∈eF aa n:=by
 obtain⟨i,x,hx,MN,t,ht,htp,y,hy,hyk,hw⟩:=h
 have hf:dB aa n=some x:=by
  cases hf:dB aa n with
  | none=>exact absurd MN (qT hf (List.mem_of_getElem? hx))
  | some z=>
   obtain⟨hz,hzn⟩:=dQ hf;rw[Co hn hz (List.mem_of_getElem? hx) (by omega)]
 have hi:=qX hn hx;rw[MN] at hi;unfold eF;rw[hf];show(k:Int)∈eE aa (aa.drop (nB aa n)) x.par;rw[hi];unfold eE;rw[List.mem_flatMap];refine⟨t,ht,?_⟩;rw[aE htp];unfold cR;rw[bx];exact⟨y,dJ.2 ⟨hy,iK.2 hw⟩,by rw[hyk]⟩
def oI (w:World)(l:List Int)(e:Ending)(w':World):Prop:=∃(a:Option Addr) (c:Nat),e=.returned (.slice a l.length c)/\w'.ownsRow w.heap.size 3 1 (.slice a l.length c) l.length (aJ l)/\Below w.heap.size w w'
section
variable (w:World)(b:Nat)(a:Option Addr)(c:Nat)(aa:List PEl)(n:Int)
theorem xY (h:TRd w b a c aa):Calls prog 110 #[.pointer (some ⟨b,1,none⟩),.int .i64 n] w λe w'=>oI w (eF aa n) e w':=by
 obtain⟨i0,GV,gP,gQ,gR⟩:=info_parts Tryz.info3;have HT:=aw h;have bJ:=h.few;clear h;go_enter func110,ntmps110;go_wp2_with fail;refine(dX w b _ aa n HT.out.cell HT.out.pl HT.out.few).mono ?_;rintro e w1 ⟨hB,⟨hf,rfl⟩ | ⟨ip,x,hx,hf,rfl⟩⟩
 ·have HE:Hid (oI w (eF aa n) (.returned (.slice none 0 0)) w1):=by
   have:eF aa n=[]:=by unfold eF;rw[hf]
   rw[this];exact⟨none,0,rfl,eB,hB⟩
  clear hf hB;go_wp2;go_ret;exact HE.out
 ·have nW:=(ee.1 hx).1;have oM:=(ee.1 hx).2
  have HA:Hid (eF aa n=eE aa (aa.drop ip) x.par):=by
   unfold Hid eF;rw[hf];have h1:=(dQ hf).2;have h2:=qX HT.out.nums hx;rw[h1] at h2;show eE aa (aa.drop (nB aa n)) x.par=_;rw[h2]
  have T1:=HT.out.below hB;have KK:=mp T1.pl.row;have IS:=nJ T1.pl.row;obtain⟨g,hg,di,he⟩:=T1.pl.el nW;subst hg;have q1:=he.cell1;rw[oM] at q1;have q0:=T1.cell;have jQ:(ip:Int)<(aa.length:Int):=by omega
  have eu:=aw hB;have il:(prog.info? 156).map (·.size)=some 31:=Tryz.size156;unfold maxLen at IS;clear hf hB hx oM he T1;generalize x.par=an at HA q1;have jM:=HT.out.lt;go_wp2_with fail
  ·obtain⟨m,hm⟩:∃m,aa.length - ip=m:=⟨_,rfl⟩;have hml:m<=24:=by omega
   have HM:=aw hm;have HDL:Hid ((aa.drop ip).length=m):=by unfold Hid;rw[List.length_drop];exact hm
   rw[hm];clear hm q0 q1
   go_loopg [8,36] m (λgk v iv wr=>∃i:Nat,iv=.int .i64 i/\i<=m/\m - i<=gk/\Hid (wr.ownsRow w.heap.size 3 1 v (eE aa ((aa.drop ip).take i) an).length (aJ (eE aa ((aa.drop ip).take i) an))/\Below w.heap.size w wr))
   case atStart=>exact⟨0,rfl,bm,by omega,eB,eu.out⟩
   case round=>
    obtain⟨i,rfl,hi,fT,HN⟩:=hrel;obtain⟨wo,rfl⟩:∃wo,wo=wr:=⟨_,rfl⟩;obtain⟨a2,c2,jJ⟩:=aK HN.out.1;subst jJ
    have XE:(eE aa ((aa.drop ip).take i) an).length<=576:=by
     have h1:=rj aa an ((aa.drop ip).take i);have h2:((aa.drop ip).take i).length*aa.length<=24*24:=Nat.mul_le_mul (by rw[List.length_take];omega) bJ;omega
    have i8:=HN.out.2.size
    by_cases bc:i<m
    ·have hd:decide ((i:Int)<(m:Int))=true:=by simp;omega
     have GY:ip+i<aa.length:=by have:=HM.out;omega
     obtain⟨g2,iD,l9,he⟩:=HT.out.pl.el GY;injection iD with iD
     injection iD with iD _ _
     subst iD
     have HE:Hid (ElAt wo g (ip*31+i*31) aa[ip+i].cells aa[ip+i].num aa[ip+i].par):=by
      rw[show ip*31+i*31=(ip+i)*31 from by omega];exact he.below HN.out.2 l9
     have fI:Hid (eE aa ((aa.drop ip).take (i+1)) an=if aa[ip+i].par=an then eE aa ((aa.drop ip).take i) an++cR aa aa aa[ip+i].num else eE aa ((aa.drop ip).take i) an):=by
      have h1:=EO (aa:=aa) (l:=aa.drop ip) (i:=i) (by rw[HDL.out];exact bc) an;rw[List.getElem_drop] at h1;exact h1
     have q0:wo.cell? ⟨b,1,none⟩=some (.slice (some ⟨g,0,none⟩) aa.length c):=(HN.out.2.cell (p:=⟨b,1,none⟩) jM).trans HT.out.cell;have Wp:b<wo.heap.size:=by omega
     clear he;generalize aa[ip+i].par=py at HE fI;generalize aa[ip+i].num=ny at HE fI;generalize aa[ip+i].cells=cs at HE;have c0:cs[0]?=some (.int .i64 ny):=HE.out.c0;have c1:cs[1]?=some (.int .i64 py):=HE.out.c1;generalize eE aa ((aa.drop ip).take i) an=R at HN fI XE ⊢
     by_cases hp:py=an
     ·have gp:(py != an)=false:=by simp[hp]
      have gE:Hid (eE aa ((aa.drop ip).take (i+1)) an=R++cR aa aa ny):=by unfold Hid;rw[fI.out,aE hp]
      have rx:Hid ((wo.alloc (.cells cs.toArray 156)).heap[wo.heap.size]?=some (.cells cs.toArray 156)):=heap_alloc_new wo _
      have kU:Hid ((wo.alloc (.cells cs.toArray 156)).ownsRow w.heap.size 3 1 (.slice a2 R.length c2) (R++cR aa (aa.take 0) ny).length (aJ (R++cR aa (aa.take 0) ny))/\Below w.heap.size w (wo.alloc (.cells cs.toArray 156))):=by
       have:R++cR aa (aa.take 0) ny=R:=by simp[cR]
       rw[this];exact⟨HN.out.1.alloc _,HN.out.2.alloc i8 _⟩
      clear hp fI HN;go_wp2_with (first | (refine wpList_load_mid rfl 156 _ rfl g (ip*31+i*31) rfl cs _ HE.out.rng underlying156 rfl HE.out.size ?_) | (refine aO rfl 156 _ _ rfl _ cs.toArray 156 rfl rfl HE.out.size' HE.out.same HE.out.all ?_))
      go_loopg [8,49] aa.length (λgk v kv wr=>∃k:Nat,kv=.int .i64 k/\k<=aa.length/\aa.length - k<=gk/\Hid ((wr.ownsRow w.heap.size 3 1 v (R++cR aa (aa.take k) ny).length (aJ (R++cR aa (aa.take k) ny))/\Below w.heap.size w wr)/\wr.heap[wo.heap.size]?=some (.cells cs.toArray 156)))
      case atStart=>exact⟨0,rfl,bm,by omega,kU.out,rx.out⟩
      case round=>
       obtain⟨k,rfl,hk,r9,HJ⟩:=hrel;obtain⟨a3,c3,zm⟩:=aK HJ.out.1.1;subst zm
       have Wh:(R++cR aa (aa.take k) ny).length<=600:=by
        have h1:=uP aa (aa.take k) ny;have h2:(aa.take k).length<=aa.length:=List.length_take_le' _ _;rw[List.length_append];omega
       have SZ:=HJ.out.1.2.size;obtain⟨L,Wg⟩:∃L,R++cR aa (aa.take k) ny=L:=⟨_,rfl⟩;have Vx:=aw Wg;rw[Wg] at HJ Wh ⊢;clear Wg
       by_cases lH:k<aa.length
       ·have iC:decide ((k:Int)<(aa.length:Int))=true:=by simp;omega
        obtain⟨g3,fB,aaN,he3⟩:=HT.out.pl.el lH;injection fB with fB
        injection fB with fB _ _
        subst fB;have yQ:=aw (he3.below HJ.out.1.2 aaN);have M4:Hid (cR aa (aa.take (k+1)) ny=if ky aa aa[k].num ny=true then cR aa (aa.take k) ny++[(aa[k].num:Int)] else cR aa (aa.take k) ny):=Cx lH ny;have q10:wr.cell? ⟨wo.heap.size,0,none⟩=some (.int .i64 ny):=au HJ.out.2 (by simpa using c0);have WL:=(bG.1 HJ.out.2).1;clear he3;generalize aa[k].num=nk at yQ M4;generalize aa[k].par=pk at yQ;generalize aa[k].cells=cs3 at yQ;have c03:cs3[0]?=some (.int .i64 nk):=yQ.out.c0;have jI:Hid (TRd (wr.alloc (.cells cs3.toArray 156)) b (some ⟨g,0,none⟩) c aa):=HT.out.below (HJ.out.1.2.alloc SZ _);have HEY:=aw (yQ.out.new wr);go_wp2_with (first | (refine wpList_load_mid rfl 156 _ rfl g (k*31) rfl cs3 _ yQ.out.rng underlying156 rfl yQ.out.size ?_) | (refine aO rfl 156 _ _ rfl _ cs3.toArray 156 rfl rfl yQ.out.size' yQ.out.same yQ.out.all ?_));refine(mu (wr.alloc (.cells cs3.toArray 156)) b _ aa nk ny jI.out.cell jI.out.pl bJ).mono ?_;rintro e w3 ⟨fA,r,rfl,hr⟩;have HR:=aw (hr.trans iK.symm);have G4:wr.heap.size+1<=w3.heap.size:=by have:=fA.size;simpa using this
        have iP:Hid (Below (wr.heap.size+1) (wr.alloc (.cells cs3.toArray 156)) w3):=by simpa[Hid] using fA
        have Io:Hid ((w3.ownsRow w.heap.size 3 1 (.slice a3 L.length c3) L.length (aJ L)/\Below w.heap.size w w3)/\w3.heap[wo.heap.size]?=some (.cells cs.toArray 156)):=
         ⟨⟨aY (HJ.out.1.1.alloc _) fA,(HJ.out.1.2.alloc SZ _).trans (fA.mono (by simp;omega))⟩,(fA.block wo.heap.size (by simp;omega)).trans ((Below.heap_alloc _ _ _ WL).trans HJ.out.2)⟩
        have jH:Hid (ElAt w3 wr.heap.size 0 cs3 nk pk):=HEY.out.below iP.out (by omega);have q12:w3.cell? ⟨wr.heap.size,0,none⟩=some (.int .i64 nk):=jH.out.rng 0 _ jH.out.c0;clear fA hr iP HJ HEY jI yQ q10 c03 jH;cases r with
        | false=>
         have Vu:Hid ((w3.ownsRow w.heap.size 3 1 (.slice a3 L.length c3) (R++cR aa (aa.take (k+1)) ny).length (aJ (R++cR aa (aa.take (k+1)) ny))/\Below w.heap.size w w3)/\w3.heap[wo.heap.size]?=some (.cells cs.toArray 156)):=by
          rw[M4.out,aA (λhx=>by have:=HR.out.2 hx;cases this),Vx.out];exact Io.out
         clear M4 HR Io;go_wp2;go_roundg (aa.length - (k+1))
         case measure=>omega
         case rel=>exact⟨k+1,by go_num,by omega,aF,Vu⟩
        | true=>
         have ac1:Hid (R++cR aa (aa.take (k+1)) ny=L++[(nk:Int)]):=by
          unfold Hid;rw[M4.out,aE (HR.out.1 rfl),<-Vx.out,List.append_assoc]
         clear M4 HR;go_wp2_with (first | (at_builtin;refine wpList_append_own _ rfl (.tmp 59) (.tmp 62) 28 rfl w.heap.size 3 i0 (.int .i64 0) 1 8 underlying28 GV gP gQ gR rfl (by decide) _ _ _ rfl (Io.out.1.1.alloc _) ⟨w3.heap.size,0,none⟩ 1 1 [.int .i64 (nk:Int)] rfl rfl ?c1 ?c2 ?c3 ?c4 ?c5 ?_))
         case c1=>exact bg w3 _ rfl _ _ _ rfl
         case c2=>exact sF nk
         case c3=>unfold maxLen;omega
         case c4=>omega
         case c5=>simp;omega
         intro v5 w5 cf jn _
         have Vu:Hid ((w5.ownsRow w.heap.size 3 1 v5 (R++cR aa (aa.take (k+1)) ny).length (aJ (R++cR aa (aa.take (k+1)) ny))/\Below w.heap.size w w5)/\w5.heap[wo.heap.size]?=some (.cells cs.toArray 156)):=by
          rw[ac1.out];refine⟨⟨by simpa[aJ] using cf,(Io.out.1.2.alloc (by omega) _).grown jn (by simp;omega) (λk hk=>(Io.out.1.1.lt k hk).1)⟩,?_⟩;exact(jn.block wo.heap.size (by simp;omega) (λe=>aN Io.out.1.1 Io.out.2 (by decide) e.symm)).trans ((Below.heap_alloc _ _ _ (by omega)).trans Io.out.2)
         clear cf jn Io q12;go_wp2;go_roundg (aa.length - (k+1))
         case measure=>omega
         case rel=>exact⟨k+1,by go_num,by omega,aF,Vu⟩
       ·have iC:decide ((k:Int)<(aa.length:Int))=false:=by simp;omega
        obtain rfl:k=aa.length:=by omega
        have uo:Hid (wr.ownsRow w.heap.size 3 1 (.slice a3 L.length c3) (eE aa ((aa.drop ip).take (i+1)) an).length (aJ (eE aa ((aa.drop ip).take (i+1)) an))/\Below w.heap.size w wr):=by
         have h1:=Vx.out;rw[List.take_length] at h1;rw[gE.out,h1];exact HJ.out.1
        clear HJ;go_wp2;go_roundg (m - (i+1))
        case measure=>omega
        case rel=>exact⟨i+1,by go_num,by omega,aF,uo⟩
     ·have gp:(py != an)=true:=by simp[hp]
      have uo:Hid ((wo.alloc (.cells cs.toArray 156)).ownsRow w.heap.size 3 1 (.slice a2 R.length c2) (eE aa ((aa.drop ip).take (i+1)) an).length (aJ (eE aa ((aa.drop ip).take (i+1)) an))/\Below w.heap.size w (wo.alloc (.cells cs.toArray 156))):=by
       rw[fI.out,aA hp];exact⟨HN.out.1.alloc _,HN.out.2.alloc i8 _⟩
      clear hp fI;go_wp2_with (first | (refine wpList_load_mid rfl 156 _ rfl g (ip*31+i*31) rfl cs _ HE.out.rng underlying156 rfl HE.out.size ?_) | (refine aO rfl 156 _ _ rfl _ cs.toArray 156 rfl rfl HE.out.size' HE.out.same HE.out.all ?_));go_roundg (m - (i+1))
      case measure=>omega
      case rel=>exact⟨i+1,by go_num,by omega,aF,uo⟩
    ·have hd:decide ((i:Int)<(m:Int))=false:=by simp;omega
     obtain rfl:i=m:=by omega
     have HDT:Hid ((aa.drop ip).take i=aa.drop ip):=by
      unfold Hid;rw[List.take_of_length_le (by rw[HDL.out];exact aF)]
     rw[HDT.out,<-HA.out] at HN XE ⊢;go_wp2;go_ret;exact⟨a2,c2,rfl,HN.out.1,HN.out.2⟩
end
end
section
variable {cs:List eb}{d:PDc}{ds:List PDc}{i j l n ty:Nat}{ks:List PPt}{s:ByteArray}
def vH (s:ByteArray)(i:Nat):Nat:=if bt s i=33 then(if gN (bt s (i+1))=true then 2 else 1+sl s (i+1)) else sl s i
theorem DQ {p:PPt}(h:jP s i p j):p=mN s i/\j=i+vH s i:=by
 refine⟨h.1,?_⟩;have h2:=h.2;unfold vH
 by_cases i7:bt s i=33
 ·rw[aE i7] at h2 ⊢
  by_cases hl:gN (bt s (i+1))=true
  ·rw[aE hl] at h2 ⊢;exact h2.2
  ·rw[aA hl] at h2 ⊢;have:=h2.2.2.2.1;omega
 ·rw[aA i7] at h2 ⊢;exact h2.2.2.2.1
def tY (s:ByteArray):Nat->Nat->List PPt × Nat
 | 0,i=>([],i)
 | f+1,i=>if oX (bt s i)=true then(mN s i :: (tY s f (i+vH s i)).1,(tY s f (i+vH s i)).2) else([],i)
theorem qi:∀{ks:List PPt} {i j:Nat} (f:Nat),PartsAt s i j ks->oX (bt s j)=false->ks.length<=f->tY s f i=(ks,j)
 | [],i,j,f,h,hA,_=>by
  simp only[PartsAt] at h;subst h;cases f with
  | zero=>rfl
  | succ f=>unfold tY;rw[aA (by rw[hA];simp)]
 | k :: ks,i,j,f,⟨h1,l,h2,h3⟩,hA,hf=>by
  cases f with
  | zero=>simp at hf
  | succ f=>
   obtain⟨rfl,rfl⟩:=DQ h2;unfold tY;rw[aE h1,qi f h3 hA (by simpa using hf)]
def On (s:ByteArray)(i:Nat):Nat × Nat:=if gN (bt s i)=true then(bt s i,i+1) else if bt s i=42 then(0,i+1) else(0,i)
def qB (s:ByteArray)(f i:Nat):Nat × List PPt × Nat:=((On s i).1,tY s f (On s i).2)
theorem mq:∀{ks:List PPt} {i j:Nat},PartsAt s i j ks->ks.length<=j - i
 | [],_,_,_=>by simp
 | _ :: _,_,_,⟨_,_,h1,h2⟩=>by
  have:=lb h1;have:=mq h2;have:=(pK h2).1;simp only[List.length_cons];omega
theorem Dp {f:Nat}(h:fp s i j ty ks)(hA:oX (bt s j)=false)(hf:j<=f):qB s f i=(ty,ks,j):=by
 unfold qB On;rcases h with⟨h1,h2,h3⟩ | ⟨h0,h1,h2,h3⟩ | ⟨h0,h1,h2,h3,_⟩
 ·have:=mq h3;rw[aE h1,qi f h3 hA (by omega),h2]
 ·have:=mq h3;rw[aA (by rw[h0];simp),aE h1,qi f h3 hA (by omega),h2]
 ·have:=mq h3;rw[aA (by rw[h0];simp),aA h1,qi f h3 hA (by omega),h2]
def vt (s:ByteArray)(n i0:Nat):Nat->Nat->List eb × Nat
 | 0,i=>([],i)
 | f+1,i=>if jf (bt s (qB s n i).2.2)=true then(⟨oU s i0 i,(qB s n i).1,(qB s n i).2.1⟩ :: (vt s n i0 f ((qB s n i).2.2+1)).1,(vt s n i0 f ((qB s n i).2.2+1)).2) else([⟨oU s i0 i,(qB s n i).1,(qB s n i).2.1⟩],(qB s n i).2.2)
theorem Jx {i0:Nat}(hc:fp s l j ty ks)(hA:oX (bt s j)=false)(hS:jf (bt s j)=false)(GW:l<j)(hn:j<=n):∀{pre:List eb} {i:Nat} (f:Nat),SelPre s i0 i l pre->pre.length<f->vt s n i0 f i=(pre++[⟨oU s i0 l,ty,ks⟩],j)
 | [],i,f,h,hf=>by
  simp only[SelPre] at h;subst h;cases f with
  | zero=>simp at hf
  | succ f=>
   unfold vt;rw[Dp hc hA hn,aA (by rw[hS];simp)];rfl
 | x :: cs,i,f,⟨l',h1,h2,h3,h4,h5,h6⟩,hf=>by
  cases f with
  | zero=>simp at hf
  | succ f=>
   have:=ki h5;unfold vt;rw[Dp h1 h3 (by omega:l'<=n),aE h4,Jx hc hA hS GW hn f h5 (by simpa using hf)];obtain⟨sg,tx,px⟩:=x;replace h6:sg=oU s i0 i:=h6;rw[h6];rfl
theorem sQ:∀{cs:List eb} {i0 i j:Nat},SelPre s i0 i j cs->cs.length<=j - i
 | [],_,_,_,_=>by simp
 | _ :: _,_,_,_,⟨l,_,h2,_,_,h5,_⟩=>by
  have:=sQ h5;have:=ki h5;simp only[List.length_cons];omega
theorem A4 (h:lC s i j cs)(hn:j<=n):vt s n i n i=(cs,j):=by
 obtain⟨pre,l,ty,ks,rfl,h2,h3,h4,h5,h6⟩:=h;have:=sQ h2;exact Jx h3 h5 h6 h4 hn n h2 (by omega)
def sS (s:ByteArray)(n:Nat):Nat->Nat->List (List eb) × Nat
 | 0,i=>([],i)
 | f+1,i=>if bt s (vt s n i n i).2=44 then((vt s n i n i).1 :: (sS s n f ((vt s n i n i).2+1)).1,(sS s n f ((vt s n i n i).2+1)).2) else([(vt s n i n i).1],(vt s n i n i).2)
theorem Fa (hc:lC s l j cs)(IN:bt s j≠44)(hn:j<=n)(GW:l<j):∀{pre:List (List eb)} {i:Nat} (f:Nat),SelsPre s i l pre->pre.length<f->sS s n f i=(pre++[cs],j)
 | [],i,f,h,hf=>by
  simp only[SelsPre] at h;subst h;cases f with
  | zero=>simp at hf
  | succ f=>
   unfold sS;rw[A4 hc hn,aA IN];rfl
 | x :: ss,i,f,⟨l',h1,h2,h3,h4⟩,hf=>by
  cases f with
  | zero=>simp at hf
  | succ f=>
   have:=jx h4;unfold sS;rw[A4 h1 (by omega:l'<=n),aE h3,Fa hc IN hn GW f h4 (by simpa using hf)];rfl
theorem qG:∀{ss:List (List eb)} {i j:Nat},SelsPre s i j ss->ss.length<=j - i
 | [],_,_,_=>by simp
 | _ :: _,_,_,⟨l,_,h2,_,h5⟩=>by
  have:=qG h5;have:=jx h5;simp only[List.length_cons];omega
theorem Hv {ss:List (List eb)}(h:o8 s i j ss)(hn:j<=n):sS s n n i=(ss,j):=by
 obtain⟨pre,l,cs,rfl,h2,h3,h4,h5⟩:=h;have:=qG h2;exact Fa h3 h5 hn h4 n h2 (by omega)
def IJ (s:ByteArray)(i:Nat):Nat:=if iS (bt s (i+1))=true then(if iS (bt s (i+2))=true then 3 else 2) else 1
def Fv (s:ByteArray)(i:Nat):Int × Int × Int × Nat:=
 if bt s i=105 then(2,0,0,i+1) else if bt s i=114 then(3,0,0,i+1) else if bt s i=117 then(4,0,0,i+1) else if bt s i=36 then(5,0,bt s (i+1),i+2) else(1,Cf s i (IJ s i),0,i+IJ s i)
theorem T3 {kd nv vr:Int}(h:Dg s i j kd nv vr):Fv s i=(kd,nv,vr,j):=by
 unfold Fv;rcases h with⟨h1,rfl,rfl,rfl,rfl⟩ | ⟨h1,rfl,rfl,rfl,rfl⟩ | ⟨h1,rfl,rfl,rfl,rfl⟩ | ⟨h1,rfl,rfl,rfl,_,rfl⟩ | ⟨rfl,h2,rfl,h4,h5,h6,h7⟩
 ·rw[aE h1]
 ·rw[aA (by omega),aE h1]
 ·rw[aA (by omega),aA (by omega),aE h1]
 ·rw[aA (by omega),aA (by omega),aA (by omega),aE h1]
 ·have h0:=wZ (h6 i aF h4);rw[aA (by omega),aA (by omega),aA (by omega),aA (by omega)]
  have hd:IJ s i=j - i:=by
   unfold IJ
   by_cases a:i+1<j
   ·rw[aE (h6 _ (by omega) a)]
    by_cases b:i+2<j
    ·rw[aE (h6 _ (by omega) b)];omega
    ·obtain rfl:j=i+2:=by omega
     rcases h7 with h7 | h7
     ·omega
     ·rw[aA (by rw[h7];simp)];omega
   ·obtain rfl:j=i+1:=by omega
    rcases h7 with h7 | h7
    ·omega
    ·rw[aA (by rw[h7];simp)];omega
  rw[hd,h2,show i+(j - i)=j from by omega]
def uw (s:ByteArray)(i:Nat):PDc × Nat:=
 (⟨bt s i,(Fv s (i+2)).1,(Fv s (i+2)).2.1,(Fv s (i+2)).2.2.1,decide (bt s (Fv s (i+2)).2.2.2=33)⟩,(Fv s (i+2)).2.2.2+if bt s (Fv s (i+2)).2.2.2=33 then 1 else 0)
theorem Dy (h:mD s i j d):uw s i=(d,j):=by
 obtain⟨_,h2,_,k,h4,_,h6⟩:=h;obtain⟨pr,kd,nu,va,im⟩:=d;unfold uw;rw[T3 h4];replace h2:pr=bt s i:=h2;subst h2;rcases h6 with⟨h7,h8,h9⟩ | ⟨h7,h8,h9⟩
 ·replace h7:im=true:=h7;simp[h7,h8,h9]
 ·replace h7:im=false:=h7;simp[h7,h8,h9]
def Dx (s:ByteArray):Nat->Nat->List PDc × Nat
 | 0,i=>([],i)
 | f+1,i=>if bt s (uw s i).2=59 then((uw s i).1 :: (Dx s f ((uw s i).2+1)).1,(Dx s f ((uw s i).2+1)).2) else([(uw s i).1],(uw s i).2)
theorem IF (hc:mD s l j d)(KF:bt s j≠59):∀{pre:List PDc} {i:Nat} (f:Nat),DcPre s i l pre->pre.length<f->Dx s f i=(pre++[d],j)
 | [],i,f,h,hf=>by
  simp only[DcPre] at h;subst h;cases f with
  | zero=>simp at hf
  | succ f=>
   unfold Dx;rw[Dy hc,aA KF];rfl
 | x :: ss,i,f,⟨l',h1,h2,h3,h4⟩,hf=>by
  cases f with
  | zero=>simp at hf
  | succ f=>
   unfold Dx;rw[Dy h1,aE h3,IF hc KF f h4 (by simpa using hf)];rfl
theorem uu:∀{ds:List PDc} {i j:Nat},DcPre s i j ds->i<=j/\ds.length<=j - i
 | [],_,_,h=>by simp only[DcPre] at h;subst h;simp
 | _ :: _,_,_,⟨l,_,h2,_,h5⟩=>by
  have:=uu h5;simp only[List.length_cons];omega
theorem Kp (h:C0 s i j ds)(hn:j<=n):Dx s n i=(ds,j):=by
 obtain⟨pre,l,d,rfl,h2,h3,h4,h5⟩:=h;have:=uu h2;exact IF h3 h5 n h2 (by omega)
def So (s:ByteArray)(n i:Nat):List PDc × Nat:=if bt s (i+1)=125 then([],i+2) else((Dx s n (i+1)).1,(Dx s n (i+1)).2+1)
theorem Sp (h:CV s i j ds)(hn:j<=n):So s n i=(ds,j):=by
 unfold So;rcases h.2 with⟨h1,rfl,rfl⟩ | ⟨h1,k,h2,h3,rfl⟩
 ·rw[aE h1]
 ·rw[aA h1,Kp h2 (by omega)]
def Pu (s:ByteArray)(i:Nat):Nat:=if bt s i=64 then i+2 else i
def Ju (s:ByteArray)(n i:Nat):dx × Nat:=
 (⟨Pv s i,(sS s n n (Pu s i)).1,(So s n (sS s n n (Pu s i)).2).1⟩,(So s n (sS s n n (Pu s i)).2).2)
theorem QE {r:dx}(h:ts s i j r)(hn:j<=n):Ju s n i=(r,j):=by
 obtain⟨l,q,h1,h2,h3,h4,h5,h6,h7,h8⟩:=h
 have hl:Pu s i=l:=by
  unfold Pu;rcases h1 with⟨a,b⟩ | ⟨a,b⟩
  ·rw[aE a,b]
  ·rw[aA a,b]
 unfold Ju;rw[hl,Hv h2 (by omega),Sp h8 hn,<-h7]
def EY (s:ByteArray)(n:Nat):Nat->Nat->List dx
 | 0,_=>[]
 | f+1,i=>if i<s.size then(Ju s n i).1 :: EY s n f (Ju s n i).2 else[]
theorem A0:∀{rs:List dx} {i j:Nat},RulsAt s i j rs->i<=j
 | [],_,_,h=>by simp only[RulsAt] at h;omega
 | _ :: _,_,_,⟨_,_,h2,h5⟩=>by have:=A0 h5;omega
theorem EZ (hn:s.size<=n):∀{rs:List dx} {i:Nat} (f:Nat),RulsAt s i s.size rs->s.size - i<=f->EY s n f i=rs
 | [],i,f,h,_=>by
  simp only[RulsAt] at h;subst h;cases f with
  | zero=>rfl
  | succ f=>unfold EY;rw[aA (Nat.lt_irrefl _)]
 | r :: rs,i,f,⟨l,h1,h2,h3⟩,hf=>by
  have:=A0 h3;cases f with
  | zero=>omega
  | succ f=>
   unfold EY;rw[aE (by omega),QE h1 (by omega),EZ hn f h3 (by omega)]
def eQ (s:ByteArray):List dx:=EY s 400 400 0
theorem A7 (h4:s.size<=400){rs:List dx}(h:RulsAt s 0 s.size rs):eQ s=rs:=EZ h4 400 h (by omega)
end
section
variable {aB:Nat}{w:World}
theorem rU:∀{xs:List Value} {cs:List eb} {i:Nat},Comps w aB xs cs->(h:i<cs.length)->∃(a:Option Addr) (c:Nat) (ps:List Value),xs[i*3]?=some (.int .u8 cs[i].sg)/\xs[i*3+1]?=some (.int .u8 cs[i].ty)/\xs[i*3+2]?=some (.slice a cs[i].ps.length c)/\w.ownsRow aB 151 5 (.slice a cs[i].ps.length c) cs[i].ps.length ps/\Kinds ps cs[i].ps
 | _,_ :: cs,0,⟨a,c,ps,ys,h1,h2,h3,_⟩,_=>by subst h1;exact⟨a,c,ps,rfl,rfl,rfl,h2,h3⟩
 | _,_ :: cs,i+1,⟨a,c,ps,ys,h1,h2,h3,h4⟩,h=>by
  obtain⟨a',c',tf,e1,e2,e3,e4,e5⟩:=rU (i:=i) h4 (by simpa using h);subst h1;rw[show(i+1)*3=i*3+3 from by omega];exact⟨a',c',tf,by simpa using e1,by simpa using e2,by simpa using e3,by simpa using e4,by simpa using e5⟩
theorem vO:∀{xs:List Value} {ss:List (List eb)} {i:Nat},Sels w aB xs ss->(h:i<ss.length)->∃(a:Option Addr) (c:Nat) (ps:List Value),xs[i]?=some (.slice a ss[i].length c)/\w.ownsRow aB 115 3 (.slice a ss[i].length c) ss[i].length ps/\Comps w aB ps ss[i]
 | _,cs :: ss,0,⟨a,c,ps,ys,h1,h2,h3,_⟩,_=>by subst h1;exact⟨a,c,ps,rfl,h2,h3⟩
 | _,cs :: ss,i+1,⟨a,c,ps,ys,h1,h2,h3,h4⟩,h=>by
  obtain⟨a',c',tf,e1,e2,e3⟩:=vO (i:=i) h4 (by simpa using h);subst h1;exact⟨a',c',tf,by simpa using e1,by simpa using e2,by simpa using e3⟩
theorem vN:∀{xs:List Value} {rs:List dx} {i:Nat},Ruls w aB xs rs->(h:i<rs.length)->∃(a:Option Addr) (c:Nat) (ps:List Value),xs[i*3+1]?=some (.slice a rs[i].ss.length c)/\w.ownsRow aB 71 1 (.slice a rs[i].ss.length c) rs[i].ss.length ps/\Sels w aB ps rs[i].ss
 | _,ss :: rs,0,⟨a,c,a',c',ps,qs,ys,h1,h2,h3,_⟩,_=>by subst h1;exact⟨a,c,ps,rfl,h2,h3⟩
 | _,ss :: rs,i+1,⟨a,c,a',c',ps,qs,ys,h1,h2,h3,h5,h4⟩,h=>by
  obtain⟨a1,c1,ps1,e1,e2,e3⟩:=vN (i:=i) h4 (by simpa using h);subst h1;rw[show(i+1)*3+1=i*3+1+3 from by omega];exact⟨a1,c1,ps1,by simpa using e1,by simpa using e2,by simpa using e3⟩
theorem uc:∀{xs:List Value} {rs:List dx} {i:Nat},Ruls w aB xs rs->(h:i<rs.length)->xs[i*3]?=some (.int .i64 rs[i].ly)/\∃(a:Option Addr) (c:Nat) (qs:List Value),xs[i*3+2]?=some (.slice a rs[i].ds.length c)/\w.ownsRow aB 220 5 (.slice a rs[i].ds.length c) rs[i].ds.length qs/\Decs qs rs[i].ds
 | _,ss :: rs,0,⟨a,c,a',c',ps,qs,ys,h1,h2,h3,h5,_⟩,_=>by subst h1;exact⟨rfl,a',c',qs,rfl,h5.1,h5.2⟩
 | _,ss :: rs,i+1,⟨a,c,a',c',ps,qs,ys,h1,h2,h3,h5,h4⟩,h=>by
  obtain⟨e0,a1,c1,ps1,e1,e2,e3⟩:=uc (i:=i) h4 (by simpa using h);subst h1;rw[show(i+1)*3=i*3+3 from by omega];exact⟨by simpa using e0,a1,c1,ps1,by simpa using e1,by simpa using e2,by simpa using e3⟩
theorem II:∀{xs:List Value} {ks:List PDc} {i:Nat},Decs xs ks->(h:i<ks.length)->xs[i*5]?=some (.int .u8 ks[i].pr)/\xs[i*5+1]?=some (.int .i64 ks[i].kd)/\xs[i*5+2]?=some (.int .i64 ks[i].nu)/\xs[i*5+3]?=some (.int .u8 ks[i].va)/\xs[i*5+4]?=some (.bool ks[i].im)
 | _,k :: ks,0,⟨ys,h1,_⟩,_=>by subst h1;exact⟨rfl,rfl,rfl,rfl,rfl⟩
 | _,k :: ks,i+1,⟨ys,h1,h2⟩,h=>by
  obtain⟨e1,e2,e3,e4,e5⟩:=II (i:=i) h2 (by simpa using h);subst h1;rw[show(i+1)*5=i*5+5 from by omega];exact⟨by simpa using e1,by simpa using e2,by simpa using e3,by simpa using e4,by simpa using e5⟩
theorem Fc (w:World)(aB:Nat)(a:Option Addr)(c:Nat)(cs:List eb)(xs:List Value)(ho:w.ownsRow aB 115 3 (.slice a cs.length c) cs.length xs)(hk:Comps w aB xs cs)(hs:o9 cs):
  Calls prog 23 #[.agg #[.slice a cs.length c]] w λe w'=>VW w (qS cs) e w':=by
 have HO:=kC ho hk hs;have hl:=hs.1;clear ho hk hs;go_enter func23,ntmps23;go_wp2_with fail
 go_loopg [3,9] cs.length (λgk sv iv wr=>∃i:Nat,iv=.int .i64 i/\i<=cs.length/\cs.length - i<=gk/\sv=.int .i64 ((qS (cs.take i):Nat):Int)/\Below w.heap.size w wr)
 case atStart=>exact⟨0,rfl,bm,by omega,by simp[qS],bo.alloc aF _⟩
 case round=>
  obtain⟨i,rfl,hi,fT,rfl,hB⟩:=hrel
  by_cases bc:i<cs.length
  ·have hd:decide ((i:Int)<(cs.length:Int))=true:=by simp;omega
   obtain⟨g,hg,di,hc⟩:=aX HO.out.1 (by omega);subst hg;obtain⟨a',c',ps,e0,e1,e2,e3,e4⟩:=rU HO.out.2.1 bc;have c0:=(hB.cell (p:=⟨g,i*3,none⟩) di).trans (hc _ _ e0);have c1:=(hB.cell (p:=⟨g,i*3+1,none⟩) di).trans (hc _ _ e1);have c2:=(hB.cell (p:=⟨g,i*3+2,none⟩) di).trans (hc _ _ e2);have HP:=aw (Dv bc);have mS:=mf HO.out.2.2 i;have Pm:=HO.out.2.2.2 cs[i] (bN bc);have oW:=Uw cs[i].ty cs[i].ps;have HE:=bZ e3 e4;clear e0 e1 e2 e3 e4 hc;generalize cs[i].sg=sg at c0;generalize cs[i].ty=ty at c1 HP oW;generalize cs[i].ps=ks at c2 HP oW HE Pm;generalize qS (cs.take i)=p0 at HP mS;go_wp2_with fail;have UI:Keeps w (wr.alloc (.cells #[.int .u8 sg,.int .u8 ty,.slice a' ks.length c'] 115)) aB 151:=(iE hB _ _).trans (cX _ _ _ _);refine(Kn _ aB sg ty a' c' ks ps (by exact UI.owns HE.out.1) HE.out.2 Pm).mono ?_;rintro e w2 ⟨rfl,hb⟩;generalize cw ty ks=p1 at HP oW;have dk:Below w.heap.size w w2:=(hB.alloc hB.size _).trans (hb.mono (by have:=hB.size;simp;omega));clear c0 c1 c2 hb UI;go_wp2;go_roundg (cs.length - (i+1))
   case measure=>omega
   case rel=>exact⟨i+1,by go_num,by omega,aF,by rw[HP.out];congr 1,dk⟩
  ·have hd:decide ((i:Int)<(cs.length:Int))=false:=by simp;omega
   obtain rfl:i=cs.length:=by omega
   go_wp2;go_ret;refine⟨?_,hB⟩;rw[List.take_length];rfl
end
section
variable {M m:Int}{c i j l ty:Nat}{cs:List eb}{k:Cn}{ks:List PPt}{s:ByteArray}
theorem GF {kd:PPt}(h':jP s i kd j):Plain s i j:=by
 have h:=h'.2;split at h
 ·rename_i i7;split at h
  ·rename_i hl;obtain⟨_,rfl⟩:=h;exact(Plain.one (kH (by omega))).cat (Plain.one (vJ hl))
  ·exact(Plain.one (kH (by omega))).cat h.2.2.2.2.2.1
 ·exact h.2.2.2.2.2.1
theorem mr:∀{ks:List PPt} {i j:Nat},PartsAt s i j ks->Plain s i j
 | [],_,_,h=>by simp only[PartsAt] at h;subst h;intro k k1 k2;omega
 | _ :: _,_,_,⟨_,_,h1,h2⟩=>(GF h1).cat (mr h2)
theorem j6 (h:fp s i j ty ks):Plain s i j:=by
 rcases h with⟨h1,_,h2⟩ | ⟨_,h1,_,h2⟩ | ⟨_,_,_,h2,_⟩
 ·exact(Plain.one (vJ h1)).cat (mr h2)
 ·exact(Plain.one (kH (by omega))).cat (mr h2)
 ·exact mr h2
theorem vK (h:plain c=true):jf c=false:=by simp only[plain,bO] at h;exact h.1
theorem Tz (h:plain c=true):c≠44/\c≠123:=by simp only[plain,bO] at h;exact h.2
theorem S_n (h:jf c=true):c≠44/\c≠123:=by simp only[jf,bO] at h;omega
def VP (s:ByteArray)(i j:Nat):Prop:=∀k,i<=k->k<j->bt s k≠44/\bt s k≠123
theorem Plain.ncb (h:Plain s i j):VP s i j:=λk k1 k2=>Tz (h k k1 k2)
theorem yo:∀{cs:List eb} {i0 i j:Nat},SelPre s i0 i j cs->VP s i j
 | [],_,_,_,h=>by simp only[SelPre] at h;subst h;intro k k1 k2;omega
 | _ :: _,_,i,j,⟨l,h1,h2,_,h4,h5,_⟩=>λk k1 k2=>by
  by_cases e:k<l
  ·exact(j6 h1).ncb k k1 e
  ·by_cases e2:k=l
   ·rw[e2];exact S_n h4
   ·exact yo h5 k (by omega) k2
theorem ql (h:lC s i j cs):VP s i j:=by
 obtain⟨pre,l,ty,ks,_,h2,h3,_⟩:=h;intro k k1 k2
 by_cases e:k<l
 ·exact yo h2 k k1 e
 ·exact(j6 h3).ncb k (by omega) k2
theorem qH:∀{ss:List (List eb)} {i j:Nat},SelsPre s i j ss->∀k,i<=k->k<j->bt s k≠123
 | [],_,_,h=>by simp only[SelsPre] at h;subst h;intro k k1 k2;omega
 | _ :: _,i,j,⟨l,h1,h2,h3,h4⟩=>λk k1 k2=>by
  by_cases e:k<l
  ·exact(ql h1 k k1 e).2
  ·by_cases e2:k=l
   ·rw[e2,h3];omega
   ·exact qH h4 k (by omega) k2
theorem yq {ss:List (List eb)}(h:o8 s i j ss):∀k,i<=k->k<j->bt s k≠123:=by
 obtain⟨pre,l,cs,_,h2,h3,_,_⟩:=h;intro k k1 k2
 by_cases e:k<l
 ·exact qH h2 k k1 e
 ·exact(ql h3 k (by omega) k2).2
def CS (s:ByteArray):List (Nat × Nat)->List eb->Prop
 | [],[]=>True
 | (p,q) :: r,x :: cs=>(fp s p q x.ty x.ps/\p<q/\q<=s.size)/\CS s r cs
 | _,_=>False
def SS (s:ByteArray):List (List (Nat × Nat))->List (List eb)->Prop
 | [],[]=>True
 | a :: r,b :: cs=>CS s a b/\SS s r cs
 | _,_=>False
def LRS (s:ByteArray):List (List (List (Nat × Nat)))->List dx->Prop
 | [],[]=>True
 | a :: r,b :: cs=>SS s a b.ss/\LRS s r cs
 | _,_=>False
theorem qj:∀{aV:List (Nat × Nat)} {i j:Nat},Segs s i j aV->i<=j
 | [],_,_,h=>by simp only[Segs] at h;omega
 | (_,_) :: _,_,_,⟨h1,_,h3,_,h5⟩=>by have:=qj h5;omega
theorem Ek {sg:Int}{i0:Nat}(hc:fp s l j ty ks)(GW:l<j)(Aj:j<=s.size):∀{pre:List eb} {i:Nat} {aV:List (Nat × Nat)},SelPre s i0 i l pre->mF s i j aV->CS s aV (pre++[⟨sg,ty,ks⟩])
 | [],i,aV,h,⟨pre',p,e1,e2,e3,e4⟩=>by
  simp only[SelPre] at h;subst h e1;cases pre' with
  | nil=>simp only[Segs] at e2;subst e2;exact⟨⟨hc,GW,Aj⟩,trivial⟩
  | cons x r=>
   obtain⟨p',q'⟩:=x;obtain⟨rfl,f2,f3,f4,f5⟩:=e2;have:=qj f5;have:=vK (j6 hc q' f3 (by omega));rw[f4] at this;cases this
 | _ :: cs,i,aV,⟨l',h1,h2,h3,h4,h5,_⟩,⟨pre',p,e1,e2,e3,e4⟩=>by
  have hl:=ki h5;subst e1;cases pre' with
  | nil=>
   simp only[Segs] at e2;subst e2;have:=e4 l' (by omega) (by omega);rw[h4] at this;cases this
  | cons x r=>
   obtain⟨p',q'⟩:=x;obtain⟨rfl,f2,f3,f4,f5⟩:=e2
   have hq:q'=l':=by
    by_cases a:q'<l'
    ·have:=vK (j6 h1 q' f3 a);rw[f4] at this;cases this
    ·by_cases b:l'<q'
     ·have:=f2 l' (by omega) b;rw[h4] at this;cases this
     ·omega
   subst hq;exact⟨⟨h1,h2,by omega⟩,Ek hc GW Aj h5 ⟨r,p,rfl,f5,e3,e4⟩⟩
theorem AE {aV:List (Nat × Nat)}(h:lC s i j cs)(h':mF s i j aV)(Aj:j<=s.size):CS s aV cs:=by
 obtain⟨pre,l,ty,ks,rfl,h2,h3,h4,_,_⟩:=h;exact Ek h3 h4 Aj h2 h'
theorem jG:∀{ss:List (List (Nat × Nat))} {i j:Nat},RSelsPre s i j ss->i<=j
 | [],_,_,h=>by simp only[RSelsPre] at h;omega
 | _ :: _,_,_,⟨_,_,h2,_,_,h5⟩=>by have:=jG h5;omega
theorem AF (hc:lC s l j cs)(GW:l<j)(Aj:j<=s.size):∀{pre:List (List eb)} {i:Nat} {ss:List (List (Nat × Nat))},SelsPre s i l pre->rL s i j ss->SS s ss (pre++[cs])
 | [],i,ss,h,⟨pre',p,aV,e1,e2,e3,e4,e5⟩=>by
  simp only[SelsPre] at h;subst h e1;cases pre' with
  | nil=>simp only[RSelsPre] at e2;subst e2;exact⟨AE hc e3 Aj,trivial⟩
  | cons x r=>
   obtain⟨l',f1,f2,f3,f4,f5⟩:=e2;have:=jG f5;exact absurd f3 (ql hc l' f2 (by omega)).1
 | c' :: V0,i,ss,⟨l',h1,h2,h3,h4⟩,⟨pre',p,aV,e1,e2,e3,e4,e5⟩=>by
  have hl:=jx h4;subst e1;cases pre' with
  | nil=>
   simp only[RSelsPre] at e2;subst e2;exact absurd h3 (e5 l' (by omega) (by omega))
  | cons x r=>
   obtain⟨q',f1,f2,f3,f4,f5⟩:=e2
   have hq:q'=l':=by
    by_cases a:q'<l'
    ·exact absurd f3 (ql h1 q' f2 a).1
    ·by_cases b:l'<q'
     ·exact absurd h3 (f4 l' (by omega) b)
     ·omega
   subst hq;exact⟨AE h1 f1 (by omega),AF hc GW Aj h4 ⟨r,p,aV,rfl,f5,e3,e4,e5⟩⟩
theorem Sf (s:ByteArray):∀(f:Nat) (m:Int) (k k':Cn) (i:Nat),(Vf s f m k i).1=(Vf s f m k' i).1:=by
 intro f
 induction f with
 | zero=>intro m k k' i;simp only[Vf];split<;>rfl
 | succ f ih=>
  intro m k k' i;simp only[Vf];split
  ·rfl
  ·exact ih _ _ _ _
theorem Acc.any (h:Acc s m k i M)(k':Cn):∃M',Acc s m k' i M':=by
 refine⟨(V s m k' i).2,Prod.ext ?_ rfl⟩;show(V s m k' i).1=-1;unfold Acc at h;have:=Sf s (s.size - i) m k' k i;unfold V at h ⊢;rw[this,h]
theorem Ol (h:k.mn≠-1):(cnt m c i k).mn=k.mn:=by
 unfold cnt dq mM;split
 ·simp only[ite_self]
 ·split
  ·rfl
  ·split
   ·split
    ·simp only[ite_self]
    ·split<;>rfl
   ·rfl
theorem VU (s:ByteArray):∀(f:Nat) (m:Int) (k:Cn) (i:Nat) (M:Int),k.mn≠-1->Vf s f m k i=(-1,M)->M=k.mn:=by
 intro f
 induction f with
 | zero=>
  intro m k i M hk h;simp only[Vf] at h;split at h
  ·injection h with _ h;exact h.symm
  ·injection h with h _;omega
 | succ f ih=>
  intro m k i M hk h;simp only[Vf] at h;split at h
  ·injection h with h _;omega
  ·have e:=Ol (m:=m) (c:=bt s i) (i:=i) hk;have:=ih _ _ _ _ (by rw[e];exact hk) h;rw[this,e]
theorem zP {nc:Nat}(h:Acc s 0 ⟨20,nc,-1⟩ i M):(i<s.size->M=i)/\(¬i<s.size->M=-1):=by
 constructor
 ·intro hi;have h2:=h.step hi;have hm:(cnt 0 (bt s i) i ⟨20,nc,-1⟩).mn=i:=by simp[cnt,dq,mM]
  unfold Acc V at h2;have:=VU s _ _ _ _ _ (by rw[hm];omega) h2;rw[this,hm]
 ·intro hi;unfold Acc at h;rw[wG (by omega),aE rfl] at h;injection h with _ h
  exact h.symm
theorem TR:∀(d:Nat) {m:Int} {k:Cn} {p:Nat},iR m->Acc s m k p M->(∀j,p<=j->j<p+d->bt s j≠123)->∃m' k',iR m'/\Acc s m' k' (p+d) M:=by
 intro d
 induction d with
 | zero=>intro m k p hm h _;exact⟨m,k,hm,h⟩
 | succ d ih=>
  intro m k p hm h hn;have hl:=h.lt (by unfold iR at hm;omega);obtain⟨m',k',h1,h2⟩:=ih (yn hm (hn p aF (by omega)) (h.ok hl)) (h.step hl) (λj j1 j2=>hn j (by omega) (by omega));exact⟨m',k',h1,by rw[show p+(d+1)=p+1+d from by omega];exact h2⟩
theorem qd {a b:Nat}(h:mc s i a)(h':mc s i b):a=b:=by
 rcases h with⟨h1,h2⟩ | ⟨h1,h2⟩<;>rcases h' with⟨h3,h4⟩ | ⟨h3,h4⟩<;>omega
theorem AD {ru:dx}{ss':List (List (Nat × Nat))}(ha:Acc s 0 k i M)(hi:i<s.size)(Aj:j<=s.size)(B6:l<=s.size)(h:ts s i j ru)(h':rK s i l ss'):
  j=l/\SS s ss' ru.ss/\∃k' M',Acc s 0 k' l M':=by
 obtain⟨p,q,a1,a2,a3,a4,a5,a6,_⟩:=h;obtain⟨ly,ss,ds⟩:=ru;replace a2:o8 s p q ss:=a2;obtain⟨p',q',b1,b2,b3,b4,b5,b6,b7⟩:=h';obtain rfl:=qd a1 b1
 have KY:q=q':=by
  by_cases x:q'<q
  ·have:p<=q':=by
    obtain⟨pre,l',aV,_,e2,e3,e4,_⟩:=b2;have:=jG e2;omega
   exact absurd b3 (yq a2 q' this x)
  ·by_cases y:q<q'
   ·exact absurd a4 (b4 q (by omega) y)
   ·omega
 subst KY;obtain⟨pre,x,cs,e1,e2,e3,e4,_⟩:=a2;subst e1;refine(λ(FR:j=l/\∃k' M',Acc s 0 k' l M')=>⟨FR.1,AF e3 e4 (by omega) e2 b2,FR.2⟩) ?_;have h18:Acc s 18 ⟨k.nr+1,1,dq (decide (k.nr=20)) k.mn i⟩ i M:=by unfold Acc at ha ⊢;rw[<-ha,wI hi]
 have h2:∃k2,Acc s 2 k2 p M:=by
  rcases a1 with⟨c1,c2⟩ | ⟨c1,c2⟩
  ·subst c2;have hl:=h18.lt (by omega);have t1:=h18.step hl;rw[show ct 18 (bt s i)=1 from by simp[ct,c1]] at t1;have B5:=t1.lt (by omega);have t2:=t1.step B5;have ho:=t1.ok B5
   have hd:iS (bt s (i+1))=true:=by
    cases hd:iS (bt s (i+1)) with
    | true=>rfl
    | false=>exfalso;apply ho;simp[ct,wh,hd]
   rw[show ct 1 (bt s (i+1))=2 from by simp[ct,wh,hd]] at t2;exact⟨_,t2⟩
  ·subst c2;refine⟨⟨k.nr+1,1,dq (decide (k.nr=20)) k.mn p⟩,?_⟩;unfold Acc at h18 ⊢;rw[<-h18];exact((pG (s:=s) (i:=p) (by omega)).1 _ 1 _).symm
 obtain⟨k2,h2⟩:=h2;obtain⟨m3,k3,i3,h3⟩:=TR (q - p) (ax rfl) h2 (λx x1 x2=>b4 x x1 (by omega));rw[show p+(q - p)=q from by omega] at h3;have hq:=h3.lt (by unfold iR at i3;omega);obtain rfl:=ym i3 (az (az b3)) (h3.ok hq);obtain⟨M1,g3⟩:=h3.any ⟨20,0,-1⟩;have g9:=g3.step hq;rw[b3,show ct 3 123=9 from by decide,show cnt 3 123 q ⟨20,0,-1⟩=⟨20,0,-1⟩ from by simp[cnt,jf]] at g9;obtain⟨m4,i4,h4,_,_⟩:=wX g9 (λx x1 x2=>b7 x (by omega) x2) (by omega) (l - 1 - (q+1)) (by omega);rw[show q+1+(l - 1 - (q+1))=l - 1 from by omega] at h4;have B5:l - 1<s.size:=by omega
 have h5:=h4.step B5;rw[(p8 i4 (h4.ok B5)).1 b6,pe i4,show l - 1+1=l from by omega] at h5;have hj:Acc s 0 ⟨20,0,-1⟩ j M1:=by unfold Acc at g3 ⊢;rw[<-g3,a6]
 refine⟨?_,_,_,h5⟩;have p1:=zP h5;have p2:=zP hj
 by_cases c1:j<s.size
 ·by_cases c2:l<s.size
  ·have:=p1.1 c2;have:=p2.1 c1;omega
  ·have:=p1.2 c2;have:=p2.1 c1;omega
 ·by_cases c2:l<s.size
  ·have:=p1.1 c2;have:=p2.2 c1;omega
  ·omega
theorem mz:∀{rs:List dx} {i j:Nat},RulsAt s i j rs->i<=j
 | [],_,_,h=>by simp only[RulsAt] at h;omega
 | _ :: _,_,_,⟨_,_,h2,h5⟩=>by have:=mz h5;omega
theorem pS:∀{rs:List (List (List (Nat × Nat)))} {i j:Nat},RRulsAt s i j rs->i<=j
 | [],_,_,h=>by simp only[RRulsAt] at h;omega
 | _ :: _,_,_,⟨_,_,h2,h5⟩=>by have:=pS h5;omega
theorem xK:∀{rs:List dx} {Js:List (List (List (Nat × Nat)))} {i:Nat} {k:Cn} {M:Int},Acc s 0 k i M->RulsAt s i s.size rs->RRulsAt s i s.size Js->LRS s Js rs
 | [],[],_,_,_,_,_,_=>trivial
 | [],_ :: _,_,_,_,_,h,⟨_,_,h2,h3⟩=>by simp only[RulsAt] at h;have:=pS h3;omega
 | _ :: _,[],_,_,_,_,⟨_,_,h2,h3⟩,h=>by simp only[RRulsAt] at h;have:=mz h3;omega
 | _ :: _,_ :: _,i,k,M,ha,⟨j,a1,a2,a3⟩,⟨l,b1,b2,b3⟩=>by
  have hj:=mz a3;have hl:=pS b3;obtain⟨rfl,c2,k',M',c3⟩:=AD ha (by omega) hj hl a1 b1;exact⟨c2,xK c3 a3 b3⟩
end
section
variable {c:Int}{i j k:Nat}{rs:List dx}{s:ByteArray}{ss:List (List eb)}
theorem kf:∀{ks:List PPt} {i j:Nat},PartsAt s i j ks->ks.length<=j - i
 | [],_,_,_=>by simp
 | _ :: _,_,_,⟨_,_,h1,h2⟩=>by
  have:=lb h1;have:=kf h2;have:=(pK h2).1;simp only[List.length_cons];omega
theorem Dq {ty:Nat}{ks:List PPt}(h:fp s i j ty ks):ks.length<=j - i:=by
 rcases h with⟨_,_,h2⟩ | ⟨_,_,_,h2⟩ | ⟨_,_,_,h2,_⟩
 ·have:=kf h2;omega
 ·have:=kf h2;omega
 ·exact kf h2
theorem sR:∀{cs:List eb} {i0 i j:Nat},SelPre s i0 i j cs->j<=400->cs.length<=j - i/\∀x∈cs,x.ps.length<=400
 | [],_,_,_,_,_=>⟨by simp,λx hx=>by cases hx⟩
 | y :: cs,_,i,j,⟨l,h1,h2,_,_,h5,_⟩,hj=>by
  obtain⟨a,b⟩:=sR h5 hj;have hl:=ki h5;have hc:=Dq h1;refine⟨by simp only[List.length_cons];omega,λx hx=>?_⟩;rcases List.mem_cons.1 hx with rfl | hx
  ·omega
  ·exact b x hx
theorem A3 {cs:List eb}(h:lC s i j cs)(hj:j<=400):o9 cs:=by
 obtain⟨pre,l,ty,ks,rfl,h2,h3,h4,_⟩:=h;obtain⟨a,b⟩:=sR h2 (by omega);have hc:=Dq h3;refine⟨by simp only[List.length_append,List.length_cons,List.length_nil];omega,λx hx=>?_⟩;rcases List.mem_append.1 hx with hx | hx
 ·exact b x hx
 ·rcases List.mem_cons.1 hx with rfl | hx
  ·show ks.length<=400;omega
  ·cases hx
theorem qI:∀{ss:List (List eb)} {i j:Nat},SelsPre s i j ss->j<=400->ss.length<=j - i/\∀cs∈ss,o9 cs
 | [],_,_,_,_=>⟨by simp,λx hx=>by cases hx⟩
 | cs :: ss,i,j,⟨l,h1,h2,_,h5⟩,hj=>by
  have hl:=jx h5;obtain⟨a,b⟩:=qI h5 hj;refine⟨by simp only[List.length_cons];omega,λx hx=>?_⟩;rcases List.mem_cons.1 hx with rfl | hx
  ·exact A3 h1 (by omega)
  ·exact b x hx
theorem Hu (h:o8 s i j ss)(hj:j<=400):ss.length<=400/\∀cs∈ss,o9 cs:=by
 obtain⟨pre,l,cs,rfl,h2,h3,h4,_⟩:=h;obtain⟨a,b⟩:=qI h2 (by omega);refine⟨by simp only[List.length_append,List.length_cons,List.length_nil];omega,λx hx=>?_⟩;rcases List.mem_append.1 hx with hx | hx
 ·exact b x hx
 ·rcases List.mem_cons.1 hx with rfl | hx
  ·exact A3 h3 hj
  ·cases hx
theorem ow:∀{rs:List dx} {i j:Nat},RulsAt s i j rs->j<=400->rs.length<=j - i/\∀r∈rs,r.ss.length<=400/\∀cs∈r.ss,o9 cs
 | [],_,_,_,_=>⟨by simp,λx hx=>by cases hx⟩
 | ss :: rs,i,j,⟨l,h1,h2,h5⟩,hj=>by
  have hl:=mz h5;obtain⟨a,b⟩:=ow h5 hj;refine⟨by simp only[List.length_cons];omega,λx hx=>?_⟩;rcases List.mem_cons.1 hx with rfl | hx
  ·obtain⟨p,q,_,a2,_,_,a5,_⟩:=h1;exact Hu a2 (by omega)
  ·exact b x hx
def Mr (ss:List (List eb))(c:Int):Int × Int:=if 0<=c/\c.toNat<ss.length then(((qS (ss.getD c.toNat []):Nat):Int),0) else(0,4)
def pZ (rs:List dx)(r c:Int):Int × Int:=if 0<=r/\r.toNat<rs.length then Mr ((rs.map dx.ss).getD r.toNat []) c else(0,4)
theorem JK (h:k<rs.length)(c:Int):pZ rs (k:Int) c=Mr rs[k].ss c:=by
 unfold pZ;rw[aE ⟨by omega,by simpa using h⟩];simp[h]
theorem JL (h:k<ss.length):Mr ss (k:Int)=(((qS ss[k]:Nat):Int),0):=by
 unfold Mr;rw[aE ⟨by omega,by simpa using h⟩];simp[h]
theorem vQ {r:Int}(h:¬(0<=r/\r.toNat<rs.length)):pZ rs r c=(0,4):=by unfold pZ;rw[aA h]
theorem vR (h:¬(0<=c/\c.toNat<ss.length)):Mr ss c=(0,4):=by unfold Mr;rw[aA h]
def Gi (w:World)(s:ByteArray)(r c:Int)(e:Ending)(w':World):Prop:=
 ∃x y:Int,e=.returned (.tuple #[.int .i64 x,.int .i64 y])/\Below w.heap.size w w'/\Hid (((eH s).1≠0->(x,y)=(0,(eH s).1))/\((eH s).1=0->∃rs,RulsAt s 0 s.size rs/\(x,y)=pZ rs r c))
theorem ll (h:(eH s).1=0):s.size<=400:=by
 unfold eH at h
 by_cases h4:400<s.size
 ·rw[aE h4] at h;simp at h
 ·omega
theorem Ig (w:World)(s:ByteArray)(r c:Int)(hs:s.size<=maxLen):
  Calls prog 11 #[.string s,.int .i64 r,.int .i64 c] w λe w'=>Gi w s r c e w':=by
 go_enter func11,ntmps11;go_wp2_with fail;refine(pP _ s hs).mono ?_;rintro e w1 ⟨a,n,c1,rfl,hb,Ah⟩;have HC:=aw Ah;clear Ah;have hz:=hb.size
 by_cases h0:(eH s).1=0
 ·obtain⟨rs,xs,hn,ho,hr,ht⟩:=HC.out h0;have H0:=aw h0;have HT:=aw ht;obtain⟨B5,FT⟩:=ow ht (ll h0);have FX:=ll h0;have FJ:=aw FT;have Rg:Hid (w1.ownsRow w.heap.size 68 3 (.slice a rs.length c1) rs.length xs/\Ruls w1 w.heap.size xs rs):=by subst hn;exact⟨ho,hr⟩
  subst hn;rw[h0];generalize (eH s).2=y2;clear HC h0 ho hr ht FT;have MM:rs.length<=400:=by omega
  by_cases ML:r<0
  ·have hd:decide (r<0)=true:=by simpa using ML
   have HW:Hid (pZ rs r c=(0,4)):=vQ (by omega);clear ML;go_wp2;go_ret2;exact⟨0,4,rfl,hb.alloc hz _,λh=>absurd H0.out h,λ_=>⟨rs,HT.out,HW.out.symm⟩⟩
  have hd:decide (r<0)=false:=by simpa using ML
  by_cases IZ:(rs.length:Int)<=r
  ·have XG:decide ((rs.length:Int)<=r)=true:=by simpa using IZ
   have HW:Hid (pZ rs r c=(0,4)):=vQ (by omega);clear IZ;go_wp2;go_ret2;exact⟨0,4,rfl,hb.alloc hz _,λh=>absurd H0.out h,λ_=>⟨rs,HT.out,HW.out.symm⟩⟩
  have XG:decide ((rs.length:Int)<=r)=false:=by simpa using IZ
  obtain⟨k,rfl⟩:∃k:Nat,r=k:=⟨r.toNat,by omega⟩;have hk:k<rs.length:=by omega
  obtain⟨a2,c2,ps,e1,e2,e3⟩:=vN Rg.out.2 hk;obtain⟨g,hg,di,gM⟩:=aX Rg.out.1 (by omega);subst hg;have q1:=gM _ _ e1;obtain⟨Pi,uG⟩:=FJ.out rs[k] (bN hk);have HK:=aw (JK hk);have qK:=aw uG;have HE:=bZ e2 e3;clear e1 e2 e3 gM ML IZ uG;generalize rs[k].ss=ss at q1 HE Pi HK qK
  by_cases KJ:c<0
  ·have iC:decide (c<0)=true:=by simpa using KJ
   have HW:Hid (pZ rs (k:Int) c=(0,4)):=by unfold Hid;rw[HK.out,vR (by omega)]
   clear KJ;go_wp2;go_ret2;exact⟨0,4,rfl,hb.alloc hz _,λh=>absurd H0.out h,λ_=>⟨rs,HT.out,HW.out.symm⟩⟩
  have iC:decide (c<0)=false:=by simpa using KJ
  by_cases lZ:(ss.length:Int)<=c
  ·have uA:decide ((ss.length:Int)<=c)=true:=by simpa using lZ
   have HW:Hid (pZ rs (k:Int) c=(0,4)):=by unfold Hid;rw[HK.out,vR (by omega)]
   clear lZ;go_wp2;go_ret2;exact⟨0,4,rfl,hb.alloc hz _,λh=>absurd H0.out h,λ_=>⟨rs,HT.out,HW.out.symm⟩⟩
  have uA:decide ((ss.length:Int)<=c)=false:=by simpa using lZ
  obtain⟨m,rfl⟩:∃m:Nat,c=m:=⟨c.toNat,by omega⟩;have hm:m<ss.length:=by omega
  obtain⟨a3,c3,ps3,e1,e2,e3⟩:=vO HE.out.2 hm;obtain⟨g',vk,O7,hgc'⟩:=aX HE.out.1 (by omega);subst vk;have q2:=hgc' _ _ e1;have HW:Hid (pZ rs (k:Int) (m:Int)=(((qS ss[m]:Nat):Int),0)):=by unfold Hid;rw[HK.out,JL hm]
  have oS:=qK.out ss[m] (bN hm);have Yq:=aw oS;have yQ:=bZ e2 e3;clear e1 e2 e3 hgc' KJ lZ oS;generalize ss[m]=cs at q2 HW Yq yQ;go_wp2_with fail;refine(Fc _ w.heap.size a3 c3 cs ps3 (by exact yQ.out.1.alloc _) (by exact yQ.out.2.keep (cX _ _ _ _)) Yq.out).mono ?_;rintro e w2 ⟨rfl,oW⟩;have dk:Below w.heap.size w w2:=(hb.alloc hz _).trans (oW.mono (by simp;omega));go_wp2_with fail;go_ret2;exact⟨_,0,rfl,dk,λh=>absurd H0.out h,λ_=>⟨rs,HT.out,HW.out.symm⟩⟩
 ·have H0:=aw h0;have fG:((eH s).1 != 0)=true:=by simp[h0]
  have HX:Hid (∀x,(eH s).1=x->(eH s).1=x):=λ_ h=>h;obtain⟨x,hx⟩:∃x,(eH s).1=x:=⟨_,rfl⟩;have HXE:=aw hx;rw[hx] at fG ⊢;generalize (eH s).2=y2;clear h0 hx HC HX;go_wp2;go_ret2;exact⟨0,x,rfl,hb.alloc hz _,λ_=>by rw[HXE.out],λh=>absurd h H0.out⟩
end
section
variable {G:Nat->Prop}{i j:Nat}{p:PPt}{rs:List dx}{s:ByteArray}{v:Value}{w w':World}{xs:List Value}
def PPt.rng (p:PPt):Prop:=(-48<=p.st/\p.st<=207)/\(-48<=p.sr/\p.sr<=207)
theorem Lw (s:ByteArray)(i:Nat):(fL s i).rng:=by
 have h1:=zQ s (i+1);have h2:=zQ s (i+2);unfold fL
 (repeat' split)<;>(refine⟨⟨?_,?_⟩,⟨?_,?_⟩⟩<;>simp<;>omega)
theorem Fk (s:ByteArray)(i:Nat):(iH s i).rng:=by
 unfold iH;split
 ·refine⟨⟨?_,?_⟩,⟨?_,?_⟩⟩<;>simp
 ·split
  ·refine⟨⟨?_,?_⟩,⟨?_,?_⟩⟩<;>simp
  ·exact Lw s _
theorem Qa (s:ByteArray)(i:Nat):(mN s i).rng:=by
 unfold mN;split
 ·split
  ·refine⟨⟨?_,?_⟩,⟨?_,?_⟩⟩<;>simp
  ·exact Fk s _
 ·exact Fk s _
theorem Qg (s:ByteArray)(i:Nat):(fL s i).kd≠2/\(fL s i).kd≠3:=by
 unfold fL
 (repeat' split)<;>simp
def uU (kd:Int):Nat:=if kd=2 then 46 else 35
theorem uV (h:iA s i p j)(hk:p.kd=2∨p.kd=3):bt s i=uU p.kd/\p.lt=(bt s (i+1):Int)/\gN (bt s (i+1))=true/\j=i+2:=by
 obtain⟨h1,_,_,h4,h5,_,h7⟩:=h
 have hb:bt s i=46∨bt s i=35:=by
  rcases h5 with e | e | e
  ·exact ax e
  ·exact az e
  ·exfalso;have h8:p=fL s (i+1):=by rw[h1];unfold iH;rw[aA (by omega),aA (by omega)]
   have h9:=Qg s (i+1);rw[<-h8] at h9;exact hk.elim h9.1 h9.2
 have hL:gN (bt s (i+1))=true:=by
  rcases h7 with h | h
  ·exact h.2
  ·omega
 have hj:j=i+2:=by rw[h4];unfold sl;rw[aA (by omega)]
 unfold uU;rcases hb with e | e
 ·have h8:p=⟨false,2,bt s (i+1),0,0⟩:=by rw[h1];unfold iH;rw[aE e]
  rw[h8];exact⟨e,rfl,hL,hj⟩
 ·have h8:p=⟨false,3,bt s (i+1),0,0⟩:=by rw[h1];unfold iH;rw[aA (by omega),aE e]
  rw[h8];exact⟨e,rfl,hL,hj⟩
theorem AN (h:jP s i p j)(hk:p.kd=2∨p.kd=3):∃n,i<=n/\n+2=j/\bt s n=uU p.kd/\p.lt=(bt s (n+1):Int)/\gN (bt s (n+1))=true:=by
 have h2:=h.2;split at h2
 ·split at h2
  ·omega
  ·obtain⟨e1,e2,e3,e4⟩:=uV h2 hk;exact⟨i+1,by omega,by omega,e1,e2,e3⟩
 ·obtain⟨e1,e2,e3,e4⟩:=uV h2 hk;exact⟨i,by omega,by omega,e1,e2,e3⟩
def PPt.fine (p:PPt):Prop:=p.rng/\(p.kd=2∨p.kd=3->p.lt≠0)
theorem xV:∀{ks:List PPt} {i j:Nat},PartsAt s i j ks->∀p∈ks,p.fine
 | [],_,_,_=>λp hp=>by cases hp
 | _ :: _,_,_,⟨_,_,h2,h3⟩=>λp hp=>by
  rcases List.mem_cons.1 hp with rfl | hp
  ·refine⟨by rw[(DQ h2).1];exact Qa s _,λhk=>?_⟩;obtain⟨n,_,_,_,h5,h6⟩:=AN h2 hk;unfold gN at h6;rw[bO] at h6;omega
  ·exact xV h3 p hp
def PDc.fine (d:PDc):Prop:=(0<=d.pr/\d.pr<=255)/\(0<=d.va/\d.va<=255)
structure RsRow (w:World)(ar:Option Addr)(cr:Nat)(xs:List Value)(rs:List dx):Prop where
 row:w.ownsRow 0 68 3 (.slice ar rs.length cr) rs.length xs
 ruls:Ruls w 0 xs rs
 few:rs.length<=400
 short:∀r∈rs,r.ss.length<=400/\∀cs∈r.ss,o9 cs
 fine:∀r∈rs,∀cs∈r.ss,∀x∈cs,∀p∈x.ps,p.fine
 decl:∀r∈rs,r.ds.length<=400/\∀d∈r.ds,d.fine
theorem RsRow.below {ar:Option Addr}{cr:Nat}(h:RsRow w ar cr xs rs)(hB:Below w.heap.size w w'):RsRow w' ar cr xs rs:=
 ⟨aY h.row hB,h.ruls.keep (λ_ _=>iE hB _ _),h.few,h.short,h.fine,h.decl⟩
theorem zX {ty:Nat}{ks:List PPt}(h:fp s i j ty ks):∀p∈ks,p.fine:=by
 rcases h with⟨_,_,h⟩ | ⟨_,_,_,h⟩ | ⟨_,_,_,h,_⟩<;>exact xV h
theorem uS:∀{cs:List eb} {i0 i j:Nat},SelPre s i0 i j cs->∀x∈cs,∀p∈x.ps,p.fine
 | [],_,_,_,_=>λx hx=>by cases hx
 | y :: cs,_,i,j,⟨l,h1,_,_,_,h5,_⟩=>λx hx=>by
  rcases List.mem_cons.1 hx with rfl | hx
  ·exact zX h1
  ·exact uS h5 x hx
theorem E0 {cs:List eb}(h:lC s i j cs):∀x∈cs,∀p∈x.ps,p.fine:=by
 obtain⟨pre,l,ty,ks,rfl,h2,h3,_⟩:=h;intro x hx;rcases List.mem_append.1 hx with hx | hx
 ·exact uS h2 x hx
 ·rw[ft] at hx;subst hx;exact zX h3
theorem sT:∀{ss:List (List eb)} {i j:Nat},SelsPre s i j ss->∀cs∈ss,∀x∈cs,∀p∈x.ps,p.fine
 | [],_,_,_=>λx hx=>by cases hx
 | cs :: ss,i,j,⟨l,h1,_,_,h5⟩=>λx hx=>by
  rcases List.mem_cons.1 hx with rfl | hx
  ·exact E0 h1
  ·exact sT h5 x hx
theorem LV {ss:List (List eb)}(h:o8 s i j ss):∀cs∈ss,∀x∈cs,∀p∈x.ps,p.fine:=by
 obtain⟨pre,l,cs,rfl,h2,h3,_⟩:=h;intro x hx;rcases List.mem_append.1 hx with hx | hx
 ·exact sT h2 x hx
 ·rw[ft] at hx;subst hx;exact E0 h3
theorem zZ {d:PDc}(h:mD s i j d):d.fine:=by
 obtain⟨_,h2,_,k,hv,_⟩:=h;have b1:=zQ s i;have b2:=zQ s (i+2+1);refine⟨by rw[h2];omega,?_⟩;rcases hv with h | h | h | h | h
 ·rw[h.2.2.2.1];omega
 ·rw[h.2.2.2.1];omega
 ·rw[h.2.2.2.1];omega
 ·rw[h.2.2.2.1];omega
 ·rw[h.2.2.1];omega
theorem wW:∀{ds:List PDc} {i j:Nat},DcPre s i j ds->i+ds.length<=j/\∀d∈ds,d.fine
 | [],_,_,h=>⟨by simp only[DcPre] at h;simp;omega,λx hx=>by cases hx⟩
 | d :: ds,i,j,⟨l,h1,h2,_,h5⟩=>by
  obtain⟨a,b⟩:=wW h5;refine⟨by rw[List.length_cons];omega,λx hx=>?_⟩;rcases List.mem_cons.1 hx with rfl | hx
  ·exact zZ h1
  ·exact b x hx
theorem Nv {ds:List PDc}(h:CV s i j ds)(hj:j<=400):ds.length<=400/\∀d∈ds,d.fine:=by
 rcases h.2 with⟨_,rfl,_⟩ | ⟨_,k,⟨pre,l,d,rfl,h2,h3,h4,_⟩,_,rfl⟩
 ·exact⟨by simp,λx hx=>by cases hx⟩
 ·obtain⟨a,b⟩:=wW h2;refine⟨by simp;omega,λx hx=>?_⟩;rcases List.mem_append.1 hx with hx | hx
  ·exact b x hx
  ·rw[ft] at hx;subst hx;exact zZ h3
theorem AZ:∀{rs:List dx} {i j:Nat},RulsAt s i j rs->j<=400->(∀r∈rs,∀cs∈r.ss,∀x∈cs,∀p∈x.ps,p.fine)/\∀r∈rs,r.ds.length<=400/\∀d∈r.ds,d.fine
 | [],_,_,_,_=>⟨λx hx=>(by cases hx),λx hx=>by cases hx⟩
 | r :: rs,i,j,⟨l,h1,h2,h5⟩,hj=>by
  have hl:=mz h5;obtain⟨a,b⟩:=AZ h5 hj;obtain⟨p,q,_,a2,_,_,_,_,_,a9⟩:=h1;refine⟨λx hx=>?_,λx hx=>?_⟩
  ·rcases List.mem_cons.1 hx with rfl | hx
   ·exact LV a2
   ·exact a x hx
  ·rcases List.mem_cons.1 hx with rfl | hx
   ·exact Nv a9 (by omega)
   ·exact b x hx
def cA (T:aU)(n:Int)(s:ByteArray):Int:=match bF T n with | none=>5 | some _=>if aQ s=false then 4 else 0
def cJ (T:aU)(n:Int)(s:ByteArray):Int:=match bF T n with | none=>5 | some _=>if s.size≠0/\aQ s=false then 4 else 0
def SheetIn (w:World)(G:Nat->Prop)(v:Value)(rs:List dx):Prop:=
 ∃(ar:Option Addr) (cr:Nat) (xs:List Value),v=.slice ar rs.length cr/\∀w':World,(∀k,G k->k<w.heap.size->w'.heap[k]?=w.heap[k]?)->RsRow w' ar cr xs rs
theorem SheetIn.keep (h:SheetIn w G v rs)(hk:∀k,G k->k<w.heap.size->w'.heap[k]?=w.heap[k]?)(hz:w.heap.size<=w'.heap.size):SheetIn w' G v rs:=by
 obtain⟨ar,cr,xs,hv,h⟩:=h;exact⟨ar,cr,xs,hv,λw2 h2=>h w2 (λk hg hl=>(h2 k hg (by omega)).trans (hk k hg hl))⟩
theorem SheetIn.row (h:SheetIn w G v rs):∃(ar:Option Addr) (cr:Nat) (xs:List Value),v=.slice ar rs.length cr/\RsRow w ar cr xs rs:=by
 obtain⟨ar,cr,xs,hv,h⟩:=h;exact⟨ar,cr,xs,hv,h w (λ_ _ _=>rfl)⟩
theorem SJ (h:(eH s).1=0):s.size<=400:=by
 unfold eH at h;split at h
 ·cases h
 ·omega
theorem Fe {a:Option Addr}{n c:Nat}(hc:(eH s).1=0)(hn:n=rs.length)(ho:w'.ownsRow w.heap.size 68 3 (.slice a n c) n xs)(hr:Ruls w' w.heap.size xs rs)(ht:RulsAt s 0 s.size rs):SheetIn w' (λk=>w.heap.size<=k/\k<w'.heap.size) (.slice a n c) (eQ s):=by
 have h4:=SJ hc;rw[A7 h4 ht];subst hn;obtain⟨hl,hs⟩:=ow ht h4;obtain⟨hf,hd⟩:=AZ ht h4;refine⟨a,c,xs,rfl,λw2 h2=>?_⟩
 have hk:∀e,Keeps w' w2 w.heap.size e:=λe g gu hg hh=>by
  have di:=(bG.1 hh).1;exact(h2 g ⟨hg,di⟩ di).trans hh
 exact⟨ba ((hk _).owns ho) bm,(hr.keep (λe _=>hk e)).mono bm,by omega,hs,hf,hd⟩
end
end Go.Proofs.YtblfffbmklkhmabGreat
