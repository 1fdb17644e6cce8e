/- Own work. -/
import Derived.Test.YtblfffbmklkhmaaGreatPi1
import Derived.Test.YtblfffbmklkhmaaGreatPi13
import Derived.Laws.AppendOwnNone
import Derived.Test.YtblfffbmklkhmaaGreatPi12
import Derived.Test.YtblfffbmklkhmaaGreatPi9
import Derived.Test.YtblfffbmklkhmaaGreatPi4
import Derived.Test.YtblfffbmklkhmaaGreatPi11
import Derived.Test.YtblfffbmklkhmaaGreatPi3
import Derived.Test.YtblfffbmklkhmaaGreatPi7
set_option maxRecDepth 100000
set_option maxHeartbeats 40000000
namespace Go.Proofs.YtblfffbmklkhmaaGreat
open Go.RowKit Go.Proofs.Tryz
section
variable {L:List Int}{j:Nat}
def Srt (L:List Int):Prop:=∀p q,p<q->q<L.length->L.getD p 0<=L.getD q 0
def SrtE (L:List Int)(j:Nat):Prop:=(∀p q,p<q->q<L.length->p≠j->q≠j->L.getD p 0<=L.getD q 0)/\∀q,j<q->q<L.length->L.getD j 0<=L.getD q 0
theorem SrtE.zero (h:SrtE L 0):Srt L:=λp q h1 h2=>by
 by_cases e:p=0
 ·subst e;exact h.2 q h1 h2
 ·exact h.1 p q h1 h2 e (by omega)
theorem SrtE.stop (h:SrtE L (j+1))(hl:L.getD j 0<=L.getD (j+1) 0):Srt L:=λp q h1 h2=>by
 by_cases e:p=j+1
 ·subst e;exact h.2 q h1 h2
 ·by_cases e2:q=j+1
  ·subst e2
   by_cases e3:p=j
   ·subst e3;exact hl
   ·exact Int.le_trans (h.1 p j (by omega) (by omega) e (by omega)) hl
  ·exact h.1 p q h1 h2 e e2
theorem Dl (L:List Int)(i k:Nat)(x:Int):(L.set i x).getD k 0=if i=k/\k<L.length then x else L.getD k 0:=by
 rw[List.getD_eq_getElem?_getD,List.getD_eq_getElem?_getD,List.getElem?_set]
 by_cases e:i=k
 ·subst e
  by_cases hl:i<L.length
  ·simp[hl]
  ·simp[hl]
 ·simp[e]
theorem SrtE.swap {x y:Int}(h:SrtE L (j+1))(hl:j+1<L.length)(hx:L.getD j 0=x)(hy:L.getD (j+1) 0=y)(aU:y<x):SrtE ((L.set j y).set (j+1) x) j:=by
 have e:∀k,k<L.length->((L.set j y).set (j+1) x).getD k 0=if k=j+1 then x else if k=j then y else L.getD k 0:=λk hk=>by
  rw[Dl,Dl,List.length_set]
  by_cases e1:k=j+1
  ·rw[aq ⟨e1.symm,hk⟩,aq e1]
  ·rw[aj (λh=>e1 h.1.symm),aj e1]
   by_cases e2:k=j
   ·rw[aq ⟨e2.symm,hk⟩,aq e2]
   ·rw[aj (λh=>e2 h.1.symm),aj e2]
 refine⟨λp q h1 h2 h3 h4=>?_,λq h1 h2=>?_⟩<;>rw[List.length_set,List.length_set] at h2
 ·rw[e p (by omega),e q h2,aj h3,aj h4]
  by_cases e1:p=j+1
  ·rw[aq e1,aj (by omega),<-hx];exact h.1 j q (by omega) h2 (by omega) (by omega)
  ·rw[aj e1]
   by_cases e2:q=j+1
   ·rw[aq e2,<-hx];exact h.1 p j (by omega) (by omega) e1 (by omega)
   ·rw[aj e2];exact h.1 p q h1 h2 e1 e2
 ·rw[e j (by omega),e q h2,aj (by omega),aq rfl]
  by_cases e2:q=j+1
  ·rw[aq e2];omega
  ·rw[aj e2,aj (by omega),<-hy];exact h.2 q (by omega) h2
theorem Srt.snoc (h:Srt L)(x:Int):SrtE (L++[x]) L.length:=by
 refine⟨λp q h1 h2 h3 h4=>?_,λq h1 h2=>?_⟩<;>rw[List.length_append,List.length_singleton] at h2
 ·rw[List.getD_eq_getElem?_getD,List.getD_eq_getElem?_getD,List.getElem?_append_left (by omega),List.getElem?_append_left (by omega),<-List.getD_eq_getElem?_getD,<-List.getD_eq_getElem?_getD];exact h p q h1 (by omega)
 ·omega
theorem As:∀(L:List Int) (j:Nat) (x y:Int),L[j]?=some x->L[j+1]?=some y->((L.set j y).set (j+1) x).Perm L
 | [],_,_,_,h,_=>by cases h
 | a :: [],0,_,_,_,h=>by cases h
 | a :: b :: l,0,x,y,h1,h2=>by
  have e1:=Option.some.inj h1;have e2:=Option.some.inj h2;subst e1 e2;exact List.Perm.swap _ _ _
 | a :: l,j+1,x,y,h1,h2=>List.Perm.cons a (As l j x y h1 h2)
theorem Srt.strict (h:Srt L)(hn:L.Nodup):L.Pairwise (·<·):=by
 rw[List.pairwise_iff_getElem];intro i j hi hj VC;have h1:=h i j VC hj;rw[List.getD_eq_getElem?_getD,List.getD_eq_getElem?_getD,bO hi,bO hj] at h1
 have h2:L[i]≠L[j]:=λe=>by
  have:=(List.getElem_inj hn).1 e;omega
 have sJ:L[i]<=L[j]:=h1;omega
abbrev uo (els:List PEl):List Int:=els.map λe=>(e.num:Int)
theorem O7 {els:List PEl}(h:(els.map PEl.num).Nodup):(uo els).Nodup:=by
 have:=wk h;rwa[List.map_map] at this
def Mu (els:List PEl)(i:Nat)(L:List Int):Prop:=L.Perm (uo (els.take i))/\Srt L
def Hs (els:List PEl)(i j:Nat)(L:List Int):Prop:=L.Perm (uo (els.take i))/\SrtE L j
def XM (w:World)(els:List PEl)(e:Ending)(w':World):Prop:=∃L:List Int,L.Perm (uo els)/\Srt L/\oh w L e w'
theorem z9 (L:List Int)(i:Nat)(x:Int):(az L).set i (.int .i64 x)=az (L.set i x):=by
 show(L.map (Value.int .i64)).set i (.int .i64 x)=(L.set i x).map (Value.int .i64);rw[List.map_set]
section
variable (w:World)(b:Nat)(a:Option Addr)(c:Nat)(els:List PEl)
theorem KR (h:TRd w b a c els):Calls prog 49 #[.pointer (some ⟨b,1,none⟩)] w λe w'=>XM w els e w':=by
 obtain⟨i0,Gj,gx,gA,gB⟩:=info_parts Tryz.info3;have HT:=ae h;have bC:=h.few;have q0:=h.cell;clear h;go_enter func49,ntmps49;go_wp2_with fail
 go_loopg [3,13] els.length (λgk v iv wr=>∃i:Nat,iv=.int .i64 i/\i<=els.length/\els.length - i<=gk/\Hid (∃L:List Int,L.length=i/\Mu els i L/\wr.ownsRow w.heap.size 3 1 v L.length (az L)/\Below w.heap.size w wr))
 case atStart=>exact⟨0,rfl,aZ,by omega,[],rfl,⟨List.Perm.refl _,λ_ _ _ h=>absurd h (Nat.not_lt_zero _)⟩,er,bd⟩
 case round=>
  obtain⟨i,rfl,hi,fS,HI⟩:=hrel;obtain⟨R,hRl,hRn,hRo,hRb⟩:=HI.out;obtain⟨wo,rfl⟩:∃wo,wo=wr:=⟨_,rfl⟩;obtain⟨a2,c2,jC⟩:=aA hRo;subst jC;have HN:=zM hRl hRn hRo hRb;have iW:=hRb.size;have WH:R.length<=24:=by omega
  clear HI hRn hRo hRb
  by_cases aU:i<els.length
  ·have hd:decide ((i:Int)<(els.length:Int))=true:=by simp;omega
   obtain⟨g,hg,dn,he⟩:=HT.out.pl.el aU;subst hg;have HE:=ae (he.below HN.out.2.2.2 dn);have HNE:Hid (uo (els.take (i+1))=uo (els.take i)++[(els[i].num:Int)]):=by unfold Hid uo;rw[fU aU,List.map_append];rfl
   clear he;generalize els[i].num=nk at HE HNE;generalize els[i].par=pk at HE;generalize els[i].cells=cs at HE;have c0:cs[0]?=some (.int .i64 nk):=HE.out.c0;clear q0 hRl;go_wp2_with (first | (refine wpList_load_mid rfl 134 _ rfl g (i*31) rfl cs _ HE.out.rng underlying134 rfl HE.out.size ?_) | (refine aE rfl 134 _ _ rfl _ cs.toArray 134 rfl rfl HE.out.size' HE.out.same HE.out.all ?_) | (at_builtin;refine wpList_append_own _ rfl (.tmp 17) (.tmp 20) 40 rfl w.heap.size 3 i0 (.int .i64 0) 1 8 underlying40 Gj gx gA gB rfl (by decide) _ _ _ rfl ((HN.out.2.2.1.alloc _).alloc _) ⟨wo.heap.size+1,0,none⟩ 1 1 [.int .i64 (nk:Int)] rfl rfl ?c1 ?c2 ?c3 ?c4 ?c5 ?_))
   case c1=>exact aW (wo.alloc _) _ (by simp) _ _ _ rfl
   case c2=>exact rZ nk
   case c3=>unfold maxLen;omega
   case c4=>omega
   case c5=>simp;omega
   intro v5 w5 bR jf _;have ql:Hid (Below w.heap.size w w5):=((HN.out.2.2.2.alloc iW _).alloc (by simp;omega) _).grown jf (by simp;omega) (λk hk=>(HN.out.2.2.1.lt k hk).1);have bL:w5.ownsRow w.heap.size 3 1 v5 (R++[(nk:Int)]).length (az (R++[(nk:Int)])):=by simpa[az] using bR
   have zR:Hs els (i+1) i (R++[(nk:Int)]):=by
    have h1:=HN.out.2.1.2.snoc (nk:Int);rw[HN.out.1] at h1;refine⟨?_,h1⟩;rw[HNE.out];exact HN.out.2.1.1.append_right _
   have Ik:(R++[(nk:Int)]).length=i+1:=by simp[HN.out.1]
   obtain⟨a5,c5,Gt⟩:=aA bL;subst Gt;obtain⟨g5,hg5e,hgl5,_⟩:=aR bL (by omega);subst hg5e;have Xl:Hid (Hs els (i+1) i (R++[(nk:Int)])/\w5.ownsRow w.heap.size 3 1 (.slice (some ⟨g5,0,none⟩) (i+1) c5) (i+1) (az (R++[(nk:Int)]))/\(R++[(nk:Int)]).length=i+1):=⟨zR,by rw[Ik] at bL;exact bL,Ik⟩;have ZX:w.heap.size<=g5:=(bL.lt g5 rfl).1;rw[Ik];clear bR jf bL zR Ik HN HE;generalize R++[(nk:Int)]=L0 at Xl;have J4:=lX Xl.out.2.1;go_wp2_with fail
   go_loopg [6] (i+1) (λgk jv wr=>∃j:Nat,jv=.int .i64 j/\j<=i/\j<=gk/\Hid (∃L:List Int,L.length=i+1/\Hs els (i+1) j L/\wr.ownsRow w.heap.size 3 1 (.slice (some ⟨g5,0,none⟩) (i+1) c5) (i+1) (az L)/\Below w.heap.size w wr))
   case atStart=>exact⟨i,by go_num,au,by omega,L0,Xl.out.2.2,Xl.out.1,Xl.out.2.1,ql.out⟩
   case round=>
    obtain⟨j,rfl,hj,rG,HJ⟩:=hrel;cases j with
    | zero=>
     have qU:Hid (∀m,∃L:List Int,L.length=i+1/\Mu els (i+1) L/\(wr.drewN m).ownsRow w.heap.size 3 1 (.slice (some ⟨g5,0,none⟩) (i+1) c5) L.length (az L)/\Below w.heap.size w (wr.drewN m)):=λm=>by
      obtain⟨L,h1,h2,h3,h4⟩:=HJ.out;exact⟨L,h1,⟨h2.1,h2.2.zero⟩,by rw[h1];exact kW h3 m,dR h4 m⟩
     clear HJ;go_upto_region 7 with fail;go_quiet (fail);go_wp2;go_roundg (els.length - (i+1))
     case measure=>omega
     case rel=>exact⟨i+1,by go_num,by omega,au,qU.out _⟩
    | succ j=>
     obtain⟨L,J2,hLn,TO,hLb⟩:=HJ.out;have HL:=zM J2 hLn TO hLb;obtain⟨g6,Ol,hgl6,hc6⟩:=aR TO (by omega);have Ff:g5=g6:=by injection Ol with h1;injection h1 with h1 _ _
     subst Ff;obtain⟨fV,uO,_⟩:=ve TO;have Fh:j+1<L.length:=by omega
     obtain⟨x,hx⟩:∃x,L[j]?=some x:=⟨_,bO (by omega)⟩;obtain⟨y,hy⟩:∃y,L[j+1]?=some y:=⟨_,bO Fh⟩;have qx:wr.cell? ⟨g5,j,none⟩=some (.int .i64 x):=hc6 j _ (by rw[List.getElem?_map,hx];rfl);have qy:wr.cell? ⟨g5,j+1,none⟩=some (.int .i64 y):=hc6 (j+1) _ (by rw[List.getElem?_map,hy];rfl);have qf:∀k,wr.frozen? ⟨g5,k,none⟩=false:=λ_=>ax uO;have WM:((j:Int)+1 - 1)=(j:Int):=by omega
     have LZ:(0:Int)<(j:Int)+1:=by omega
     have Sd:(j:Int)+1<(i:Int)+1:=by omega
     have hj4:(j:Int)<(i:Int)+1:=by omega
     have ah9:(i:Int)<=24:=by omega
     by_cases hxy:y<x
     ·have gxy:decide (y<x)=true:=by simpa using hxy
      have CC:Hid (∀m,∃L:List Int,L.length=i+1/\Hs els (i+1) j L/\(((wr.drewN m).setCell ⟨g5,j,none⟩ (.int .i64 y)).setCell ⟨g5,j+1,none⟩ (.int .i64 x)).ownsRow w.heap.size 3 1 (.slice (some ⟨g5,0,none⟩) (i+1) c5) (i+1) (az L)/\Below w.heap.size w (((wr.drewN m).setCell ⟨g5,j,none⟩ (.int .i64 y)).setCell ⟨g5,j+1,none⟩ (.int .i64 x))):=λm=>by
       have hxg:L.getD j 0=x:=by rw[List.getD_eq_getElem?_getD,hx];rfl
       have hyg:L.getD (j+1) 0=y:=by rw[List.getD_eq_getElem?_getD,hy];rfl
       refine⟨(L.set j y).set (j+1) x,by rw[List.length_set,List.length_set];exact HL.out.1,⟨(As L j x y hx hy).trans HL.out.2.1.1,HL.out.2.1.2.swap Fh hxg hyg hxy⟩,?_,((dR HL.out.2.2.2 m).setCell ZX _).setCell ZX _⟩
       ·have h1:=BT (kW HL.out.2.2.1 m) (i:=j) (by rw[List.length_map];omega) (.int .i64 y);have h2:=BT h1 (i:=j+1) (by rw[List.length_set,List.length_map];omega) (.int .i64 x);rw[z9,z9] at h2;exact h2
      clear HJ J2 hLn TO hLb hc6 uO hx hy hxy HL;go_upto_region 7 with fail;go_quiet (fail);go_wp2;go_roundg j
      case measure=>omega
      case rel=>exact⟨j,by go_num,by omega,au,CC.out _⟩
     ·have gxy:decide (y<x)=false:=by simpa using hxy
      have qU:Hid (∀m,∃L:List Int,L.length=i+1/\Mu els (i+1) L/\(wr.drewN m).ownsRow w.heap.size 3 1 (.slice (some ⟨g5,0,none⟩) (i+1) c5) L.length (az L)/\Below w.heap.size w (wr.drewN m)):=λm=>⟨L,HL.out.1,⟨HL.out.2.1.1,HL.out.2.1.2.stop (by rw[List.getD_eq_getElem?_getD,List.getD_eq_getElem?_getD,hx,hy];exact Int.not_lt.1 hxy)⟩,by rw[HL.out.1];exact kW HL.out.2.2.1 m,dR HL.out.2.2.2 m⟩;clear HJ J2 hLn TO hLb hc6 uO hx hy hxy HL;go_upto_region 7 with fail;go_quiet (fail);go_wp2;go_roundg (els.length - (i+1))
      case measure=>omega
      case rel=>exact⟨i+1,by go_num,by omega,au,qU.out _⟩
  ·have hd:decide ((i:Int)<(els.length:Int))=false:=by simp;omega
   obtain rfl:i=els.length:=by omega
   go_wp2;go_ret;exact⟨R,by have:=HN.out.2.1.1;rwa[List.take_length] at this,HN.out.2.1.2,a2,c2,rfl,HN.out.2.2.1,HN.out.2.2.2⟩
end
end
section
variable {M M':Nat->Mk}{T:aJ}{kl:List (Int × List Int)}{rs:List dF}
def QN (m m':Mk):Prop:=m.kd=m'.kd/\(∀i,i<26->m.cl i=m'.cl i)/\m.nm=m'.nm
theorem I6 (h:∀k,QN (M k) (M' k)):bg T M=bg T M':=by
 have e1:fJ T M=fJ T M':=by
  funext e l;unfold fJ;rw[(h e.toNat).1]
 have e2:eN T M=eN T M':=by
  funext e l;unfold eN
  by_cases hl:97<=l/\l<=122
  ·rw[(h e.toNat).2.1 _ (by omega)]
  ·rw[decide_eq_false hl];rfl
 have e3:fI T M=fI T M':=by
  funext e l;unfold fI;rw[(h e.toNat).2.2]
 unfold bg;rw[e1,e2,e3]
theorem KOK.ag (h:KOK T M rs kl)(hm:∀k,QN (M k) (M' k)):KOK T M' rs kl:=⟨h.nums,h.els,λx hx=>by rw[<-I6 hm];exact h.right x hx⟩
theorem V4 (M:Nat->Mk)(n:Nat)(on:Bool)(k:Nat):QN (M k) (bM M n (io (M n) on) k):=by
 unfold bM;split
 ·rename_i e;subst e;exact⟨rfl,λi hi=>by show _=if i=26 then on else _;rw[aj (by omega)],rfl⟩
 ·exact⟨rfl,λ_ _=>rfl,rfl⟩
def co (kl:List (Int × List Int))(L:List Int):List Int:=L.filter λx=>(bn kl x).isNone
theorem ES {L:List Int}{i:Nat}(h:i<L.length):co kl (L.take (i+1))=if(bn kl L[i]).isNone=true then co kl (L.take i)++[L[i]] else co kl (L.take i):=by
 unfold co;rw[fU h,List.filter_append];cases hu:(bn kl L[i]).isNone<;>simp[hu]
theorem qO (kl:List (Int × List Int))(L:List Int):(co kl L).length<=L.length:=List.length_filter_le _ _
theorem wG (h:∀x∈kl,x.2.length=9)(n:Int):((bn kl n).getD jT).length=9:=by
 cases hf:bn kl n with
 | none=>rfl
 | some s=>exact h _ (nR hf)
section
variable (w:World)(b:Nat)(vS:Value × Value)(v:Value)(els:List PEl)(T:aJ)(made:Nat)(M:Nat->Mk)(rs:List dF)(kl:List (Int × List Int))(G:Nat->Prop)
theorem xE (al:Option Addr)(cl:Nat)(L:List Int)(h:DM w b vS v els T made M rs kl G)(hI:RowI w al L)(hL:L.length<=1000):Calls prog 50 #[.pointer (some ⟨b,0,none⟩),.slice al L.length cl] w λe w'=>oh w (co kl L) e w':=by
 obtain⟨i0,Gj,gx,gA,gB⟩:=info_parts Tryz.info3;have HD:=ae h;have HI:=ae hI;have bC:=h.few;have jF:=h.lt;clear h hI;go_enter func50,ntmps50;go_wp2_with fail
 go_loopg [5,12] L.length (λgk v iv wr=>∃i:Nat,iv=.int .i64 i/\i<=L.length/\L.length - i<=gk/\Hid (wr.ownsRow w.heap.size 3 1 v (co kl (L.take i)).length (az (co kl (L.take i)))/\Below w.heap.size w wr))
 case atStart=>exact⟨0,rfl,aZ,by omega,er,bd⟩
 case round=>
  obtain⟨i,rfl,hi,fS,HN⟩:=hrel;obtain⟨a2,c2,jC⟩:=aA HN.out.1;subst jC;have iW:=HN.out.2.size
  have WH:(co kl (L.take i)).length<=1000:=by
   have h1:=qO kl (L.take i);have h2:(L.take i).length<=L.length:=List.length_take_le' _ _;omega
  by_cases aU:i<L.length
  ·have hd:decide ((i:Int)<(L.length:Int))=true:=by simp;omega
   obtain⟨g2,ij,lM,yP⟩:=HI.out i aU;subst ij;have q1:=(HN.out.2.cell (p:=⟨g2,i,none⟩) lM).trans yP;rw[bO aU] at q1;replace q1:wr.cell? ⟨g2,i,none⟩=some (.int .i64 L[i]):=q1;have fy:Hid (co kl (L.take (i+1))=if(bn kl L[i]).isNone=true then co kl (L.take i)++[L[i]] else co kl (L.take i)):=ES aU;have Qr:=ae (HD.out.below HN.out.2);clear yP;generalize L[i]=o at q1 fy;have h9:=wG HD.out.kp.nine o;go_wp2_with fail;refine(qK wr b vS.2 kl o (aa Qr.out.pb.doc rfl) Qr.out.kp bC).mono ?_;rintro e w1 ⟨rfl,cq⟩;have kJ:=bT (aN HN.out.1 cq) (HN.out.2.trans (cq.mono iW));have Gb:=kJ.out.2.size;clear cq HN Qr q1;obtain⟨fo,hfo⟩:∃fo,bn kl o=fo:=⟨_,rfl⟩;rw[hfo] at fy h9 ⊢;clear hfo;generalize fo.getD jT=S at h9 ⊢;have bX:(az S).toArray.size=9:=List.size_toArray.trans (by rw[List.length_map];exact h9);have sF:Hid ((prog.info? 103).map (·.size)=some (az S).toArray.size):=by unfold Hid;rw[bX];exact Tryz.sizeS
   have Tr:=ae bX.symm;have A3:=ae (gH S);clear bX h9;generalize co kl (L.take i)=R at kJ fy WH ⊢;cases fo with
   | some s=>
    have e9:Hid ((w1.alloc (.cells (az S).toArray 103)).ownsRow w.heap.size 3 1 (.slice a2 R.length c2) (co kl (L.take (i+1))).length (az (co kl (L.take (i+1))))/\Below w.heap.size w (w1.alloc (.cells (az S).toArray 103))):=by
     rw[fy.out,aj (by simp)];exact⟨kJ.out.1.alloc _,kJ.out.2.alloc Gb _⟩
    clear fy kJ;simp only[Option.isSome_some];go_wp2_with (refine aE rfl 103 _ _ rfl _ (az S).toArray 103 rfl rfl sF.out Tr.out A3.out ?_);go_roundg (L.length - (i+1))
    case measure=>omega
    case rel=>exact⟨i+1,by go_num,by omega,au,e9⟩
   | none=>
    have fX:Hid (co kl (L.take (i+1))=R++[o]):=by unfold Hid;rw[fy.out,aq (by simp)]
    clear fy;simp only[Option.isSome_none];go_wp2_with (first | (refine aE rfl 103 _ _ rfl _ (az S).toArray 103 rfl rfl sF.out Tr.out A3.out ?_) | (at_builtin;refine wpList_append_own _ rfl (.tmp 26) (.tmp 28) 40 rfl w.heap.size 3 i0 (.int .i64 0) 1 8 underlying40 Gj gx gA gB rfl (by decide) _ _ _ rfl ((kJ.out.1.alloc _).alloc _) ⟨w1.heap.size+1,0,none⟩ 1 1 [.int .i64 o] rfl rfl ?c1 ?c2 ?c3 ?c4 ?c5 ?_))
    case c1=>exact aW (w1.alloc _) _ (by simp) _ _ _ rfl
    case c2=>exact rZ o
    case c3=>unfold maxLen;omega
    case c4=>omega
    case c5=>simp;omega
    intro v5 w5 bR jf _
    have tX:Hid (w5.ownsRow w.heap.size 3 1 v5 (co kl (L.take (i+1))).length (az (co kl (L.take (i+1))))/\Below w.heap.size w w5):=by
     rw[fX.out];exact⟨by simpa[az] using bR,((kJ.out.2.alloc Gb _).alloc (by simp;omega) _).grown jf (by simp;omega) (λk hk=>(kJ.out.1.lt k hk).1)⟩
    clear bR jf kJ;go_wp2;go_roundg (L.length - (i+1))
    case measure=>omega
    case rel=>exact⟨i+1,by go_num,by omega,au,tX⟩
  ·have hd:decide ((i:Int)<(L.length:Int))=false:=by simp;omega
   obtain rfl:i=L.length:=by omega
   rw[List.take_length] at HN WH ⊢;go_wp2;go_ret;exact⟨a2,c2,rfl,HN.out.1,HN.out.2⟩
end
section
variable (w:World)(px:Value)(T:aJ)(made:Nat)(M:Nat->Mk)(rs:List dF)(kl:List (Int × List Int))(F:Nat->Prop)
def Cx (n:Int)(on:Bool)(e:Ending)(w':World):Prop:=e=.returned (.int .i64 (if(bw T n).isSome then 0 else 5))/\DSk w' px T made (if(bw T n).isSome then bM M n.toNat (io (M n.toNat) on) else M) rs kl (cJ F w)/\Fr w w' F
theorem NR (n:Int)(on:Bool)(h:DSk w px T made M rs kl F):Calls prog 106 #[px,.int .i64 n,.bool on] w λe w'=>
  Cx w px T made M rs kl F n on e w':=by
 obtain⟨b,vS,v,els,G,rfl,h2,h3,h4,h5,h6,h7⟩:=h;have HB:Hid (DM w b vS v els T made M rs kl G/\KOK T M rs kl/\F b/\(∀j,v.ownBlock=some j->F j)/\(∀j,vS.2.ownBlock=some j->F j)/\∀k,G k->F k):=⟨h2,h3,h4,h5,h6,h7⟩;clear h2 h3 h4 h5 h6 h7;go_enter func106,ntmps106;go_wp2_with fail;refine(PI w b vS v els T made n on HB.out.1.pb HB.out.1.tw HB.out.1.mks.2).mono ?_;rintro e w1 ⟨bP,rfl,hp,hf,hm⟩
 have HE:Hid (Cx w (.pointer (some ⟨b,0,none⟩)) T made M rs kl F n on (.returned (.int .i64 (if(bw T n).isSome then 0 else 5))) w1):=⟨rfl,⟨b,vS,v,bP,G,rfl,HB.out.1.inpl hp (hm M HB.out.1.mks) hf,by
  split
  ·exact HB.out.2.1.ag (V4 M _ on)
  ·exact HB.out.2.1,af HB.out.2.2.1,λj hj=>af (HB.out.2.2.2.1 j hj),λj hj=>af (HB.out.2.2.2.2.1 j hj),λk hk=>af (HB.out.2.2.2.2.2 k hk)⟩,hf.mono (λk hk=>HB.out.2.2.2.1 k hk)⟩
 clear hp hf hm;generalize (if(bw T n).isSome then(0:Int) else 5)=y at HE ⊢;go_wp2;go_ret;exact HE.out
def Cz (e:Ending)(w':World):Prop:=
 ∃(l:List Int) (a:Option Addr) (c:Nat),e=.returned (.slice a l.length c)/\l.length<=T.length/\((∀x,x∈l↔(bn kl x).isNone=true/\∃k lk,x=((k:Nat):Int)/\(k,lk)∈T)/\l.Pairwise (·<·))/\DSk w' px T made M rs kl (λk=>F k/\k<w.heap.size)/\Below w.heap.size w w'/\w'.ownsRow w.heap.size 3 1 (.slice a l.length c) l.length (az l)
theorem NT (h:DSk w px T made M rs kl F):Calls prog 31 #[px] w λe w'=>Cz w px T made M rs kl F e w':=by
 have HS:=ae h.here;obtain⟨b,vS,v,els,G,rfl,h2,h3,h4⟩:=h;obtain⟨a,c,hv⟩:=h2.pb.pl.shape;subst hv;have HD:=ae h2;clear h2 h3 h4;go_enter func31,ntmps31;go_wp2_with fail;refine(KR w b a c els HD.out.trd).mono ?_;rintro e w1 ⟨L,hLp,WG,al,cl,rfl,eb,cq⟩;have J2:L.length=els.length:=by rw[hLp.length_eq,List.length_map]
 have jD:=ae (HD.out.below cq);have HL:Hid (L.length=els.length/\(L.Perm (uo els)/\Srt L)/\RowI w1 al L/\Below w.heap.size w w1):=⟨J2,⟨hLp,WG⟩,RowI.own eb,cq⟩;have DA:L.length<=1000:=by have:=HD.out.pb.few;omega
 clear eb cq J2 hLp WG;go_wp2_with fail;refine(xE w1 b vS _ els T made M rs kl G al cl L jD.out HL.out.2.2.1 DA).mono ?_;rintro e w2 ⟨a2,c2,rfl,DI,dq⟩;have hBB:=HL.out.2.2.2.trans (dq.mono HL.out.2.2.2.size)
 have HE:Hid (Cz w (.pointer (some ⟨b,0,none⟩)) T made M rs kl F (.returned (.slice a2 (co kl L).length c2)) w2):=by
  refine⟨co kl L,a2,c2,rfl,?_,⟨λx=>⟨λhx=>?_,λhx=>?_⟩,?_⟩,HS.out.keep (λk hk _=>hBB.block k hk.2) hBB.size,hBB,aP DI HL.out.2.2.2.size⟩
  ·have h1:=qO kl L;have h2:=HD.out.pb.pt.len HD.out.tw;have h3:=HL.out.1;omega
  ·obtain⟨h1,h2⟩:=dA.1 hx;obtain⟨e,he,rfl⟩:=bm.1 (HL.out.2.1.1.mem_iff.1 h1);obtain⟨l,hl⟩:=HD.out.pb.pt.to' e he;exact⟨h2,e.num,l,rfl,hl⟩
  ·obtain⟨h1,k,lk,rfl,hk⟩:=hx;obtain⟨e,he,h3⟩:=HD.out.pb.pt.of' k lk hk;exact dA.2 ⟨HL.out.2.1.1.mem_iff.2 (bm.2 ⟨e,he,by rw[h3]⟩),h1⟩
  ·refine(HL.out.2.1.2.strict ?_).filter _;exact HL.out.2.1.1.nodup_iff.2 (O7 HD.out.pb.pt.nums)
 clear DI dq hBB;generalize (co kl L).length=nn at HE ⊢;go_wp2;go_ret;exact HE.out
def n8 (n:Int)(s:ByteArray):Int:=if bq T n s=0 then((bn kl n).getD jT).getD ((i9 s).getD 0) 0 else 0
def vx (n:Int)(s:ByteArray)(e:Ending)(w':World):Prop:=
 e=.returned (.tuple #[.int .i64 (n8 T kl n s),.bool (decide (bq T n s=0)&&(bn kl n).isSome),.int .i64 (bq T n s)])/\DSk w' px T made M rs kl (λk=>F k/\k<w.heap.size)/\Below w.heap.size w w'
theorem NU (n:Int)(s:ByteArray)(h:DSk w px T made M rs kl F):Calls prog 51 #[px,.int .i64 n,.string s] w λe w'=>vx w px T made M rs kl F n s e w':=by
 have HS:=ae h.here;obtain⟨b,vS,v,els,G,rfl,h2,h3,h4⟩:=h;have HD:=ae h2;have bC:=h2.few;clear h2 h3 h4;go_enter func51,ntmps51;go_wp2_with fail;refine(rB w b vS v els T made M rs kl G n s HD.out).mono ?_;rintro e w1 ⟨rfl,cq⟩;have jD:=ae (HD.out.below cq);have eg:=ae cq;clear cq
 by_cases hq:bq T n s=0
 ·obtain⟨l,p,ht,hp⟩:=ng hq;have Ow:=xC hp;have HV:Hid (n8 T kl n s=((bn kl n).getD jT).getD p 0):=by unfold Hid n8;rw[aq hq,hp];rfl
  have HQ:=ae hq;rw[aq hq,hq,hp];simp only[Option.getD_some];clear hq ht hp;have h9:=wG HD.out.kp.nine n;go_wp2_with fail;refine(qK w1 b vS.2 kl n (aa jD.out.pb.doc rfl) jD.out.kp bC).mono ?_;rintro e w2 ⟨rfl,dq⟩;have LJ:=ae (eg.out.trans (dq.mono eg.out.size))
  have HE:Hid (∀Z,vx w (.pointer (some ⟨b,0,none⟩)) T made M rs kl F n s (.returned (.tuple #[.int .i64 (((bn kl n).getD jT).getD p 0),.bool (bn kl n).isSome,.int .i64 0])) (w2.alloc (.cells Z 103))):=λZ=>by
   have hb:=LJ.out.alloc LJ.out.size (.cells Z 103);exact⟨by rw[HV.out,HQ.out];rfl,HS.out.keep (λk hk _=>hb.block k hk.2) hb.size,hb⟩
  clear dq;generalize (bn kl n).isSome=fr at HE ⊢;generalize (bn kl n).getD jT=S at h9 HE ⊢;have bX:(az S).toArray.size=9:=List.size_toArray.trans (by rw[List.length_map];exact h9);have sF:Hid ((prog.info? 103).map (·.size)=some (az S).toArray.size):=by unfold Hid;rw[bX];exact Tryz.sizeS
  have Tr:=ae bX.symm;have A3:=ae (gH S)
  have q0:(w2.alloc (.cells (az S).toArray 103)).cell? ⟨w2.heap.size,p,none⟩=some (.int .i64 (S.getD p 0)):=by
   have:=ep w2 (az S) 103 p (.int .i64 (S.getD p 0)) (qP (by omega));rwa[Nat.zero_add] at this
  have hpi:(p:Int)<9:=by omega
  clear bX;generalize S.getD p 0=val at q0 HE;go_wp2_with (refine aE rfl 103 _ _ rfl _ (az S).toArray 103 rfl rfl sF.out Tr.out A3.out ?_);go_ret3;exact HE.out _
 ·have HE:Hid (vx w (.pointer (some ⟨b,0,none⟩)) T made M rs kl F n s (.returned (.tuple #[.int .i64 0,.bool false,.int .i64 (bq T n s)])) w1):=by
   refine⟨?_,HS.out.keep (λk hk _=>eg.out.block k hk.2) eg.out.size,eg.out⟩;unfold n8;rw[aj hq,decide_eq_false hq];rfl
  have gq:(bq T n s != 0)=true:=by simp[hq]
  rw[aj hq];clear hq;generalize bq T n s=y at HE gq ⊢;go_wp2;go_ret3;exact HE.out
end
theorem Lr (h:KOK T M rs kl){n:Int}{s:ByteArray}(hf:(bn kl n).isSome=true):n8 T kl n s=eu T M rs n s:=by
 unfold n8 eu;cases hk:bn kl n with
 | none=>rw[hk] at hf;cases hf
 | some l=>
  have h1:=h.right _ (nR hk);have h2:l=dM (bg T M) rs n:=h1;rw[h2];rfl
end
section
variable {v5:Value}{w5 wy:World}
def gR (P:Int->Bool)(S:List Int):List Int:=S.filter P++S.filter λx=>!P x
structure TD (P:Int->Bool)(w2:World)(S:List Int)(i:Nat)(v3 v4:Value)(W O:List Int)(wr:World):Prop where
 we:W=(S.take i).filter P
 oe:O=(S.take i).filter λx=>!P x
 len:W.length+O.length=i
 o3:wr.ownsRow w2.heap.size 3 1 v3 W.length (az W)
 o4:wr.ownsRow w2.heap.size 3 1 v4 O.length (az O)
 ne:∀j,v3.ownBlock=some j->v4.ownBlock≠some j
 below:Below w2.heap.size w2 wr
theorem P9 {S:List Int}{i:Nat}(h:i<S.length)(x:Int):x∈S.take (i+1)↔x∈S.take i∨x=S[i]:=by
 rw[fU h,List.mem_append,fg]
section
variable {P:Int->Bool}{w2:World}{S:List Int}{i:Nat}{v3 v4:Value}{W O:List Int}{wr:World}
theorem TD.wanted (h:TD P w2 S i v3 v4 W O wr)(hi:i<S.length)(hp:P S[i]=true)(hb:Below wr.heap.size wr wy)(bR:w5.ownsRow w2.heap.size 3 1 v5 (W.length+1) (az W++[.int .i64 S[i]]))(hg:wy.grownBy w5 v3.ownBlock)(hk:∀j,v5.ownBlock=some j->v3.ownBlock=some j∨wy.heap.size<=j):TD P w2 S (i+1) v5 v4 (W++[S[i]]) O w5:=by
 have hz:=hb.size;have ZD:=h.below.trans (hb.mono h.below.size);refine⟨?_,?_,?_,by simpa[az] using bR,?_,λj hj=>?_,ZD.grown hg ZD.size (λk hk=>(h.o3.lt k hk).1)⟩
 ·rw[fU hi,List.filter_append,<-h.we];simp[hp]
 ·rw[fU hi,List.filter_append,<-h.oe];simp[hp]
 ·have:=h.len;simp;omega
 ·have h4:=aN h.o4 hb;refine⟨h4.1,?_⟩;rcases h4.2 with hn | ⟨g,gV,fV,hv,ud,Ff,rest⟩
  ·exact af hn
  ·refine ai ⟨g,gV,fV,hv,ud,(hg.block g (bx.1 Ff).1 (λe=>h.ne g e.symm (by rw[hv];rfl))).trans Ff,rest⟩
 ·rcases hk j hj with h1 | h1
  ·exact h.ne j h1
  ·intro e;have:=(h.o4.lt j e).2;omega
theorem TD.other (h:TD P w2 S i v3 v4 W O wr)(hi:i<S.length)(hp:P S[i]=false)(hb:Below wr.heap.size wr wy)(bR:w5.ownsRow w2.heap.size 3 1 v5 (O.length+1) (az O++[.int .i64 S[i]]))(hg:wy.grownBy w5 v4.ownBlock)(hk:∀j,v5.ownBlock=some j->v4.ownBlock=some j∨wy.heap.size<=j):TD P w2 S (i+1) v3 v5 W (O++[S[i]]) w5:=by
 have hz:=hb.size;have ZD:=h.below.trans (hb.mono h.below.size);refine⟨?_,?_,?_,?_,by simpa[az] using bR,λj hj e=>?_,ZD.grown hg ZD.size (λk hk=>(h.o4.lt k hk).1)⟩
 ·rw[fU hi,List.filter_append,<-h.we];simp[hp]
 ·rw[fU hi,List.filter_append,<-h.oe];simp[hp]
 ·have:=h.len;simp;omega
 ·have h4:=aN h.o3 hb;refine⟨h4.1,?_⟩;rcases h4.2 with hn | ⟨g,gV,fV,hv,ud,Ff,rest⟩
  ·exact af hn
  ·refine ai ⟨g,gV,fV,hv,ud,(hg.block g (bx.1 Ff).1 (λe=>h.ne g (by rw[hv];rfl) e.symm)).trans Ff,rest⟩
 ·rcases hk j e with h1 | h1
  ·exact h.ne j hj h1
  ·have:=(h.o3.lt j hj).2;omega
end
section
variable (w:World)(b:Nat)(vS:Value × Value)(v:Value)(els:List PEl)(T:aJ)(made:Nat)(M:Nat->Mk)(rs:List dF)(kl:List (Int × List Int))(G:Nat->Prop)
theorem KT (h:DM w b vS v els T made M rs kl G):Calls prog 47 #[.pointer (some ⟨b,0,none⟩)] w λe w'=>oh w (gR (eV els) (co kl (kN els))) e w':=by
 obtain⟨i0,Gj,gx,gA,gB⟩:=info_parts Tryz.info3;obtain⟨a,c,hv⟩:=h.pb.pl.shape;subst hv;have HD:=ae h;have jF:=h.lt;have Mf:=H9 h.pb.pt h.tw
 have QG:(kN els).length<=24:=by
  have h1:=qg Mf.1 Mf.2.1;have h2:=h.pb.pt.len h.tw;have h3:=h.pb.few;omega
 clear h Mf;go_enter func47,ntmps47;go_wp2_with fail;refine(Pt w b a c els HD.out.trd).mono ?_;rintro e w1 ⟨al,cl,rfl,eb,cq⟩;have jD:=ae (HD.out.below cq);have kz:=bT (RowI.own eb) cq;clear eb cq;go_wp2_with fail;refine(xE w1 b vS _ els T made M rs kl G al cl (kN els) jD.out kz.out.1 (by omega)).mono ?_;rintro e w2 ⟨a2,c2,rfl,DI,dq⟩;have oD:=ae (jD.out.below dq);have oE:=bT (RowI.own DI) (kz.out.2.trans (dq.mono kz.out.2.size));have L5:(co kl (kN els)).length<=24:=Nat.le_trans (qO _ _) QG;clear DI dq jD kz QG;obtain⟨S,hS⟩:∃S,co kl (kN els)=S:=⟨_,rfl⟩;have Wt:=ae hS;rw[hS] at oE L5 ⊢;clear hS;go_wp2_with fail
 go_loopg [3,4,16] S.length (λgk v3 v4 iv wr=>∃i:Nat,iv=.int .i64 i/\i<=S.length/\S.length - i<=gk/\Hid (∃W O,TD (eV els) w2 S i v3 v4 W O wr))
 case atStart=>exact⟨0,rfl,aZ,by omega,[],[],rfl,rfl,rfl,er,er,λj hj=>by simp[Value.ownBlock] at hj,bd⟩
 case round=>
  obtain⟨i,rfl,hi,fS,HI⟩:=hrel;obtain⟨W,O,hTD⟩:=HI.out;obtain⟨a3,c3,yS⟩:=aA hTD.o3;obtain⟨a4,c4,hv4⟩:=aA hTD.o4;subst yS hv4;have uW:=ae hTD;have bX:=hTD.len;have iW:=hTD.below.size;clear HI hTD
  by_cases aU:i<S.length
  ·have hd:decide ((i:Int)<(S.length:Int))=true:=by simp;omega
   obtain⟨g2,ij,lM,yP⟩:=oE.out.1 i aU;subst ij;have q1:=(uW.out.below.cell (p:=⟨g2,i,none⟩) lM).trans yP;rw[bO aU] at q1;replace q1:wr.cell? ⟨g2,i,none⟩=some (.int .i64 S[i]):=q1;have UO:Hid (eV els S[i]=true->∀wy w5 v5,Below wr.heap.size wr wy->w5.ownsRow w2.heap.size 3 1 v5 (W.length+1) (az W++[.int .i64 S[i]])->wy.grownBy w5 (Value.slice a3 W.length c3).ownBlock->(∀j,v5.ownBlock=some j->(Value.slice a3 W.length c3).ownBlock=some j∨wy.heap.size<=j)->∃W' O',TD (eV els) w2 S (i+1) v5 (.slice a4 O.length c4) W' O' w5):=λhp wy w5 v5 h1 h2 h3 h4=>⟨_,_,uW.out.wanted aU hp h1 h2 h3 h4⟩;have A0:Hid (eV els S[i]=false->∀wy w5 v5,Below wr.heap.size wr wy->w5.ownsRow w2.heap.size 3 1 v5 (O.length+1) (az O++[.int .i64 S[i]])->wy.grownBy w5 (Value.slice a4 O.length c4).ownBlock->(∀j,v5.ownBlock=some j->(Value.slice a4 O.length c4).ownBlock=some j∨wy.heap.size<=j)->∃W' O',TD (eV els) w2 S (i+1) (.slice a3 W.length c3) v5 W' O' w5):=λhp wy w5 v5 h1 h2 h3 h4=>⟨_,_,uW.out.other aU hp h1 h2 h3 h4⟩;have Qr:=ae (oD.out.below uW.out.below);have Vv:b<wr.heap.size:=Qr.out.lt;clear yP;generalize S[i]=o at q1 UO A0;go_wp2_with fail;refine(Eg wr b a c els o Qr.out.trd).mono ?_;rintro e w3 ⟨rfl,fj⟩;have iG:=ae fj;have LP:=bT (aN uW.out.o3 fj) (aN uW.out.o4 fj);have Gu:=fj.size;clear fj q1 uW Qr;generalize eV els o=r at UO A0 ⊢;cases r with
   | true=>
    go_wp2_with (first | (at_builtin;refine eW _ rfl (.tmp 25) (.tmp 27) 40 rfl w2.heap.size 3 i0 (.int .i64 0) 1 8 underlying40 Gj gx gA gB rfl (by decide) _ _ _ rfl (LP.out.1.alloc _) ⟨w3.heap.size,0,none⟩ 1 1 [.int .i64 o] rfl rfl ?c1 ?c2 ?c3 ?c4 ?c5 ?_))
    case c1=>exact aW w3 _ rfl _ _ _ rfl
    case c2=>exact rZ o
    case c3=>unfold maxLen;omega
    case c4=>omega
    case c5=>simp;omega
    intro v5 w5 bR jf Z4;have HI5:Hid (∃W' O',TD (eV els) w2 S (i+1) v5 (.slice a4 O.length c4) W' O' w5):=UO.out (by trivial) _ w5 v5 (iG.out.alloc iG.out.size _) bR jf (λj hj=>(Z4.out j hj).imp id (λh=>by simpa using h));clear bR jf Z4 LP iG UO A0;go_wp2;go_roundg (S.length - (i+1))
    case measure=>omega
    case rel=>exact⟨i+1,by go_num,by omega,au,HI5⟩
   | false=>
    go_wp2_with (first | (at_builtin;refine eW _ rfl (.tmp 29) (.tmp 31) 40 rfl w2.heap.size 3 i0 (.int .i64 0) 1 8 underlying40 Gj gx gA gB rfl (by decide) _ _ _ rfl (LP.out.2.alloc _) ⟨w3.heap.size,0,none⟩ 1 1 [.int .i64 o] rfl rfl ?c1 ?c2 ?c3 ?c4 ?c5 ?_))
    case c1=>exact aW w3 _ rfl _ _ _ rfl
    case c2=>exact rZ o
    case c3=>unfold maxLen;omega
    case c4=>omega
    case c5=>simp;omega
    intro v5 w5 bR jf Z4;have HI5:Hid (∃W' O',TD (eV els) w2 S (i+1) (.slice a3 W.length c3) v5 W' O' w5):=A0.out (by trivial) _ w5 v5 (iG.out.alloc iG.out.size _) bR jf (λj hj=>(Z4.out j hj).imp id (λh=>by simpa using h));clear bR jf Z4 LP iG UO A0;go_wp2;go_roundg (S.length - (i+1))
    case measure=>omega
    case rel=>exact⟨i+1,by go_num,by omega,au,HI5⟩
  ·have hd:decide ((i:Int)<(S.length:Int))=false:=by simp;omega
   obtain rfl:i=S.length:=by omega
   have HTE:Hid (W++O=gR (eV els) S):=by
    unfold Hid gR;rw[uW.out.we,uW.out.oe,List.take_length]
   have Wg:Hid (∀w5 a5 c5,w5.ownsRow w2.heap.size 3 1 (.slice a5 (W++O).length c5) (W++O).length (az (W++O))->Below w2.heap.size w2 w5->oh w (gR (eV els) S) (.returned (.slice a5 (W++O).length c5)) w5):=λw5 a5 c5 ho hb=>by
    rw[<-HTE.out];exact⟨a5,c5,rfl,aP ho oE.out.2.size,oE.out.2.trans (hb.mono oE.out.2.size)⟩
   by_cases h4:a4=none
   ·subst h4
    have hn:O=[]/\c4=0:=by
     rcases uW.out.o4.2 with⟨h,h2⟩ | ⟨_,_,_,h,_⟩
     ·injection h with _ h3 h4;exact⟨List.eq_nil_of_length_eq_zero h2,h4⟩
     ·injection h with h;cases h
    obtain⟨rfl,rfl⟩:=hn
    have HE:Hid (oh w (gR (eV els) S) (.returned (.slice a3 W.length c3)) wr):=by
     have:=Wg.out wr a3 c3 (by rw[List.append_nil];exact uW.out.o3) uW.out.below;rw[List.append_nil] at this;exact this
    simp only[List.length_nil];go_wp2_with (first | (at_builtin;refine wpList_append_own_none rfl (.tmp 34) (.tmp 35) 40 rfl w2.heap.size 3 i0 1 underlying40 Gj _ _ _ rfl uW.out.o3 rfl ?_));go_wp2;go_ret;rw[Wt.out];exact HE.out
   ·obtain⟨g4,hg4⟩:∃g4,a4=some ⟨g4,0,none⟩:=by
     rcases uW.out.o4.2 with⟨h,_⟩ | ⟨g,_,_,h,_⟩
     ·injection h with h;exact absurd h h4
     ·injection h with h;exact⟨g,h⟩
    subst hg4;clear h4;have Xb:Hid (∀j u,(az O)[j]?=some u->wr.cell? ((⟨g4,0,none⟩:Addr).add j)=some u):=uW.out.o4.cells rfl;go_wp2_with (first | (at_builtin;refine wpList_append_own _ rfl (.tmp 34) (.tmp 35) 40 rfl w2.heap.size 3 i0 (.int .i64 0) 1 8 underlying40 Gj gx gA gB rfl (by decide) _ _ _ rfl uW.out.o3 ⟨g4,0,none⟩ O.length c4 (az O) rfl ?c0 Xb.out ?c2 ?c3 ?c4 ?c5 ?_))
    case c0=>simp[az]
    case c2=>exact Pf O
    case c3=>unfold maxLen;omega
    case c4=>omega
    case c5=>exact iW
    intro v5 w5 bR jf _;have bL:w5.ownsRow w2.heap.size 3 1 v5 (W++O).length (az (W++O)):=by rw[List.length_append,show az (W++O)=az W++az O from List.map_append];rw[bX];exact bR
    obtain⟨a5,c5,Gt⟩:=aA bL;subst Gt;have HE:=Wg.out w5 a5 c5 bL (uW.out.below.grown jf iW (λk hk=>(uW.out.o3.lt k hk).1));clear bR jf bL uW Wg Xb;generalize (W++O).length=nn at HE ⊢;go_wp2;go_ret;rw[Wt.out];exact HE
end
end
section
variable {A B N S l:List Int}{P:Int->Bool}{T:aJ}{kl:List (Int × List Int)}{made:Nat}{x:Int}
theorem FU (kl:List (Int × List Int))(y:Int × List Int)(n:Int):(bn (kl++[y]) n).isSome=((bn kl n).isSome||decide (y.1=n)):=by
 unfold bn;rw[Option.isSome_map,Option.isSome_map,List.find?_append];cases h:kl.find? λx=>decide (x.1=n) with
 | some x=>simp
 | none=>by_cases e:y.1=n<;>simp[e]
theorem wL (T:aJ)(M:Nat->Mk)(rs:List dF)(kl:List (Int × List Int))(k x:Int):(bn (jl T M rs kl k) x).isSome=true↔(bn kl x).isSome=true∨x=k:=by
 unfold jl;split
 ·rename_i h;exact⟨af,λh2=>h2.elim id (λe=>e▸h)⟩
 ·rw[FU,Bool.or_eq_true,bF];exact⟨λh=>h.imp id Eq.symm,λh=>h.imp id Eq.symm⟩
theorem wn (T:aJ)(M:Nat->Mk)(rs:List dF)(kl:List (Int × List Int))(x:Int):∀xs,(bn (lf T M rs kl xs) x).isSome=true↔(bn kl x).isSome=true∨x∈xs
 | []=>by simp[lf]
 | y :: xs=>by
  have ih:=wn T M rs kl x xs;show(bn (jl T M rs (lf T M rs kl xs) y) x).isSome=true↔_;rw[wL,ih,List.mem_cons,or_assoc,or_comm (a:=x∈xs)]
theorem ye (T:aJ)(M:Nat->Mk)(rs:List dF)(kl:List (Int × List Int))(k x:Int):(bn (mA T M rs kl k) x).isSome=true↔(bn kl x).isSome=true∨x∈aX T T.length k∨x=k:=by
 unfold mA;rw[wL,wn,or_assoc]
noncomputable def fc (T:aJ)(sn:Nat->Bool)(n:Int):Bool:=T.any λe=>sn e.1&&bZ T n e.1
abbrev Lj (M:Nat->Mk):Nat->Bool:=λk=>(M k).cl 26
theorem Th {els:List PEl}{M:Nat->Mk}(h:PT els T)(hw:TW T made)(hM:Ms els M){n:Int}(hn:0<=n):eV els n=fc T (Lj M) n:=by
 rw[Bool.eq_iff_iff,E1];unfold fc;rw[List.any_eq_true];constructor
 ·rintro⟨e,he,h1,h2⟩;obtain⟨l,hl⟩:=h.to' e he;refine⟨_,hl,?_⟩;rw[Bool.and_eq_true];exact⟨((hM e he).2.2.2).symm.trans h1,bp.2 ((nf h hw he hn).1 (iw.1 h2))⟩
 ·rintro⟨q,hq,h1⟩;rw[Bool.and_eq_true] at h1;obtain⟨e,he,h2⟩:=h.of' q.1 q.2 hq;rw[<-h2] at h1;exact⟨e,he,(hM e he).2.2.2.trans h1.1,iw.2 ((nf h hw he hn).2 (bp.1 h1.2))⟩
theorem I8 {sn:Nat->Bool}:∀(n:Nat) (y:Int),(∀z∈aX T n y,0<=z)->fc T sn y=true->∀z∈aX T n y,fc T sn z=true
 | 0,_,_,_,z,hz=>by cases hz
 | n+1,y,h0,hy,z,hz=>by
  unfold aX at hz h0;split at hz
  ·cases hz
  ·rename_i hp;rw[aj hp] at h0
   have yO:fc T sn (aY T y)=true:=by
    unfold fc at hy ⊢;rw[List.any_eq_true] at hy ⊢;obtain⟨q,hq,h1⟩:=hy;rw[Bool.and_eq_true] at h1;obtain⟨_,k,hk⟩:=bp.1 h1.2;refine⟨q,hq,?_⟩;rw[Bool.and_eq_true];exact⟨h1.1,bp.2 ⟨h0 _ List.mem_cons_self,k+1,by rw[pV T _ k 1,hk];rfl⟩⟩
   rcases List.mem_cons.1 hz with e | hz
   ·rw[e];exact yO
   ·exact I8 n _ (λz hz=>h0 z (List.mem_cons_of_mem _ hz)) yO z hz
theorem t7 (hw:TW T made)(hN:∀A x B,N=A++x :: B->x=0∨aY T x∈A):∀(n:Nat) (A:List Int) (x:Int) (B:List Int),N=A++x :: B->∀y∈aX T n x,y∈A
 | 0,_,_,_,_,y,hy=>by cases hy
 | n+1,A,x,B,he,y,hy=>by
  unfold aX at hy;split at hy
  ·cases hy
  ·rename_i hp;rcases hN A x B he with e | hm
   ·exact absurd (by rw[e];exact hw.root_par) hp
   ·rcases List.mem_cons.1 hy with e | hy
    ·rw[e];exact hm
    ·obtain⟨A1,A2,hA⟩:=List.append_of_mem hm;rw[hA];exact List.mem_append_left _ (t7 hw hN n A1 _ (A2++x :: B) (by rw[he,hA];simp) y hy)
theorem kO {f:Int->Bool}(h:N.filter f=A++x :: B):∃A' B',N=A'++x :: B'/\A'.filter f=A:=by
 obtain⟨l3,l4,rfl,h1,h2⟩:=List.filter_eq_append_iff.1 h;obtain⟨l1,l2,rfl,h3,_,_⟩:=List.filter_eq_cons_iff.1 h2;refine⟨l3++l1,l2,by simp,?_⟩;rw[List.filter_append,h1,List.filter_eq_nil_iff.2 h3,List.append_nil]
theorem S8 (hw:TW T made)(hN:∀A x B,N=A++x :: B->x=0∨aY T x∈A)(hP:∀x∈N,P x=true->∀y∈aX T T.length x,P y=true)(h:gR P (co kl N)=A++x :: B)(y:Int)(hy:y∈aX T T.length x):(bn kl y).isSome=true∨y∈A:=by
 have nF:∀A2 B2,co kl N=A2++x :: B2->(bn kl y).isSome=true∨y∈A2:=λA2 B2 e=>by
  obtain⟨A',B',h1,h2⟩:=kO e;have h3:=t7 hw hN _ A' x B' h1 y hy;cases hf:(bn kl y) with
  | some s=>exact af rfl
  | none=>exact ai (by rw[<-h2];exact dA.2 ⟨h3,by rw[hf];rfl⟩)
 have hxN:∀{f:Int->Bool} {C D},(co kl N).filter f=C++x :: D->x∈N/\f x=true:=λe=>by
  have:=dA.1 (e▸List.mem_append_right _ List.mem_cons_self);exact⟨(dA.1 this.1).1,this.2⟩
 unfold gR at h;rcases List.append_eq_append_iff.1 h with⟨C,h1,h2⟩ | ⟨C,h1,h2⟩
 ·
  obtain⟨A2,B2,h3,h4⟩:=kO h2;rcases nF A2 B2 h3 with e | e
  ·exact af e
  ·refine ai ?_;rw[h1];cases hp:P y with
   | true=>exact List.mem_append_left _ (dA.2 ⟨by rw[h3];exact List.mem_append_left _ e,hp⟩)
   | false=>exact List.mem_append_right _ (by rw[<-h4];exact dA.2 ⟨e,by rw[hp];rfl⟩)
 ·cases C with
  | nil=>
   rw[List.nil_append] at h2;obtain⟨A2,B2,h3,h4⟩:=kO (A:=[]) (h2.symm.trans (List.nil_append _).symm);rcases nF A2 B2 h3 with e | e
   ·exact af e
   ·refine ai ?_;rw[<-show(co kl N).filter P=A from by rw[h1,List.append_nil]];cases hp:P y with
    | true=>exact dA.2 ⟨by rw[h3];exact List.mem_append_left _ e,hp⟩
    | false=>
     have:y∈A2.filter λx=>!P x:=dA.2 ⟨e,by rw[hp];rfl⟩;rw[h4] at this;cases this
  | cons c C=>
   injection h2 with e1 e2
   subst e1;obtain⟨A2,B2,h3,h4⟩:=kO h1;rcases nF A2 B2 h3 with e | e
   ·exact af e
   ·refine ai ?_;obtain⟨g1,g2⟩:=hxN h1;rw[<-h4];exact dA.2 ⟨e,hP x g1 g2 y hy⟩
def XU (T:aJ)(M:Nat->Mk)(kl dh:List (Int × List Int))(n:Nat):Prop:=
 ∃l:List Int,l.Nodup/\(∀x,x∈l↔(bn kl x).isNone=true/\∃k lk,x=((k:Nat):Int)/\(k,lk)∈T)/\n<=l.length/\(∀x,(bn dh x).isSome=true↔(bn kl x).isSome=true∨x∈l.take n)/\∀x∈l.take n,∀y∈l.drop n,fc T (Lj M) y=true->fc T (Lj M) x=true
theorem EV (x:Int):x∈gR P S↔x∈S:=by
 unfold gR;rw[List.mem_append,dA,dA];cases h:P x<;>simp
theorem G9 (h:S.Nodup):(gR P S).Nodup:=by
 unfold gR;rw[List.nodup_append];refine⟨h.filter _,h.filter _,λa ha b hb e=>?_⟩;have h1:=(dA.1 ha).2;have h2:=(dA.1 hb).2;rw[<-e,h1] at h2;cases h2
theorem G8 {n:Nat}{y:Int}(hx:x∈(gR P S).take n)(hy:y∈(gR P S).drop n)(hp:P y=true):P x=true:=by
 unfold gR at hx hy
 by_cases h:n<=(S.filter P).length
 ·rw[List.take_append_of_le_length h] at hx;exact(dA.1 (List.mem_of_mem_take hx)).2
 ·rw[List.drop_append,List.drop_of_length_le (by omega),List.nil_append] at hy;have:=(dA.1 (List.mem_of_mem_drop hy)).2;rw[hp] at this;cases this
def IV (T:aJ)(kl:List (Int × List Int)):Nat:=(T.filter λe=>(bn kl e.1).isNone).length
theorem aax (T:aJ)(kl:List (Int × List Int)):IV T kl<=T.length:=List.length_filter_le _ _
theorem zZ (hn:l.Nodup)(h:∀x∈l,∃k:Nat,x=(k:Int)):(l.map Int.toNat).Nodup:=by
 induction l with
 | nil=>simp
 | cons x l ih=>
  rw[List.nodup_cons] at hn;rw[List.map_cons,List.nodup_cons];refine⟨λhm=>hn.1 ?_,ih hn.2 (λy hy=>h y (List.mem_cons_of_mem _ hy))⟩;obtain⟨y,hy,e⟩:=bm.1 hm;obtain⟨k,hk⟩:=h x List.mem_cons_self;obtain⟨j,hj⟩:=h y (List.mem_cons_of_mem _ hy);have:y=x:=by omega
  exact this▸hy
theorem aaw (hw:TW T made)(hn:l.Nodup)(hm:∀x,x∈l↔(bn kl x).isNone=true/\∃k lk,x=((k:Nat):Int)/\(k,lk)∈T):l.length=IV T kl:=by
 have h1:(l.map Int.toNat).Nodup:=zZ hn (λx hx=>by obtain⟨_,k,_,e,_⟩:=(hm x).1 hx;exact⟨k,e⟩);have h2:((T.filter λe=>(bn kl e.1).isNone).map Prod.fst).Nodup:=hw.nums.sublist (List.filter_sublist.map _)
 have a:=dw h1 (m:=(T.filter λe=>(bn kl e.1).isNone).map Prod.fst) (λk hk=>by
  obtain⟨x,hx,rfl⟩:=bm.1 hk;obtain⟨h3,j,lj,e,hj⟩:=(hm x).1 hx;refine bm.2 ⟨(j,lj),dA.2 ⟨hj,by rw[<-e];exact h3⟩,?_⟩;show j=_;omega)
 have c:=dw h2 (m:=l.map Int.toNat) (λk hk=>by
  obtain⟨e,he,rfl⟩:=bm.1 hk;obtain⟨h3,h4⟩:=dA.1 he;exact bm.2 ⟨(e.1:Int),(hm _).2 ⟨h4,e.1,e.2,rfl,h3⟩,by omega⟩)
 rw[List.length_map,List.length_map] at a c;unfold IV;omega
theorem SX {dh:List (Int × List Int)}(hw:TW T made)(aaa:∀x,(bn kl x).isSome=true->(bn dh x).isSome=true)(hn:l.Nodup)(hl:∀x∈l,(bn kl x).isNone=true/\∃k lk,x=((k:Nat):Int)/\(k,lk)∈T)(hf:∀x∈l,(bn dh x).isSome=true):IV T dh+l.length<=IV T kl:=by
 have h1:(l.map Int.toNat).Nodup:=zZ hn (λx hx=>by obtain⟨_,k,_,e,_⟩:=hl x hx;exact⟨k,e⟩);have h2:((T.filter λe=>(bn dh e.1).isNone).map Prod.fst).Nodup:=hw.nums.sublist (List.filter_sublist.map _)
 have h3:((T.filter λe=>(bn dh e.1).isNone).map Prod.fst++l.map Int.toNat).Nodup:=by
  rw[List.nodup_append];refine⟨h2,h1,λa ha c hc e=>?_⟩;obtain⟨q,hq,rfl⟩:=bm.1 ha;obtain⟨x,hx,rfl⟩:=bm.1 hc;obtain⟨_,k,_,ek,_⟩:=hl x hx;have zX:=hf x hx;have:x=(q.1:Int):=by omega
  rw[this] at zX;have h4:=(dA.1 hq).2;cases hz:bn dh q.1 with
  | none=>rw[hz] at zX;cases zX
  | some s=>rw[hz] at h4;cases h4
 have:=dw h3 (m:=(T.filter λe=>(bn kl e.1).isNone).map Prod.fst) (λk hk=>by
  rcases List.mem_append.1 hk with hk | hk
  ·obtain⟨q,hq,rfl⟩:=bm.1 hk;obtain⟨h4,h5⟩:=dA.1 hq;refine bm.2 ⟨q,dA.2 ⟨h4,?_⟩,rfl⟩;cases hz:bn kl q.1 with
   | none=>rfl
   | some s=>
    have:=aaa q.1 (by rw[hz];rfl);cases nE:bn dh q.1 with
    | none=>rw[nE] at this;cases this
    | some s2=>rw[nE] at h5;cases h5
  ·obtain⟨x,hx,rfl⟩:=bm.1 hk;obtain⟨h4,j,lj,ej,hj⟩:=hl x hx;refine bm.2 ⟨(j,lj),dA.2 ⟨hj,by rw[<-ej];exact h4⟩,?_⟩;show j=_;omega)
 rw[List.length_append,List.length_map,List.length_map,List.length_map] at this;unfold IV;omega
structure SLI (w:World)(b:Nat)(vS:Value × Value)(v:Value)(els:List PEl)(T:aJ)(made:Nat)(M:Nat->Mk)(rs:List dF)(kl:List (Int × List Int))(G:Nat->Prop)(w2:World)(al:Option Addr)(l:List Int)(i:Nat)(v2:Value)(dh:List (Int × List Int))(wr:World):Prop where
 dm:DM wr b (vS.1,v2) v els T made M rs dh G
 kok:KOK T M rs dh
 fr:Fr w wr (λj=>j=b∨vS.2.ownBlock=some j)
 own:∀j,v2.ownBlock=some j->vS.2.ownBlock=some j∨w2.heap.size<=j
 sta:∀x,(bn dh x).isSome=true↔(bn kl x).isSome=true∨x∈l.take i
 row:RowI wr al l
 far:w2.heap.size<=wr.heap.size
section
variable (w:World)(px:Value)(T:aJ)(made:Nat)(M:Nat->Mk)(rs:List dF)(kl:List (Int × List Int))(F:Nat->Prop)
def Cy (dp:Int)(e:Ending)(w':World):Prop:=
 ∃(n:Nat) (dh:List (Int × List Int)),e=.returned (.int .i64 n)/\n=min dp.toNat (IV T kl)/\IV T dh+n<=IV T kl/\XU T M kl dh n/\DSk w' px T made M rs dh (cJ F w)/\Fr w w' F
theorem NS (dp:Int)(h:DSk w px T made M rs kl F):Calls prog 30 #[px,.int .i64 dp] w λe w'=>Cy w px T made M rs kl F dp e w':=by
 obtain⟨b,vS,v,els,G,rfl,h2,h3,h4,h5,h6,h7⟩:=h;have HB:Hid (DM w b vS v els T made M rs kl G/\KOK T M rs kl/\F b/\(∀j,v.ownBlock=some j->F j)/\(∀j,vS.2.ownBlock=some j->F j)/\∀k,G k->F k):=⟨h2,h3,h4,h5,h6,h7⟩;have Mf:=ae (H9 h2.pb.pt h2.tw);have hTl:T.length<=24:=by have:=h2.pb.pt.len h2.tw;have:=h2.pb.few;omega
 have QO:Hid (∀j,j=b∨vS.2.ownBlock=some j->j<w.heap.size):=λj hj=>h2.own_lt hj;clear h2 h3 h4 h5 h6 h7;go_enter func30,ntmps30;go_wp2_with fail;refine(KT w b vS v els T made M rs kl G HB.out.1).mono ?_;rintro e w2 ⟨al,cl,rfl,eb,dq⟩
 have HM:Hid (∀x,x∈gR (eV els) (co kl (kN els))↔(bn kl x).isNone=true/\∃k lk,x=((k:Nat):Int)/\(k,lk)∈T):=λx=>by
  rw[EV x];unfold co;rw[dA];constructor
  ·rintro⟨h1,h2⟩;exact⟨h2,Mf.out.2.1 x h1⟩
  ·rintro⟨h1,k,lk,rfl,hk⟩;exact⟨Mf.out.2.2 k lk hk,h1⟩
 have Si:(gR (eV els) (co kl (kN els))).Nodup:=G9 (Mf.out.1.filter _)
 have UX:Hid (∀x∈kN els,eV els x=fc T (Lj M) x):=λx hx=>by
  obtain⟨k,_,rfl,_⟩:=Mf.out.2.1 x hx;exact Th HB.out.1.pb.pt HB.out.1.tw HB.out.1.mks.1 (by omega)
 have A9:Hid (∀i (hi:i<(gR (eV els) (co kl (kN els))).length),∀y∈aX T T.length (gR (eV els) (co kl (kN els)))[i],(bn kl y).isSome=true∨y∈(gR (eV els) (co kl (kN els))).take i):=λi hi y hy=>by
  refine S8 HB.out.1.tw (N:=kN els) (P:=eV els) (λA x B e=>?_) (λx hx hp y hy=>?_) (B:=(gR (eV els) (co kl (kN els))).drop (i+1)) ?_ y hy
  ·have h1:=Bt HB.out.1.pb.pt HB.out.1.tw els.length A.length x (by rw[show iU els els.length=A++x :: B from e];simp);rw[show iU els els.length=A++x :: B from e,List.take_left] at h1;exact h1
  ·obtain⟨k,lk,rfl,hk⟩:=Mf.out.2.1 x hx;have h0:=sX HB.out.1.tw hk;have h1:∀z∈aX T T.length (k:Int),0<=z:=λz hz=>by obtain⟨j,_,rfl,_⟩:=h0 z hz;omega
   rw[UX.out _ hx] at hp;obtain⟨j,lj,rfl,hj⟩:=h0 y hy;rw[UX.out _ (Mf.out.2.2 j lj hj)];exact I8 _ _ h1 hp _ hy
  ·rw[List.getElem_cons_drop,List.take_append_drop]
 have HFI:Hid (∀n,∀x∈(gR (eV els) (co kl (kN els))).take n,∀y∈(gR (eV els) (co kl (kN els))).drop n,fc T (Lj M) y=true->fc T (Lj M) x=true):=λn x hx y hy=>by
  have h1:∀z,z∈gR (eV els) (co kl (kN els))->z∈kN els:=λz hz=>(dA.1 ((EV z).1 hz)).1;rw[<-UX.out x (h1 x (List.mem_of_mem_take hx)),<-UX.out y (h1 y (List.mem_of_mem_drop hy))];exact G8 hx hy
 generalize gR (eV els) (co kl (kN els))=l at HM Si A9 HFI eb ⊢;clear UX;have HLN:Hid l.Nodup:=Si;have Ts:=ae (aaw HB.out.1.tw Si HM.out);have Gl:l.length<=24:=by have:=Ts.out;have:=aax T kl;omega
 have HGF:Hid (∀g,al=some ⟨g,0,none⟩->w.heap.size<=g/\g<w2.heap.size):=λg hg=>eb.lt g (by rw[hg];rfl);have Jk:Hid (SLI w b vS v els T made M rs kl G w2 al l 0 vS.2 kl w2):=⟨HB.out.1.below dq,HB.out.2.1,(Fr.refl w _).below dq,λj hj=>af hj,λx=>by simp,RowI.own eb,au⟩;have nE:=dq.size;clear Si eb dq Mf
 have fm:Hid (∀i v2 dh wr,SLI w b vS v els T made M rs kl G w2 al l i v2 dh wr->i<=l.length->i=min dp.toNat l.length->Cy w (.pointer (some ⟨b,0,none⟩)) T made M rs kl F dp (.returned (.int .i64 i)) wr):=λi v2 dh wr hS hi hm=>by
  refine⟨i,dh,rfl,by rw[<-Ts.out];exact hm,?_,⟨l,HLN.out,HM.out,hi,hS.sta,HFI.out i⟩,⟨b,(vS.1,v2),v,els,G,rfl,hS.dm,hS.kok,af HB.out.2.2.1,λj hj=>af (HB.out.2.2.2.1 j hj),λj hj=>?_,λk hk=>af (HB.out.2.2.2.2.2 k hk)⟩,hS.fr.mono (λj hj=>by
   rcases hj with e | e
   ·exact e▸HB.out.2.2.1
   ·exact HB.out.2.2.2.2.1 j e)⟩
  ·have h1:(l.take i).Nodup:=HLN.out.sublist (List.take_sublist _ _);have h2:=SX HB.out.1.tw (λx hx=>(hS.sta x).2 (af hx)) h1 (λx hx=>(HM.out x).1 (List.mem_of_mem_take hx)) (λx hx=>(hS.sta x).2 (ai hx));rw[List.length_take] at h2;omega
  ·rcases hS.own j hj with e | e
   ·exact af (HB.out.2.2.2.2.1 j e)
   ·exact ai (Nat.le_trans nE e)
 go_wp2_with fail
 go_loopg [5,11] l.length (λgk mv iv wr=>∃i:Nat,mv=.int .i64 i/\iv=.int .i64 i/\i<=l.length/\l.length - i<=gk/\i<=dp.toNat/\Hid (∃v2 dh,SLI w b vS v els T made M rs kl G w2 al l i v2 dh wr))
 case atStart=>exact⟨0,rfl,rfl,aZ,by omega,aZ,vS.2,kl,Jk.out⟩
 case round=>
  obtain⟨i,rfl,rfl,hi,fS,hib,HI⟩:=hrel;obtain⟨v2,dh,hS⟩:=HI.out;have HS:=ae hS;clear HI hS
  by_cases aU:i<l.length
  ·have hd:decide ((i:Int)<(l.length:Int))=true:=by simp;omega
   obtain⟨g,hg,dn,hq⟩:=HS.out.row i aU;obtain⟨Dy,ij⟩:=HGF.out g hg;subst hg;rw[bO aU] at hq;replace hq:wr.cell? ⟨g,i,none⟩=some (.int .i64 l[i]):=hq;obtain⟨L7,k,lk,DL,hkT⟩:=(HM.out l[i]).1 (bK aU)
   by_cases R8:dp<=(i:Int)
   ·have gb:decide (dp<=(i:Int))=true:=by simpa using R8
    have HE:=fm.out i v2 dh wr HS.out hi (by omega);generalize l[i]=x at hq L7 DL;clear L7 DL hkT HS fm R8;go_wp2;go_ret;exact HE
   ·have gb:decide (dp<=(i:Int))=false:=by simpa using R8
    have Ft:=ae hkT
    have iH:Hid (∀w3 v3,DM w3 b (vS.1,v3) v els T made M rs (mA T M rs dh k) G->Fr wr w3 (λj=>j=b∨v2.ownBlock=some j)->(∀j,v3.ownBlock=some j->v2.ownBlock=some j∨wr.heap.size<=j)->∃v2 dh,SLI w b vS v els T made M rs kl G w2 (some ⟨g,0,none⟩) l (i+1) v2 dh w3):=λw3 v3 yw Oj Sd=>by
     have J8:=HS.out.far;refine⟨v3,mA T M rs dh k,yw,AQ HS.out.kok HB.out.1.tw Ft.out,HS.out.fr.comp Oj (λj hj=>?_),λj hj=>?_,λx=>?_,λj hj=>?_,Nat.le_trans J8 Oj.size⟩
     ·rcases hj with e | e
      ·exact af (af e)
      ·rcases HS.out.own j e with e | e
       ·exact af (ai e)
       ·exact ai (Nat.le_trans nE e)
     ·rcases Sd j hj with e | e
      ·exact HS.out.own j e
      ·exact ai (Nat.le_trans J8 e)
     ·rw[ye,HS.out.sta x,P9 aU x,<-DL];constructor
      ·rintro((h1 | h1) | h1 | h1)
       ·exact af h1
       ·exact ai (af h1)
       ·exact(A9.out i aU x h1).imp id af
       ·exact ai (ai h1)
      ·rintro(h1 | h1 | h1)
       ·exact af (af h1)
       ·exact af (ai h1)
       ·exact ai (ai h1)
     ·obtain⟨g',h1,h2,h3⟩:=HS.out.row j hj;have Ff:g=g':=by injection h1 with h1;injection h1 with h1 _ _
      subst Ff
      have fY:¬(g=b∨v2.ownBlock=some g):=by
       rintro(e | e)
       ·have:=QO.out g (af e);omega
       ·rcases HS.out.own g e with e | e
        ·have:=QO.out g (ai e);omega
        ·omega
      have yJ:=Oj.block g (by omega) fY;refine⟨g,rfl,Nat.lt_of_lt_of_le h2 Oj.size,?_⟩;have h4:=h3;unfold World.cell? at h4 ⊢;rw[yJ];exact h4
    have hbi:i+1<=dp.toNat:=by omega
    rw[DL] at hq;clear L7 DL hkT R8;go_wp2_with fail;refine(sf wr b (vS.1,v2) v els T made M rs dh G k lk HS.out.dm HS.out.kok Ft.out).mono ?_;rintro e w3 ⟨rfl,v3,yw,Oj,Sd⟩;have HI3:=ae (iH.out w3 v3 yw Oj Sd);clear yw Oj Sd iH HS hq;generalize (az (dM (bg T M) rs k)).toArray=Z;go_wp2;go_roundg (l.length - (i+1))
    case measure=>omega
    case rel=>exact⟨i+1,by go_num,by go_num,by omega,au,hbi,HI3⟩
  ·have hd:decide ((i:Int)<(l.length:Int))=false:=by simp;omega
   have HE:=fm.out i v2 dh wr HS.out hi (by omega);clear fm HS;go_wp2;go_ret;exact HE
end
end
section
variable {H:Nat->Prop}{K:gu}{T:aJ}{X X':YS}{c n:Int}{k:Nat}{l m st cA:List Nat}
theorem jZ {n:Nat}:k∈dE l n↔k∈l∨k=n:=by
 unfold dE;split
 ·rename_i h;exact⟨af,λh2=>h2.elim id (λe=>e▸ii.1 h)⟩
 ·rw[List.mem_append,fg]
theorem lw {f:Int}:k∈kG T f m↔k∈m∨((∃l,(k,l)∈T)/\dJ T f k=true):=by
 unfold kG
 have nF:∀(U:aJ) (m:List Nat),k∈U.foldl (λm e=>if dJ T f e.1=true then dE m e.1 else m) m↔k∈m∨((∃l,(k,l)∈U)/\dJ T f k=true):=λU=>by
  induction U with
  | nil=>intro m;simp
  | cons x U ih=>
   intro m;rw[List.foldl_cons,ih];constructor
   ·rintro(h | ⟨⟨l,h⟩,h2⟩)
    ·split at h
     ·rename_i hx;rcases jZ.1 h with h | h
      ·exact af h
      ·exact ai ⟨⟨x.2,by rw[h];exact List.mem_cons_self⟩,by rw[h];exact hx⟩
     ·exact af h
    ·exact ai ⟨⟨l,List.mem_cons_of_mem _ h⟩,h2⟩
   ·rintro(h | ⟨⟨l,h⟩,h2⟩)
    ·refine af ?_;split
     ·exact jZ.2 (af h)
     ·exact h
    ·rcases List.mem_cons.1 h with h | h
     ·subst h;refine af ?_;rw[aq h2];exact jZ.2 (ai rfl)
     ·exact ai ⟨⟨l,h⟩,h2⟩
 exact nF T m
theorem Hr {c:List Nat}(h:(k,c)∈T):(bw T k).isSome=true:=by
 unfold bw;rw[Option.isSome_map,List.find?_isSome];exact⟨_,h,by simp⟩
theorem Ak:k∈jL T l↔k∈l/\(bw T k).isSome=true:=dA
section
variable {T:aJ}{made a:Nat}{la:List Nat}
theorem IR (hw:TW T made)(ha:(a,la)∈T)(h0:a≠0)(hk:(k,l)∈j8 T a):aY (j8 T a) k=aY T k/\(aY T k<0∨∃p lp,aY T k=((p:Nat):Int)/\(p,lp)∈j8 T a):=by
 have vb:=hw.rem ha h0;obtain⟨q,hq,Sk,kA⟩:=hw.up ha h0;obtain⟨x,hx,Kd,h1,h2⟩:=(ed kA).1 hk;have sJ:k=x.1:=h1
 by_cases Dz:k=0
 ·subst Dz;have e1:aY T ((0:Nat):Int)=-1:=hw.root_par;have e2:aY (j8 T a) ((0:Nat):Int)=-1:=vb.root_par;exact⟨e2.trans e1.symm,af (by rw[e1];decide)⟩
 ·have DL:(k,x.2)∈T:=by rw[sJ];exact hx
  obtain⟨p,hp,hmp,yO⟩:=hw.up DL Dz;have hnp:¬dD T a p.1:=λhu=>Kd (by rw[<-sJ];exact(hw.under_kid hp hmp a).2 (ai hu));have hka:k≠a:=λe=>Kd (by rw[<-sJ,e];exact iu T a);have ui:(p.1,if p.1=q.1 then aw a p.2 else p.2)∈j8 T a:=(ed kA).2 ⟨p,hp,hnp,rfl,rfl⟩
  have qZ:k∈(if p.1=q.1 then aw a p.2 else p.2):=by
   split
   ·exact lu.2 ⟨hmp,hka⟩
   ·exact hmp
  exact⟨(vb.parent ui qZ).trans yO.symm,ai ⟨p.1,_,yO,ui⟩⟩
theorem PU (hw:TW T made)(ha:(a,la)∈T)(h0:a≠0)(hc:0<=c):∀(j:Nat) {k:Nat} {l:List Nat},(k,l)∈j8 T a->gY T j k=c->gY (j8 T a) j k=c
 | 0,_,_,_,h=>h
 | j+1,k,l,hk,h=>by
  obtain⟨e,h2⟩:=IR hw ha h0 hk;show gY (j8 T a) j (aY (j8 T a) k)=c;replace h:gY T j (aY T k)=c:=h;rw[e];rcases h2 with h2 | ⟨p,lp,h2,hp⟩
  ·have:=me T h2 j;omega
  ·rw[h2] at h ⊢;exact PU hw ha h0 hc j hp h
theorem La (hw:TW T made)(ha:(a,la)∈T)(h0:a≠0){x:Nat}{lx:List Nat}(hx:(x,lx)∈j8 T a)(h:dJ T (aY T a) x=true):dJ (j8 T a) (aY T a) x=true:=by
 obtain⟨q,hq,Sk,kA⟩:=hw.up ha h0
 have hnq:¬dD T a q.1:=λ⟨_,t,ht⟩=>by
  obtain⟨rk,hr⟩:=hw.rank;have h1:=hw.under_rank hr t q.1 ht;have h2:=hr q hq a Sk;omega
 have zV:(q.1,aw a q.2)∈j8 T a:=(ed kA).2 ⟨q,hq,hnq,rfl,by rw[aq rfl]⟩;rw[kA] at h ⊢;unfold dJ at h ⊢;rw[(IR hw ha h0 zV).1];rw[Bool.or_eq_true] at h ⊢;refine h.imp id (λh=>?_);obtain⟨h1,j,hj⟩:=bp.1 h;exact bp.2 ⟨h1,j,PU hw ha h0 h1 j hx hj⟩
end
theorem BH (hl:l.Nodup)(hs:∀k∈l,k∈m):l.length<=m.length:=dw hl hs
theorem xU (hl:l.Nodup)(hm:m.Nodup)(h:∀k,k∈l↔k∈m):l.length=m.length:=Nat.le_antisymm (BH hl (λk hk=>(h k).1 hk)) (BH hm (λk hk=>(h k).2 hk))
def Spo (st cA:List Nat)(H:Nat->Prop):Prop:=(∀k∈st,k∈cA)/\∀k∈cA,k∈st∨H k
def XQ:fw->YS->List Nat->YS->List Nat->Prop
 | .ins par y,X,st,X',cA=>Spo st cA (λk=>y=0/\(k=X.made∨dJ X'.T par k=true))/\(y=0->X.made∈cA)
 | .rem n y,X,st,X',cA=>(∀k∈st,(bw X'.T k).isSome=true->k∈cA)/\∀k∈cA,k∈st∨(y=0/\dJ X'.T (aY X.T n) k=true)
 | .mov n m y,X,st,X',cA=>Spo st cA (λk=>y=0/\(dJ X'.T (aY X.T n) k=true∨dJ X'.T m k=true))
 | .cls n s on,X,st,_,cA=>Spo st cA (λk=>cf X.T n s=0/\dJ X.T n k=true/\dt X.rs 2 (bt s 0)=true/\(X.M n.toNat).cl (bt s 0 - 97)≠on)
 | .nam n s,X,st,_,cA=>Spo st cA (λk=>ct X.T n s=0/\dJ X.T n k=true/\(X.M n.toNat).nm≠(fM (X.M n.toNat) s).nm/\(dt X.rs 3 (X.M n.toNat).nm=true∨dt X.rs 3 (fM (X.M n.toNat) s).nm=true))
 | .sht s,_,st,_,cA=>(∀k∈st,k∈cA)/\((gP s).1≠0->∀k∈cA,k∈st)
 | .qry n s,X,st,_,cA=>∀k,k∈cA↔k∈st/\¬(bq X.T n s=0/\dD X.T k n)
def QSt (d:fw)(X:YS)(st:List Nat)(X':YS)(cA:List Nat):Prop:=LT X'.T cA/\XQ d X st X' cA
structure ISt (X:YS)(st:List Nat)(K:gu):Prop where
 lt:LT X.T st
 must:∀k∈K.lm,k∈st
 may:∀k∈st,k∈K.ly
 cnt:0<=K.cnt->K.cnt=st.length
 lo:-1<=K.cnt
 hi:K.cnt<=24
 seen:K.ls.length<=24
 held:K.held=true->(∀k∈st,k∈K.ls)/\((∃k∈st,fc X.T X.shn k=true)->∀k∈K.ls,k ∉ st->fc X.T X.shn k=true)
theorem ISt.spoilt (h1:LT X.T st)(h2:∀k∈K.lm,k∈st)(h3:∀k∈st,k∈K.ly)(h4:K.cnt=-1)(h5:K.held=false)(h6:K.ls.length<=24):ISt X st K:=
 ⟨h1,h2,h3,λh=>by omega,by omega,by omega,h6,λh=>by rw[h5] at h;cases h⟩
theorem ISt.same (h:ISt X st K)(hl:LT X.T cA)(hs:∀k,k∈cA↔k∈st):ISt X cA K:=
 ⟨hl,λk hk=>(hs k).2 (h.must k hk),λk hk=>h.may k ((hs k).1 hk),λh0=>by rw[xU hl.1 h.lt.1 hs];exact h.cnt h0,h.lo,h.hi,h.seen,λhh=>by
  obtain⟨h1,h2⟩:=h.held hh;exact⟨λk hk=>h1 k ((hs k).1 hk),λ⟨k,hk,hw⟩ j hj hn=>h2 ⟨k,(hs k).1 hk,hw⟩ j hj (λhx=>hn ((hs j).2 hx))⟩⟩
theorem ISt.other (h:ISt X st K)(hT:X'.T=X.T)(hs:X'.shn=X.shn):ISt X' st K:=
 ⟨by rw[hT];exact h.lt,h.must,h.may,h.cnt,h.lo,h.hi,h.seen,λhh=>by rw[hT,hs];exact h.held hh⟩
theorem Spo.none (h:Spo st cA H)(hn:∀k,¬H k)(k:Nat):k∈cA↔k∈st:=⟨λhk=>(h.2 k hk).resolve_right (hn k),h.1 k⟩
theorem SpoK.inv {K':gu}{sp:Bool}(h:ISt X st K)(hT:X'.T=X.T)(VQ:X'.shn=X.shn)(hl:LT X'.T cA)(hp:Spo st cA H)(hH:∀k,H k->sp=true/\dJ X.T n k=true)(hK:SpoK X.T n K K' sp):ISt X' cA K':=by
 rcases hK with⟨h1,rfl⟩ | ⟨_,h2,h3,h4,h5,h6⟩
 ·refine(h.other hT VQ).same hl (hp.none λk hk=>?_);rw[(hH k hk).1] at h1;cases h1
 ·refine ISt.spoilt hl (λk hk=>hp.1 k (h.must k (by rw[<-h2];exact hk))) (λk hk=>?_) h5 h6 (by rw[h4];exact h.seen);rw[h3,lw];rcases hp.2 k hk with h7 | h7
  ·exact af (h.may k h7)
  ·obtain⟨l,QJ⟩:=hl.2 k hk;rw[hT] at QJ;exact ai ⟨⟨l,QJ⟩,(hH k h7).2⟩
def tQ (T:aJ)(e:Int)(st:List Nat):Nat->List Nat
 | 0=>st
 | j+1=>aw (gY T j e) (tQ T e st j)
theorem ER (T:aJ)(e:Int)(st:List Nat)(k:Nat):∀j,k∈tQ T e st j↔k∈st/\∀i,i<j->gY T i e≠(k:Int)
 | 0=>⟨λh=>⟨h,λi hi=>absurd hi (Nat.not_lt_zero _)⟩,λh=>h.1⟩
 | j+1=>by
  show k∈aw (gY T j e) (tQ T e st j)↔_;unfold aw;rw[dA,ER T e st k j,bF];constructor
  ·rintro⟨⟨h1,h2⟩,h3⟩;refine⟨h1,λi hi=>?_⟩
   by_cases e:i=j
   ·subst e;exact λe=>h3 e.symm
   ·exact h2 i (by omega)
  ·rintro⟨h1,h2⟩;exact⟨⟨h1,λi hi=>h2 i (by omega)⟩,λe=>h2 j (by omega) e.symm⟩
theorem DZ (hn:l.Nodup)(hk:k∈l):(aw (k:Int) l).length+1=l.length:=by
 induction l with
 | nil=>cases hk
 | cons x l ih=>
  rw[List.nodup_cons] at hn;unfold aw;rw[List.filter_cons]
  by_cases e:x=k
  ·subst e
   have:(l.filter λy:Nat=>decide ((y:Int)≠(x:Int)))=l:=List.filter_eq_self.2 λy hy=>by
    rw[bF];exact λe=>hn.1 (by rw[show x=y from by omega];exact hy)
   rw[aj (by simp),this,List.length_cons]
  ·have h1:=ih hn.2 ((List.mem_cons.1 hk).resolve_left (λh=>e h.symm));unfold aw at h1;rw[aq (by rw[bF];omega),List.length_cons,h1,List.length_cons]
theorem Ky (h:∀k∈l,(k:Int)≠n):aw n l=l:=List.filter_eq_self.2 λk hk=>by rw[bF];exact h k hk
theorem Dt:fH l n=true↔∃k∈l,(k:Int)=n:=by
 unfold fH;rw[List.any_eq_true];exact⟨λ⟨k,h1,h2⟩=>⟨k,h1,by simpa using h2⟩,λ⟨k,h1,h2⟩=>⟨k,h1,by simpa using h2⟩⟩
theorem IM (T:aJ)(e:Int){lm ly:List Nat}(hn:st.Nodup)(h1:∀k∈lm,k∈st)(h2:∀k∈st,k∈ly)(h3:0<=c->c=st.length):∀j,(tQ T e st j).Nodup/\(∀k∈(tK T e (lm,ly,c) j).1,k∈tQ T e st j)/\(∀k∈tQ T e st j,k∈(tK T e (lm,ly,c) j).2.1)/\(0<=(tK T e (lm,ly,c) j).2.2->(tK T e (lm,ly,c) j).2.2=(tQ T e st j).length)
 | 0=>⟨hn,h1,h2,h3⟩
 | j+1=>by
  obtain⟨g0,g1,g2,g3⟩:=IM T e hn h1 h2 h3 j;show(aw (gY T j e) (tQ T e st j)).Nodup/\(∀k∈aw (gY T j e) (tK T e (lm,ly,c) j).1,k∈aw (gY T j e) (tQ T e st j))/\(∀k∈aw (gY T j e) (tQ T e st j),k∈aw (gY T j e) (tK T e (lm,ly,c) j).2.1)/\(0<=mG (fH (tK T e (lm,ly,c) j).2.1 (gY T j e)) (fH (tK T e (lm,ly,c) j).1 (gY T j e)) (tK T e (lm,ly,c) j).2.2->mG (fH (tK T e (lm,ly,c) j).2.1 (gY T j e)) (fH (tK T e (lm,ly,c) j).1 (gY T j e)) (tK T e (lm,ly,c) j).2.2=(aw (gY T j e) (tQ T e st j)).length);generalize tQ T e st j=S at g0 g1 g2 g3 ⊢;generalize tK T e (lm,ly,c) j=q at g1 g2 g3 ⊢;obtain⟨m,y,d⟩:=q;generalize gY T j e=x;replace g1:∀k∈m,k∈S:=g1;replace g2:∀k∈S,k∈y:=g2;replace g3:0<=d->d=S.length:=g3;refine⟨kS g0,λk hk=>?_,λk hk=>?_,?_⟩
  ·exact dA.2 ⟨g1 k (dA.1 hk).1,(dA.1 hk).2⟩
  ·exact dA.2 ⟨g2 k (dA.1 hk).1,(dA.1 hk).2⟩
  ·show 0<=mG (fH y x) (fH m x) d->mG (fH y x) (fH m x) d=_;unfold mG;cases hm:fH m x with
   | true=>
    obtain⟨k,hk,rfl⟩:=Dt.1 hm;have hS:=g1 k hk;have hl:=DZ g0 hS;simp only[Bool.not_true,Bool.and_false,Bool.true_and,bF]
    by_cases hd:0<d
    ·have:=g3 (by omega);simp[hd];omega
    ·simp[hd];intro h;have:=g3 h;omega
   | false=>
    cases hy:fH y x with
    | true=>simp
    | false=>
     have nU:aw x S=S:=Ky λk hk e=>by
      have:=Dt.2 ⟨k,g2 k hk,e⟩;rw[hy] at this;cases this
     rw[nU];simp;exact g3
theorem uE {j:Nat}(hj:gY T j n<0):dD T k n↔∃i,i<j/\gY T i n=(k:Int):=by
 constructor
 ·rintro⟨_,i,hi⟩;refine⟨i,?_,hi⟩
  by_cases h:i<j
  ·exact h
  ·have h1:=me T hj (i - j);rw[<-pV,show j+(i - j)=i from by omega,hi] at h1;omega
 ·rintro⟨i,_,hi⟩;exact⟨by omega,i,hi⟩
end
section
variable {w':World}
structure GW2 (PS:World->Value->YS->List Nat->(Nat->Prop)->Prop)(I:YS->List Nat->gu->Prop)(an:Nat)(w:World)(B:Nat)(vD vI vM:Value)(nx:Nat)(ps:List jU)(es:List sM):Prop where
 wb:WB w B vD vI vM nx
 rowD:w.ownsRow 0 112 1 vD ps.length (ps.map λp=>.pointer (some ⟨p.b,0,none⟩))
 rowI:w.ownsRow 0 40 1 vI es.length (es.map sM.v)
 rowM:w.ownsRow 0 3 1 vM es.length (es.map λe=>.int .i64 e.m)
 full:∀e∈es,Full w e.v e.n (.int .i64 e.m)/\e.n<=1099511627776
 ent:∀e∈es,∀j,e.v.ownBlock=some j->j<w.heap.size/\j≠B/\vD.ownBlock≠some j/\vI.ownBlock≠some j/\vM.ownBlock≠some j
 pd:∀i (hi:i<ps.length),PD2 PS I w ps[i].b ps[i].made ps[i].G
 sep:∀i j (hi:i<ps.length) (hj:j<ps.length),i≠j->∀k,ps[i].G k->¬ps[j].G k
 out:∀i (hi:i<ps.length) k,sS B vD vI vM es k->¬ps[i].G k
 cnt:es.length=4*nx
 baseM:∀k,sS B vD vI vM es k->an<=k
 baseG:∀i (hi:i<ps.length) k,ps[i].G k->an<=k
 baseW:an<=w.heap.size
section
variable {PS:World->Value->YS->List Nat->(Nat->Prop)->Prop}{Q:fw->YS->List Nat->YS->List Nat->Prop}{I:YS->List Nat->gu->Prop}{an:Nat}{w:World}{B:Nat}{vD vI vM:Value}{nx:Nat}{ps:List jU}{es:List sM}
theorem GW2.ltM (h:GW2 PS I an w B vD vI vM nx ps es):∀k,sS B vD vI vM es k->k<w.heap.size:=by
 rintro k (rfl | hk | hk | hk | ⟨e,he,hk⟩)
 ·exact(bx.1 h.wb.blk).1
 ·exact(h.rowD.lt k hk).2
 ·exact(h.rowI.lt k hk).2
 ·exact(h.rowM.lt k hk).2
 ·exact(h.ent e he k hk).1
theorem GW2.turn (hP:cG PS Q)(h:GW2 PS I an w B vD vI vM nx ps es){i:Nat}(hi:i<ps.length)(iA:w.heap.size<=w'.heap.size)(ft:∀k,k<w.heap.size->¬ps[i].G k->w'.heap[k]?=w.heap[k]?){made':Nat}{G':Nat->Prop}
  (tn:PD2 PS I w' ps[i].b made' G') (hG:∀k,G' k->ps[i].G k∨w.heap.size<=k):GW2 PS I an w' B vD vI vM nx (ps.set i ⟨ps[i].b,made',G'⟩) es:=by
 have hm:∀k,sS B vD vI vM es k->w'.heap[k]?=w.heap[k]?:=λk hk=>ft k (h.ltM k hk) (h.out i hi k hk);have bX:(ps.set i ⟨ps[i].b,made',G'⟩).length=ps.length:=List.length_set;have wS:∀j (hj:j<ps.length),j≠i->∀k,ps[j].G k->w'.heap[k]?=w.heap[k]?:=λj hj hn k hk=>ft k ((h.pd j hj).lt k hk) (λx=>h.sep j i hj hi hn k hk x);have wR:∀j (hj:j<(ps.set i ⟨ps[i].b,made',G'⟩).length),(ps.set i ⟨ps[i].b,made',G'⟩)[j]=if i=j then⟨ps[i].b,made',G'⟩ else ps[j]'(by rw[bX] at hj;exact hj):=λj hj=>List.getElem_set hj
 have hGn:∀j (hj:j<ps.length),j≠i->∀k,G' k->¬ps[j].G k:=λj hj hn k hk hx=>by
  rcases hG k hk with hk | hk
  ·exact h.sep j i hj hi hn k hx hk
  ·have:=(h.pd j hj).lt k hx;omega
 refine⟨(hm B (af rfl)).trans h.wb,?_,cO h.rowI (λk hk _=>hm k (ai (ai (af hk)))),cO h.rowM (λk hk _=>hm k (ai (ai (ai (af hk))))),λe he=>⟨(h.full e he).1.blk (λg hg _=>hm g (ai (ai (ai (ai ⟨e,he,hg⟩))))),(h.full e he).2⟩,λe he j hj=>?_,λj hj=>?_,λj l hj hl hn k hk=>?_,λj hj k hk=>?_,h.cnt,h.baseM,λj hj k hk=>?_,Nat.le_trans h.baseW iA⟩
 ·have adn:(ps.set i ⟨ps[i].b,made',G'⟩).map (λp=>Value.pointer (some ⟨p.b,0,none⟩))=ps.map λp=>Value.pointer (some ⟨p.b,0,none⟩):=by
   rw[List.map_set];have:(ps.map λp=>Value.pointer (some ⟨p.b,0,none⟩))[i]?=some (Value.pointer (some ⟨ps[i].b,0,none⟩)):=by rw[List.getElem?_map,bO hi];rfl
   apply List.ext_getElem?;intro j;rw[List.getElem?_set]
   by_cases e:i=j
   ·subst e;rw[aq rfl,this,aq (by simpa using hi)]
   ·rw[aj e]
  rw[bX,adn];exact cO h.rowD (λk hk _=>hm k (ai (af hk)))
 ·obtain⟨h1,h2⟩:=h.ent e he j hj;exact⟨Nat.lt_of_lt_of_le h1 iA,h2⟩
 ·rw[wR j hj];split
  ·exact tn
  ·rename_i hn;rw[bX] at hj;exact(h.pd j hj).keep hP iA (wS j hj (λe=>hn e.symm))
 ·rw[wR j hj] at hk;rw[wR l hl];rw[bX] at hj hl;split at hk<;>split
  ·rename_i h1 h2;exact absurd (h1.symm.trans h2) hn
  ·rename_i h1 h2;exact hGn l hl (λe=>h2 e.symm) k hk
  ·rename_i h1 h2;exact λhx=>hGn j hj (λe=>h1 e.symm) k hx hk
  ·exact h.sep j l hj hl hn k hk
 ·rw[wR j hj];rw[bX] at hj;split
  ·intro hx;rcases hG k hx with hx | hx
   ·exact h.out i hi k hk hx
   ·have:=h.ltM k hk;omega
  ·exact h.out j hj k hk
 ·rw[wR j hj] at hk;rw[bX] at hj;split at hk
  ·rcases hG k hk with hk | hk
   ·exact h.baseG i hi k hk
   ·have:=h.baseW;omega
  ·exact h.baseG j hj k hk
theorem GW2.keep (hP:cG PS Q)(h:GW2 PS I an w B vD vI vM nx ps es)(hB:Below w.heap.size w w'):GW2 PS I an w' B vD vI vM nx ps es:=by
 have hm:∀k,sS B vD vI vM es k->w'.heap[k]?=w.heap[k]?:=λk hk=>hB.block k (h.ltM k hk);exact⟨(hm B (af rfl)).trans h.wb,cO h.rowD (λk hk _=>hm k (ai (af hk))),cO h.rowI (λk hk _=>hm k (ai (ai (af hk)))),cO h.rowM (λk hk _=>hm k (ai (ai (ai (af hk))))),λe he=>⟨(h.full e he).1.blk (λg hg _=>hm g (ai (ai (ai (ai ⟨e,he,hg⟩))))),(h.full e he).2⟩,λe he j hj=>⟨Nat.lt_of_lt_of_le (h.ent e he j hj).1 hB.size,(h.ent e he j hj).2⟩,λi hi=>(h.pd i hi).keep hP hB.size (λk hk=>hB.block k ((h.pd i hi).lt k hk)),h.sep,h.out,h.cnt,h.baseM,h.baseG,Nat.le_trans h.baseW hB.size⟩
theorem GW2.own (hP:cG PS Q)(h:GW2 PS I an w B vD vI vM nx ps es){v:Value}{n:Nat}{xs:List Value}(eb:w.ownsRow 0 3 1 v n xs)(hn:n<=24)(hv:∀j,v.ownBlock=some j->an<=j/\¬sS B vD vI vM es j/\∀i (hi:i<ps.length),¬ps[i].G j){e:Ending}
  (hp:uX w B vD vI vM nx v n es.length es.length (es.map sM.v) (es.map λe=>.int .i64 e.m) e w'):∃sB sC p7,GW2 PS I an w' B vD sB sC (nx+1) ps p7:=by
 obtain⟨_,sB,sC,v1,v2,v3,wb',rI',rM',f0,f1,f2,f3,fr,nb,nI,nM,nx3⟩:=hp
 let mk:Int:=-((nx:Int)+1)
 have Vo:=(bx.1 h.wb.blk).1;have hw:=fr.size;have same:∀k,k<w.heap.size->k≠B->v.ownBlock≠some k->vI.ownBlock≠some k->vM.ownBlock≠some k->w'.heap[k]?=w.heap[k]?:=λk hk h1 h2 h3 h4=>fr.block k hk (λx=>x.elim h1 (λx=>x.elim h2 (λx=>x.elim h3 h4)))
 have hDn:∀k,vD.ownBlock=some k->w'.heap[k]?=w.heap[k]?:=by
  intro k hk;refine same k (h.rowD.lt k hk).2 (λe=>aB h.rowD h.wb.blk (by decide) (e▸hk)) (λe=>(hv k e).2.1 (ai (af hk))) (λe=>?_) (λe=>?_)
  ·rcases h.rowI.2 with⟨h1,_⟩ | ⟨g,_,fV,h1,_,hg,_⟩
   ·rw[h1] at e;simp[Value.ownBlock] at e
   ·rw[h1] at e;simp[Value.ownBlock] at e;subst e;exact aB h.rowD hg (by decide) hk
  ·rcases h.rowM.2 with⟨h1,_⟩ | ⟨g,_,fV,h1,_,hg,_⟩
   ·rw[h1] at e;simp[Value.ownBlock] at e
   ·rw[h1] at e;simp[Value.ownBlock] at e;subst e;exact aB h.rowD hg (by decide) hk
 have hEn:∀x∈es,∀k,x.v.ownBlock=some k->w'.heap[k]?=w.heap[k]?:=λx hx k hk=>
  same k (h.ent x hx k hk).1 (h.ent x hx k hk).2.1 (λe=>(hv k e).2.1 (ai (ai (ai (ai ⟨x,hx,hk⟩))))) (h.ent x hx k hk).2.2.2.1 (h.ent x hx k hk).2.2.2.2
 have hGn:∀i (hi:i<ps.length) k,ps[i].G k->w'.heap[k]?=w.heap[k]?:=λi hi k hk=>
  same k ((h.pd i hi).lt k hk) (λe=>h.out i hi k (af e) hk) (λe=>(hv k e).2.2 i hi hk) (λe=>h.out i hi k (ai (ai (af e))) hk) (λe=>h.out i hi k (ai (ai (ai (af e)))) hk)
 let p7:List sM:=es++[⟨v,n,mk⟩,⟨v1,n+1,mk⟩,⟨v2,n+2,mk⟩,⟨v3,n+3,mk⟩]
 have jS:∀x∈p7,x∈es∨x=⟨v,n,mk⟩∨x=⟨v1,n+1,mk⟩∨x=⟨v2,n+2,mk⟩∨x=⟨v3,n+3,mk⟩:=λx hx=>by
  rcases List.mem_append.1 hx with hx | hx
  ·exact af hx
  ·simp only[List.mem_cons,List.not_mem_nil,or_false] at hx;exact ai hx
 have Sl:∀x∈p7,x∈es∨∀j,x.v.ownBlock=some j->(v.ownBlock=some j∨w.heap.size<=j)/\j<w'.heap.size/\sB.ownBlock≠some j/\sC.ownBlock≠some j:=λx hx=>by
  rcases jS x hx with hx | rfl | rfl | rfl | rfl
  ·exact af hx
  ·refine ai λj hj=>⟨af hj,Nat.lt_of_lt_of_le (eb.lt j hj).2 hw,λe=>?_,λe=>?_⟩
   ·rcases nI j e with e | e
    ·exact(hv j hj).2.1 (ai (ai (af e)))
    ·have:=(eb.lt j hj).2;omega
   ·rcases nM j e with e | e
    ·exact(hv j hj).2.1 (ai (ai (ai (af e))))
    ·have:=(eb.lt j hj).2;omega
  ·exact ai λj hj=>⟨nb v1 (af rfl) j hj,f1.lt (by omega) j hj,nx3 v1 (af rfl) j hj⟩
  ·exact ai λj hj=>⟨nb v2 (ai (af rfl)) j hj,f2.lt (by omega) j hj,nx3 v2 (ai (af rfl)) j hj⟩
  ·exact ai λj hj=>⟨nb v3 (ai (ai rfl)) j hj,f3.lt (by omega) j hj,nx3 v3 (ai (ai rfl)) j hj⟩
 have zP:∀k,sS B vD sB sC p7 k->sS B vD vI vM es k∨v.ownBlock=some k∨w.heap.size<=k:=by
  rintro k (hk | hk | hk | hk | ⟨x,hx,hk⟩)
  ·exact af (af hk)
  ·exact af (ai (af hk))
  ·exact(nI k hk).elim (λx=>af (ai (ai (af x)))) (λx=>ai (ai x))
  ·exact(nM k hk).elim (λx=>af (ai (ai (ai (af x))))) (λx=>ai (ai x))
  ·rcases Sl x hx with hx | hx
   ·exact af (ai (ai (ai (ai ⟨x,hx,hk⟩))))
   ·exact ai (hx k hk).1
 refine⟨sB,sC,p7,wb',cO h.rowD (λk hk _=>hDn k hk),?_,?_,λx hx=>?_,λx hx j hj=>?_,λi hi=>(h.pd i hi).keep hP hw (hGn i hi),h.sep,λi hi k hk hx=>?_,?_,λk hk=>?_,h.baseG,Nat.le_trans h.baseW hw⟩
 ·have h1:p7.length=es.length+4:=by simp[p7]
  have h2:p7.map sM.v=es.map sM.v++[v,v1,v2,v3]:=by simp[p7]
  rw[h1,h2];exact rI'
 ·have h1:p7.length=es.length+4:=by simp[p7]
  have h2:(p7.map λe=>Value.int .i64 e.m)=(es.map λe=>Value.int .i64 e.m)++List.replicate 4 (.int .i64 mk):=by simp[p7,List.replicate]
  rw[h1,h2];exact rM'
 ·rcases jS x hx with hx | rfl | rfl | rfl | rfl
  ·exact⟨(h.full x hx).1.blk (λg hg _=>hEn x hx g hg),(h.full x hx).2⟩
  ·exact⟨f0,by show n<=_;omega⟩
  ·exact⟨f1,by show n+1<=_;omega⟩
  ·exact⟨f2,by show n+2<=_;omega⟩
  ·exact⟨f3,by show n+3<=_;omega⟩
 ·rcases Sl x hx with hx | hx
  ·obtain⟨h1,h2,h3,h4,h5⟩:=h.ent x hx j hj;refine⟨Nat.lt_of_lt_of_le h1 hw,h2,h3,λe=>?_,λe=>?_⟩
   ·exact(nI j e).elim h4 (λx=>by omega)
   ·exact(nM j e).elim h5 (λx=>by omega)
  ·obtain⟨h1,h2,h3,h4⟩:=hx j hj;refine⟨h2,λe=>?_,λe=>?_,h3,h4⟩
   ·rcases h1 with h1 | h1
    ·exact(hv j h1).2.1 (af e)
    ·omega
   ·rcases h1 with h1 | h1
    ·exact(hv j h1).2.1 (ai (af e))
    ·have:=(h.rowD.lt j e).2;omega
 ·rcases zP k hk with hk | hk | hk
  ·exact h.out i hi k hk hx
  ·exact(hv k hk).2.2 i hi hx
  ·have:=(h.pd i hi).lt k hx;omega
 ·have:=h.cnt;show(es++_).length=_;simp;omega
 ·rcases zP k hk with hk | hk | hk
  ·exact h.baseM k hk
  ·exact(hv k hk).1
  ·have:=h.baseW;omega
end
end
def KidPost2 (PS:World->Value->YS->List Nat->(Nat->Prop)->Prop)(I:YS->List Nat->gu->Prop)(an:Nat)(w:World)(B:Nat)(vD:Value)(nx:Nat)(ps:List jU)(i:Nat)(p:jU)(e:Ending)(w':World):Prop:=
 e=.returned (.bool true)/\Below an w w'/\∃sB sC Fm G' p7,Fm<=nx+1/\GW2 PS I an w' B vD sB sC Fm (ps.set i ⟨p.b,p.made,G'⟩) p7
theorem oP {PS:World->Value->YS->List Nat->(Nat->Prop)->Prop}{Q:fw->YS->List Nat->YS->List Nat->Prop}{I:YS->List Nat->gu->Prop}(hP:cG PS Q)(an:Nat)(w:World)(B:Nat)(vD vI vM:Value)(nx:Nat)(ps:List jU)(es:List sM)(h:GW2 PS I an w B vD vI vM nx ps es)(i:Nat)(hi:i<ps.length)(pK:nx<=274877906944)(n:Int):
  Calls prog 59 #[.pointer (some ⟨B,0,none⟩),.pointer (some ⟨ps[i].b,0,none⟩),.int .i64 n] w λe w'=>KidPost2 PS I an w B vD nx ps i ps[i] e w':=by
 have tn:=h.pd i hi;have kX:=ae h;have HP:=ae hP;have OB:=List.set_getElem_self hi;have A8:=ae OB;clear h OB;generalize ps[i]=p at tn A8 ⊢;obtain⟨X,st,pa,d,K,Fp,Fx,Fy,h1,h2,h3,h4,h5,h6⟩:=tn;have Fk:=h1.pb;have b0:w.cell? ⟨p.b,0,none⟩=some (.pointer (some pa)):=aa Fk.blk rfl;obtain⟨els,hp,vT,bi,vL,Rr,Gs,hX,TR,_⟩:=h1.rs;have HX:=bT hX TR;have HPB:=ae Fk;have sQ:=ae h1.ps;clear h1 h2 h3 h4 h5 h6 hP hX TR Fk;go_enter func59,ntmps59;go_wp2_with fail;refine(HP.out.chi w (.pointer (some pa)) X st Fx n sQ.out).mono ?_;rintro e w1 ⟨cq,gQ⟩;have eg:=ae cq;have Mj:=ae (kX.out.keep HP.out cq);have b1:w1.cell? ⟨p.b,1,none⟩=some (.pointer (some ⟨d,0,none⟩)):=aa ((cq.block p.b (bx.1 HPB.out.blk).1).trans HPB.out.blk) rfl;have HR:Hid (RD w1 d els X.made hp vT bi vL):=HX.out.1.rd.keep (λk _ hl=>cq.block k hl);clear b0 cq;rcases gQ with⟨hnone,rfl⟩ | ⟨l,a,c,hsome,rfl,bL⟩
 ·have HE:Hid (KidPost2 PS I an w B vD nx ps i p (.returned (.bool true)) w1):=⟨rfl,eg.out.mono kX.out.baseW,vI,vM,nx,p.G,es,Nat.le_succ _,by rw[A8.out];exact Mj.out⟩
  have hfn:bJ els n=none:=by
   rw[HX.out.2] at hnone;cases bG:bJ els n with
   | none=>rfl
   | some x=>rw[cH bG] at hnone;cases hnone
  clear hnone;go_wp2_with fail;refine(eB _ d els X.made hp vT bi vL n HR.out).mono ?_;rintro e w2 ⟨rfl,rfl⟩;rw[hfn];clear hfn;have he:fa none=.pointer none:=rfl;rw[he];clear he;go_wp2_with fail;refine(bI _ 5).mono ?_;rintro e w5 ⟨rfl,rfl⟩;go_wp2;go_ret;exact HE.out
 ·obtain⟨x,Gg,rfl⟩:∃x,bJ els n=some x/\x.kids=l:=by
   rw[HX.out.2] at hsome;cases bG:bJ els n with
   | none=>rw[cK bG] at hsome;cases hsome
   | some x=>
    rw[cH bG] at hsome;injection hsome with hsome
    exact⟨x,rfl,hsome⟩
  obtain⟨Fl,_⟩:=cN Gg;have Sg:=HR.out.kfew x Fl;have rH:=HR.out.kid x Fl;have e4:=(eR (HR.out.el x Fl)).2;have Xu:=ae (aP bL aZ)
  have UV:Hid (∀j,(Value.slice a x.kids.length c).ownBlock=some j->an<=j/\¬sS B vD vI vM es j/\∀i' (QH:i'<ps.length),¬ps[i'].G j):=λj hj=>by
   have WM:=(bL.lt j hj).1;exact⟨Nat.le_trans kX.out.baseW WM,λhm=>by have:=kX.out.ltM j hm;omega,λi' QH hx=>by have:=(kX.out.pd i' QH).lt j hx;omega⟩
  obtain⟨ak,ck,sL⟩:=aA rH;have abZ:Hid (w1.ownsRow 0 3 1 (.slice ak x.kids.length ck) x.kids.length (bh x.kids)):=by rw[<-sL];exact rH
  rw[sL] at e4;clear bL rH sL hsome;go_wp2_with fail;refine(eB _ d els X.made hp vT bi vL n HR.out).mono ?_;rintro e w2 ⟨rfl,rfl⟩;obtain⟨w1,rfl⟩:∃w1,w1=w2:=⟨_,rfl⟩;rw[Gg];have he:fa (some x)=.pointer (some ⟨x.blk,0,none⟩):=rfl;rw[he];clear he Gg Fl b1;go_wp2_with fail;refine(P0 _ a ak c ck x.kids Xu.out abZ.out Sg).mono ?_;rintro e w2 ⟨rfl,qX⟩;have Ml:=ae (Mj.out.keep HP.out qX.below);have Xv:=ae (aN Xu.out qX.below);have eD:Hid (Below an w w2):=(eg.out.mono kX.out.baseW).trans (qX.below.mono (by have:=eg.out.size;have:=kX.out.baseW;omega));clear qX e4;have J6:=Ml.out.cnt;go_wp2_with fail;refine(IK w2 B vD vI vM nx a c x.kids.length (bh x.kids) es.length es.length (es.map sM.v) (es.map λe=>.int .i64 e.m) ⟨Ml.out.wb,Xv.out,Ml.out.rowI,Ml.out.rowM,Fr.refl _ _,λj hj hm=>(UV.out j hj).2.1 (ai (ai (ai (af hm))))⟩ Sg (by omega) (by omega) (by omega)).mono ?_;intro e w3 cX;obtain⟨sB,sC,p7,fk⟩:=Ml.out.own HP.out Xv.out Sg UV.out cX
  have iG:Hid (Below an w w3):=by
   obtain⟨_,_,_,_,_,_,_,_,_,_,_,_,_,fr,_⟩:=cX;refine eD.out.trans (fr.toBelow (by have:=eD.out.size;have:=kX.out.baseW;omega) ?_);rintro k (hk | hk | hk | hk)
   ·exact kX.out.baseM k (af hk)
   ·exact(UV.out k hk).1
   ·exact kX.out.baseM k (ai (ai (af hk)))
   ·exact kX.out.baseM k (ai (ai (ai (af hk))))
  have HE:Hid (KidPost2 PS I an w B vD nx ps i p (.returned (.bool true)) w3):=⟨rfl,iG.out,sB,sC,nx+1,p.G,p7,au,by rw[A8.out];exact fk⟩;obtain⟨rfl,_⟩:=cX;clear fk J6;go_wp2_with fail;refine(bI _ 0).mono ?_;rintro e w5 ⟨rfl,rfl⟩;go_wp2;go_ret;exact HE.out
theorem V1 (b:Nat){ake:ByteArray}(hl:aG ake=true):RE [iL b 0 ake] (λ_=>d8 ake) (λ_=>false):=by
 have h0:RE [] (λ_=>d8 ake) (λ_=>false):=⟨⟨λy hy=>(by cases hy),λy hy=>(by cases hy),λy hy=>(by cases hy)⟩,λy hy=>(by cases hy),λy hy=>(by cases hy)⟩;have h1:=h0.new (made:=0) (λy hy=>by cases hy) hl b
 have e1:bM (λ_=>d8 ake) 0 (d8 ake)=λ_=>d8 ake:=by
  funext j;unfold bM;split<;>rfl
 have e2:mz (λ_=>false) 0 false=λ_=>false:=by
  funext j;unfold mz;split<;>rfl
 rw[e1,e2] at h1;exact h1
def Mx (w:World)(s ake:ByteArray)(e:Ending)(w':World):Prop:=
 Below w.heap.size w w'/\
 ((et s ake≠0/\e=.returned (.tuple #[.pointer none,.int .i64 (et s ake)]))∨
  (et s ake=0/\∃d:Nat,e=.returned (.tuple #[.pointer (some ⟨d,0,none⟩),.int .i64 0])/\w.heap.size<=d/\RSd w' d [(0,[])] 1 (λ_=>d8 ake) (λ_=>false) (eH s) (λk=>w.heap.size<=k)))
theorem Ej (w:World)(s ake:ByteArray)(hs:s.size<=maxLen):
  Calls prog 90 #[.string s,.string ake] w λe w'=>Mx w s ake e w':=by
 go_enter func90,ntmps90;go_wp2_with fail;refine(uw _ s hs).mono ?_;intro e w1 cX
 by_cases hc:(gP s).1=0
 ·obtain⟨pa,Rr,rfl,hb,tp,hrel,bC⟩:=xM hs cX hc;have HC:Hid (et s ake=if aG ake=false then 4 else 0):=by unfold Hid et;rw[aj (λh=>h hc)]
  have Hp:=kK tp hrel bC;generalize (gP s).2=c2;clear hc cX tp hrel bC;have hz:=hb.size;go_wp2_with fail;refine(nV _ ake).mono ?_;rintro e w2 ⟨rfl,rfl⟩;obtain⟨w1,rfl⟩:∃w1,w1=w2:=⟨_,rfl⟩;cases kR:aG ake with
  | false=>
   have HE:Hid (et s ake=4):=by unfold Hid;rw[HC.out,aq kR]
   clear kR HC;go_wp2;go_ret2;exact⟨hb,af ⟨by rw[HE.out];decide,by rw[HE.out];rfl⟩⟩
  | true=>
   have HE:Hid (et s ake=0):=by unfold Hid;rw[HC.out,aj (by rw[kR];decide)]
   have A6:Hid (RE [iL w1.heap.size 0 ake] (λ_=>d8 ake) (λ_=>false)):=V1 _ kR;clear kR HC;go_wp2;go_ret2;have h1:w.heap.size<=(w1.alloc (.cells (iL w1.heap.size 0 ake).cells 176)).heap.size:=by simp;omega
   refine⟨((hb.alloc hz _).alloc (by simp;omega) _).alloc (by simp;omega) _,ai ⟨HE.out,w1.heap.size+1+1,rfl,by omega,?_⟩⟩;have hrd:=VX w1 ake pa
   have qY:∀k,jQ (w1.heap.size+1+1) [iL w1.heap.size 0 ake] (.slice (some ⟨w1.heap.size+1,0,none⟩) 1 1) k->w1.heap.size<=k:=by
    rintro k (rfl | ⟨e,he,rfl⟩ | hk | ⟨e,he,hk⟩)
    ·omega
    ·rw[fg] at he;subst he;exact au
    ·simp[Value.ownBlock] at hk;omega
    ·rw[fg] at he;subst he;simp[iL,Value.ownBlock] at hk
   refine⟨[iL w1.heap.size 0 ake],pa,.slice none 0 0,false,_,Rr,λk=>w.heap.size<=k/\k<w1.heap.size,⟨hrd,I3,A6.out,Hp.out.1.keep (λk hk hl=>?_) (by simp;omega),Hp.out.2.1,Hp.out.2.2,λhh=>(by cases hh),λk hk=>by have:=hk.2;simp;omega,λk hk hx=>by have:=qY k hx;have:=hk.2;omega⟩,rfl,λk hk=>by have:=qY k hk;omega,λk hk=>hk.1,λhh=>by cases hh⟩;rw[Below.heap_alloc _ _ _ (by simp;omega),Below.heap_alloc _ _ _ (by simp;omega),Below.heap_alloc _ _ _ hl]
 ·obtain⟨pa,rfl,hb,_⟩:=cX;have gc:((gP s).1 != 0)=true:=by simp[hc]
  have HE:Hid (et s ake=(gP s).1):=by unfold Hid et;rw[aq hc]
  have HC:=ae hc;generalize oR:(gP s).1=c1 at gc HC HE ⊢;generalize (gP s).2=c2;clear oR hc;go_wp2;go_ret2;exact⟨hb,af ⟨by rw[HE.out];exact HC.out,by rw[HE.out];rfl⟩⟩
section
variable {I:YS->List Nat->gu->Prop}{PS:World->Value->YS->List Nat->(Nat->Prop)->Prop}{Q:fw->YS->List Nat->YS->List Nat->Prop}
section
variable {PS:World->Value->YS->List Nat->(Nat->Prop)->Prop}{Q:fw->YS->List Nat->YS->List Nat->Prop}{I:YS->List Nat->gu->Prop}{an:Nat}{w:World}{B:Nat}{vD vI vM:Value}{nx:Nat}{ps:List jU}{es:List sM}
theorem GW2.add (hP:cG PS Q)(h:GW2 PS I an w B vD vI vM nx ps es){W w3:World}(hW:Below w.heap.size w W)(hg:W.grownBy w3 vD.ownBlock)(p:jU){yB:Value}
  (ho:w3.ownsRow 0 112 1 yB (ps.length+1) ((ps.map λp=>.pointer (some ⟨p.b,0,none⟩))++[.pointer (some ⟨p.b,0,none⟩)])) (hb:∀j,yB.ownBlock=some j->vD.ownBlock=some j∨W.heap.size<=j)
  (tn:PD2 PS I W p.b p.made p.G) (hG:∀k,p.G k->an<=k/\¬sS B vD vI vM es k/\∀i (hi:i<ps.length),¬ps[i].G k):GW2 PS I an (w3.setCell ⟨B,0,none⟩ yB) B yB vI vM nx (ps++[p]) es:=by
 have Vo:B<w.heap.size:=h.ltM B (af rfl);have hWz:=hW.size;have hgz:=hg.size;have hz4:(w3.setCell ⟨B,0,none⟩ yB).heap.size=w3.heap.size:=by simp
 have fj:w3.heap[B]?=some (.cells #[vD,vI,vM,.int .i64 nx] 67 (0,0)):=((hg.block B (by omega) (λe=>aB h.rowD h.wb.blk (by decide) e.symm)).trans (hW.block B Vo)).trans h.wb.blk;have same:∀k,k<W.heap.size->k≠B->vD.ownBlock≠some k->(w3.setCell ⟨B,0,none⟩ yB).heap[k]?=W.heap[k]?:=λk hk h1 h2=>(Below.heap_setCell _ _ _ _ h1).trans (hg.block k hk (λe=>h2 e.symm));have IU:∀k,k<w.heap.size->k≠B->vD.ownBlock≠some k->(w3.setCell ⟨B,0,none⟩ yB).heap[k]?=w.heap[k]?:=λk hk h1 h2=>(same k (by omega) h1 h2).trans (hW.block k hk)
 have aaq:∀{t:TypeId} {v:Value} {n:Nat} {xs:List Value},t≠112->w.ownsRow 0 t 1 v n xs->∀k,v.ownBlock=some k->vD.ownBlock≠some k:=by
  intro t v n xs ht hr k hk hd;rcases hr.2 with⟨h1,_⟩ | ⟨g,_,fV,h1,_,yL,_⟩
  ·rw[h1] at hk;simp[Value.ownBlock] at hk
  ·rw[h1] at hk;simp[Value.ownBlock] at hk;subst hk;exact aB h.rowD yL ht hd
 have hGi:∀i (hi:i<ps.length) k,ps[i].G k->(w3.setCell ⟨B,0,none⟩ yB).heap[k]?=w.heap[k]?:=λi hi k hk=>IU k ((h.pd i hi).lt k hk) (λe=>h.out i hi k (af e) hk) (λe=>h.out i hi k (ai (af e)) hk)
 have zP:∀k,sS B yB vI vM es k->sS B vD vI vM es k∨W.heap.size<=k:=by
  rintro k (hk | hk | hk | hk | hk)
  ·exact af (af hk)
  ·exact(hb k hk).imp (λx=>ai (af x)) id
  ·exact af (ai (ai (af hk)))
  ·exact af (ai (ai (ai (af hk))))
  ·exact af (ai (ai (ai (ai hk))))
 have bX:(ps++[p]).length=ps.length+1:=by simp
 have wR:∀j (hj:j<(ps++[p]).length),(∃uQ:j<ps.length,(ps++[p])[j]=ps[j])∨(j=ps.length/\(ps++[p])[j]=p):=λj hj=>by
  by_cases e:j<ps.length
  ·exact af ⟨e,List.getElem_append_left e⟩
  ·have e2:j=ps.length:=by omega
   subst e2;exact ai ⟨rfl,by simp⟩
 refine⟨?_,?_,cO h.rowI (λk hk hl=>IU k hl (λe=>aB h.rowI h.wb.blk (by decide) (e▸hk)) (aaq (by decide) h.rowI k hk)),cO h.rowM (λk hk hl=>IU k hl (λe=>aB h.rowM h.wb.blk (by decide) (e▸hk)) (aaq (by decide) h.rowM k hk)),λe he=>⟨(h.full e he).1.blk (λg yL hl=>IU g hl (h.ent e he g yL).2.1 (h.ent e he g yL).2.2.1),(h.full e he).2⟩,λe he j hj=>?_,λj hj=>?_,λj l hj hl hn k hk=>?_,λj hj k hk=>?_,h.cnt,λk hk=>?_,λj hj k hk=>?_,by have:=h.baseW;omega⟩
 ·show(World.setCell _ _ _).heap[B]?=_;rw[aF fj];rfl
 ·rw[bX,List.map_append];exact bj ho (aB ho fj (by decide)) _
 ·obtain⟨h1,h2,h3,h4⟩:=h.ent e he j hj;exact⟨by omega,h2,λx=>(hb j x).elim h3 (λy=>by omega),h4⟩
 ·rcases wR j hj with⟨uQ,he⟩ | ⟨_,he⟩
  ·rw[he];exact(h.pd j uQ).keep hP (by omega) (hGi j uQ)
  ·rw[he];exact tn.keep hP (by omega) (λk hk=>same k (tn.lt k hk) (λe=>(hG k hk).2.1 (af e)) (λe=>(hG k hk).2.1 (ai (af e))))
 ·rcases wR j hj with⟨uQ,he⟩ | ⟨uQ,he⟩<;>rcases wR l hl with⟨VI,Ge⟩ | ⟨VI,Ge⟩
  ·rw[he] at hk;rw[Ge];exact h.sep j l uQ VI hn k hk
  ·rw[he] at hk;rw[Ge];exact λhx=>(hG k hx).2.2 j uQ hk
  ·rw[he] at hk;rw[Ge];exact(hG k hk).2.2 l VI
  ·omega
 ·intro hx;rcases wR j hj with⟨uQ,he⟩ | ⟨uQ,he⟩
  ·rw[he] at hx;rcases zP k hk with hk | hk
   ·exact h.out j uQ k hk hx
   ·have:=(h.pd j uQ).lt k hx;omega
  ·rw[he] at hx;rcases zP k hk with hk | hk
   ·exact(hG k hx).2.1 hk
   ·have:=tn.lt k hx;omega
 ·rcases zP k hk with hk | hk
  ·exact h.baseM k hk
  ·have:=h.baseW;omega
 ·rcases wR j hj with⟨uQ,he⟩ | ⟨uQ,he⟩
  ·rw[he] at hk;exact h.baseG j uQ k hk
  ·rw[he] at hk;exact(hG k hk).1
end
abbrev Wb (s ake:ByteArray):YS:=⟨[(0,[])],1,λ_=>d8 ake,λ_=>false,eH s⟩
theorem SJ (hP:cG PS Q)(ZE:∀X v1 v2 v3,X.T=[(0,[])]->I X [0] ⟨v1,v2,v3,1,false,[0],[0],[]⟩){w w1 w2:World}{pa:Addr}{d:Nat}{ake s:ByteArray}(h1:PS w1 (.pointer (some pa)) (Wb s ake) [0] (λk=>w.heap.size<=k))(hz:w.heap.size<=w1.heap.size)(h2:RY w2 d (Wb s ake) (λk=>w1.heap.size<=k))(hB:Below w1.heap.size w1 w2):
  PD2 PS I (((w2.alloc (.cells #[.int .i64 0] 3)).alloc (.cells #[.int .i64 0] 3)).alloc (r6 pa d w2.heap.size (w2.heap.size+1))) (w2.heap.size+2) 1 (λk=>w.heap.size<=k/\k<w2.heap.size+3):=by
 have nE:=hB.size;have hx:=hP.keep (w':=w2) (hP.here h1) (λk hk hl=>hB.block k hl) nE;have Gu:(((w2.alloc (.cells #[.int .i64 0] 3)).alloc (.cells #[.int .i64 0] 3)).alloc (r6 pa d w2.heap.size (w2.heap.size+1))).heap.size=w2.heap.size+3:=by simp
 have gE:∀k,k<w2.heap.size->(((w2.alloc (.cells #[.int .i64 0] 3)).alloc (.cells #[.int .i64 0] 3)).alloc (r6 pa d w2.heap.size (w2.heap.size+1))).heap[k]?=w2.heap[k]?:=λk hk=>by
  rw[Below.heap_alloc _ _ _ (by simp;omega),Below.heap_alloc _ _ _ (by simp;omega),Below.heap_alloc _ _ _ hk]
 have e1:(w2.alloc (.cells #[.int .i64 0] 3)).heap.size=w2.heap.size+1:=by simp
 have e2:((w2.alloc (.cells #[.int .i64 0] 3)).alloc (.cells #[.int .i64 0] 3)).heap.size=w2.heap.size+2:=by simp
 refine⟨Wb s ake,[0],pa,d,⟨.slice (some ⟨w2.heap.size,0,none⟩) 1 1,.slice (some ⟨w2.heap.size+1,0,none⟩) 1 1,.slice none 0 0,1,false,[0],[0],[]⟩,λk=>w2.heap.size<=k/\k<w2.heap.size+3,λk=>w.heap.size<=k/\k<w1.heap.size,λk=>w1.heap.size<=k/\k<w2.heap.size,⟨?_,?_,?_,?_,?_,er,?_,?_,?_,λj hj=>(by simp[Value.ownBlock] at hj),?_,?_,?_,?_⟩,?_,?_,rfl,⟨Iv,Iv⟩,ZE _ _ _ _ rfl⟩
 ·show(World.alloc _ _).heap[w2.heap.size+2]?=_;rw[<-e2];exact heap_alloc_new _ _
 ·exact hP.keep hx (λk hk hl=>gE k hl) (by rw[Gu];omega)
 ·exact h2.here.keep (λk hk hl=>gE k hl) (by rw[Gu];omega)
 ·exact((IB w2 _ _).alloc _).alloc _
 ·have:=(IB (w2.alloc (.cells #[.int .i64 0] 3)) (.int .i64 0) 3).alloc (r6 pa d w2.heap.size (w2.heap.size+1));rw[e1] at this;exact this
 ·exact⟨by omega,by omega⟩
 ·intro j hj;simp[Value.ownBlock] at hj;subst hj;exact⟨by omega,by omega⟩
 ·intro j hj;simp[Value.ownBlock] at hj;subst hj;exact⟨by omega,by omega⟩
 ·intro k hk hx;omega
 ·intro k hk hx;omega
 ·intro k hk hx;omega
 ·intro k hk;rw[Gu];omega
 ·intro k hk;show w.heap.size<=k/\k<w2.heap.size+3;omega
 ·intro k hk;rw[Gu];exact hk.2
def sR (PS:World->Value->YS->List Nat->(Nat->Prop)->Prop)(I:YS->List Nat->gu->Prop)(an:Nat)(w:World)(B:Nat)(vI vM:Value)(nx:Nat)(ps:List jU)(es:List sM)(e:Ending)(w':World):Prop:=
 e=.returned (.bool true)/\Below an w w'/\∃yB uq,GW2 PS I an w' B yB vI vM nx uq es/\(uq=ps∨∃b G,uq=ps++[⟨b,1,G⟩])
theorem FX (hP:cG PS Q)(ZE:∀X v1 v2 v3,X.T=[(0,[])]->I X [0] ⟨v1,v2,v3,1,false,[0],[0],[]⟩)(an:Nat)(w:World)(B:Nat)(vD vI vM:Value)(nx:Nat)(ps:List jU)(es:List sM)(h:GW2 PS I an w B vD vI vM nx ps es)(qd:ps.length<=1099511627776)(kd at' X Y Z:Int)(S Tt:ByteArray)(on:Bool)(hS:S.size<=maxLen):
  Calls prog 57 #[.pointer (some ⟨B,0,none⟩),.agg #[.int .i64 kd,.int .i64 at',.int .i64 X,.int .i64 Y,.int .i64 Z,.string S,.string Tt,.bool on]] w λe w'=>sR PS I an w B vI vM nx ps es e w':=by
 obtain⟨i0,hi,gx,gA,gB⟩:=info_parts Tryz.info112;have kX:=ae h;have HP:=ae hP;clear h hP;go_enter func57,ntmps57;go_wp2_with fail;refine(HP.out.new _ S Tt hS).mono ?_;rintro e w1 ⟨cq,gQ⟩;have gK:=cq.size;have o5:w1.cell? ⟨w.heap.size,5,none⟩=some (.string S):=(cq.cell (p:=⟨w.heap.size,5,none⟩) (by simp)).trans (aa (heap_alloc_new w _) rfl);have o6:w1.cell? ⟨w.heap.size,6,none⟩=some (.string Tt):=(cq.cell (p:=⟨w.heap.size,6,none⟩) (by simp)).trans (aa (heap_alloc_new w _) rfl);rcases gQ with⟨fY,rfl⟩ | ⟨fY,px,rfl,dU⟩
 ·go_wp2_with fail;refine(Ej _ S Tt hS).mono ?_;rintro e w2 ⟨dq,Gc⟩;rcases Gc with⟨_,rfl⟩ | ⟨hne2,_⟩
  ·have HE:Hid (sR PS I an w B vI vM nx ps es (.returned (.bool true)) w2):=by
    have hB:Below w.heap.size w w2:=((bd.alloc au _).trans (cq.mono (by simp))).trans (dq.mono (by simp at gK;omega));exact⟨rfl,hB.mono kX.out.baseW,vD,ps,kX.out.keep HP.out hB,af rfl⟩
   clear fY cq dq gK o5 o6;generalize et S Tt=y;go_wp2_with fail;refine(pN _ y).mono ?_;rintro e w5 ⟨rfl,rfl⟩;go_wp2_with fail;refine(pN _ y).mono ?_;rintro e w5 ⟨rfl,rfl⟩;go_wp2;go_ret;exact HE.out
  ·exact absurd hne2 fY
 ·obtain⟨pa,rfl⟩:=HP.out.ptr dU;have sQ:=ae dU;clear dU;go_wp2_with fail;refine(Ej _ S Tt hS).mono ?_;rintro e w2 ⟨dq,Gc⟩;rcases Gc with⟨hne2,_⟩ | ⟨_,d,rfl,hd,Gq⟩
  ·exact absurd fY hne2
  ·have hB:Below w.heap.size w w2:=((bd.alloc au _).trans (cq.mono (by simp))).trans (dq.mono (by simp at gK;omega));have CD:=ae (kX.out.keep HP.out hB);have UP:=ae (SJ HP.out ZE sQ.out gK Gq dq);have LJ:=ae hB;have yR:w.heap.size+1<=w2.heap.size:=by have:=dq.size;simp at gK;omega
   have c0:w2.cell? ⟨B,0,none⟩=some vD:=aa CD.out.wb.blk rfl;obtain⟨aD,cD,hvD⟩:=aA CD.out.rowD;subst hvD;clear fY cq dq gK o5 o6 hB Gq hd sQ;go_wp2_with fail;refine(pN _ 0).mono ?_;rintro e w5 ⟨rfl,rfl⟩;obtain⟨w2,rfl⟩:∃w2,w2=w5:=⟨_,rfl⟩;go_wp2_with fail;refine(pN _ 0).mono ?_;rintro e w5 ⟨rfl,rfl⟩;obtain⟨w2,rfl⟩:∃w2,w2=w5:=⟨_,rfl⟩;go_wp2_with (at_builtin;refine eW _ rfl (.tmp 43) (.tmp 50) 64 rfl 0 112 i0 (.pointer none) 1 8 underlying64 hi gx gA gB rfl (by decide) _ _ _ rfl ((((CD.out.rowD.alloc _).alloc _).alloc _).alloc _) ⟨w2.heap.size+3,0,none⟩ 1 1 [.pointer (some ⟨w2.heap.size+2,0,none⟩)] rfl rfl ?c1 ?c2 ?c3 ?c4 ?c5 ?_)
   case c1=>exact aW (((w2.alloc _).alloc _).alloc _) _ (by simp) _ _ _ rfl
   case c2=>intro u hu;rw[fg] at hu;rw[hu];rfl
   case c3=>unfold maxLen;omega
   case c4=>omega
   case c5=>exact aZ
   intro v3 w3 bA fk iG
   have HN:Hid (GW2 PS I an (w3.setCell ⟨B,0,none⟩ v3) B v3 vI vM nx (ps++[⟨w2.heap.size+2,1,λk=>(w.alloc (aH kd at' X Y Z S Tt on)).heap.size<=k/\k<w2.heap.size+3⟩]) es):=by
    have hbw:=CD.out.baseW;refine CD.out.add HP.out ((((bd.alloc au _).alloc (by simp) _).alloc (by simp;omega) _).alloc (by simp;omega) _) fk ⟨w2.heap.size+2,1,λk=>(w.alloc (aH kd at' X Y Z S Tt on)).heap.size<=k/\k<w2.heap.size+3⟩ bA (λj hj=>(iG.out j hj).imp id (λx=>by simp;omega)) (UP.out.keep HP.out (by simp) (λk hk=>Below.heap_alloc _ _ _ (UP.out.lt k hk))) (λk hk=>?_);have pJ:w.heap.size+1<=k:=by have:=hk.1;simp at this;omega
    exact⟨by have:=kX.out.baseW;omega,λhm=>by have:=kX.out.ltM k hm;omega,λi hi hx=>by have:=(kX.out.pd i hi).lt k hx;omega⟩
   have adR:=HN.out.wb;have fj:w3.heap[B]?=some (.cells #[.slice aD ps.length cD,vI,vM,.int .i64 nx] 67 (0,0)):=(fk.block B (by have:=CD.out.ltM B (af rfl);simp;omega) (λe=>aB CD.out.rowD CD.out.wb.blk (by decide) e.symm)).trans (((bd.alloc au _).alloc (by simp) _).alloc (by simp;omega) _ |>.alloc (by simp;omega) _ |>.block B (CD.out.ltM B (af rfl)) |>.trans CD.out.wb.blk)
   have HE:Hid (sR PS I an w B vI vM nx ps es (.returned (.bool true)) (w3.setCell ⟨B,0,none⟩ v3)):=by
    refine⟨rfl,?_,_,_,HN.out,ai ⟨_,_,rfl⟩⟩;have hbw:=kX.out.baseW;have ud:=LJ.out.mono hbw;have hW:Below an w ((((w2.alloc (.cells #[.int .i64 0] 3)).alloc (.cells #[.int .i64 0] 3)).alloc (r6 pa d w2.heap.size (w2.heap.size+1))).alloc (.cells #[.pointer (some ⟨w2.heap.size+2,0,none⟩)] 112)):=(((ud.alloc (by omega) _).alloc (by simp;omega) _).alloc (by simp;omega) _).alloc (by simp;omega) _;exact(hW.grown fk (by simp;omega) (λk hk=>kX.out.baseM k (ai (af hk)))).setCell (kX.out.baseM B (af rfl)) _
   have e0:w3.cell? ⟨B,0,none⟩=some (.slice aD ps.length cD):=aa fj rfl;have ez:∀k,w3.frozen? ⟨B,k,none⟩=false:=λ_=>ax fj;obtain⟨a3,c3,yS⟩:=aA bA;subst yS;clear bA fk iG HN adR fj c0 UP CD;go_wp2;go_ret;exact HE.out
end
theorem PP {PS:World->Value->YS->List Nat->(Nat->Prop)->Prop}{Q:fw->YS->List Nat->YS->List Nat->Prop}{I:YS->List Nat->gu->Prop}(hP:cG PS Q)(hI:oF Q I)(w:World)(b made:Nat)(G:Nat->Prop)(h:PD2 PS I w b made G)(n:Int)(s:ByteArray):
  Calls prog 60 #[.pointer (some ⟨b,0,none⟩),.int .i64 n,.string s] w λe w'=>gZ PS I w b made G e w':=by
 obtain⟨U,st,pa,d,K,Fp,Fx,Fy,h1,h2,h3,h4,h5,h6⟩:=h;subst h4;refine(si hP w b U st pa d K G Fp Fx Fy h1 h2 h5 (hI.cnt h6) n s).mono λe w' hp=>?_;obtain⟨rfl,X',cA,K',hq,hl,hR⟩:=hp;exact hq.doc (by rw[hR.1];exact Nat.le_succ _) hl (hI.qry h6 h5 hR)
def qm (PS:World->Value->YS->List Nat->(Nat->Prop)->Prop)(I:YS->List Nat->gu->Prop)(an:Nat)(w:World)(B nx np M:Nat)(e:Ending)(w':World):Prop:=
 e=.returned (.bool true)/\Below an w w'/\∃yB sB sC Fm uq p7,GW2 PS I an w' B yB sB sC Fm uq p7/\Fm<=nx+1/\uq.length<=np+1/\∀p∈uq,p.made<=M+1
section
variable {PS:World->Value->YS->List Nat->(Nat->Prop)->Prop}{Q:fw->YS->List Nat->YS->List Nat->Prop}{I:YS->List Nat->gu->Prop}
theorem F0 (hP:cG PS Q)(ZE:∀X v1 v2 v3,X.T=[(0,[])]->I X [0] ⟨v1,v2,v3,1,false,[0],[0],[]⟩)(an:Nat)(w:World)(B:Nat)(vD vI vM:Value)(nx:Nat)(ps:List jU)(es:List sM)(h:GW2 PS I an w B vD vI vM nx ps es)(M:Nat)(hM:∀p∈ps,p.made<=M)(qd:ps.length<=1099511627776)(at' X Y Z:Int)(S Tt:ByteArray)(on:Bool)(hS:S.size<=maxLen):
  Calls prog 33 #[.pointer (some ⟨B,0,none⟩),.agg #[.int .i64 3,.int .i64 at',.int .i64 X,.int .i64 Y,.int .i64 Z,.string S,.string Tt,.bool on]] w λe w'=>qm PS I an w B nx ps.length M e w':=by
 have kX:Hid (GW2 PS I an (w.alloc (aH 3 at' X Y Z S Tt on)) B vD vI vM nx ps es):=h.keep hP (bd.alloc au _);have HB:Hid (Below an w (w.alloc (aH 3 at' X Y Z S Tt on))):=bd.alloc h.baseW _;have HP:=ae hP;have HM:=ae hM;clear h hP hM;go_enter func33,ntmps33;go_wp2_with fail;refine(FX HP.out ZE an _ B vD vI vM nx ps es kX.out qd 3 at' X Y Z S Tt on hS).mono ?_;rintro e w1 ⟨rfl,hb,yB,uq,hg,gQ⟩
 have HE:Hid (qm PS I an w B nx ps.length M (.returned (.bool true)) w1):=by
  refine⟨rfl,HB.out.trans hb,yB,vI,vM,nx,uq,es,hg,Nat.le_succ _,?_,?_⟩
  ·rcases gQ with rfl | ⟨b,G,rfl⟩
   ·exact Nat.le_succ _
   ·simp
  ·rcases gQ with rfl | ⟨b,G,rfl⟩
   ·exact λp hp=>Nat.le_succ_of_le (HM.out p hp)
   ·intro p hp;rcases List.mem_append.1 hp with hp | hp
    ·exact Nat.le_succ_of_le (HM.out p hp)
    ·rw[fg] at hp;rw[hp];exact Nat.le_add_left 1 M
 clear hb hg gQ;go_wp2;go_ret;exact HE.out
theorem FZ (hP:cG PS Q)(hI:oF Q I)(an:Nat)(w:World)(B:Nat)(vD vI vM:Value)(nx:Nat)(ps:List jU)(es:List sM)(h:GW2 PS I an w B vD vI vM nx ps es)(M:Nat)(hM:∀p∈ps,p.made<=M)(hM2:M<=1099511627776)(qd:ps.length<=1099511627776)(pK:nx<=274877906944)(kd at' X Y Z:Int)(S Tt:ByteArray)(on:Bool)(hS:S.size<=maxLen)(hk:4<=kd/\kd<=15)(hpc:11<kd->∀(wq:World) (j:Nat) (hj:j<ps.length),GW2 PS I an wq B vD vI vM nx ps es->Calls prog 62 #[.pointer (some ⟨B,0,none⟩),.pointer (some ⟨ps[j].b,0,none⟩),.agg #[.int .i64 kd,.int .i64 at',.int .i64 X,.int .i64 Y,.int .i64 Z,.string S,.string Tt,.bool on]] wq λe w'=>KidPost2 PS I an wq B vD nx ps j ps[j] e w'):
  Calls prog 33 #[.pointer (some ⟨B,0,none⟩),.agg #[.int .i64 kd,.int .i64 at',.int .i64 X,.int .i64 Y,.int .i64 Z,.string S,.string Tt,.bool on]] w λe w'=>qm PS I an w B nx ps.length M e w':=by
 have kX:Hid (GW2 PS I an (w.alloc (aH kd at' X Y Z S Tt on)) B vD vI vM nx ps es):=h.keep hP (bd.alloc au _);have HB:Hid (Below an w (w.alloc (aH kd at' X Y Z S Tt on))):=bd.alloc h.baseW _;have HP:=ae hP;have HM:=ae hM;have HK:=ae hk;have HPC:=ae hpc;have HI:=ae hI;have d0:(w.alloc (aH kd at' X Y Z S Tt on)).cell? ⟨w.heap.size,0,none⟩=some (.int .i64 kd):=aa (heap_alloc_new w _) rfl;have d1:(w.alloc (aH kd at' X Y Z S Tt on)).cell? ⟨w.heap.size,1,none⟩=some (.int .i64 at'):=aa (heap_alloc_new w _) rfl;have k1:(kd==1)=false:=by rw[ff];omega
 have k2:(kd==2)=false:=by rw[ff];omega
 have k3:(kd==3)=false:=by rw[ff];omega
 have kl:decide (kd<1)=false:=by rw[gU];omega
 have kg:decide (kd>15)=false:=by rw[gU];omega
 have kg':decide (15<kd)=false:=by rw[gU];omega
 clear h hP hM hk hI hpc;obtain⟨aD,cD,hvD⟩:=aA kX.out.rowD;subst hvD;have c0:(w.alloc (aH kd at' X Y Z S Tt on)).cell? ⟨B,0,none⟩=some (.slice aD ps.length cD):=aa kX.out.wb.blk rfl
 by_cases h0:ps.length=0
 ·have g0:((ps.length:Int)==0)=true:=by simp[h0]
  have HE:Hid (qm PS I an w B nx ps.length M (.returned (.bool true)) (w.alloc (aH kd at' X Y Z S Tt on))):=⟨rfl,HB.out,_,_,_,_,_,_,kX.out,Nat.le_succ _,Nat.le_succ _,λp hp=>Nat.le_succ_of_le (HM.out p hp)⟩;clear h0;go_enter func33,ntmps33;go_wp2;go_ret;exact HE.out
 ·have g0:((ps.length:Int)==0)=false:=by rw[ff];omega
  have HJ:Hid (ou at' ps.length<ps.length):=Pu (by omega);have Qx:Hid (∀k,Calls prog 58 #[.int .i64 at',.int .i64 (ps.length:Int)] ((w.alloc (aH kd at' X Y Z S Tt on)).drewN k) λe w'=>e=.returned (.int .i64 (ou at' ps.length:Nat))/\w'=(w.alloc (aH kd at' X Y Z S Tt on)).drewN k):=λk=>Pv _ _ _;obtain⟨gD,ZU,dn,hcD⟩:=aR kX.out.rowD (by omega);subst ZU;clear h0;obtain⟨j,hj⟩:∃j,ou at' ps.length=j:=⟨_,rfl⟩;rw[hj] at HJ Qx;clear hj;have q:=hcD j (.pointer (some ⟨(ps[j]'HJ.out).b,0,none⟩)) (by rw[List.getElem?_map,bO HJ.out];rfl);have Fh:(j:Int)<(ps.length:Int):=by have:=HJ.out;omega
  clear hcD;go_enter func33,ntmps33;go_upto_region 14 with fail;go_quiet ((go_at_call 58;exact Calls.quiet_of_same (Qx.out _)));have hbd:Below (w.alloc (aH kd at' X Y Z S Tt on)).heap.size (w.alloc (aH kd at' X Y Z S Tt on)) ((w.alloc (aH kd at' X Y Z S Tt on)).drewN nq):=du _ _;have Tk:=ae (kX.out.keep HP.out hbd);have HBQ:=ae (HB.out.trans (hbd.mono kX.out.baseW));have QW:Hid (((w.alloc (aH kd at' X Y Z S Tt on)).drewN nq).heap[w.heap.size]?=some (aH kd at' X Y Z S Tt on)):=(hbd.block w.heap.size (by simp)).trans (heap_alloc_new w _);generalize (w.alloc (aH kd at' X Y Z S Tt on)).drewN nq=wq at Tk HBQ QW ⊢;clear hbd Qx kX HB d0 d1 c0 q;have d0:wq.cell? ⟨w.heap.size,0,none⟩=some (.int .i64 kd):=aa QW.out rfl;have d1:wq.cell? ⟨w.heap.size,1,none⟩=some (.int .i64 at'):=aa QW.out rfl;have d2:wq.cell? ⟨w.heap.size,2,none⟩=some (.int .i64 X):=aa QW.out rfl;have d3:wq.cell? ⟨w.heap.size,3,none⟩=some (.int .i64 Y):=aa QW.out rfl;have d4:wq.cell? ⟨w.heap.size,4,none⟩=some (.int .i64 Z):=aa QW.out rfl;have d5:wq.cell? ⟨w.heap.size,5,none⟩=some (.string S):=aa QW.out rfl;have d6:wq.cell? ⟨w.heap.size,6,none⟩=some (.string Tt):=aa QW.out rfl;have d7:wq.cell? ⟨w.heap.size,7,none⟩=some (.bool on):=aa QW.out rfl
  have HKD:Hid (∀e w1,KidPost2 PS I an wq B (.slice (some ⟨gD,0,none⟩) ps.length cD) nx ps j (ps[j]'HJ.out) e w1->qm PS I an w B nx ps.length M e w1):=λe w1 ⟨he,hb,sB,sC,Fm,G',p7,hn',hg⟩=>by
   refine⟨he,HBQ.out.trans hb,_,_,_,_,_,_,hg,hn',?_,?_⟩
   ·rw[List.length_set];exact Nat.le_succ _
   ·refine EJ HM.out ?_;show(ps[j]'HJ.out).made<=M+1;exact Nat.le_succ_of_le (HM.out _ (bK HJ.out))
  by_cases h7:kd=7
  ·have k7:(kd==7)=true:=by simp[h7]
   clear h7;go_wp2_with fail;refine(oP HP.out an wq B _ vI vM nx ps es Tk.out j HJ.out pK X).mono ?_;intro e w1 hp;have HE:=ae (HKD.out e w1 hp);obtain⟨rfl,_⟩:=hp;go_wp2;go_ret;exact HE.out
  ·have k7:(kd==7)=false:=by simp[h7]
   have hmd:(ps[j]'HJ.out).made<=1099511627776:=Nat.le_trans (HM.out _ (bK HJ.out)) hM2
   have HE:Hid (∀w1,gZ PS I wq (ps[j]'HJ.out).b (ps[j]'HJ.out).made (ps[j]'HJ.out).G (.returned (.bool true)) w1->qm PS I an w B nx ps.length M (.returned (.bool true)) w1):=λw1 hp=>by
    obtain⟨_,made',qZ,tn,ft⟩:=hp;refine⟨rfl,HBQ.out.trans (ft.toBelow Tk.out.baseW (Tk.out.baseG j HJ.out)),_,_,_,_,_,_,Tk.out.turn HP.out HJ.out ft.size (λk hk hn=>ft.block k hk hn) tn (λk hk=>hk.1),Nat.le_succ _,?_,?_⟩
    ·rw[List.length_set];exact Nat.le_succ _
    ·exact EJ HM.out (by have:=HM.out _ (bK HJ.out);show made'<=M+1;omega)
   by_cases h11:kd=11
   ·have kq:(kd==11)=true:=by simp[h11]
    clear h7 h11;go_wp2_with fail;refine(PP HP.out HI.out wq _ _ _ (Tk.out.pd j HJ.out) X Tt).mono ?_;intro e w1 hp;obtain rfl:=hp.1;have Ji:=ae (HE.out w1 hp);clear hp;go_wp2;go_ret;exact Ji.out
   ·have kq:(kd==11)=false:=by simp[h11]
    by_cases h12:11<kd
    ·have ku:decide (kd<12)=false:=by rw[gU];omega
     have HPW:=HPC.out h12 wq j HJ.out Tk.out;clear h7 h11 h12;go_wp2_with fail;refine HPW.mono ?_;intro e w1 hp;have Ji:=ae (HKD.out e w1 hp);obtain⟨rfl,_⟩:=hp;go_wp2;go_ret;exact Ji.out
    have ku:decide (kd<12)=true:=by rw[bF];omega
    have Tm:Hid (kd=4∨kd=5∨kd=6∨kd=8∨kd=9∨kd=10):=by have:=HK.out;unfold Hid;omega
    clear h7 h11 h12;go_wp2_with fail;refine(Em HP.out HI.out wq _ _ _ (Tk.out.pd j HJ.out) hmd kd at' X Y Z S Tt on hS Tm.out).mono ?_;intro e w1 hp;obtain rfl:=hp.1;have Ji:=ae (HE.out w1 hp);clear hp;go_wp2;go_ret;exact Ji.out
end
section
variable {I:YS->List Nat->gu->Prop}{PS:World->Value->YS->List Nat->(Nat->Prop)->Prop}{Q:fw->YS->List Nat->YS->List Nat->Prop}{w:World}
theorem PD2.told {b made:Nat}{G:Nat->Prop}(h:PD2 PS I w b made G):∃d:Nat,w.cell? ⟨b,1,none⟩=some (.pointer (some ⟨d,0,none⟩))/\w.cell? ⟨d,2,none⟩=some (.int .i64 made):=by
 obtain⟨X,st,pa,d,K,Fp,Fx,Fy,h1,_,_,h4,_⟩:=h;subst h4;obtain⟨els,hp,vT,bi,vL,Rr,Gs,hX,_⟩:=h1.rs;exact⟨d,aa h1.pb.blk rfl,aa hX.rd.doc rfl⟩
def CO (PS:World->Value->YS->List Nat->(Nat->Prop)->Prop)(I:YS->List Nat->gu->Prop)(w:World)(b made:Nat)(G:Nat->Prop)(e:Ending)(w':World):Prop:=
 e=.returned (.bool true)/\PD2 PS I w' b made (nG G w w')/\Fr w w' G
theorem KY (hP:cG PS Q)(hI:oF Q I)(w:World)(b made:Nat)(G:Nat->Prop)(h:PD2 PS I w b made G)(n:Int)(s:ByteArray):
  Calls prog 60 #[.pointer (some ⟨b,0,none⟩),.int .i64 n,.string s] w λe w'=>CO PS I w b made G e w':=by
 obtain⟨U,st,pa,d,K,Fp,Fx,Fy,h1,h2,h3,h4,h5,h6⟩:=h;subst h4;refine(si hP w b U st pa d K G Fp Fx Fy h1 h2 h5 (hI.cnt h6) n s).mono λe w' hp=>?_;obtain⟨rfl,X',cA,K',hq,hl,hR⟩:=hp;have hi:=hI.qry h6 h5 hR;obtain⟨hX,_⟩:=hR;subst hX;obtain⟨Fp',Fx',Fy',hj,hg,hf⟩:=hq;exact⟨rfl,⟨X',cA,pa,d,K',Fp',Fx',Fy',hj,λk hk=>⟨hg k hk,hj.here k hk⟩,λk hk=>hk.2,rfl,hl,hi⟩,hf⟩
theorem KidPost2.more (hP:cG PS Q){an:Nat}{B:Nat}{vD:Value}{nx:Nat}{ps:List jU}{i:Nat}{p:jU}(hi:i<ps.length){e0:Ending}{wr:World}(h:KidPost2 PS I an w B vD nx ps i p e0 wr):
  ∃G',PD2 PS I wr p.b p.made G'/\∀w2,PD2 PS I w2 p.b p.made (nG G' wr w2)->Fr wr w2 G'->KidPost2 PS I an w B vD nx ps i p (.returned (.bool true)) w2:=by
 obtain⟨_,hB,sB,sC,Fm,G',p7,hn,hg⟩:=h;have hl:i<(ps.set i ⟨p.b,p.made,G'⟩).length:=by rw[List.length_set];exact hi
 have he:(ps.set i ⟨p.b,p.made,G'⟩)[i]=⟨p.b,p.made,G'⟩:=by simp
 have tn:=hg.pd i hl;rw[he] at tn;refine⟨G',tn,λw2 h2 hf=>?_⟩;have hb:=hg.baseG i hl;rw[he] at hb;have ht:=hg.turn hP hl (w':=w2) hf.size (by rw[he];exact λk hk hn=>hf.block k hk hn) (made':=p.made) (G':=nG G' wr w2) (by rw[he];exact h2) (by rw[he];exact λk hk=>hk.1);rw[he,List.set_set] at ht;exact⟨rfl,hB.trans (hf.toBelow hg.baseW hb),sB,sC,Fm,_,p7,hn,ht⟩
section
variable {PS:World->Value->YS->List Nat->(Nat->Prop)->Prop}{Q:fw->YS->List Nat->YS->List Nat->Prop}{I:YS->List Nat->gu->Prop}
def EI2 (PS:World->Value->YS->List Nat->(Nat->Prop)->Prop)(I:YS->List Nat->gu->Prop)(an:Nat)(w:World)(B:Nat)(vD:Value)(np M:Nat)(bs:List (Nat × Nat))(wr:World)(c:Nat):Prop:=
 Below an w wr/\∃vI vM nx ps es,GW2 PS I an wr B vD vI vM nx ps es/\ps.length=np/\(∀p∈ps,p.made<=M)/\nx<=c/\ps.map (λp=>(p.b,p.made))=bs
end
end
section
variable {I:YS->List Nat->gu->Prop}{PS:World->Value->YS->List Nat->(Nat->Prop)->Prop}{i:Nat}{w wr:World}
theorem J0 (w:World):GW2 PS I w.heap.size (w.alloc (.cells #[.slice none 0 0,.slice none 0 0,.slice none 0 0,.int .i64 0] 67)) w.heap.size (.slice none 0 0) (.slice none 0 0) (.slice none 0 0) 0 [] []:=by
 refine⟨heap_alloc_new w _,er,er,er,λe he=>(by cases he),λe he=>(by cases he),λi hi=>absurd hi (Nat.not_lt_zero i),λi j hi=>absurd hi (Nat.not_lt_zero i),λi hi=>absurd hi (Nat.not_lt_zero i),rfl,?_,λi hi=>absurd hi (Nat.not_lt_zero i),by simp⟩;rintro k (rfl | hk | hk | hk | ⟨e,he,_⟩)
 ·exact au
 ·simp[Value.ownBlock] at hk
 ·simp[Value.ownBlock] at hk
 ·simp[Value.ownBlock] at hk
 ·cases he
def PI2 (PS:World->Value->YS->List Nat->(Nat->Prop)->Prop)(I:YS->List Nat->gu->Prop)(w wr:World)(i:Nat):Prop:=
 Below w.heap.size w wr/\∃vD vI vM nx ps es,GW2 PS I w.heap.size wr w.heap.size vD vI vM nx ps es/\nx<=i/\ps.length<=i/\∀p∈ps,p.made<=i+1
theorem PI2.step {nx np:Nat}{e:Ending}{w':World}(hb:Below w.heap.size w wr)(hn:nx<=i)(hp:np<=i)(h:qm PS I w.heap.size wr w.heap.size nx np (i+1) e w'):PI2 PS I w w' (i+1):=by
 obtain⟨_,ud,yB,sB,sC,Fm,uq,p7,hg,h1,h2,h3⟩:=h;exact⟨hb.trans ud,yB,sB,sC,Fm,uq,p7,hg,by omega,by omega,h3⟩
theorem PI2.skip (h:PI2 PS I w wr i):PI2 PS I w wr (i+1):=by
 obtain⟨hb,vD,vI,vM,nx,ps,es,hg,h1,h2,h3⟩:=h;exact⟨hb,vD,vI,vM,nx,ps,es,hg,by omega,by omega,λp hp=>Nat.le_succ_of_le (h3 p hp)⟩
section
variable {PS:World->Value->YS->List Nat->(Nat->Prop)->Prop}{Q:fw->YS->List Nat->YS->List Nat->Prop}{I:YS->List Nat->gu->Prop}
end
end
section
theorem JK (w:World)(px:Value)(T:aJ)(made:Nat)(M:Nat->Mk)(rs:List dF)(F:Nat->Prop)(n:Int)(h:DSd w px T made M rs F):Calls prog 91 #[px,.int .i64 n] w λe w'=>CM w T n e w':=by
 obtain⟨kl,b,vS,v,els,G,rfl,h2,h3,h4⟩:=h;have HB:=bT h2.pb h2.tw;clear h2 h3 h4;go_enter func91,ntmps91;go_wp2_with fail;refine(KO w b v els n HB.out.1.c1 HB.out.1.pl HB.out.1.few).mono ?_;rintro e w1 ⟨hB,gQ⟩;have LJ:=ae hB;rcases gQ with⟨hf,rfl⟩ | ⟨⟨x,hx⟩,a,c,rfl,bL⟩
 ·have HN:=ae (HB.out.1.pt.find_none hf);clear hf hB;go_wp2;go_ret2;exact⟨LJ.out,af ⟨HN.out,rfl⟩⟩
 ·have HN:=ae ((HB.out.1.pt.find_some HB.out.2 hx).1);have HO:=ae bL;clear hx hB bL;go_wp2;go_ret2;exact⟨LJ.out,ai ⟨aO els n,a,c,HN.out,rfl,HO.out⟩⟩
end
end Go.Proofs.YtblfffbmklkhmaaGreat
