/- Own work. -/
import Derived.Test.YtblfffbmklkhmabGreatAl14
import Derived.Laws.IdiomStrings
set_option maxRecDepth 100000
set_option maxHeartbeats 40000000
namespace Go.Proofs.YtblfffbmklkhmabGreat
open Go.RowKit Go.Proofs.Tryz
section
variable {aa:List PEl}{n:Int}{x:eb}
theorem Oo (h0:¬x.ty=0)(h:ec aa n x.ty=false):iu aa x n=false:=by
 unfold iu;have:(x.ty==0)=false:=by simp[h0]
 rw[this,h];rfl
theorem Ds {i:Nat}(hi:i<x.ps.length)(h:dT aa x.ps[i] n=x.ps[i].nt):iu aa x n=false:=by
 unfold iu
 have:(x.ps.all λp=>dT aa p n != p.nt)=false:=by
  rw[List.all_eq_false];exact⟨x.ps[i],bN hi,by simp[h]⟩
 rw[this,Bool.and_false]
theorem Dt (h0:x.ty=0∨ec aa n x.ty=true)(h:∀j (_:j<x.ps.length),¬dT aa x.ps[j] n=x.ps[j].nt):iu aa x n=true:=by
 unfold iu
 have h1:(x.ps.all λp=>dT aa p n != p.nt)=true:=by
  rw[List.all_eq_true];intro p hp;obtain⟨j,hj,rfl⟩:=List.getElem_of_mem hp;simpa using h j hj
 rw[h1,Bool.and_true];rcases h0 with h0 | h0
 ·simp[h0]
 ·rw[h0,Bool.or_true]
def Im (w:World)(ap:Option Addr)(cp:Nat)(xs:List Value)(x:eb):Prop:=w.ownsRow 0 151 5 (.slice ap x.ps.length cp) x.ps.length xs/\Kinds xs x.ps/\∀p∈x.ps,p.fine
section
variable (w:World)(b:Nat)(a:Option Addr)(c:Nat)(aa:List PEl)(n:Int)
theorem Lr (x:eb)(ap:Option Addr)(cp:Nat)(xs:List Value)(h:TRd w b a c aa)(ho:Im w ap cp xs x)(hl:x.ps.length<=400):Calls prog 179 #[.agg #[.int .u8 x.sg,.int .u8 x.ty,.slice ap x.ps.length cp],.pointer (some ⟨b,1,none⟩),.int .i64 n] w λe w'=>bK w (iu aa x n) e w':=by
 have HT:Hid (TRd w b a c aa):=h;have HO:Hid (Im w ap cp xs x):=ho;clear h ho
 by_cases h0:x.ty=0
 ·have g0:((x.ty:Int) != 0)=false:=by simp[h0]
  have HTY:Hid (x.ty=0∨ec aa n x.ty=true):=ax h0;have eu:Hid (Below w.heap.size w (w.alloc (.cells #[.int .u8 x.sg,.int .u8 x.ty,.slice ap x.ps.length cp] 115))):=bo.alloc aF _;clear h0;generalize (x.ty:Int)=tz at g0 eu;go_enter func179,ntmps179;go_wp2_with fail
  go_loopg [23] x.ps.length (λgk iv wr=>∃i:Nat,iv=.int .i64 i/\i<=x.ps.length/\x.ps.length - i<=gk/\Hid (Below w.heap.size w wr/\∀j (_:j<x.ps.length),j<i->¬dT aa x.ps[j] n=x.ps[j].nt))
  case atStart=>exact⟨0,rfl,bm,by omega,eu.out,λj _ h=>by omega⟩
  case round=>
   obtain⟨i,rfl,hi,fT,HN⟩:=hrel;have i8:=HN.out.1.size
   by_cases bc:i<x.ps.length
   ·have hd:decide ((i:Int)<(x.ps.length:Int))=true:=by simp;omega
    obtain⟨g,hg,di,gM⟩:=aX HO.out.1 (by omega);subst hg;obtain⟨e0,e1,e2,e3,e4⟩:=pF HO.out.2.1 bc;have c0:=(HN.out.1.cell (p:=⟨g,i*5,none⟩) di).trans (gM _ _ e0);have c1:=(HN.out.1.cell (p:=⟨g,i*5+1,none⟩) di).trans (gM _ _ e1);have c2:=(HN.out.1.cell (p:=⟨g,i*5+2,none⟩) di).trans (gM _ _ e2);have c3:=(HN.out.1.cell (p:=⟨g,i*5+3,none⟩) di).trans (gM _ _ e3);have c4:=(HN.out.1.cell (p:=⟨g,i*5+4,none⟩) di).trans (gM _ _ e4);have HF:Hid (PPt.fine ⟨x.ps[i].nt,x.ps[i].kd,x.ps[i].lt,x.ps[i].st,x.ps[i].sr⟩):=HO.out.2.2 x.ps[i] (bN bc);have HY:Hid (dT aa ⟨x.ps[i].nt,x.ps[i].kd,x.ps[i].lt,x.ps[i].st,x.ps[i].sr⟩ n=x.ps[i].nt->iu aa x n=false):=λh=>Ds bc h
    have iQ:Hid (¬dT aa ⟨x.ps[i].nt,x.ps[i].kd,x.ps[i].lt,x.ps[i].st,x.ps[i].sr⟩ n=x.ps[i].nt->∀j (_:j<x.ps.length),j<i+1->¬dT aa x.ps[j] n=x.ps[j].nt):=λhm j hj h1=>by
     by_cases e:j=i
     ·subst e;exact hm
     ·exact HN.out.2 j hj (by omega)
    clear e0 e1 e2 e3 e4 gM;generalize x.ps[i].nt=nt at c0 HF HY iQ;generalize x.ps[i].kd=kd at c1 HF HY iQ;generalize x.ps[i].lt=lt at c2 HF HY iQ;generalize x.ps[i].st=st at c3 HF HY iQ;generalize x.ps[i].sr=sr at c4 HF HY iQ;have vw:Hid (Below w.heap.size w (wr.alloc (.cells #[.bool nt,.int .i64 kd,.int .u8 lt,.int .i64 st,.int .i64 sr] 151)).drew):=(HN.out.1.alloc i8 _).drew;have uq:Hid (TRd (wr.alloc (.cells #[.bool nt,.int .i64 kd,.int .u8 lt,.int .i64 st,.int .i64 sr] 151)).drew b a c aa):=HT.out.below vw.out
    have HC:Hid (∀wx,Below (wr.heap.size+1) (wr.alloc (.cells #[.bool nt,.int .i64 kd,.int .u8 lt,.int .i64 st,.int .i64 sr] 151)).drew wx->wx.cell? ⟨wr.heap.size,0,none⟩=some (.bool nt)/\wx.cell? ⟨wr.heap.size,1,none⟩=some (.int .i64 kd)/\wx.cell? ⟨wr.heap.size,2,none⟩=some (.int .u8 lt)/\wx.cell? ⟨wr.heap.size,3,none⟩=some (.int .i64 st)/\wx.cell? ⟨wr.heap.size,4,none⟩=some (.int .i64 sr)):=λwx hb=>
     have nw:(wr.alloc (.cells #[.bool nt,.int .i64 kd,.int .u8 lt,.int .i64 st,.int .i64 sr] 151)).drew.heap[wr.heap.size]?=some (.cells #[.bool nt,.int .i64 kd,.int .u8 lt,.int .i64 st,.int .i64 sr] 151):=heap_alloc_new wr _;have hx:wx.heap[wr.heap.size]?=some (.cells #[.bool nt,.int .i64 kd,.int .u8 lt,.int .i64 st,.int .i64 sr] 151):=(hb.block _ (by omega)).trans nw
     ⟨au hx rfl,au hx rfl,au hx rfl,au hx rfl,au hx rfl⟩
    have H0:Hid (Below (wr.heap.size+1) (wr.alloc (.cells #[.bool nt,.int .i64 kd,.int .u8 lt,.int .i64 st,.int .i64 sr] 151)).drew (wr.alloc (.cells #[.bool nt,.int .i64 kd,.int .u8 lt,.int .i64 st,.int .i64 sr] 151)).drew):=bo;go_upto_region 6 with fail
    go_cut [33] (λv wx=>v=.bool (dT aa ⟨nt,kd,lt,st,sr⟩ n==nt)/\Hid (Below w.heap.size w wx))
    case first=>
     go_region_held3 (λw'=>w'.cell? ⟨wr.heap.size,0,none⟩=some (.bool nt)/\w'.cell? ⟨wr.heap.size,1,none⟩=some (.int .i64 kd)/\w'.cell? ⟨wr.heap.size,2,none⟩=some (.int .u8 lt)/\w'.cell? ⟨wr.heap.size,3,none⟩=some (.int .i64 st)/\w'.cell? ⟨wr.heap.size,4,none⟩=some (.int .i64 sr)) (first | exact HC.out _ H0.out | exact HC.out _ HX.out.1)
      (first | (go_at_call 184;refine(uM _ b a c aa n nt kd lt st sr uq.out HF.out).mono ?_;rintro e w1 ⟨rfl,cH⟩;have HX:Hid (Below (wr.heap.size+1) (wr.alloc (.cells #[.bool nt,.int .i64 kd,.int .u8 lt,.int .i64 st,.int .i64 sr] 151)).drew w1/\Below w.heap.size w w1):=⟨cH.mono (by simp[World.drew]),vw.out.trans (cH.mono vw.out.size)⟩))
     all_goals
      go_wp2_with fail;go_meet;exact⟨rfl,HX.out.2⟩
    case rest=>
     obtain⟨rfl,HX⟩:=hcut
     by_cases hs:dT aa ⟨nt,kd,lt,st,sr⟩ n=nt
     ·have HR:Hid (bK w (iu aa x n) (.returned (.bool false)) wc):=⟨by rw[HY.out hs],HX.out⟩;have gs:(dT aa ⟨nt,kd,lt,st,sr⟩ n==nt)=true:=by simp[hs]
      clear hs c0 c1 c2 c3 c4;generalize (dT aa ⟨nt,kd,lt,st,sr⟩ n==nt)=z at gs ⊢;subst gs;go_wp2;go_ret;exact HR.out
     ·have fj:Hid (Below w.heap.size w wc/\∀j (_:j<x.ps.length),j<i+1->¬dT aa x.ps[j] n=x.ps[j].nt):=⟨HX.out,iQ.out hs⟩;have gs:(dT aa ⟨nt,kd,lt,st,sr⟩ n==nt)=false:=by simp[hs]
      clear hs c0 c1 c2 c3 c4;generalize (dT aa ⟨nt,kd,lt,st,sr⟩ n==nt)=z at gs ⊢;subst gs;go_wp2;go_roundg (x.ps.length - (i+1))
      case measure=>omega
      case rel=>exact⟨i+1,by go_num,by omega,aF,fj⟩
   ·have hd:decide ((i:Int)<(x.ps.length:Int))=false:=by simp;omega
    have HR:Hid (bK w (iu aa x n) (.returned (.bool true)) wr):=⟨by rw[Dt HTY.out (λj hj=>HN.out.2 j hj (by omega))],HN.out.1⟩;go_wp2;go_ret;exact HR.out
 ·have g0:((x.ty:Int) != 0)=true:=by simp;omega
  have HZ:Hid (¬x.ty=0):=h0;have HT0:Hid (TRd (w.alloc (.cells #[.int .u8 x.sg,.int .u8 x.ty,.slice ap x.ps.length cp] 115)) b a c aa):=HT.out.below (bo.alloc aF _);clear h0;go_enter func179,ntmps179;go_wp2_with fail;refine(sJ _ b a c aa n x.ty HT0.out).mono ?_;rintro e w1 ⟨rfl,hB⟩;have gA:w.heap.size<w1.heap.size:=by have:=hB.size;simp at this;omega
  have q2:w1.cell? ⟨w.heap.size,2,none⟩=some (.slice ap x.ps.length cp):=(hB.cell (p:=⟨w.heap.size,2,none⟩) (by simp)).trans (au (heap_alloc_new w _) rfl);have eu:Hid (Below w.heap.size w w1):=(bo.alloc aF _).trans (hB.mono (by simp));clear hB;cases hr:ec aa n x.ty with
  | false=>
   have HR:Hid (bK w (iu aa x n) (.returned (.bool false)) w1):=⟨by rw[Oo HZ.out hr],eu.out⟩;clear hr;go_wp2;go_ret;exact HR.out
  | true=>
   have HTY:Hid (x.ty=0∨ec aa n x.ty=true):=az hr;clear hr;go_wp2_with fail
   go_loopg [23] x.ps.length (λgk iv wr=>∃i:Nat,iv=.int .i64 i/\i<=x.ps.length/\x.ps.length - i<=gk/\Hid (Below w.heap.size w wr/\∀j (_:j<x.ps.length),j<i->¬dT aa x.ps[j] n=x.ps[j].nt))
   case atStart=>exact⟨0,rfl,bm,by omega,eu.out,λj _ h=>by omega⟩
   case round=>
    obtain⟨i,rfl,hi,fT,HN⟩:=hrel;have i8:=HN.out.1.size
    by_cases bc:i<x.ps.length
    ·have hd:decide ((i:Int)<(x.ps.length:Int))=true:=by simp;omega
     obtain⟨g,hg,di,gM⟩:=aX HO.out.1 (by omega);subst hg;obtain⟨e0,e1,e2,e3,e4⟩:=pF HO.out.2.1 bc;have c0:=(HN.out.1.cell (p:=⟨g,i*5,none⟩) di).trans (gM _ _ e0);have c1:=(HN.out.1.cell (p:=⟨g,i*5+1,none⟩) di).trans (gM _ _ e1);have c2:=(HN.out.1.cell (p:=⟨g,i*5+2,none⟩) di).trans (gM _ _ e2);have c3:=(HN.out.1.cell (p:=⟨g,i*5+3,none⟩) di).trans (gM _ _ e3);have c4:=(HN.out.1.cell (p:=⟨g,i*5+4,none⟩) di).trans (gM _ _ e4);have HF:Hid (PPt.fine ⟨x.ps[i].nt,x.ps[i].kd,x.ps[i].lt,x.ps[i].st,x.ps[i].sr⟩):=HO.out.2.2 x.ps[i] (bN bc);have HY:Hid (dT aa ⟨x.ps[i].nt,x.ps[i].kd,x.ps[i].lt,x.ps[i].st,x.ps[i].sr⟩ n=x.ps[i].nt->iu aa x n=false):=λh=>Ds bc h
     have iQ:Hid (¬dT aa ⟨x.ps[i].nt,x.ps[i].kd,x.ps[i].lt,x.ps[i].st,x.ps[i].sr⟩ n=x.ps[i].nt->∀j (_:j<x.ps.length),j<i+1->¬dT aa x.ps[j] n=x.ps[j].nt):=λhm j hj h1=>by
      by_cases e:j=i
      ·subst e;exact hm
      ·exact HN.out.2 j hj (by omega)
     clear e0 e1 e2 e3 e4 gM;generalize x.ps[i].nt=nt at c0 HF HY iQ;generalize x.ps[i].kd=kd at c1 HF HY iQ;generalize x.ps[i].lt=lt at c2 HF HY iQ;generalize x.ps[i].st=st at c3 HF HY iQ;generalize x.ps[i].sr=sr at c4 HF HY iQ;have vw:Hid (Below w.heap.size w (wr.alloc (.cells #[.bool nt,.int .i64 kd,.int .u8 lt,.int .i64 st,.int .i64 sr] 151)).drew):=(HN.out.1.alloc i8 _).drew;have uq:Hid (TRd (wr.alloc (.cells #[.bool nt,.int .i64 kd,.int .u8 lt,.int .i64 st,.int .i64 sr] 151)).drew b a c aa):=HT.out.below vw.out
     have HC:Hid (∀wx,Below (wr.heap.size+1) (wr.alloc (.cells #[.bool nt,.int .i64 kd,.int .u8 lt,.int .i64 st,.int .i64 sr] 151)).drew wx->wx.cell? ⟨wr.heap.size,0,none⟩=some (.bool nt)/\wx.cell? ⟨wr.heap.size,1,none⟩=some (.int .i64 kd)/\wx.cell? ⟨wr.heap.size,2,none⟩=some (.int .u8 lt)/\wx.cell? ⟨wr.heap.size,3,none⟩=some (.int .i64 st)/\wx.cell? ⟨wr.heap.size,4,none⟩=some (.int .i64 sr)):=λwx hb=>
      have nw:(wr.alloc (.cells #[.bool nt,.int .i64 kd,.int .u8 lt,.int .i64 st,.int .i64 sr] 151)).drew.heap[wr.heap.size]?=some (.cells #[.bool nt,.int .i64 kd,.int .u8 lt,.int .i64 st,.int .i64 sr] 151):=heap_alloc_new wr _;have hx:wx.heap[wr.heap.size]?=some (.cells #[.bool nt,.int .i64 kd,.int .u8 lt,.int .i64 st,.int .i64 sr] 151):=(hb.block _ (by omega)).trans nw
      ⟨au hx rfl,au hx rfl,au hx rfl,au hx rfl,au hx rfl⟩
     have H0:Hid (Below (wr.heap.size+1) (wr.alloc (.cells #[.bool nt,.int .i64 kd,.int .u8 lt,.int .i64 st,.int .i64 sr] 151)).drew (wr.alloc (.cells #[.bool nt,.int .i64 kd,.int .u8 lt,.int .i64 st,.int .i64 sr] 151)).drew):=bo;go_upto_region 6 with fail
     go_cut [33] (λv wx=>v=.bool (dT aa ⟨nt,kd,lt,st,sr⟩ n==nt)/\Hid (Below w.heap.size w wx))
     case first=>
      go_region_held3 (λw'=>w'.cell? ⟨wr.heap.size,0,none⟩=some (.bool nt)/\w'.cell? ⟨wr.heap.size,1,none⟩=some (.int .i64 kd)/\w'.cell? ⟨wr.heap.size,2,none⟩=some (.int .u8 lt)/\w'.cell? ⟨wr.heap.size,3,none⟩=some (.int .i64 st)/\w'.cell? ⟨wr.heap.size,4,none⟩=some (.int .i64 sr)) (first | exact HC.out _ H0.out | exact HC.out _ HX.out.1)
       (first | (go_at_call 184;refine(uM _ b a c aa n nt kd lt st sr uq.out HF.out).mono ?_;rintro e w1 ⟨rfl,cH⟩;have HX:Hid (Below (wr.heap.size+1) (wr.alloc (.cells #[.bool nt,.int .i64 kd,.int .u8 lt,.int .i64 st,.int .i64 sr] 151)).drew w1/\Below w.heap.size w w1):=⟨cH.mono (by simp[World.drew]),vw.out.trans (cH.mono vw.out.size)⟩))
      all_goals
       go_wp2_with fail;go_meet;exact⟨rfl,HX.out.2⟩
     case rest=>
      obtain⟨rfl,HX⟩:=hcut
      by_cases hs:dT aa ⟨nt,kd,lt,st,sr⟩ n=nt
      ·have HR:Hid (bK w (iu aa x n) (.returned (.bool false)) wc):=⟨by rw[HY.out hs],HX.out⟩;have gs:(dT aa ⟨nt,kd,lt,st,sr⟩ n==nt)=true:=by simp[hs]
       clear hs c0 c1 c2 c3 c4;generalize (dT aa ⟨nt,kd,lt,st,sr⟩ n==nt)=z at gs ⊢;subst gs;go_wp2;go_ret;exact HR.out
      ·have fj:Hid (Below w.heap.size w wc/\∀j (_:j<x.ps.length),j<i+1->¬dT aa x.ps[j] n=x.ps[j].nt):=⟨HX.out,iQ.out hs⟩;have gs:(dT aa ⟨nt,kd,lt,st,sr⟩ n==nt)=false:=by simp[hs]
       clear hs c0 c1 c2 c3 c4;generalize (dT aa ⟨nt,kd,lt,st,sr⟩ n==nt)=z at gs ⊢;subst gs;go_wp2;go_roundg (x.ps.length - (i+1))
       case measure=>omega
       case rel=>exact⟨i+1,by go_num,by omega,aF,fj⟩
    ·have hd:decide ((i:Int)<(x.ps.length:Int))=false:=by simp;omega
     have HR:Hid (bK w (iu aa x n) (.returned (.bool true)) wr):=⟨by rw[Dt HTY.out (λj hj=>HN.out.2 j hj (by omega))],HN.out.1⟩;go_wp2;go_ret;exact HR.out
end
end
section
variable {aa:List PEl}{n:Int}{r:List eb}{x:eb}
structure ClRow (w:World)(ac:Option Addr)(cc:Nat)(xs:List Value)(cs:List eb):Prop where
 row:w.ownsRow 0 115 3 (.slice ac cs.length cc) cs.length xs
 comps:Comps w 0 xs cs
 few:cs.length<=400
 short:∀x∈cs,x.ps.length<=400
 fine:∀x∈cs,∀p∈x.ps,p.fine
theorem ClRow.below {w w':World}{ac:Option Addr}{cc:Nat}{xs:List Value}{cs:List eb}(h:ClRow w ac cc xs cs)(hB:Below w.heap.size w w'):ClRow w' ac cc xs cs:=
 ⟨aY h.row hB,h.comps.keep (iE hB _ _),h.few,h.short,h.fine⟩
theorem zS (h:iu aa x n=false∨r=[]):dZ aa (x :: r) n=iu aa x n:=by
 cases r with
 | nil=>rfl
 | cons d r=>
  rcases h with h | h
  ·show(iu aa x n&&_)=_;rw[h];rfl
  ·cases h
theorem Ki (h:iu aa x n=true)(hr:r≠[]):dZ aa (x :: r) n=(dS aa x.sg n).any (dZ aa r):=by
 cases r with
 | nil=>exact absurd rfl hr
 | cons d r=>
  show(iu aa x n&&_)=_;rw[h];rfl
theorem Hw (aa:List PEl)(sg n:Int):(dS aa sg n).length<=aa.length:=by
 have h1:∀k m,(bY aa k m).length<=k:=by
  intro k
  induction k with
  | zero=>intro m;simp[bY]
  | succ k ih=>
   intro m;show(if parP aa m=-1 then[] else _).length<=_;split
   ·simp
   ·have:=ih (parP aa m);simp;omega
 have h2:=h1 aa.length n;have h3:=oa aa n;unfold dS
 (repeat' split)<;>(try rw[List.length_take])<;>(try simp)<;>omega
section
variable (b:Nat)(a:Option Addr)(c:Nat)(aa:List PEl)
theorem xW (ac:Option Addr)(cc:Nat)(xs:List Value)(cs:List eb):∀(m:Nat) (w:World) (n:Int),m<=cs.length->TRd w b a c aa->ClRow w ac cc xs cs->
  Calls prog 177 #[.slice ac m cc,.pointer (some ⟨b,1,none⟩),.int .i64 n] w λe w'=>bK w (dZ aa (cs.take m).reverse n) e w'
 | 0,w,n,_,_,_=>by
  have HR:Hid (bK w (dZ aa (cs.take 0).reverse n) (.returned (.bool false)) w):=⟨rfl,bo⟩;go_enter func177,ntmps177;go_wp2;go_ret;exact HR.out
 | m+1,w,n,hm,h,ho=>by
  have IH:Hid (∀(w:World) (n:Int),TRd w b a c aa->ClRow w ac cc xs cs->Calls prog 177 #[.slice ac m cc,.pointer (some ⟨b,1,none⟩),.int .i64 n] w λe w'=>bK w (dZ aa (cs.take m).reverse n) e w'):=λw n=>xW ac cc xs cs m w n (by omega);have HT:=aw h;have HO:=aw ho;have bJ:=h.few;have hcf:=ho.few;have KK:=mp ho.row;have IS:=nJ ho.row;unfold maxLen at IS;obtain⟨g,hg,di,gM⟩:=aX ho.row (by omega);subst hg;have bc:m<cs.length:=by omega
  obtain⟨ap,cp,ps,e0,e1,e2,e3,e4⟩:=rU ho.comps bc;have c0:=gM _ _ e0;have c1:=gM _ _ e1;have c2:=gM _ _ e2;have HL:Hid ((cs.take (m+1)).reverse=cs[m] :: (cs.take m).reverse):=by unfold Hid;rw[gj bc,List.reverse_append];rfl
  have HCP:Hid (Im w ap cp ps cs[m]):=⟨e3,e4,ho.fine _ (bN bc)⟩;have ml:=ho.short _ (bN bc)
  have HM:Hid (m≠0->(cs.take m).reverse≠[]):=λh0 h1=>by
   have h2:(cs.take m).reverse.length=0:=by rw[h1];rfl
   rw[List.length_reverse,List.length_take] at h2;omega
  have Yb:Hid (m=0->(cs.take m).reverse=[]):=λh0=>by rw[h0];rfl
  have hgs:((m:Int)+1 - 1)=m:=by omega
  clear h ho e0 e1 e2 e3 e4 gM;generalize cs[m]=x at c0 c1 c2 HL HCP ml;have XZ:Hid (Im (w.alloc (.cells #[.int .u8 x.sg,.int .u8 x.ty,.slice ap x.ps.length cp] 115)) ap cp ps x):=⟨HCP.out.1.alloc _,HCP.out.2⟩;have eu:Hid (Below w.heap.size w (w.alloc (.cells #[.int .u8 x.sg,.int .u8 x.ty,.slice ap x.ps.length cp] 115))):=bo.alloc aF _;have MG:=aw (HT.out.below eu.out);go_enter func177,ntmps177;go_wp2_with fail;refine(Lr _ b a c aa n x ap cp ps MG.out XZ.out ml).mono ?_;rintro e w1 ⟨rfl,hB⟩;have gA:w.heap.size<w1.heap.size:=by have:=hB.size;simp at this;omega
  have q0:w1.cell? ⟨w.heap.size,0,none⟩=some (.int .u8 x.sg):=(hB.cell (p:=⟨w.heap.size,0,none⟩) (by simp)).trans (au (heap_alloc_new w _) rfl);have eM:Hid (Below w.heap.size w w1):=eu.out.trans (hB.mono (by simp));have oR:=aw (HT.out.below eM.out);clear hB c0 c1 c2 XZ HCP MG eu;cases hr:iu aa x n with
  | false=>
   have HR:Hid (bK w (dZ aa (cs.take (m+1)).reverse n) (.returned (.bool false)) w1):=⟨by rw[HL.out,zS (ax hr),hr],eM.out⟩;clear hr;go_wp2;go_ret;exact HR.out
  | true=>
   by_cases CM:m=0
   ·have HR:Hid (bK w (dZ aa (cs.take (m+1)).reverse n) (.returned (.bool true)) w1):=⟨by rw[HL.out,zS (az (Yb.out CM)),hr],eM.out⟩;clear hr;have gm:((m:Int)==0)=true:=by simp[CM]
    clear CM HM Yb;go_wp2;go_ret;exact HR.out
   ·have HS:Hid (dZ aa (cs.take (m+1)).reverse n=(dS aa x.sg n).any (dZ aa (cs.take m).reverse)):=by unfold Hid;rw[HL.out,Ki hr (HM.out CM)]
    have gm:((m:Int)==0)=false:=by rw[fq];omega
    have CT:=Hw aa x.sg n;clear hr CM HM Yb HL;go_wp2_with fail;refine(EG w1 b a c aa n x.sg oR.out).mono ?_;rintro e w2 ⟨a2,c2,rfl,k1,k2,k3,hB⟩;have iP:=aw (eM.out.trans (hB.mono eM.out.size));have HI:=aw k3;clear hB k3 eM oR q0;generalize dS aa x.sg n=l at HI HS CT k1 ⊢;generalize (cs.take m).reverse=r at IH HS;go_wp2_with fail
    go_loopg [44] l.length (λgk iv wr=>∃i:Nat,iv=.int .i64 i/\i<=l.length/\l.length - i<=gk/\Hid (Below w.heap.size w wr/\Below w2.heap.size w2 wr/\∀j (_:j<l.length),j<i->dZ aa r l[j]=false))
    case atStart=>exact⟨0,rfl,bm,by omega,iP.out,bo,λj _ h=>by omega⟩
    case round=>
     obtain⟨i,rfl,hi,fT,HN⟩:=hrel;have i8:=HN.out.1.size
     by_cases hli:i<l.length
     ·have hd:decide ((i:Int)<(l.length:Int))=true:=by simp;omega
      obtain⟨g2,iD,l9,zj⟩:=HI.out i hli;subst iD;have q1:=(HN.out.2.1.cell (p:=⟨g2,i,none⟩) l9).trans zj;rw[bW hli] at q1;replace q1:wr.cell? ⟨g2,i,none⟩=some (.int .i64 l[i]):=q1
      have iQ:Hid (dZ aa r l[i]=false->∀j (_:j<l.length),j<i+1->dZ aa r l[j]=false):=λhm j hj h1=>by
       by_cases e:j=i
       ·subst e;exact hm
       ·exact HN.out.2.2 j hj (by omega)
      have HY:Hid (dZ aa r l[i]=true->l.any (dZ aa r)=true):=λh=>by
       rw[List.any_eq_true];exact⟨l[i],bN hli,h⟩
      clear zj;generalize l[i]=o at q1 iQ HY;have jI:=bZ (HT.out.below HN.out.1) (HO.out.below HN.out.1);go_wp2_with fail;refine(IH.out wr o jI.out.1 jI.out.2).mono ?_;rintro e w3 ⟨rfl,fA⟩;have zI:=bZ (HN.out.1.trans (fA.mono i8)) (HN.out.2.1.trans (fA.mono HN.out.2.1.size));clear fA q1 jI;cases hr:dZ aa r o with
      | true=>
       have HR:Hid (bK w (dZ aa (cs.take (m+1)).reverse n) (.returned (.bool true)) w3):=⟨by rw[HS.out,HY.out hr],zI.out.1⟩;clear hr;go_wp2;go_ret;exact HR.out
      | false=>
       have fj:Hid (Below w.heap.size w w3/\Below w2.heap.size w2 w3/\∀j (_:j<l.length),j<i+1->dZ aa r l[j]=false):=⟨zI.out.1,zI.out.2,iQ.out hr⟩;clear hr;go_wp2;go_roundg (l.length - (i+1))
       case measure=>omega
       case rel=>exact⟨i+1,by go_num,by omega,aF,fj⟩
     ·have hd:decide ((i:Int)<(l.length:Int))=false:=by simp;omega
      have HR:Hid (bK w (dZ aa (cs.take (m+1)).reverse n) (.returned (.bool false)) wr):=by
       refine⟨?_,HN.out.1⟩
       have:l.any (dZ aa r)=false:=by
        rw[List.any_eq_false];intro o ho;obtain⟨j,hj,rfl⟩:=List.getElem_of_mem ho;rw[HN.out.2.2 j hj (by omega)];simp
       rw[HS.out,this]
      go_wp2;go_ret;exact HR.out
theorem zy (w:World)(n:Int)(ac:Option Addr)(cc:Nat)(xs:List Value)(cs:List eb)(h:TRd w b a c aa)(ho:ClRow w ac cc xs cs):
  Calls prog 169 #[.agg #[.slice ac cs.length cc],.pointer (some ⟨b,1,none⟩),.int .i64 n] w λe w'=>bK w (tU aa cs n) e w':=by
 have eu:Hid (Below w.heap.size w (w.alloc (.cells #[.slice ac cs.length cc] 71))):=bo.alloc aF _;have HT:=bZ (h.below eu.out) (ho.below eu.out);have HM:Hid (tU aa cs n=dZ aa (cs.take cs.length).reverse n):=by unfold Hid;rw[List.take_length];rfl
 clear h ho;go_enter func169,ntmps169;go_wp2_with fail;refine(xW b a c aa ac cc xs cs cs.length _ n aF HT.out.1 HT.out.2).mono ?_;rintro e w1 ⟨rfl,hB⟩;have HR:Hid (bK w (tU aa cs n) (.returned (.bool (dZ aa (cs.take cs.length).reverse n))) w1):=⟨by rw[HM.out],eu.out.trans (hB.mono (by simp))⟩;clear hB HM;generalize dZ aa (cs.take cs.length).reverse n=r at HR ⊢;go_wp2;go_ret;exact HR.out
end
end
def bd (W:List Clm):List Value:=W.flatMap Clm.cells
theorem iM (W:List Clm):(bd W).length=W.length*7:=by
 induction W with
 | nil=>rfl
 | cons x l ih=>
  unfold bd at ih ⊢;rw[List.flatMap_cons,List.length_append,ih,List.length_cons];show 7+_=_;omega
theorem fP {W:List Clm}{i j:Nat}(hi:i<W.length)(hj:j<7):(bd W)[i*7+j]?=W[i].cells[j]?:=by
 induction W generalizing i with
 | nil=>simp at hi
 | cons x l ih=>
  have h1:x.cells.length=7:=rfl;unfold bd;rw[List.flatMap_cons];cases i with
  | zero=>
   rw[List.getElem?_append_left (by omega)];simp
  | succ i=>
   rw[List.getElem?_append_right (by omega),h1,show(i+1)*7+j - 7=i*7+j from by omega];have:=ih (i:=i) (by simpa using hi);unfold bd at this;rw[this];simp
def jz (W:List Clm):Prop:=W.length=9/\∀c∈W,0<=c.va/\c.va<=255
def vf (w:World)(r:Option Nat)(e:Ending)(w':World):Prop:=e=.returned (.tuple #[.int .i64 ((r.getD 0:Nat):Int),.bool r.isSome])/\Below w.heap.size w w'
theorem Ca (w:World)(C:Array Value)(t:TypeId){k:Nat}{v:Value}(h:C[k]?=some v):(w.alloc (.cells C t)).cell? ⟨w.heap.size,k,none⟩=some v:=by
 rw[cell_of_row _ _ k C t (0,0) (heap_alloc_new w _)];exact h
section
variable (w:World)
theorem mO (p:Int)(hp:0<=p/\p<=255):Calls prog 127 #[.int .u8 p] w λe w'=>vf w (bP p) e w':=by
 obtain⟨IY,hp1⟩:=hp
 by_cases h1:65<=p
 ·by_cases h2:p<71
  ·have HR:Hid (vf w (bP p) (.returned (.tuple #[.int .i64 (p - 65),.bool true])) w):=by
    unfold bP;rw[aE ⟨h1,h2⟩];refine⟨?_,bo⟩;have:(((p - 65).toNat:Nat):Int)=p - 65:=by omega
    show _=Ending.returned (.tuple #[.int .i64 (((p - 65).toNat:Nat):Int),.bool true]);rw[this]
   have d1:decide (65<=p)=true:=by simpa using h1
   have d2:decide (p<71)=true:=by simpa using h2
   go_enter func127,ntmps127;go_wp2;go_ret2;exact HR.out
  ·have d1:decide (65<=p)=true:=by simpa using h1
   have d2:decide (p<71)=false:=by simpa using h2
   by_cases h3:88<=p
   ·have d3:decide (88<=p)=true:=by simpa using h3
    by_cases h4:p<91
    ·have d4:decide (p<91)=true:=by simpa using h4
     have HR:Hid (vf w (bP p) (.returned (.tuple #[.int .i64 (6+(p - 88)),.bool true])) w):=by
      unfold bP;rw[aA (by omega),aE ⟨h3,h4⟩];refine⟨?_,bo⟩;have:((6+(p - 88).toNat:Nat):Int)=6+(p - 88):=by omega
      show _=Ending.returned (.tuple #[.int .i64 ((6+(p - 88).toNat:Nat):Int),.bool true]);rw[this]
     go_enter func127,ntmps127;go_wp2;go_ret2;exact HR.out
    ·have d4:decide (p<91)=false:=by simpa using h4
     have HR:Hid (vf w (bP p) (.returned (.tuple #[.int .i64 0,.bool false])) w):=by
      unfold bP;rw[aA (by omega),aA (by omega)];exact⟨rfl,bo⟩
     go_enter func127,ntmps127;go_wp2;go_ret2;exact HR.out
   ·have d3:decide (88<=p)=false:=by simpa using h3
    have HR:Hid (vf w (bP p) (.returned (.tuple #[.int .i64 0,.bool false])) w):=by
     unfold bP;rw[aA (by omega),aA (by omega)];exact⟨rfl,bo⟩
    go_enter func127,ntmps127;go_wp2;go_ret2;exact HR.out
 ·have d1:decide (65<=p)=false:=by simpa using h1
  have d3:decide (88<=p)=false:=by simp;omega
  have HR:Hid (vf w (bP p) (.returned (.tuple #[.int .i64 0,.bool false])) w):=by
   unfold bP;rw[aA (by omega),aA (by omega)];exact⟨rfl,bo⟩
  go_enter func127,ntmps127;go_wp2;go_ret2;exact HR.out
def ji (s:ByteArray):Option Nat:=if s.size=1 then bP (bt s 0) else none
theorem zw (s:ByteArray):Calls prog 97 #[.string s] w λe w'=>vf w (ji s) e w':=by
 by_cases h1:s.size=1
 ·have HP:Hid (ji s=bP (bt s 0)):=by unfold Hid ji;rw[aE h1]
  have g1:((s.size:Int) != 1)=false:=by simp[h1]
  have hb:=zQ s 0;have h0:0<s.size:=by omega
  have hq:s[0].toNat=bt s 0:=by unfold bt;simp[h0]
  clear h1;go_enter func97,ntmps97;go_wp2_with fail;refine(mO w (bt s 0) ⟨by omega,by omega⟩).mono ?_;rintro e w1 ⟨rfl,hB⟩;have HR:Hid (vf w (ji s) (.returned (.tuple #[.int .i64 (((bP (bt s 0)).getD 0:Nat):Int),.bool (bP (bt s 0)).isSome])) w1):=by unfold Hid;rw[HP.out];exact⟨rfl,hB⟩
  clear hB HP hq;generalize (bP (bt s 0)).getD 0=r at HR ⊢;generalize (bP (bt s 0)).isSome=r2 at HR ⊢;go_wp2;go_ret2;exact HR.out
 ·have HP:Hid (vf w (ji s) (.returned (.tuple #[.int .i64 0,.bool false])) w):=by unfold Hid ji;rw[aA h1];exact⟨rfl,bo⟩
  have g1:((s.size:Int) != 1)=true:=by simp;omega
  clear h1;go_enter func97,ntmps97;go_wp2;go_ret2;exact HP.out
theorem Ls (p:Nat):Calls prog 171 #[.int .i64 p] w λe w'=>bK w (m8 p) e w':=by
 by_cases h1:p<3
 ·have d1:decide ((p:Int)<3)=true:=by simp;omega
  have HR:Hid (bK w (m8 p) (.returned (.bool true)) w):=⟨by unfold m8;rw[decide_eq_true (by omega)],bo⟩;clear h1;go_enter func171,ntmps171;go_wp2;go_ret;exact HR.out
 ·have d1:decide ((p:Int)<3)=false:=by simp;omega
  by_cases h2:6<=p
  ·have d2:decide ((6:Int)<=p)=true:=by simp;omega
   have HR:Hid (bK w (m8 p) (.returned (.bool true)) w):=⟨by unfold m8;rw[decide_eq_true (by omega)],bo⟩;clear h1 h2;go_enter func171,ntmps171;go_wp2;go_ret;exact HR.out
  ·have d2:decide ((6:Int)<=p)=false:=by simp;omega
   have HR:Hid (bK w (m8 p) (.returned (.bool false)) w):=⟨by unfold m8;rw[decide_eq_false (by omega)],bo⟩;clear h1 h2;go_enter func171,ntmps171;go_wp2;go_ret;exact HR.out
theorem Hi (th im:Bool)(ly wt kd nu va:Int)(Rv K4:Bool)(El JM K8 Lk Mj:Int):Calls prog 170 #[.agg #[.bool th,.bool im,.int .i64 ly,.int .i64 wt,.int .i64 kd,.int .i64 nu,.int .u8 va],.agg #[.bool Rv,.bool K4,.int .i64 El,.int .i64 JM,.int .i64 K8,.int .i64 Lk,.int .u8 Mj]] w λe w'=>bK w (iW ⟨th,im,ly,wt,kd,nu,va⟩ ⟨Rv,K4,El,JM,K8,Lk,Mj⟩) e w':=by
 have HB:Hid (Below w.heap.size w ((w.alloc (.cells #[.bool th,.bool im,.int .i64 ly,.int .i64 wt,.int .i64 kd,.int .i64 nu,.int .u8 va] 208)).alloc (.cells #[.bool Rv,.bool K4,.int .i64 El,.int .i64 JM,.int .i64 K8,.int .i64 Lk,.int .u8 Mj] 208))):=(bo.alloc aF _).alloc (by simp) _;cases Rv with
 | false=>
  have HR:Hid (bK w (iW ⟨th,im,ly,wt,kd,nu,va⟩ ⟨false,K4,El,JM,K8,Lk,Mj⟩) (.returned (.bool true)) _):=⟨rfl,HB.out⟩;go_enter func170,ntmps170;go_wp2;go_ret;exact HR.out
 | true=>
  by_cases hi:im=K4
  ·subst hi
   by_cases hl:ly=El
   ·have HR:Hid (bK w (iW ⟨th,im,ly,wt,kd,nu,va⟩ ⟨true,im,El,JM,K8,Lk,Mj⟩) (.returned (.bool (decide (JM<=wt)))) _):=⟨by unfold iW;simp[hl],HB.out⟩;have gl:(ly != El)=false:=by simp[hl]
    have gi:(im != im)=false:=by cases im<;>rfl
    clear hl;go_enter func170,ntmps170;go_wp2;go_ret;exact HR.out
   ·have HR:Hid (bK w (iW ⟨th,im,ly,wt,kd,nu,va⟩ ⟨true,im,El,JM,K8,Lk,Mj⟩) (.returned (.bool (decide (ly<El)==im))) _):=⟨by unfold iW;simp[hl],HB.out⟩;have gl:(ly != El)=true:=by simp[hl]
    have gi:(im != im)=false:=by cases im<;>rfl
    clear hl;go_enter func170,ntmps170;go_wp2;go_ret;exact HR.out
  ·have HR:Hid (bK w (iW ⟨th,im,ly,wt,kd,nu,va⟩ ⟨true,K4,El,JM,K8,Lk,Mj⟩) (.returned (.bool im)) _):=⟨by unfold iW;simp[hi],HB.out⟩;cases im<;>cases K4
   ·exact absurd rfl hi
   ·clear hi;go_enter func170,ntmps170;go_wp2;go_ret;exact HR.out
   ·clear hi;go_enter func170,ntmps170;go_wp2;go_ret;exact HR.out
   ·exact absurd rfl hi
theorem t8 (W:List Clm)(hF:jz W)(p:Nat)(hp:p<9):Calls prog 160 #[.agg (bd W).toArray,.int .i64 p] w λe w'=>vf w (co W p) e w':=by
 have hW:=hF.1;have hv:=hF.2 (W[p]'(by omega)) (bN _);have HB:Hid (Below w.heap.size w (w.alloc (.cells (bd W).toArray 210))):=bo.alloc aF _;have q0:(w.alloc (.cells (bd W).toArray 210)).cell? ⟨w.heap.size,p*7+4,none⟩=some (.int .i64 W[p].kd):=Ca w _ _ (by rw[List.getElem?_toArray,fP (by omega) (by omega)];rfl);have q1:(w.alloc (.cells (bd W).toArray 210)).cell? ⟨w.heap.size,p*7+4+2,none⟩=some (.int .u8 W[p].va):=Ca w _ _ (by rw[List.getElem?_toArray,show p*7+4+2=p*7+6 from rfl,fP (by omega) (by omega)];rfl);have HN:Hid (co W p=if W[p].kd=5 then bP W[p].va else none):=by unfold Hid co;rw[List.getD_eq_getElem?_getD,bW (by omega)];rfl
 have ml:(p:Int)<9:=by omega
 clear hF;generalize W[p].kd=kd at q0 HN;generalize W[p].va=va at q1 HN hv;generalize (bd W).toArray=C at q0 q1 HB ⊢
 by_cases hk:kd=5
 ·have fj:Hid (co W p=bP va):=by unfold Hid;rw[HN.out,aE hk]
  have gk:(kd != 5)=false:=by simp[hk]
  clear hk HN;go_enter func160,ntmps160;go_wp2_with fail;refine(mO _ va hv).mono ?_;rintro e w1 ⟨rfl,hB⟩;have HR:Hid (vf w (co W p) (.returned (.tuple #[.int .i64 (((bP va).getD 0:Nat):Int),.bool (bP va).isSome])) w1):=by unfold Hid;rw[fj.out];exact⟨rfl,HB.out.trans (hB.mono (by simp))⟩
  clear hB fj;generalize (bP va).getD 0=r at HR ⊢;generalize (bP va).isSome=r2 at HR ⊢;go_wp2;go_ret2;exact HR.out
 ·have HR:Hid (vf w (co W p) (.returned (.tuple #[.int .i64 0,.bool false])) (w.alloc (.cells C 210))):=by unfold Hid;rw[HN.out,aA hk];exact⟨rfl,HB.out⟩
  have gk:(kd != 5)=true:=by simp[hk]
  clear hk HN;go_enter func160,ntmps160;go_wp2;go_ret2;exact HR.out
end
def bD (T:aU)(n:Int)(s:ByteArray):Int:=match bF T n with | none=>5 | some _=>match ji s with | none=>4 | some _=>0
def eD (T:aU)(M:Nat->Mk)(rs:List dx)(n:Int)(s:ByteArray):Int:=if bD T n s=0 then(dU (bp T M) rs n).getD ((ji s).getD 0) 0 else 0
structure XT (DS:World->Value->aU->Nat->(Nat->Mk)->List dx->(Nat->Prop)->Prop):Prop where
 ptr:∀{w px T made M rs F},DS w px T made M rs F->∃a,px=.pointer (some a)
 tw:∀{w px T made M rs F},DS w px T made M rs F->TW T made
 mark:∀{w px T made M M' rs F},DS w px T made M rs F->(∀k l,(k,l)∈T->M k=M' k)->DS w px T made M' rs F
 keep:∀{w w' px T made M rs F},DS w px T made M rs F->(∀k,F k->k<w.heap.size->w'.heap[k]?=w.heap[k]?)->w.heap.size<=w'.heap.size->DS w' px T made M rs F
 here:∀{w px T made M rs F},DS w px T made M rs F->DS w px T made M rs (λk=>F k/\k<w.heap.size)
 new:∀(w:World) (s root:ByteArray),s.size<=maxLen->Calls prog 25 #[.string s,.string root] w λe w'=>
  Below w.heap.size w w'/\((eC s root≠0/\e=.returned (.tuple #[.pointer none,.int .i64 (eC s root)]))∨(eC s root=0/\∃px,e=.returned (.tuple #[px,.int .i64 0])/\DS w' px [(0,[])] 1 (λ_=>eh root) (eQ s) (λk=>w.heap.size<=k)))
 ins:∀(w:World) (px:Value) (T:aU) (made:Nat) (M:Nat->Mk) (rs:List dx) (F:Nat->Prop) (par at':Int) (kind:ByteArray),DS w px T made M rs F->made<=4611686018427387904->Calls prog 67 #[px,.int .i64 par,.int .i64 at',.string kind] w λe w'=>
  ∃y T' made' n,e=.returned (.tuple #[.int .i64 n,.int .i64 y])/\TIns T made par at' kind y T' made' n/\DS w' px T' made' (if y=0 then bU M made (eh kind) else M) rs (cV F w)/\Fr w w' F
 rem:∀(w:World) (px:Value) (T:aU) (made:Nat) (M:Nat->Mk) (rs:List dx) (F:Nat->Prop) (n:Int),DS w px T made M rs F->Calls prog 71 #[px,.int .i64 n] w λe w'=>
  ∃y T',e=.returned (.int .i64 y)/\TRem T n y T'/\DS w' px T' made M rs (cV F w)/\Fr w w' F
 mov:∀(w:World) (px:Value) (T:aU) (made:Nat) (M:Nat->Mk) (rs:List dx) (F:Nat->Prop) (n m at':Int),DS w px T made M rs F->Calls prog 74 #[px,.int .i64 n,.int .i64 m,.int .i64 at'] w λe w'=>
  ∃y T',e=.returned (.int .i64 y)/\TMov T n m at' y T'/\DS w' px T' made M rs (cV F w)/\Fr w w' F
 cls:∀(w:World) (px:Value) (T:aU) (made:Nat) (M:Nat->Mk) (rs:List dx) (F:Nat->Prop) (n:Int) (s:ByteArray) (on:Bool),DS w px T made M rs F->Calls prog 76 #[px,.int .i64 n,.string s,.bool on] w λe w'=>
  ∃y,e=.returned (.int .i64 y)/\y=cA T n s/\DS w' px T made (if y=0 then bU M n.toNat (kA (M n.toNat) s on) else M) rs (cV F w)/\Fr w w' F
 nam:∀(w:World) (px:Value) (T:aU) (made:Nat) (M:Nat->Mk) (rs:List dx) (F:Nat->Prop) (n:Int) (s:ByteArray),DS w px T made M rs F->Calls prog 79 #[px,.int .i64 n,.string s] w λe w'=>
  ∃y,e=.returned (.int .i64 y)/\y=cJ T n s/\DS w' px T made (if y=0 then bU M n.toNat (fW (M n.toNat) s) else M) rs (cV F w)/\Fr w w' F
 sht:∀(w:World) (px:Value) (T:aU) (made:Nat) (M:Nat->Mk) (rs:List dx) (F:Nat->Prop) (s:ByteArray),s.size<=maxLen->DS w px T made M rs F->Calls prog 41 #[px,.string s] w λe w'=>
  ∃y,e=.returned (.int .i64 y)/\y=(eH s).1/\DS w' px T made M (if y=0 then eQ s else rs) (cV F w)/\Fr w w' F
 qry:∀(w:World) (px:Value) (T:aU) (made:Nat) (M:Nat->Mk) (rs:List dx) (F:Nat->Prop) (n:Int) (s:ByteArray),DS w px T made M rs F->Calls prog 32 #[px,.int .i64 n,.string s] w λe w'=>
  e=.returned (.tuple #[.int .i64 (eD T M rs n s),.int .i64 (bD T n s)])/\DS w' px T made M rs (cV F w)/\Fr w w' F
section
variable {ae:Nat}{b:Nat}
end
section
variable {Fp Fx Fy:Nat->Prop}{af n y y':Int}{l':List Nat}{o:Obj}{v':Value}{w' w1:World}
structure YS where
 T:aU
 made:Nat
 M:Nat->Mk
 shn:Nat->Bool
 rs:List dx
theorem YS.same {X Y:YS}(h1:X.T=Y.T)(h2:X.made=Y.made)(h3:X.M=Y.M)(h4:X.shn=Y.shn)(h5:X.rs=Y.rs):X=Y:=by
 cases X;cases Y;cases h1;cases h2;cases h3;cases h4;cases h5;rfl
def YIns (X:YS)(an af:Int)(aj:ByteArray)(y:Int)(X':YS)(n:Int):Prop:=
 TIns X.T X.made an af aj y X'.T X'.made n/\X'.M=(if y=0 then bU X.M X.made (eh aj) else X.M)/\X'.shn=(if y=0 then mQ X.shn X.made false else X.shn)/\X'.rs=X.rs
def YRem (X:YS)(n:Int)(y:Int)(X':YS):Prop:=TRem X.T n y X'.T/\X'.made=X.made/\X'.M=X.M/\X'.shn=X.shn/\X'.rs=X.rs
def YMov (X:YS)(n m af:Int)(y:Int)(X':YS):Prop:=TMov X.T n m af y X'.T/\X'.made=X.made/\X'.M=X.M/\X'.shn=X.shn/\X'.rs=X.rs
def eX (X:YS)(n:Int)(s:ByteArray)(on:Bool):YS:=if cA X.T n s=0 then{X with M:=bU X.M n.toNat (kA (X.M n.toNat) s on)} else X
def eY (X:YS)(n:Int)(s:ByteArray):YS:=if cJ X.T n s=0 then{X with M:=bU X.M n.toNat (fW (X.M n.toNat) s)} else X
def ik (X:YS)(s:ByteArray):YS:=if(eH s).1=0 then{X with rs:=eQ s} else X
theorem YIns.one {X:YS}{an:Int}{aj:ByteArray}{U U':YS}{n':Int}(h:YIns X an af aj y U n)(h':YIns X an af aj y' U' n'):y=y'/\U=U'/\n=n':=by
 obtain⟨e1,e2,e3,e4⟩:=h.1.one h'.1;subst e1;exact⟨rfl,YS.same e2 e3 (h.2.1.trans h'.2.1.symm) (h.2.2.1.trans h'.2.2.1.symm) (h.2.2.2.trans h'.2.2.2.symm),e4⟩
theorem YRem.one {X:YS}{U U':YS}(h:YRem X n y U)(h':YRem X n y' U'):y=y'/\U=U':=by
 obtain⟨e1,e2⟩:=h.1.one h'.1;exact⟨e1,YS.same e2 (h.2.1.trans h'.2.1.symm) (h.2.2.1.trans h'.2.2.1.symm) (h.2.2.2.1.trans h'.2.2.2.1.symm) (h.2.2.2.2.trans h'.2.2.2.2.symm)⟩
theorem YMov.one {X:YS}{m:Int}{U U':YS}(h:YMov X n m af y U)(h':YMov X n m af y' U'):y=y'/\U=U':=by
 obtain⟨e1,e2⟩:=h.1.one h'.1;exact⟨e1,YS.same e2 (h.2.1.trans h'.2.1.symm) (h.2.2.1.trans h'.2.2.1.symm) (h.2.2.2.1.trans h'.2.2.2.1.symm) (h.2.2.2.2.trans h'.2.2.2.2.symm)⟩
inductive fu where
 | ins (an y:Int)
 | rem (n y:Int)
 | mov (n m y:Int)
 | cls (n:Int) (s:ByteArray) (on:Bool)
 | nam (n:Int) (s:ByteArray)
 | sht (s:ByteArray)
 | qry (n:Int) (s:ByteArray)
def Dc (w:World)(T:aU)(n:Int)(e:Ending)(w':World):Prop:=
 Below w.heap.size w w'/\((bF T n=none/\e=.returned (.tuple #[.slice none 0 0,.int .i64 5]))∨(∃l a c,bF T n=some l/\e=.returned (.tuple #[.slice a l.length c,.int .i64 0])/\w'.ownsRow w.heap.size 3 1 (.slice a l.length c) l.length (bq l)))
structure cP (PS:World->Value->YS->List Nat->(Nat->Prop)->Prop)(Q:fu->YS->List Nat->YS->List Nat->Prop):Prop where
 ptr:∀{w px X st F},PS w px X st F->∃a,px=.pointer (some a)
 keep:∀{w w' px X st F},PS w px X st F->(∀k,F k->k<w.heap.size->w'.heap[k]?=w.heap[k]?)->w.heap.size<=w'.heap.size->PS w' px X st F
 here:∀{w px X st F},PS w px X st F->PS w px X st (λk=>F k/\k<w.heap.size)
 new:∀(w:World) (s root:ByteArray),s.size<=maxLen->Calls prog 25 #[.string s,.string root] w λe w'=>
  Below w.heap.size w w'/\((eC s root≠0/\e=.returned (.tuple #[.pointer none,.int .i64 (eC s root)]))∨(eC s root=0/\∃px,e=.returned (.tuple #[px,.int .i64 0])/\PS w' px ⟨[(0,[])],1,λ_=>eh root,λ_=>false,eQ s⟩ [0] (λk=>w.heap.size<=k)))
 ins:∀(w:World) (px:Value) (X:YS) (st:List Nat) (F:Nat->Prop) (par at':Int) (kind:ByteArray),PS w px X st F->X.made<=1099511627776->Calls prog 67 #[px,.int .i64 par,.int .i64 at',.string kind] w λe w'=>
  ∃y X' cN n,e=.returned (.tuple #[.int .i64 n,.int .i64 y])/\YIns X par at' kind y X' n/\Q (.ins par y) X st X' cN/\PS w' px X' cN (cV F w)/\Fr w w' F
 rem:∀(w:World) (px:Value) (X:YS) (st:List Nat) (F:Nat->Prop) (n:Int),PS w px X st F->Calls prog 71 #[px,.int .i64 n] w λe w'=>
  ∃y X' cN,e=.returned (.int .i64 y)/\YRem X n y X'/\Q (.rem n y) X st X' cN/\PS w' px X' cN (cV F w)/\Fr w w' F
 mov:∀(w:World) (px:Value) (X:YS) (st:List Nat) (F:Nat->Prop) (n m at':Int),PS w px X st F->Calls prog 74 #[px,.int .i64 n,.int .i64 m,.int .i64 at'] w λe w'=>
  ∃y X' cN,e=.returned (.int .i64 y)/\YMov X n m at' y X'/\Q (.mov n m y) X st X' cN/\PS w' px X' cN (cV F w)/\Fr w w' F
 chi:∀(w:World) (px:Value) (X:YS) (st:List Nat) (F:Nat->Prop) (n:Int),PS w px X st F->Calls prog 27 #[px,.int .i64 n] w λe w'=>Dc w X.T n e w'
 cls:∀(w:World) (px:Value) (X:YS) (st:List Nat) (F:Nat->Prop) (n:Int) (s:ByteArray) (on:Bool),PS w px X st F->Calls prog 76 #[px,.int .i64 n,.string s,.bool on] w λe w'=>
  ∃cN,e=.returned (.int .i64 (cA X.T n s))/\Q (.cls n s on) X st (eX X n s on) cN/\PS w' px (eX X n s on) cN (cV F w)/\Fr w w' F
 nam:∀(w:World) (px:Value) (X:YS) (st:List Nat) (F:Nat->Prop) (n:Int) (s:ByteArray),PS w px X st F->Calls prog 79 #[px,.int .i64 n,.string s] w λe w'=>
  ∃cN,e=.returned (.int .i64 (cJ X.T n s))/\Q (.nam n s) X st (eY X n s) cN/\PS w' px (eY X n s) cN (cV F w)/\Fr w w' F
 sht:∀(w:World) (px:Value) (X:YS) (st:List Nat) (F:Nat->Prop) (s:ByteArray),s.size<=maxLen->PS w px X st F->Calls prog 41 #[px,.string s] w λe w'=>
  ∃cN,e=.returned (.int .i64 (eH s).1)/\Q (.sht s) X st (ik X s) cN/\PS w' px (ik X s) cN (cV F w)/\Fr w w' F
 qry:∀(w:World) (px:Value) (X:YS) (st:List Nat) (F:Nat->Prop) (n:Int) (s:ByteArray),PS w px X st F->Calls prog 32 #[px,.int .i64 n,.string s] w λe w'=>
  ∃cN,e=.returned (.tuple #[.int .i64 (eD X.T X.M X.rs n s),.int .i64 (bD X.T n s)])/\Q (.qry n s) X st X cN/\PS w' px X cN (cV F w)/\Fr w w' F
structure gK where
 vm:Value
 vy:Value
 vs:Value
 cnt:Int
 held:Bool
 lm:List Nat
 ly:List Nat
 ls:List Nat
abbrev RY (w:World)(d:Nat)(Y:YS)(F:Nat->Prop):Prop:=RSd w d Y.T Y.made Y.M Y.shn Y.rs F
structure PJ2 (PS:World->Value->YS->List Nat->(Nat->Prop)->Prop)(w:World)(b:Nat)(X:YS)(st:List Nat)(Y:YS)(px:Value)(d:Nat)(K:gK)(Fp Fx Fy:Nat->Prop):Prop where
 pb:PB w b px d K.vm K.vy K.cnt K.vs K.held
 ps:PS w px X st Fx
 rs:RY w d Y Fy
 must:w.ownsRow 0 3 1 K.vm K.lm.length (bq K.lm)
 may:w.ownsRow 0 3 1 K.vy K.ly.length (bq K.ly)
 seen:w.ownsRow 0 3 1 K.vs K.ls.length (bq K.ls)
 inb:Fp b
 inm:∀j,K.vm.ownBlock=some j->Fp j
 iny:∀j,K.vy.ownBlock=some j->Fp j
 ins:∀j,K.vs.ownBlock=some j->Fp j
 px:∀k,Fp k->¬Fx k
 py:∀k,Fp k->¬Fy k
 xy:∀k,Fx k->¬Fy k
 here:∀k,Fp k∨Fx k∨Fy k->k<w.heap.size
section
variable {PS:World->Value->YS->List Nat->(Nat->Prop)->Prop}{Q:fu->YS->List Nat->YS->List Nat->Prop}{w:World}{b:Nat}{X Y:YS}{st:List Nat}{px:Value}{d:Nat}{K:gK}{Fp Fx Fy:Nat->Prop}
theorem PJ2.prog (hP:cP PS Q)(h:PJ2 PS w b X st Y px d K Fp Fx Fy){X1:YS}{bE:List Nat}(hs:PS w1 px X1 bE (cV Fx w))(hf:Fr w w1 Fx):PJ2 PS w1 b X1 bE Y px d K Fp (nZ Fx w w1) Fy:=by
 have kp:∀k,Fp k->k<w.heap.size->w1.heap[k]?=w.heap[k]?:=λk hk hl=>hf.block k hl (h.px k hk);refine⟨(kp b h.inb (h.here b (ax h.inb))).trans h.pb,hP.here hs,h.rs.keep (λk hk hl=>hf.block k hl (λx=>h.xy k x hk)) hf.size,cZ h.must (λk hk hl=>kp k (h.inm k hk) hl),cZ h.may (λk hk hl=>kp k (h.iny k hk) hl),cZ h.seen (λk hk hl=>kp k (h.ins k hk) hl),h.inb,h.inm,h.iny,h.ins,λk hk hx=>?_,h.py,λk hx hk=>?_,λk hk=>?_⟩
 ·rcases hx.1 with hx | hx
  ·exact h.px k hk hx
  ·have:=h.here k (ax hk);omega
 ·rcases hx.1 with hx | hx
  ·exact h.xy k hx hk
  ·have:=h.here k (az (az hk));omega
 ·have:=hf.size;rcases hk with hk | hk | hk
  ·have:=h.here k (ax hk);omega
  ·exact hk.2
  ·have:=h.here k (az (az hk));omega
theorem PJ2.ref (hP:cP PS Q)(h:PJ2 PS w b X st Y px d K Fp Fx Fy){Y1:YS}(hs:RY w1 d Y1 (cV Fy w))(hf:Fr w w1 Fy):PJ2 PS w1 b X st Y1 px d K Fp Fx (nZ Fy w w1):=by
 have kp:∀k,Fp k->k<w.heap.size->w1.heap[k]?=w.heap[k]?:=λk hk hl=>hf.block k hl (h.py k hk);refine⟨(kp b h.inb (h.here b (ax h.inb))).trans h.pb,hP.keep h.ps (λk hk hl=>hf.block k hl (h.xy k hk)) hf.size,hs.here,cZ h.must (λk hk hl=>kp k (h.inm k hk) hl),cZ h.may (λk hk hl=>kp k (h.iny k hk) hl),cZ h.seen (λk hk hl=>kp k (h.ins k hk) hl),h.inb,h.inm,h.iny,h.ins,h.px,λk hk hx=>?_,λk hk hx=>?_,λk hk=>?_⟩
 ·rcases hx.1 with hx | hx
  ·exact h.py k hk hx
  ·have:=h.here k (ax hk);omega
 ·rcases hx.1 with hx | hx
  ·exact h.xy k hk hx
  ·have:=h.here k (az (ax hk));omega
 ·have:=hf.size;rcases hk with hk | hk | hk
  ·have:=h.here k (ax hk);omega
  ·have:=h.here k (az (ax hk));omega
  ·exact hk.2
theorem PJ2.pair (hP:cP PS Q)(h:PJ2 PS w b X st Y px d K Fp Fx Fy)(hf:Fr w w1 Fp){K':gK}(hb:PB w1 b px d K'.vm K'.vy K'.cnt K'.vs K'.held)
  (hm:w1.ownsRow 0 3 1 K'.vm K'.lm.length (bq K'.lm)) (hy:w1.ownsRow 0 3 1 K'.vy K'.ly.length (bq K'.ly)) (hn:w1.ownsRow 0 3 1 K'.vs K'.ls.length (bq K'.ls)) (im:∀j,K'.vm.ownBlock=some j->Fp j∨w.heap.size<=j) (iy:∀j,K'.vy.ownBlock=some j->Fp j∨w.heap.size<=j) (is:∀j,K'.vs.ownBlock=some j->Fp j∨w.heap.size<=j):PJ2 PS w1 b X st Y px d K' (nZ Fp w w1) Fx Fy:=by
 have il:=hf.size;refine⟨hb,hP.keep h.ps (λk hk hl=>hf.block k hl (λx=>h.px k x hk)) hf.size,h.rs.keep (λk hk hl=>hf.block k hl (λx=>h.py k x hk)) hf.size,hm,hy,hn,⟨ax h.inb,?_⟩,λj hj=>⟨im j hj,(hm.lt j hj).2⟩,λj hj=>⟨iy j hj,(hy.lt j hj).2⟩,λj hj=>⟨is j hj,(hn.lt j hj).2⟩,λk hk hx=>?_,λk hk hx=>?_,h.xy,λk hk=>?_⟩
 ·have:=h.here b (ax h.inb);omega
 ·rcases hk.1 with hk | hk
  ·exact h.px k hk hx
  ·have:=h.here k (az (ax hx));omega
 ·rcases hk.1 with hk | hk
  ·exact h.py k hk hx
  ·have:=h.here k (az (az hx));omega
 ·rcases hk with hk | hk | hk
  ·exact hk.2
  ·have:=h.here k (az (ax hk));omega
  ·have:=h.here k (az (az hk));omega
theorem PJ2.keep (hP:cP PS Q)(h:PJ2 PS w b X st Y px d K Fp Fx Fy)(il:w.heap.size<=w1.heap.size)(hk:∀k,Fp k∨Fx k∨Fy k->w1.heap[k]?=w.heap[k]?):PJ2 PS w1 b X st Y px d K Fp Fx Fy:=
 ⟨(hk b (ax h.inb)).trans h.pb,hP.keep h.ps (λk hx _=>hk k (az (ax hx))) il,h.rs.keep (λk hx _=>hk k (az (az hx))) il,cZ h.must (λk hx _=>hk k (ax (h.inm k hx))),cZ h.may (λk hx _=>hk k (ax (h.iny k hx))),cZ h.seen (λk hx _=>hk k (ax (h.ins k hx))),h.inb,h.inm,h.iny,h.ins,h.px,h.py,h.xy,λk hx=>Nat.lt_of_lt_of_le (h.here k hx) il⟩
end
def PQ2 (PS:World->Value->YS->List Nat->(Nat->Prop)->Prop)(w0:World)(G:Nat->Prop)(w:World)(b:Nat)(X:YS)(st:List Nat)(Y:YS)(px:Value)(d:Nat)(K:gK):Prop:=
 ∃Fp Fx Fy,PJ2 PS w b X st Y px d K Fp Fx Fy/\(∀k,Fp k∨Fx k∨Fy k->G k∨w0.heap.size<=k)/\Fr w0 w G
section
variable {PS:World->Value->YS->List Nat->(Nat->Prop)->Prop}{Q:fu->YS->List Nat->YS->List Nat->Prop}{w0:World}{G:Nat->Prop}{w:World}{b:Nat}{X Y:YS}{st:List Nat}{px:Value}{d:Nat}{K:gK}
theorem PQ2.pb (h:PQ2 PS w0 G w b X st Y px d K):PB w b px d K.vm K.vy K.cnt K.vs K.held:=by
 obtain⟨_,_,_,h,_⟩:=h;exact h.pb
theorem PQ2.fr (h:PQ2 PS w0 G w b X st Y px d K):Fr w0 w G:=by
 obtain⟨_,_,_,_,_,h⟩:=h;exact h
theorem PQ2.must (h:PQ2 PS w0 G w b X st Y px d K):w.ownsRow 0 3 1 K.vm K.lm.length (bq K.lm):=by
 obtain⟨_,_,_,h,_⟩:=h;exact h.must
theorem PQ2.may (h:PQ2 PS w0 G w b X st Y px d K):w.ownsRow 0 3 1 K.vy K.ly.length (bq K.ly):=by
 obtain⟨_,_,_,h,_⟩:=h;exact h.may
theorem PQ2.seen (h:PQ2 PS w0 G w b X st Y px d K):w.ownsRow 0 3 1 K.vs K.ls.length (bq K.ls):=by
 obtain⟨_,_,_,h,_⟩:=h;exact h.seen
theorem PQ2.rs (h:PQ2 PS w0 G w b X st Y px d K):∃F,RY w d Y F:=by
 obtain⟨_,_,Fy,h,_⟩:=h;exact⟨Fy,h.rs⟩
theorem PQ2.tw (h:PQ2 PS w0 G w b X st Y px d K):TW Y.T Y.made:=by
 obtain⟨_,h⟩:=h.rs;exact h.tw
theorem PQ2.few (h:PQ2 PS w0 G w b X st Y px d K):Y.T.length<=24:=by
 obtain⟨_,h⟩:=h.rs;exact h.few
theorem PQ2.below (hP:cP PS Q)(h:PQ2 PS w0 G w b X st Y px d K)(hB:Below w.heap.size w w1):PQ2 PS w0 G w1 b X st Y px d K:=by
 obtain⟨Fp,Fx,Fy,h1,h2,h3⟩:=h;exact⟨Fp,Fx,Fy,h1.keep hP hB.size (λk hk=>hB.block k (h1.here k hk)),h2,h3.below hB⟩
theorem PQ2.drew (hP:cP PS Q)(h:PQ2 PS w0 G w b X st Y px d K):PQ2 PS w0 G w.drew b X st Y px d K:=h.below hP (Below.refl _ w).drew
theorem PQ2.drewN (hP:cP PS Q)(h:PQ2 PS w0 G w b X st Y px d K):∀n,PQ2 PS w0 G (w.drewN n) b X st Y px d K
 | 0=>h
 | n+1=>(PQ2.drewN hP h n).drew hP
theorem PQ2.prog (hP:cP PS Q)(h:PQ2 PS w0 G w b X st Y px d K):∃Fx,PS w px X st Fx/\∀w1 X1 bE,PS w1 px X1 bE (cV Fx w)->Fr w w1 Fx->PQ2 PS w0 G w1 b X1 bE Y px d K:=by
 obtain⟨Fp,Fx,Fy,h1,h2,h3⟩:=h;refine⟨Fx,h1.ps,λw1 X1 bE hs hf=>⟨Fp,nZ Fx w w1,Fy,h1.prog hP hs hf,λk hk=>?_,h3.comp hf (λj hj=>h2 j (az (ax hj)))⟩⟩;rcases hk with hk | hk | hk
 ·exact h2 k (ax hk)
 ·exact hk.1.elim (λx=>h2 k (az (ax x))) (λx=>az (Nat.le_trans h3.size x))
 ·exact h2 k (az (az hk))
theorem PQ2.ref (hP:cP PS Q)(h:PQ2 PS w0 G w b X st Y px d K):∃Fy,RY w d Y Fy/\∀w1 Y1,RY w1 d Y1 (cV Fy w)->Fr w w1 Fy->PQ2 PS w0 G w1 b X st Y1 px d K:=by
 obtain⟨Fp,Fx,Fy,h1,h2,h3⟩:=h;refine⟨Fy,h1.rs,λw1 Y1 hs hf=>⟨Fp,Fx,nZ Fy w w1,h1.ref hP hs hf,λk hk=>?_,h3.comp hf (λj hj=>h2 j (az (az hj)))⟩⟩;rcases hk with hk | hk | hk
 ·exact h2 k (ax hk)
 ·exact h2 k (az (ax hk))
 ·exact hk.1.elim (λx=>h2 k (az (az x))) (λx=>az (Nat.le_trans h3.size x))
theorem PQ2.pair (hP:cP PS Q)(h:PQ2 PS w0 G w b X st Y px d K)(hf:Fr w w1 (λk=>k=b)){K':gK}(hb:PB w1 b px d K'.vm K'.vy K'.cnt K'.vs K'.held)
  (hm:w1.ownsRow 0 3 1 K'.vm K'.lm.length (bq K'.lm)) (hy:w1.ownsRow 0 3 1 K'.vy K'.ly.length (bq K'.ly)) (hn:w1.ownsRow 0 3 1 K'.vs K'.ls.length (bq K'.ls)) (im:∀j,K'.vm.ownBlock=some j->(K.vm.ownBlock=some j∨K.vy.ownBlock=some j∨K.vs.ownBlock=some j)∨w.heap.size<=j) (iy:∀j,K'.vy.ownBlock=some j->(K.vm.ownBlock=some j∨K.vy.ownBlock=some j∨K.vs.ownBlock=some j)∨w.heap.size<=j) (is:∀j,K'.vs.ownBlock=some j->(K.vm.ownBlock=some j∨K.vy.ownBlock=some j∨K.vs.ownBlock=some j)∨w.heap.size<=j):PQ2 PS w0 G w1 b X st Y px d K':=by
 obtain⟨Fp,Fx,Fy,h1,h2,h3⟩:=h;have SV:Fr w w1 Fp:=hf.mono (λk hk=>by rw[hk];exact h1.inb);have own:∀j,(K.vm.ownBlock=some j∨K.vy.ownBlock=some j∨K.vs.ownBlock=some j)->Fp j:=λj hj=>hj.elim (h1.inm j) (λhj=>hj.elim (h1.iny j) (h1.ins j));refine⟨nZ Fp w w1,Fx,Fy,h1.pair hP SV hb hm hy hn (λj hj=>(im j hj).imp (own j) id) (λj hj=>(iy j hj).imp (own j) id) (λj hj=>(is j hj).imp (own j) id),λk hk=>?_,h3.comp SV (λj hj=>h2 j (ax hj))⟩;rcases hk with hk | hk | hk
 ·exact hk.1.elim (λx=>h2 k (ax x)) (λx=>az (Nat.le_trans h3.size x))
 ·exact h2 k (az (ax hk))
 ·exact h2 k (az (az hk))
theorem PQ2.setB (hP:cP PS Q)(h:PQ2 PS w0 G w b X st Y px d K)(hB:Below w.heap.size w w1){K':gK}{o:Nat}{u:Value}(hc:(#[px,Value.pointer (some ⟨d,0,none⟩),K.vm,K.vy,.int .i64 K.cnt,K.vs,.bool K.held]:Array Value).setIfInBounds o u=#[px,.pointer (some ⟨d,0,none⟩),K'.vm,K'.vy,.int .i64 K'.cnt,K'.vs,.bool K'.held])
  (hm:w1.ownsRow 0 3 1 K'.vm K'.lm.length (bq K'.lm)) (hy:w1.ownsRow 0 3 1 K'.vy K'.ly.length (bq K'.ly)) (hn:w1.ownsRow 0 3 1 K'.vs K'.ls.length (bq K'.ls)) (im:∀j,K'.vm.ownBlock=some j->(K.vm.ownBlock=some j∨K.vy.ownBlock=some j∨K.vs.ownBlock=some j)∨w.heap.size<=j) (iy:∀j,K'.vy.ownBlock=some j->(K.vm.ownBlock=some j∨K.vy.ownBlock=some j∨K.vs.ownBlock=some j)∨w.heap.size<=j) (is:∀j,K'.vs.ownBlock=some j->(K.vm.ownBlock=some j∨K.vy.ownBlock=some j∨K.vs.ownBlock=some j)∨w.heap.size<=j):PQ2 PS w0 G (w1.setCell ⟨b,o,none⟩ u) b X st Y px d K':=by
 have mS:=(hB.block b (bG.1 h.pb.blk).1).trans h.pb.blk;refine h.pair hP (((Fr.refl w (λk=>k=b)).below hB).set (p:=⟨b,o,none⟩) (ax rfl) u) ?_ (bw hm (aN hm mS (by decide)) _) (bw hy (aN hy mS (by decide)) _) (bw hn (aN hn mS (by decide)) _) im iy is;show(World.setCell _ _ _).heap[b]?=_;rw[aP mS,hc]
theorem PQ2.setMust (hP:cP PS Q)(h:PQ2 PS w0 G w b X st Y px d K)(hB:Below w.heap.size w w1)(ho:w1.ownsRow 0 3 1 v' l'.length (bq l'))(hi:∀j,v'.ownBlock=some j->K.vm.ownBlock=some j∨w.heap.size<=j):PQ2 PS w0 G (w1.setCell ⟨b,2,none⟩ v') b X st Y px d {K with vm:=v',lm:=l'}:=
 h.setB hP hB rfl ho (aY h.may hB) (aY h.seen hB) (λj hj=>(hi j hj).imp ax id) (λ_ hj=>ax (az (ax hj))) (λ_ hj=>ax (az (az hj)))
theorem PQ2.setMay (hP:cP PS Q)(h:PQ2 PS w0 G w b X st Y px d K)(hB:Below w.heap.size w w1)(ho:w1.ownsRow 0 3 1 v' l'.length (bq l'))(hi:∀j,v'.ownBlock=some j->K.vy.ownBlock=some j∨w.heap.size<=j):PQ2 PS w0 G (w1.setCell ⟨b,3,none⟩ v') b X st Y px d {K with vy:=v',ly:=l'}:=
 h.setB hP hB rfl (aY h.must hB) ho (aY h.seen hB) (λ_ hj=>ax (ax hj)) (λj hj=>(hi j hj).imp (λx=>az (ax x)) id) (λ_ hj=>ax (az (az hj)))
theorem PQ2.setCnt (hP:cP PS Q)(h:PQ2 PS w0 G w b X st Y px d K)(c:Int):PQ2 PS w0 G (w.setCell ⟨b,4,none⟩ (.int .i64 c)) b X st Y px d {K with cnt:=c}:=
 h.setB hP (Below.refl _ w) rfl h.must h.may h.seen (λ_ hj=>ax (ax hj)) (λ_ hj=>ax (az (ax hj))) (λ_ hj=>ax (az (az hj)))
theorem PQ2.setHeld (hP:cP PS Q)(h:PQ2 PS w0 G w b X st Y px d K)(c:Bool):PQ2 PS w0 G (w.setCell ⟨b,6,none⟩ (.bool c)) b X st Y px d {K with held:=c}:=
 h.setB hP (Below.refl _ w) rfl h.must h.may h.seen (λ_ hj=>ax (ax hj)) (λ_ hj=>ax (az (ax hj))) (λ_ hj=>ax (az (az hj)))
theorem PQ2.from (h:PQ2 PS (w.alloc o) G w' b X st Y px d K):PQ2 PS w G w' b X st Y px d K:=by
 obtain⟨Fp,Fx,Fy,h1,h2,h3⟩:=h;have il:(w.alloc o).heap.size=w.heap.size+1:=by simp
 exact⟨Fp,Fx,Fy,h1,λk hk=>(h2 k hk).imp id (λx=>by omega),⟨h3.os,h3.tape,h3.output,by have:=h3.size;omega,λk hk hn=>(h3.block k (by omega) hn).trans (Below.heap_alloc w o k hk)⟩⟩
theorem PQ2.alloc (hP:cP PS Q)(h:PJ2 PS w b X st Y px d K Fp Fx Fy)(hG:∀k,Fp k∨Fx k∨Fy k->G k)(o:Obj):PQ2 PS (w.alloc o) G (w.alloc o) b X st Y px d K:=
 ⟨Fp,Fx,Fy,h.keep hP (by simp) (λk hk=>Below.heap_alloc w o k (h.here k hk)),λk hk=>ax (hG k hk),Fr.refl _ _⟩
theorem PQ2.start (h:PJ2 PS w b X st Y px d K Fp Fx Fy)(hG:∀k,Fp k∨Fx k∨Fy k->G k):PQ2 PS w G w b X st Y px d K:=
 ⟨Fp,Fx,Fy,h,λk hk=>ax (hG k hk),Fr.refl _ _⟩
theorem PQ2.op (h:PQ2 PS (w.alloc o) G w' b X st Y px d K)(hG:∀k,G k->k<w.heap.size):w'.heap[w.heap.size]?=some o:=
 (h.fr.block w.heap.size (by simp) (λx=>by have:=hG _ x;omega)).trans (heap_alloc_new w o)
end
end
section
variable {F:Nat->Prop}{T:aU}{Y:YS}{l:List Nat}
noncomputable def kR (T:aU)(f:Int)(m:List Nat):List Nat:=T.foldl (λm e=>if dR T f e.1=true then dN m e.1 else m) m
def jS (T:aU)(l:List Nat):List Nat:=l.filter λk=>(bF T k).isSome
theorem KV (aa:List REl)(f n:Int):j7 aa f n=dR (aW aa) f n:=by
 unfold j7 dR;rw[ea,lD]
theorem Ma (aa:List REl)(f:Int)(m:List Nat):gI aa f aa m=kR (aW aa) f m:=by
 unfold gI kR
 have nY:∀(l:List REl) (m:List Nat),l.foldl (λm e=>if j7 aa f e.num=true then dN m e.num else m) m=(aW l).foldl (λm e=>if dR (aW aa) f e.1=true then dN m e.1 else m) m:=λl=>by
  induction l with
  | nil=>intro m;rfl
  | cons x l ih=>
   intro m;rw[List.foldl_cons,ih];show _=List.foldl _ (if dR (aW aa) f (x.num:Nat)=true then dN m x.num else m) (aW l);rw[KV]
 exact nY aa m
theorem P0 (aa:List REl)(l:List Nat):lN aa l=jS (aW aa) l:=by
 unfold lN jS;apply List.filter_congr;intro k _;cases hf:bR aa k with
 | none=>rw[cW hf];rfl
 | some e=>rw[cU hf];rfl
def s9 (T:aU)(K:gK):Prop:=LT T K.lm/\LT T K.ly
theorem LT.spoil (h:LT T l)(f:Int):LT T (kR T f l):=by
 unfold kR
 have nY:∀(U:aU) (l:List Nat),(∀e∈U,e∈T)->LT T l->LT T (U.foldl (λm e=>if dR T f e.1=true then dN m e.1 else m) l):=λU=>by
  induction U with
  | nil=>intro l _ h;exact h
  | cons x U ih=>
   intro l hs h;rw[List.foldl_cons];refine ih _ (λe he=>hs e (List.mem_cons_of_mem _ he)) ?_;split
   ·exact h.with (n:=x.1) (c:=x.2) (hs x List.mem_cons_self)
   ·exact h
 exact nY T l (λ_ h=>h) h
theorem LT.only (h:l.Nodup):LT T (jS T l):=by
 refine⟨h.filter _,λk hk=>?_⟩;have h1:=(dJ.1 hk).2;obtain⟨c,hc⟩:=Option.isSome_iff_exists.1 h1;obtain⟨a,ha,hm⟩:=gJ hc;exact⟨c,by rw[show k=a from by omega];exact hm⟩
def TurnPost2 (PS:World->Value->YS->List Nat->(Nat->Prop)->Prop)(w:World)(G:Nat->Prop)(b:Nat)(px:Value)(d:Nat)(R:YS->List Nat->gK->Prop)(e:Ending)(w':World):Prop:=
 e=.returned (.bool true)/\∃X' cN K',PQ2 PS w G w' b X' cN X' px d K'/\s9 X'.T K'/\R X' cN K'
section
variable {PS:World->Value->YS->List Nat->(Nat->Prop)->Prop}{Q:fu->YS->List Nat->YS->List Nat->Prop}{w0:World}{G:Nat->Prop}{w:World}{b:Nat}{X Y:YS}{st:List Nat}{px:Value}{d:Nat}{K:gK}
def Se (PS:World->Value->YS->List Nat->(Nat->Prop)->Prop)(w0:World)(G:Nat->Prop)(b:Nat)(X:YS)(st:List Nat)(Y:YS)(px:Value)(d:Nat)(K:gK)(f:Int)(e:Ending)(w':World):Prop:=
 e=.returned (.tuple #[])/\∃vy',PQ2 PS w0 G w' b X st Y px d {K with vy:=vy',ly:=kR Y.T f K.ly,cnt:=-1,held:=false}
theorem iF (hP:cP PS Q)(h:PQ2 PS w0 G w b X st Y px d K)(UK:LT Y.T K.ly)(f:Int):
  Calls prog 70 #[.pointer (some ⟨b,0,none⟩),.int .i64 f] w λe w'=>Se PS w0 G b X st Y px d K f e w':=by
 obtain⟨F,aa,hp,vT,br,vL,Rr,Gs,hX,hA,_⟩:=h.rs;obtain⟨rk,Td⟩:=pN hX.tw;rw[hA] at UK;refine(Hy w b px d aa Y.made hp vT br vL K.vm K.vy K.vs K.cnt K.held K.ly f h.pb hX.rd rk Td h.may (aa9.1 UK)).mono ?_;rintro e W7 ⟨rfl,a7,c7,pb7,Ck,XB,hn7⟩;rw[Ma,<-hA] at pb7 Ck hn7;have abf:W7.ownsRow 0 3 1 K.vm K.lm.length (bq K.lm):=cZ h.must (λj hj hl=>XB.block j hl (λe=>aN h.must h.pb.blk (by decide) (e▸hj)));have abg:W7.ownsRow 0 3 1 K.vs K.ls.length (bq K.ls):=cZ h.seen (λj hj hl=>XB.block j hl (λe=>aN h.seen h.pb.blk (by decide) (e▸hj)));exact⟨rfl,_,h.pair hP XB pb7 abf Ck abg (λj hj=>ax (ax hj)) (λj hj=>(hn7 j hj).imp (λx=>az (ax x)) id) (λj hj=>ax (az (az hj)))⟩
def R0 (w:World)(l':List Nat)(e:Ending)(w':World):Prop:=
 ∃(a:Option Addr) (c:Nat),e=.returned (.slice a l'.length c)/\w'.ownsRow 0 3 1 (.slice a l'.length c) l'.length (bq l')/\Below w.heap.size w w'/\Hid (∀j,(Value.slice a l'.length c).ownBlock=some j->w.heap.size<=j)
theorem AX (h:PQ2 PS w0 G w b X st Y px d K)(a:Option Addr)(c:Nat)(l:List Nat)(ho:w.ownsRow 0 3 1 (.slice a l.length c) l.length (bq l))(hl:l.length<=24):
  Calls prog 73 #[.pointer (some ⟨b,0,none⟩),.slice a l.length c] w λe w'=>R0 w (jS Y.T l) e w':=by
 obtain⟨F,aa,hp,vT,br,vL,Rr,Gs,hX,hA,_⟩:=h.rs;refine(P1 w b px d aa Y.made hp vT br vL K.vm K.vy K.vs K.cnt K.held a c l h.pb hX.rd ho hl).mono ?_;rintro e w' ⟨a',c',rfl,own,hB⟩;rw[P0,<-hA] at own ⊢;exact⟨a',c',rfl,ba own bm,hB,λj hj=>(own.lt j hj).1⟩
theorem pM (h:PQ2 PS w0 G w b X st Y px d K)(n:Int):
  Calls prog 34 #[.pointer (some ⟨d,0,none⟩),.int .i64 n] w λe w'=>e=.returned (.int .i64 (bi Y.T n))/\w'=w:=by
 obtain⟨F,aa,hp,vT,br,vL,Rr,Gs,hX,hA,_⟩:=h.rs;rw[hA,ea];exact gG w d aa Y.made hp vT br vL n hX.rd
theorem LG (h:RY w d Y F)(hm:Y.made<=1099511627776)(an af:Int)(aj:ByteArray):
  Calls prog 68 #[.pointer (some ⟨d,0,none⟩),.int .i64 an,.int .i64 af,.string aj] w λe w'=>∃y Y' n,e=.returned (.tuple #[.int .i64 n,.int .i64 y])/\YIns Y an af aj y Y' n/\RY w' d Y' (cV F w)/\Fr w w' F:=by
 refine(EJ w d Y.T Y.made Y.M Y.shn Y.rs F an af aj h hm).mono ?_;rintro e w' ⟨y,T',made',n,he,h1,h2,h3⟩;exact⟨y,⟨T',made',_,_,Y.rs⟩,n,he,⟨h1,rfl,rfl,rfl⟩,h2,h3⟩
theorem LI (h:RY w d Y F)(n:Int):
  Calls prog 72 #[.pointer (some ⟨d,0,none⟩),.int .i64 n] w λe w'=>∃y Y',e=.returned (.int .i64 y)/\YRem Y n y Y'/\RY w' d Y' (cV F w)/\Fr w w' F:=by
 refine(EL w d Y.T Y.made Y.M Y.shn Y.rs F n h).mono ?_;rintro e w' ⟨y,T',he,h1,h2,h3⟩;exact⟨y,⟨T',Y.made,Y.M,Y.shn,Y.rs⟩,he,⟨h1,rfl,rfl,rfl,rfl⟩,h2,h3⟩
theorem LH (h:RY w d Y F)(n m af:Int):
  Calls prog 75 #[.pointer (some ⟨d,0,none⟩),.int .i64 n,.int .i64 m,.int .i64 af] w λe w'=>∃y Y',e=.returned (.int .i64 y)/\YMov Y n m af y Y'/\RY w' d Y' (cV F w)/\Fr w w' F:=by
 refine(LE w d Y.T Y.made Y.M Y.shn Y.rs F n m af h).mono ?_;rintro e w' ⟨y,T',he,h1,h2,h3⟩;exact⟨y,⟨T',Y.made,Y.M,Y.shn,Y.rs⟩,he,⟨h1,rfl,rfl,rfl,rfl⟩,h2,h3⟩
end
def R7 (Q:fu->YS->List Nat->YS->List Nat->Prop)(X:YS)(st:List Nat)(K:gK)(an af:Int)(aj:ByteArray)(X':YS)(cN:List Nat)(K':gK):Prop:=
 ∃y n,YIns X an af aj y X' n/\Q (.ins an y) X st X' cN/\((y≠0/\K'=K)∨(y=0/\K'.lm=dN K.lm X.made/\K'.ly=kR X'.T an (dN K.ly X.made)/\K'.ls=K.ls/\K'.cnt=-1/\K'.held=false))
theorem zA {PS:World->Value->YS->List Nat->(Nat->Prop)->Prop}{Q:fu->YS->List Nat->YS->List Nat->Prop}(hP:cP PS Q)(w:World)(b:Nat)(X:YS)(st:List Nat)(pa:Addr)(d:Nat)(K:gK)(G Fp Fx Fy:Nat->Prop)
  (h:PJ2 PS w b X st X (.pointer (some pa)) d K Fp Fx Fy) (hG:∀k,Fp k∨Fx k∨Fy k->G k) (Ag:∀k,G k->k<w.heap.size) (lH:s9 X.T K) (nA:X.made<=1099511627776) (kd af xx yy zz:Int) (S Tt:ByteArray) (on:Bool) :
  Calls prog 37 #[.pointer (some ⟨b,0,none⟩),.agg #[.int .i64 kd,.int .i64 af,.int .i64 xx,.int .i64 yy,.int .i64 zz,.string S,.string Tt,.bool on]] w λe w'=>TurnPost2 PS w G b (.pointer (some pa)) d (R7 Q X st K xx yy Tt) e w':=by
 have HP:=aw hP;have HW:=bZ h.rs.tw lH;have HG:=aw Ag;have H0:Hid (PQ2 PS (w.alloc (aR kd af xx yy zz S Tt on)) G (w.alloc (aR kd af xx yy zz S Tt on)).drew b X st X (.pointer (some pa)) d K):=(PQ2.alloc hP h hG _).drew hP;clear h hP lH hG Ag;obtain⟨XU,d9,D6⟩:=H0.out.prog HP.out;have C6:=aw d9;have C4:=aw D6;clear d9 D6
 have HC:Hid (∀(wx:World) X1 bE Y1,PQ2 PS (w.alloc (aR kd af xx yy zz S Tt on)) G wx b X1 bE Y1 (.pointer (some pa)) d K->wx.cell? ⟨b,0,none⟩=some (.pointer (some pa))/\wx.cell? ⟨b,1,none⟩=some (.pointer (some ⟨d,0,none⟩))/\wx.cell? ⟨w.heap.size,2,none⟩=some (.int .i64 xx)/\wx.cell? ⟨w.heap.size,3,none⟩=some (.int .i64 yy)/\wx.cell? ⟨w.heap.size,6,none⟩=some (.string Tt)):=λwx X1 bE Y1 hq=>
  ⟨au hq.pb.blk rfl,au hq.pb.blk rfl,au (hq.op HG.out) rfl,au (hq.op HG.out) rfl,au (hq.op HG.out) rfl⟩
 go_enter func37,ntmps37;go_upto_region 1 with fail
 go_cut [5,6] (λnv yv wx=>∃(y n:Int) (X1:YS) (bE:List Nat),nv=.int .i64 n/\yv=.int .i64 y/\Hid (YIns X xx yy Tt y X1 n/\Q (.ins xx y) X st X1 bE/\PQ2 PS (w.alloc (aR kd af xx yy zz S Tt on)) G wx b X1 bE X (.pointer (some pa)) d K))
 case first=>
  go_region_held3 (λw'=>w'.cell? ⟨b,0,none⟩=some (.pointer (some pa))/\w'.cell? ⟨b,1,none⟩=some (.pointer (some ⟨d,0,none⟩))/\w'.cell? ⟨w.heap.size,2,none⟩=some (.int .i64 xx)/\w'.cell? ⟨w.heap.size,3,none⟩=some (.int .i64 yy)/\w'.cell? ⟨w.heap.size,6,none⟩=some (.string Tt)) (first | exact HC.out _ _ _ _ H0.out | exact HC.out _ _ _ _ HT.out.2.2)
   (first | (go_at_call 67;refine(HP.out.ins _ (.pointer (some pa)) X st XU xx yy Tt C6.out nA).mono ?_;rintro e w1 ⟨y,X1,bE,n,rfl,hT,hq,qD,fF⟩;have HT:Hid (YIns X xx yy Tt y X1 n/\Q (.ins xx y) X st X1 bE/\PQ2 PS (w.alloc (aR kd af xx yy zz S Tt on)) G w1 b X1 bE X (.pointer (some pa)) d K):=⟨hT,hq,C4.out w1 X1 bE qD fF⟩))
  all_goals
   go_wp2_with fail;go_meet;exact⟨y,n,X1,bE,rfl,rfl,HT⟩
 case rest=>
  obtain⟨y,n,X1,bE,rfl,rfl,HT⟩:=hcut;obtain⟨Fy2,hrs2,hny2⟩:=(HT.out.2.2.drew HP.out).ref HP.out;have C7:=aw hrs2;have C5:=aw hny2;have iL:=aw (HT.out.2.2.drew HP.out);clear hrs2 hny2 H0 C6 C4;go_upto_region 2 with fail
  go_cut [7,8] (λnv yv wx=>nv=.int .i64 n/\yv=.int .i64 y/\Hid (PQ2 PS (w.alloc (aR kd af xx yy zz S Tt on)) G wx b X1 bE X1 (.pointer (some pa)) d K))
  case first=>
   go_region_held3 (λw'=>w'.cell? ⟨b,0,none⟩=some (.pointer (some pa))/\w'.cell? ⟨b,1,none⟩=some (.pointer (some ⟨d,0,none⟩))/\w'.cell? ⟨w.heap.size,2,none⟩=some (.int .i64 xx)/\w'.cell? ⟨w.heap.size,3,none⟩=some (.int .i64 yy)/\w'.cell? ⟨w.heap.size,6,none⟩=some (.string Tt)) (first | exact HC.out _ _ _ _ iL.out | exact HC.out _ _ _ _ jI.out)
    (first | (go_at_call 68;refine(LG C7.out nA xx yy Tt).mono ?_;rintro e w1 ⟨y',Y1,n',rfl,OR,CR,fF⟩;obtain⟨rfl,rfl,rfl⟩:=HT.out.1.one OR;have jI:Hid (PQ2 PS (w.alloc (aR kd af xx yy zz S Tt on)) G w1 b X1 bE X1 (.pointer (some pa)) d K):=C5.out w1 X1 CR fF))
   all_goals
    go_wp2_with fail;go_meet;exact⟨rfl,rfl,jI⟩
  case rest=>
   obtain⟨rfl,rfl,HQ⟩:=hcut;clear iL C7 C5;go_wp2_with fail;refine(bQ _ y).mono ?_;rintro e w5 ⟨rfl,rfl⟩;obtain⟨wd,rfl⟩:∃wd,wd=w5:=⟨_,rfl⟩
   by_cases hy:y=0
   ·subst hy;have HI:=bZ HT.out.1 HT.out.2.1;obtain⟨hu0,hn,hm,p,k,hu1,hu2,⟨l,hl,hu3⟩,UC⟩:=HT.out.1.1.2.resolve_left (λx=>x.1 rfl)
    have HL:Hid (LT X1.T (dN K.lm X.made)/\LT X1.T (dN K.ly X.made)/\K.lm.length<=24/\K.ly.length<=24/\n=X.made):=by
     have jZ:(X.made,[])∈X1.T:=by rw[UC];exact cQ.2 (az rfl)
     have aaU:LT X1.T K.lm:=by rw[UC];exact HW.out.2.1.ins p k X.made
     have aaV:LT X1.T K.ly:=by rw[UC];exact HW.out.2.2.ins p k X.made
     have SO:=HQ.out.few;have h1:=aaU.len;have h2:=aaV.len;exact⟨aaU.with jZ,aaV.with jZ,by omega,by omega,hn⟩
    clear hu0 hm hu1 hu2 hu3 hl UC HT;subst hn;have KQ:K.lm.length<=24:=HL.out.2.2.1;have tQ:K.ly.length<=24:=HL.out.2.2.2.1;obtain⟨am,cm,yV⟩:=aK HQ.out.must;obtain⟨ay,cy,hvy⟩:=aK HQ.out.may;have dy:=HQ.out.must;rw[yV] at dy;have b2:wd.cell? ⟨b,2,none⟩=some (.slice am K.lm.length cm):=by rw[<-yV];exact au HQ.out.pb.blk rfl
    go_wp2_with fail;refine(sZ wd am cm K.lm X.made dy KQ).mono ?_;rintro e W3 ⟨a3,c3,rfl,bH,lu,iP⟩;have sH:=(lu.block b (bG.1 HQ.out.pb.blk).1).trans HQ.out.pb.blk;have e2:W3.cell? ⟨b,2,none⟩=some (.slice am K.lm.length cm):=by rw[<-yV];exact au sH rfl
    have ez:∀k,W3.frozen? ⟨b,k,none⟩=false:=λ_=>aH sH;have oV:Hid (PQ2 PS (w.alloc (aR kd af xx yy zz S Tt on)) G (W3.setCell ⟨b,2,none⟩ (.slice a3 (dN K.lm X.made).length c3)) b X1 bE X1 (.pointer (some pa)) d {K with vm:=.slice a3 (dN K.lm X.made).length c3,lm:=dN K.lm X.made}):=HQ.out.setMust HP.out lu bH (λj hj=>by rw[yV];exact iP.out j hj);clear bH lu iP sH b2 HQ dy yV;go_upto_region 7 with fail;obtain⟨W4,DU⟩:∃W4,W4=W3.setCell ⟨b,2,none⟩ (.slice a3 (dN K.lm X.made).length c3):=⟨_,rfl⟩;rw[<-DU] at oV ⊢;clear DU e2 ez;have Ew:=oV.out.may;have zn:K.vy=.slice ay K.ly.length cy:=hvy;have Ex:W4.ownsRow 0 3 1 (.slice ay K.ly.length cy) K.ly.length (bq K.ly):=by rw[<-zn];exact Ew
    have b3:W4.cell? ⟨b,3,none⟩=some (.slice ay K.ly.length cy):=by rw[<-zn];exact au oV.out.pb.blk rfl
    go_wp2_with fail;refine(sZ W4 ay cy K.ly X.made Ex tQ).mono ?_;rintro e W5 ⟨a5,c5,rfl,cf,zd,qJ⟩;have MQ:=(zd.block b (bG.1 oV.out.pb.blk).1).trans oV.out.pb.blk;have e3:W5.cell? ⟨b,3,none⟩=some (.slice ay K.ly.length cy):=by rw[<-zn];exact au MQ rfl
    have ez:∀k,W5.frozen? ⟨b,k,none⟩=false:=λ_=>aH MQ;have Iq:Hid (PQ2 PS (w.alloc (aR kd af xx yy zz S Tt on)) G (W5.setCell ⟨b,3,none⟩ (.slice a5 (dN K.ly X.made).length c5)) b X1 bE X1 (.pointer (some pa)) d {K with vm:=.slice a3 (dN K.lm X.made).length c3,lm:=dN K.lm X.made,vy:=.slice a5 (dN K.ly X.made).length c5,ly:=dN K.ly X.made}):=oV.out.setMay HP.out zd cf (λj hj=>by show K.vy.ownBlock=some j∨_;rw[zn];exact qJ.out j hj);clear cf zd qJ MQ b3 oV Ew Ex hvy zn;go_upto_region 8 with fail;obtain⟨W6,DV⟩:∃W6,W6=W5.setCell ⟨b,3,none⟩ (.slice a5 (dN K.ly X.made).length c5):=⟨_,rfl⟩;rw[<-DV] at Iq ⊢;clear DV e3 ez;have o2:W6.cell? ⟨w.heap.size,2,none⟩=some (.int .i64 xx):=au (Iq.out.op HG.out) rfl;go_wp2_with fail;refine(iF HP.out Iq.out HL.out.2.1 xx).mono ?_;rintro e W7 ⟨rfl,Xd,Aq⟩;have HE:Hid (TurnPost2 PS w G b (.pointer (some pa)) d (R7 Q X st K xx yy Tt) (.returned (.bool true)) W7):=⟨rfl,X1,bE,_,Aq.from,⟨HL.out.1,HL.out.2.1.spoil xx⟩,0,(X.made:Int),HI.out.1,HI.out.2,az ⟨rfl,rfl,rfl,rfl,rfl,rfl⟩⟩;clear Aq Iq o2;go_wp2;go_ret;exact HE.out
   ·have gy:(y==0)=false:=by simp[hy]
    have HE:Hid (TurnPost2 PS w G b (.pointer (some pa)) d (R7 Q X st K xx yy Tt) (.returned (.bool true)) wd):=by
     obtain⟨_,_,UC,yT⟩:=HT.out.1.1.2.resolve_right (λx=>hy x.1);exact⟨rfl,X1,bE,K,HQ.out.from,by rw[UC];exact HW.out.2,y,n,HT.out.1,HT.out.2.1,ax ⟨hy,rfl⟩⟩
    clear hy;go_wp2;go_ret;exact HE.out
end
end Go.Proofs.YtblfffbmklkhmabGreat
