/- Own work. -/
import Derived.Test.YtblfffbmklkhmabGreatAl1
import Derived.RegionTactic
set_option maxRecDepth 100000
set_option maxHeartbeats 40000000
namespace Go.Proofs.YtblfffbmklkhmabGreat
open Go.RowKit Go.Proofs.Tryz
section
variable {i:Nat}{s:ByteArray}
def iA (s:ByteArray)(i:Nat)(p:PPt)(j:Nat):Prop:=p=iH s i/\p.kd≠1/\(p.kd=3↔bt s i=35)/\j=i+sl s i/\(bt s i=46∨bt s i=35∨bt s i=58)/\Plain s i j/\SOK s i
def jP (s:ByteArray)(i:Nat)(p:PPt)(j:Nat):Prop:=
 p=mN s i/\if bt s i=33 then(if gN (bt s (i+1))=true then p.kd=1/\j=i+2 else iA s (i+1) ⟨false,p.kd,p.lt,p.st,p.sr⟩ j) else iA s i p j
theorem Qi (s:ByteArray)(i:Nat):(fL s i).nt=false:=by unfold fL;(repeat' split)<;>rfl
theorem JC (s:ByteArray)(i:Nat):(iH s i).nt=false:=by unfold iH;split;rfl;split;rfl;exact Qi _ _
theorem L8 {j:Nat}{nt:Bool}{kd lt st sr:Int}(h:iA s i ⟨nt,kd,lt,st,sr⟩ j):iA s i ⟨false,kd,lt,st,sr⟩ j:=by
 have h1:=JC s i;rw[<-h.1] at h1;replace h1:nt=false:=h1;subst h1;exact h
theorem A9 (h:bt s i=46∨bt s i=35):Sim s 8 i 4 (i+1)/\i<s.size:=by
 have hi:i<s.size:=nE (by omega);refine⟨eR hi ?_ (by decide) (λk=>by simp[cnt]),hi⟩;have hl:gN (bt s i)=false:=by simp only[gN,ii];omega
 simp[ct,hl,jE,h]
theorem L9 (h:bt s i=58):Sim s 8 i 5 (i+1)/\i<s.size:=by
 have hi:i<s.size:=nE (by omega);refine⟨eR hi ?_ (by decide) (λk=>by simp[cnt]),hi⟩;simp[ct,gN,jE,h]
theorem L7 (hl:gN (bt s i)=false)(h1:bt s i≠46)(h2:bt s i≠35)(h3:bt s i≠58):vU s 8 i i:=
 j5 (by decide) (by simp[ct,hl,jE,h1,h2,h3])
theorem xJ (h:gN (bt s i)=true/\i<s.size):Sim s 4 i 3 (i+1):=eR h.2 (by simp[ct,h.1,wh]) (by decide) (λk=>by simp[cnt])
theorem AC (h:gN (bt s i)=false):vU s 4 i i:=j5 (by decide) (by simp[ct,h,wh])
abbrev xT:Obj:=Obj.cells #[Value.bool false,Value.int IntKind.i64 0,Value.int IntKind.u8 0,Value.int IntKind.i64 0,Value.int IntKind.i64 0] 151
theorem pW (w:World)(b:Nat)(s:ByteArray)(i:Nat)(m:Int)(h:Rd w b s i m)(hL:gN (bt s i)=false):
  Calls prog 178 #[.pointer (some ⟨b,0,none⟩)] w λe w'=>wB 8 w b s i m iA e w':=by
 have hb:=h.lt;have c1:=h.c1;have f1:=h.fr 1;have qU:=h.le;have xC:=h.top;have HL:=aw hL;clear hL;go_enter func178,ntmps178;go_wp2_with fail;refine(kG _ b s i m (by exact h.alloc _)).mono ?_;rintro e w1 ⟨rfl,n1,rfl⟩
 by_cases k1:bt s i=46
 ·have g1:((bt s i:Int)==46)=true:=by simp[k1]
  have K1:=aw k1;clear k1;have hp:=A9 (ax K1.out);have HP:=aw hp.1;have bc:=hp.2;clear hp;go_wp2_with fail;have ha:=((h.at0.alloc xT).drewN n1).setAt (j:=i+1) (v:=(i:Int)+1) (by omega) (by omega);refine(pH _ b s (i+1) m 2 (by exact ha.rd)).mono ?_;rintro e w2 (⟨rfl,dK,bM⟩ | ⟨rfl,dK,bM⟩)
  ·have dY:=ha.trans dK;obtain⟨hc,hz⟩:=dK.cells w.heap.size (by simp[World.setCell]) (by omega);go_wp2_with fail;refine bodyPost_ret (v:=.tuple #[.agg #[.bool false,.int .i64 2,.int .u8 (bt s (i+1)),.int .i64 0,.int .i64 0],.bool true]) (by simp[results,Tryz.results178,go_sem,hc]) rfl (ax ⟨false,2,_,0,0,i+2,rfl,dY.set5 hb aF _ _ _ _ _,?_⟩);refine⟨HP.out.trans (xJ bM.out),bM.out.2,by unfold iH;rw[K1.out];rfl,(by show(2:Int)≠1;decide),?_,?_,?_,(Plain.one (kH (by have:=K1.out;omega))).cat (Plain.one (vJ bM.out.1)),ax ⟨by have:=K1.out;omega,bM.out.1⟩⟩
   ·have h0:=K1.out;simp[h0]
   ·have:=K1.out;simp only[sl];rw[aA (by omega)]
   ·have:=K1.out;omega
  ·have dY:=ha.trans dK;obtain⟨hc,hz⟩:=dK.cells w.heap.size (by simp[World.setCell]) (by omega);go_wp2_with fail;refine bodyPost_ret (v:=.tuple #[.agg #[.bool false,.int .i64 2,.int .u8 0,.int .i64 0,.int .i64 0],.bool false]) (by simp[results,Tryz.results178,go_sem,hc]) rfl (az ⟨false,2,0,0,0,i+1,rfl,dY.set5 hb aF _ _ _ _ _,HP.out.bad (AC bM.out)⟩)
 have g1:((bt s i:Int)==46)=false:=by simp;omega
 by_cases k2:bt s i=35
 ·have g2:((bt s i:Int)==35)=true:=by simp[k2]
  have K1:=aw k2;clear k1 k2;have hp:=A9 (az K1.out);have HP:=aw hp.1;have bc:=hp.2;clear hp;go_wp2_with fail;have ha:=((h.at0.alloc xT).drewN n1).setAt (j:=i+1) (v:=(i:Int)+1) (by omega) (by omega);refine(pH _ b s (i+1) m 3 (by exact ha.rd)).mono ?_;rintro e w2 (⟨rfl,dK,bM⟩ | ⟨rfl,dK,bM⟩)
  ·have dY:=ha.trans dK;obtain⟨hc,hz⟩:=dK.cells w.heap.size (by simp[World.setCell]) (by omega);go_wp2_with fail;refine bodyPost_ret (v:=.tuple #[.agg #[.bool false,.int .i64 3,.int .u8 (bt s (i+1)),.int .i64 0,.int .i64 0],.bool true]) (by simp[results,Tryz.results178,go_sem,hc]) rfl (ax ⟨false,3,_,0,0,i+2,rfl,dY.set5 hb aF _ _ _ _ _,?_⟩);refine⟨HP.out.trans (xJ bM.out),bM.out.2,by unfold iH;rw[K1.out];rfl,(by show(3:Int)≠1;decide),?_,?_,?_,(Plain.one (kH (by have:=K1.out;omega))).cat (Plain.one (vJ bM.out.1)),ax ⟨by have:=K1.out;omega,bM.out.1⟩⟩
   ·have h0:=K1.out;simp[h0]
   ·have:=K1.out;simp only[sl];rw[aA (by omega)]
   ·have:=K1.out;omega
  ·have dY:=ha.trans dK;obtain⟨hc,hz⟩:=dK.cells w.heap.size (by simp[World.setCell]) (by omega);go_wp2_with fail;refine bodyPost_ret (v:=.tuple #[.agg #[.bool false,.int .i64 3,.int .u8 0,.int .i64 0,.int .i64 0],.bool false]) (by simp[results,Tryz.results178,go_sem,hc]) rfl (az ⟨false,3,0,0,0,i+1,rfl,dY.set5 hb aF _ _ _ _ _,HP.out.bad (AC bM.out)⟩)
 have g2:((bt s i:Int)==35)=false:=by simp;omega
 by_cases k3:bt s i=58
 ·have g3:((bt s i:Int)==58)=true:=by simp[k3]
  have K1:=aw k3;clear k1 k2 k3;have hp:=L9 K1.out;have HP:=aw hp.1;have bc:=hp.2;clear hp;go_wp2_with fail;have ha:=((h.at0.alloc xT).drewN n1).setAt (j:=i+1) (v:=(i:Int)+1) (by omega) (by omega);refine(zu _ b s (i+1) m (by exact ha.rd)).mono ?_;rintro e w2 (⟨nt,kd,lt,st,sr,j,rfl,dK,bM⟩ | ⟨nt,kd,lt,st,sr,j,rfl,dK,bM⟩)
  ·have dY:=ha.trans dK;obtain⟨hc,hz⟩:=dK.cells w.heap.size (by simp[World.setCell]) (by omega);go_wp2_with fail;refine bodyPost_ret (v:=.tuple #[.agg #[.bool nt,.int .i64 kd,.int .u8 lt,.int .i64 st,.int .i64 sr],.bool true]) (by simp[results,Tryz.results178,go_sem,hc]) rfl (ax ⟨nt,kd,lt,st,sr,j,rfl,dY.set5 hb aF _ _ _ _ _,?_⟩);obtain⟨q1,q2,q0,q3,q4,q5,q6,q7⟩:=bM.out;replace q3:(4:Int)<=kd:=q3;refine⟨HP.out.trans q1,q2,by rw[q0];unfold iH;rw[K1.out];rfl,by show kd≠1;omega,?_,?_,?_,(Plain.one (kH (by have:=K1.out;omega))).cat q6,az ⟨K1.out,q7⟩⟩
   ·have:=K1.out;show kd=3↔_;omega
   ·have:=K1.out;simp only[sl,this,true_and];rw[q5];split<;>omega
   ·have:=K1.out;omega
  ·have dY:=ha.trans dK;obtain⟨hc,hz⟩:=dK.cells w.heap.size (by simp[World.setCell]) (by omega);go_wp2_with fail;refine bodyPost_ret (v:=.tuple #[.agg #[.bool nt,.int .i64 kd,.int .u8 lt,.int .i64 st,.int .i64 sr],.bool false]) (by simp[results,Tryz.results178,go_sem,hc]) rfl (az ⟨nt,kd,lt,st,sr,j,rfl,dY.set5 hb aF _ _ _ _ _,HP.out.bad bM.out⟩)
 ·have g3:((bt s i:Int)==58)=false:=by simp;omega
  have HB:=aw (L7 HL.out k1 k2 k3);clear k1 k2 k3;go_wp2_with fail;refine bodyPost_ret (v:=.tuple #[.agg #[.bool false,.int .i64 0,.int .u8 0,.int .i64 0,.int .i64 0],.bool false]) (by simp[results,Tryz.results178,go_sem]) rfl (az ⟨false,0,0,0,0,i,rfl,(((h.at0.alloc _).drewN _).set5 hb aF _ _ _ _ _),HB.out⟩)
theorem xU (h:bt s i=33)(hi:i<s.size):Sim s 3 i 8 (i+1):=
 eR hi (by simp[ct,jg,h]) (by decide) (λk=>by simp[cnt,jf,h])
theorem Tu (hA:oX (bt s i)=true)(h:bt s i≠33):Sim s 3 i 8 i/\gN (bt s i)=false:=by
 simp only[oX,bO] at hA;have hl:gN (bt s i)=false:=by simp only[gN,ii];omega
 have hs:jf (bt s i)=false:=by simp only[jf,ii];omega
 have h1:¬bt s i=44:=by omega
 have h2:¬bt s i=123:=by omega
 exact⟨nP (by decide) (by decide) (by simp[ct,jg,hl,hs,h,h1,h2]) (λk=>by simp[cnt,hs,h1]),hl⟩
theorem PM (h:gN (bt s i)=true/\i<s.size):Sim s 8 i 3 (i+1):=eR h.2 (by simp[ct,h.1]) (by decide) (λk=>by simp[cnt])
theorem P9 (w:World)(b:Nat)(s:ByteArray)(i:Nat)(m:Int)(h:Rd w b s i m)(hA:oX (bt s i)=true):
  Calls prog 174 #[.pointer (some ⟨b,0,none⟩)] w λe w'=>wB 3 w b s i m jP e w':=by
 have hb:=h.lt;have HA:=aw hA;clear hA;go_enter func174,ntmps174;go_wp2_with fail;refine(jk _ b s i m 33 (by exact h.alloc _) (by decide)).mono ?_;rintro e w1 (⟨rfl,ha,hf⟩ | ⟨rfl,ha,hf⟩)
 ·have gA:=ha.size;simp only[World.size_alloc] at gA;go_wp2_with fail;refine(qZ _ b s (i+1) m (by exact ha.rd)).mono ?_;rintro e w2 (⟨rfl,dK,bM⟩ | ⟨rfl,dK,bM⟩)
  ·have dY:=ha.trans dK;obtain⟨hc,hz⟩:=dY.cells w.heap.size (by simp) (by omega);go_wp2_with fail;refine bodyPost_ret (v:=.tuple #[.agg #[.bool true,.int .i64 1,.int .u8 (bt s (i+1)),.int .i64 0,.int .i64 0],.bool true]) (by simp[results,Tryz.results174,go_sem,hc]) rfl (ax ⟨true,1,_,0,0,i+2,rfl,dY.ofAlloc.set5 hb aF _ _ _ _ _,?_⟩);have hq:bt s i=33:=by have:=hf.out.1;omega
   refine⟨(xU hq hf.out.2).trans (PM bM.out),bM.out.2,?_⟩;exact⟨by unfold mN;rw[aE hq,aE bM.out.1],by rw[aE hq,aE bM.out.1];exact⟨rfl,rfl⟩⟩
  ·have dY:=ha.trans dK;have nX:=dY.size;simp only[World.size_alloc] at nX;go_wp2_with fail;refine(pW _ b s (i+1) m (by exact dK.rd) bM.out).mono ?_;have hq:bt s i=33:=by have:=hf.out.1;omega
   have HQ:=aw hq;clear hq;rintro e w3 (⟨nt,kd,lt,st,sr,j,rfl,jL,ju⟩ | ⟨nt,kd,lt,st,sr,j,rfl,jL,ju⟩)
   ·have pn:=dY.trans jL;have G4:w.heap.size<w3.heap.size:=by have:=pn.size;simp only[World.size_alloc] at this;omega
    obtain⟨hc,hz⟩:=pn.cells w.heap.size (by simp) (by omega);go_wp2_with fail;refine bodyPost_ret (v:=.tuple #[.agg #[.bool true,.int .i64 kd,.int .u8 lt,.int .i64 st,.int .i64 sr],.bool true]) (by simp[results,Tryz.results174,go_sem,hc,G4]) rfl (ax ⟨true,kd,lt,st,sr,j,rfl,(pn.ofAlloc.set5 hb aF _ _ _ _ _).alloc _,?_⟩);exact⟨(xU HQ.out hf.out.2).trans ju.out.1,ju.out.2.1,⟨by unfold mN;rw[aE HQ.out,aA (by rw[bM.out];simp),<-ju.out.2.2.1];rfl,by rw[aE HQ.out,aA (by rw[bM.out];simp)];exact L8 ju.out.2.2⟩⟩
   ·have pn:=dY.trans jL;have G4:w.heap.size<w3.heap.size:=by have:=pn.size;simp only[World.size_alloc] at this;omega
    obtain⟨hc,hz⟩:=pn.cells w.heap.size (by simp) (by omega);go_wp2_with fail;exact bodyPost_ret (v:=.tuple #[.agg #[.bool true,.int .i64 kd,.int .u8 lt,.int .i64 st,.int .i64 sr],.bool false]) (by simp[results,Tryz.results174,go_sem,hc,G4]) rfl (az ⟨true,kd,lt,st,sr,j,rfl,(pn.ofAlloc.set5 hb aF _ _ _ _ _).alloc _,(xU HQ.out hf.out.2).bad ju.out⟩)
 ·have hn:bt s i≠33:=by have:=hf.out;omega
  obtain⟨q1,q2⟩:=Tu HA.out hn;have HQ:=bZ q1 hn;clear q1 hn;go_wp2_with fail;refine(pW _ b s i m (by exact ha.rd) q2).mono ?_;rintro e w2 (⟨nt,kd,lt,st,sr,j,rfl,dK,bM⟩ | ⟨nt,kd,lt,st,sr,j,rfl,dK,bM⟩)
  ·have dY:=ha.trans dK;obtain⟨hc,hz⟩:=dY.cells w.heap.size (by simp) (by omega);go_wp2_with fail;refine bodyPost_ret (v:=.tuple #[.agg #[.bool nt,.int .i64 kd,.int .u8 lt,.int .i64 st,.int .i64 sr],.bool true]) (by simp[results,Tryz.results174,go_sem,hc]) rfl (ax ⟨nt,kd,lt,st,sr,j,rfl,dY.ofAlloc.set5 hb aF _ _ _ _ _,?_⟩);exact⟨HQ.out.1.trans bM.out.1,bM.out.2.1,⟨by unfold mN;rw[aA HQ.out.2];exact bM.out.2.2.1,by rw[aA HQ.out.2];exact bM.out.2.2⟩⟩
  ·have dY:=ha.trans dK;obtain⟨hc,hz⟩:=dY.cells w.heap.size (by simp) (by omega);go_wp2_with fail;refine bodyPost_ret (v:=.tuple #[.agg #[.bool nt,.int .i64 kd,.int .u8 lt,.int .i64 st,.int .i64 sr],.bool false]) (by simp[results,Tryz.results174,go_sem,hc]) rfl (az ⟨nt,kd,lt,st,sr,j,rfl,dY.ofAlloc.set5 hb aF _ _ _ _ _,HQ.out.1.bad bM.out⟩)
end
section
variable {b aB i j n size:Nat}{e:TypeId}{kd:PPt}{ks:List PPt}{m:Int}{s:ByteArray}{v:Value}{w:World}{xs:List Value}
theorem Tryz.info151:(Tryz.prog.info? 151).map (λi=>(i.zero,i.size,i.bytes))=some (some (.agg #[.bool false,.int .i64 0,.int .u8 0,.int .i64 0,.int .i64 0]),5,40):=by kernel_rfl
def Kinds:List Value->List PPt->Prop
 | xs,[]=>xs=[]
 | xs,p :: ks=>∃ys,xs=.bool p.nt :: .int .i64 p.kd :: .int .u8 p.lt :: .int .i64 p.st :: .int .i64 p.sr :: ys/\Kinds ys ks
theorem Kinds.snoc (h:Kinds xs ks)(nt:Bool)(kd lt st sr:Int):Kinds (xs++[.bool nt,.int .i64 kd,.int .u8 lt,.int .i64 st,.int .i64 sr]) (ks++[⟨nt,kd,lt,st,sr⟩]):=by
 induction ks generalizing xs with
 | nil=>simp only[Kinds] at h;subst h;exact⟨[],rfl,rfl⟩
 | cons k ks ih=>
  obtain⟨ys,rfl,hy⟩:=h;exact⟨_,rfl,ih hy⟩
def PartsAt (s:ByteArray):Nat->Nat->List PPt->Prop
 | i,j,[]=>i=j
 | i,j,kd :: ks=>oX (bt s i)=true/\∃l,jP s i kd l/\PartsAt s l j ks
theorem PartsAt.snoc {l:Nat}(h:PartsAt s i j ks)(ha:oX (bt s j)=true)(hg:jP s j kd l):PartsAt s i l (ks++[kd]):=by
 induction ks generalizing i with
 | nil=>simp only[PartsAt] at h;subst h;exact⟨ha,l,hg,rfl⟩
 | cons k ks ih=>
  obtain⟨h1,l',h2,h3⟩:=h;exact⟨h1,l',h2,ih h3⟩
theorem lb (h0:jP s i kd j):i<j:=by
 have h:=h0.2;have h1:∀n,2<=sl s n:=by intro n;unfold sl;split<;>omega
 unfold iA at h;have:=h1 i;have:=h1 (i+1);split at h
 ·split at h<;>omega
 ·omega
structure Db (w:World)(b:Nat)(s:ByteArray)(i:Nat)(m:Int)(gk:Nat)(v:Value)(wr:World)(j:Nat)(ks:List PPt)(xs:List Value):Prop where
 at':At w wr b s j m
 own:wr.ownsRow w.heap.size 151 5 v ks.length xs
 kinds:Kinds xs ks
 sim:Sim s 3 i 3 j
 le:i<=j
 few:ks.length<=j - i
 parts:PartsAt s i j ks
 gk:s.size - j<=gk
def J7 (w:World)(b:Nat)(s:ByteArray)(i:Nat)(m:Int)(e:Ending)(w':World):Prop:=
 (∃(a:Option Addr) (c:Nat) (ks:List PPt) (xs:List Value) (j:Nat),e=.returned (.tuple #[.slice a ks.length c,.bool true])/\At w w' b s j m/\w'.ownsRow w.heap.size 151 5 (.slice a ks.length c) ks.length xs/\
  Hid (Kinds xs ks/\Sim s 3 i 3 j/\i<=j/\oX (bt s j)=false/\PartsAt s i j ks))∨
 (∃j,e=.returned (.tuple #[.slice none 0 0,.bool false])/\At w w' b s j m/\Hid (vU s 3 i j/\oX (bt s i)=true))
theorem aK (h:w.ownsRow aB e size v n xs):∃a c,v=.slice a n c:=by
 rcases h.2 with⟨rfl,rfl⟩ | ⟨g,ij,gu,rfl,_⟩
 ·exact⟨none,0,rfl⟩
 ·exact⟨_,_,rfl⟩
theorem At.owns {w1:World}(h:At w w1 b s j m)(ho:w.ownsRow aB e size v n xs)(hb:b<aB):w1.ownsRow aB e size v n xs:=by
 refine ho.kept h.gb ?_;cases hv:v.ownBlock with
 | none=>exact ax rfl
 | some g=>right;intro e;injection e with e;have:=(ho.lt g hv).1;omega
theorem bg (w:World)(B:Nat)(hB:B=w.heap.size)(cs:Array Value)(t:TypeId)(l:List Value)(hl:cs.toList=l):
  ∀j u,l[j]?=some u->(w.alloc (.cells cs t)).cell? ((⟨B,0,none⟩:Addr).add j)=some u:=by
 intro j u hu;subst hB hl;have adJ:(⟨w.heap.size,0,none⟩:Addr).add j=⟨w.heap.size,j,none⟩:=by unfold Addr.add;split<;>simp_all
 rw[adJ,cell_of_row _ _ _ cs t (0,0) (heap_alloc_new w _)];simpa using hu
theorem aeP (a:Bool)(b c d e:Int):∀u∈[Value.bool a,Value.int .i64 b,Value.int .u8 c,Value.int .i64 d,Value.int .i64 e],u.oneCell'=true:=by
 intro u hu;simp only[List.mem_cons,List.not_mem_nil,or_false] at hu;rcases hu with rfl | rfl | rfl | rfl | rfl<;>rfl
theorem At.app {w2 w3:World}(h:At w w2 b s j m)(hb:b<w.heap.size)
  (ho:w2.ownsRow w.heap.size e size v n xs) (hg:w2.grownBy w3 v.ownBlock):At w w3 b s j m:=by
 have fG:∀k,k<w.heap.size->some k≠v.ownBlock:=by
  intro k hk e;have:=(ho.lt k e.symm).1;omega
 refine⟨⟨(hg.block b h.rd.lt (fG b hb)).trans h.rd.blk,h.rd.le,h.rd.top,h.rd.lo,h.rd.hi⟩,?_⟩
 exact⟨hg.os.trans h.gb.os,hg.tape.trans h.gb.tape,hg.output.trans h.gb.output,Nat.le_trans h.gb.size hg.size,
  λk hk hn=>(hg.block k (Nat.lt_of_lt_of_le hk h.gb.size) (fG k hk)).trans (h.gb.block k hk hn)⟩
theorem EA (h:PartsAt s i j ks)(hA:oX (bt s j)=true):oX (bt s i)=true:=by
 cases ks with
 | nil=>simp only[PartsAt] at h;subst h;exact hA
 | cons k ks=>exact h.1
theorem tZ (w:World)(b:Nat)(s:ByteArray)(i:Nat)(m:Int)(h:Rd w b s i m):
  Calls prog 166 #[.pointer (some ⟨b,0,none⟩)] w λe w'=>J7 w b s i m e w':=by
 have hb:=h.lt;have xC:=h.top;obtain⟨i0,hi,UY,gA,nX⟩:=info_parts Tryz.info151;go_enter func166,ntmps166;go_wp2_with fail
 go_loopg [4] (s.size - i) (λgk v wr=>∃j ks xs,Db w b s i m gk v wr j ks xs)
 case atStart=>exact⟨i,[],[],h.at0,eB,rfl,λ_=>rfl,aF,by simp,rfl,aF⟩
 case round=>
  obtain⟨j,ks,xs,R⟩:=hrel;have qU:=R.at'.rd.le;go_wp2_with fail;refine(zr _ b s j m (by exact R.at'.rd)).mono ?_;rintro e w1 ⟨rfl,ha⟩
  by_cases hA:oX (bt s j)=true
  ·have HA:=aw hA;rw[hA];clear hA;go_wp2_with fail;refine(P9 _ b s j m (by exact ha.rd) HA.out).mono ?_;rintro e w2 (⟨nt,kd,lt,st,sr,l,rfl,dK,bM⟩ | ⟨nt,kd,lt,st,sr,l,rfl,dK,bM⟩)
   ·have dy:=(ha.trans dK).owns R.own (by omega);have zl:=((R.at'.trans ha).trans dK).size;have bT:=R.few;go_wp2_with (at_builtin;refine wpList_append_own _ rfl (.tmp 16) (.tmp 18) 113 rfl w.heap.size 151 i0 (.agg #[.bool false,.int .i64 0,.int .u8 0,.int .i64 0,.int .i64 0]) 5 40 underlying113 hi UY gA nX rfl (by decide) _ _ _ rfl ((dy.alloc _).alloc _) ⟨w2.heap.size+1,0,none⟩ 1 1 [.bool nt,.int .i64 kd,.int .u8 lt,.int .i64 st,.int .i64 sr] rfl rfl ?c1 ?c2 ?c3 ?c4 ?c5 ?_)
    case c1=>exact bg (w2.alloc _) _ (by simp) _ _ _ rfl
    case c2=>exact aeP _ _ _ _ _
    case c3=>unfold maxLen;omega
    case c4=>omega
    case c5=>simp;omega
    ·intro v' w3 cj fB _
     have R3:Db w b s i m (s.size - l) v' w3 l (ks++[⟨nt,kd,lt,st,sr⟩]) (xs++[.bool nt,.int .i64 kd,.int .u8 lt,.int .i64 st,.int .i64 sr]):=by
      obtain⟨q1,q2,q3⟩:=bM.out;have:=lb q3;exact⟨((((R.at'.trans ha).trans dK).alloc _).alloc _).app hb ((dy.alloc _).alloc _) fB,by simpa using cj,R.kinds.snoc _ _ _ _ _,R.sim.trans q1,by have:=R.le;omega,by have:=R.few;have:=R.le;simp;omega,R.parts.snoc HA.out q3,aF⟩
     have fT:=R.gk;have FR:=lb bM.out.2.2;have B6:=bM.out.2.1;clear cj fB dy R;go_wp2;go_roundg (s.size - l)
     case measure=>omega
     case rel=>exact⟨l,_,_,R3⟩
   ·go_wp2_with fail;go_ret2;exact az ⟨l,rfl,((R.at'.trans ha).trans dK).alloc _,R.sim.bad bM.out,EA R.parts HA.out⟩
  ·have hAf:oX (bt s j)=false:=by simpa using hA
   rw[hAf];have HA:=aw hAf;clear hA hAf;obtain⟨a,c,hv⟩:=aK R.own;have R2:=R;rw[hv] at R2;rw[hv];go_wp2;go_ret2;exact ax ⟨a,c,ks,xs,j,rfl,R2.at'.trans ha,ha.owns R2.own hb,R2.kinds,R2.sim,R2.le,HA.out,R2.parts⟩
end
section
variable {B b aB i j n size:Nat}{e:TypeId}{ks:List PPt}{m:Int}{s:ByteArray}{v:Value}{w w1:World}{xs:List Value}
def fp (s:ByteArray)(i j:Nat)(ty:Nat)(ks:List PPt):Prop:=
 (gN (bt s i)=true/\ty=bt s i/\PartsAt s (i+1) j ks)∨(gN (bt s i)=false/\bt s i=42/\ty=0/\PartsAt s (i+1) j ks)∨
 (gN (bt s i)=false/\bt s i≠42/\ty=0/\PartsAt s i j ks/\ks≠[])
def CW (w:World)(b:Nat)(s:ByteArray)(i:Nat)(m:Int)(e:Ending)(w':World):Prop:=
 (∃(ty:Nat) (a:Option Addr) (c:Nat) (ks:List PPt) (xs:List Value) (j:Nat),e=.returned (.tuple #[.agg #[.int .u8 0,.int .u8 ty,.slice a ks.length c],.bool true])/\At w w' b s j m/\w'.ownsRow w.heap.size 151 5 (.slice a ks.length c) ks.length xs/\
  Hid (Kinds xs ks/\Sim s 2 i 3 j/\i<j/\oX (bt s j)=false/\fp s i j ty ks))∨
 (∃j,e=.returned (.tuple #[.agg #[.int .u8 0,.int .u8 0,.slice none 0 0],.bool false])/\At w w' b s j m/\Hid (vU s 2 i j))
theorem ba {jd:Nat}(h:w.ownsRow aB e size v n xs)(hb:jd<=aB):w.ownsRow jd e size v n xs:=by
 refine⟨h.1,?_⟩;rcases h.2 with hn | ⟨g,ij,gu,hv,hg,rest⟩
 ·exact ax hn
 ·exact az ⟨g,ij,gu,hv,by omega,rest⟩
theorem At.set3 (h:At w w1 b s j m)(hb:b<w.heap.size)(hB:w.heap.size<=B)(v0 v1 v2:Value):
  At w (((w1.setCell ⟨B,0,none⟩ v0).setCell ⟨B,1,none⟩ v1).setCell ⟨B,2,none⟩ v2) b s j m:=
 ((h.setNew hb hB _).setNew hb hB _).setNew hb hB _
theorem xQ (h:w.ownsRow aB e size v n xs)(hB:B<aB)(v0 v1 v2:Value):
  (((w.setCell ⟨B,0,none⟩ v0).setCell ⟨B,1,none⟩ v1).setCell ⟨B,2,none⟩ v2).ownsRow aB e size v n xs:=
 ownsRow_setCell_below (ownsRow_setCell_below (ownsRow_setCell_below h (by exact hB) _) (by exact hB) _) (by exact hB) _
theorem p7 (h:gN (bt s i)=true∨bt s i=42)(hi:i<s.size):Sim s 2 i 3 (i+1):=
 eR hi (by simp[ct,jY,h]) (by decide) (λk=>by simp[cnt])
theorem zY (hl:gN (bt s i)=false)(td:bt s i≠42)(hA:oX (bt s i)=true):Sim s 2 i 3 i:=by
 simp only[oX,bO] at hA;have hs:jf (bt s i)=false:=by simp only[jf,ii];omega
 have h1:¬bt s i=44:=by omega
 have h2:¬bt s i=123:=by omega
 exact nP (by decide) (by decide) (by simp[ct,jY,jg,hl,hs,td,h1,h2]) (λk=>by simp[cnt,hs,h1])
theorem SK (hl:gN (bt s i)=false)(td:bt s i≠42)(hA:oX (bt s i)=false):vU s 2 i i:=by
 simp only[oX,ii] at hA;have h1:¬bt s i=33:=by omega
 have h2:¬bt s i=46:=by omega
 have h3:¬bt s i=35:=by omega
 have h4:¬bt s i=58:=by omega
 exact j5 (by decide) (by simp[ct,jY,jE,hl,td,h1,h2,h3,h4])
theorem pK (h:PartsAt s i j ks):i<=j/\(ks≠[]->i<j):=by
 induction ks generalizing i with
 | nil=>simp only[PartsAt] at h;exact⟨by omega,λe=>absurd rfl e⟩
 | cons k ks ih=>
  obtain⟨_,l,h2,h3⟩:=h;have:=lb h2;have:=(ih h3).1;exact⟨by omega,λ_=>by omega⟩
theorem qR {w2:World}{i':Nat}{ty:Nat}{a:Option Addr}{c:Nat}
  (hb:b<w.heap.size) (gA:w.heap.size<w1.heap.size) (ha:At w w1 b s i' m) (dK:At w1 w2 b s j m) (ho:w2.ownsRow w1.heap.size 151 5 (.slice a ks.length c) ks.length xs)
  (hf:Kinds xs ks/\Sim s 2 i 3 j/\i<j/\oX (bt s j)=false/\fp s i j ty ks) :
  CW w b s i m (.returned (.tuple #[.agg #[.int .u8 0,.int .u8 ty,.slice a ks.length c],.bool true])) (((w2.setCell ⟨w.heap.size,0,none⟩ (.int .u8 0)).setCell ⟨w.heap.size,1,none⟩ (.int .u8 ty)).setCell ⟨w.heap.size,2,none⟩ (.slice a ks.length c)):=
 ax ⟨ty,a,c,ks,xs,j,rfl,(ha.trans dK).set3 hb aF _ _ _,ba (xQ ho gA _ _ _) (by omega),hf⟩
theorem rT (w:World)(b:Nat)(s:ByteArray)(i:Nat)(m:Int)(h:Rd w b s i m):
  Calls prog 154 #[.pointer (some ⟨b,0,none⟩)] w λe w'=>CW w b s i m e w':=by
 have hb:=h.lt;go_enter func154,ntmps154;go_wp2_with fail;refine(qZ _ b s i m (by exact h.alloc _)).mono ?_;rintro e w1 (⟨rfl,ha,hf⟩ | ⟨rfl,ha,hf⟩)
 ·have gA:w.heap.size<w1.heap.size:=by have:=ha.size;simp only[World.size_alloc] at this;omega
  go_wp2_with fail;refine(tZ _ b s (i+1) m (by exact ha.rd)).mono ?_;rintro e w2 (⟨a,c,ks,xs,j,rfl,dK,ho,bM⟩ | ⟨j,rfl,dK,bM⟩)
  ·have dY:=ha.trans dK;obtain⟨hc,hz⟩:=dY.cells w.heap.size (by simp) (by omega);go_wp2_with fail;refine bodyPost_ret (v:=.tuple #[.agg #[.int .u8 0,.int .u8 (bt s i),.slice a ks.length c],.bool true]) (by simp[results,Tryz.results154,go_sem,hc]) rfl (qR hb gA ha.ofAlloc dK ho ?_);obtain⟨q1,q2,q3,q4,q5⟩:=bM.out;exact⟨q1,(p7 (ax hf.out.1) hf.out.2).trans q2,by omega,q4,ax ⟨hf.out.1,rfl,q5⟩⟩
  ·have dY:=ha.trans dK;obtain⟨hc,hz⟩:=dY.cells w.heap.size (by simp) (by omega);go_wp2_with fail;exact bodyPost_ret (v:=.tuple #[.agg #[.int .u8 0,.int .u8 0,.slice none 0 0],.bool false]) (by simp[results,Tryz.results154,go_sem,hc]) rfl (az ⟨j,rfl,dY.ofAlloc.set3 hb aF _ _ _,(p7 (ax hf.out.1) hf.out.2).bad bM.out.1⟩)
 ·have gA:w.heap.size<w1.heap.size:=by have:=ha.size;simp only[World.size_alloc] at this;omega
  go_wp2_with fail;refine(jk _ b s i m 42 (by exact ha.rd) (by decide)).mono ?_;rintro e w2 (⟨rfl,dK,bM⟩ | ⟨rfl,dK,bM⟩)
  ·have dY:=ha.trans dK;have nX:w.heap.size<w2.heap.size:=by have:=dY.size;simp only[World.size_alloc] at this;omega
   go_wp2_with fail;refine(tZ _ b s (i+1) m (by exact dY.rd)).mono ?_;have td:bt s i=42:=by have:=bM.out.1;omega
   have Q5:=aw td;clear td;rintro e w3 (⟨a,c,ks,xs,j,rfl,jL,ho,ju⟩ | ⟨j,rfl,jL,ju⟩)
   ·have pn:=dY.trans jL;obtain⟨hc,hz⟩:=pn.cells w.heap.size (by simp) (by omega);go_wp2_with fail;refine bodyPost_ret (v:=.tuple #[.agg #[.int .u8 0,.int .u8 0,.slice a ks.length c],.bool true]) (by simp[results,Tryz.results154,go_sem,hc]) rfl (qR (ty:=0) hb nX dY.ofAlloc jL ho ?_);obtain⟨q1,q2,q3,q4,q5⟩:=ju.out;exact⟨q1,(p7 (az Q5.out) bM.out.2).trans q2,by omega,q4,az (ax ⟨hf.out,Q5.out,rfl,q5⟩)⟩
   ·have pn:=dY.trans jL;obtain⟨hc,hz⟩:=pn.cells w.heap.size (by simp) (by omega);go_wp2_with fail;exact bodyPost_ret (v:=.tuple #[.agg #[.int .u8 0,.int .u8 0,.slice none 0 0],.bool false]) (by simp[results,Tryz.results154,go_sem,hc]) rfl (az ⟨j,rfl,pn.ofAlloc.set3 hb aF _ _ _,(p7 (az Q5.out) bM.out.2).bad ju.out.1⟩)
  ·have dY:=ha.trans dK;have nX:w.heap.size<w2.heap.size:=by have:=dY.size;simp only[World.size_alloc] at this;omega
   go_wp2_with fail;refine(tZ _ b s i m (by exact dY.rd)).mono ?_;have td:bt s i≠42:=by have:=bM.out;omega
   have Q5:=aw td;clear td;rintro e w3 (⟨a,c,ks,xs,j,rfl,jL,ho,ju⟩ | ⟨j,rfl,jL,ju⟩)
   ·have pn:=dY.trans jL;obtain⟨hc,hz⟩:=pn.cells w.heap.size (by simp) (by omega);cases ks with
    | nil=>
     go_wp2_with fail;refine bodyPost_ret (v:=.tuple #[.agg #[.int .u8 0,.int .u8 0,.slice none 0 0],.bool false]) (by simp[results,Tryz.results154,go_sem,hc]) rfl (az ⟨j,rfl,pn.ofAlloc.set3 hb aF _ _ _,?_⟩);obtain⟨q1,q2,q3,q4,q5⟩:=ju.out;simp only[PartsAt] at q5;subst q5;exact SK hf.out Q5.out q4
    | cons k ks=>
     have hk:((((k :: ks).length:Nat):Int)==0)=false:=by simp;omega
     simp only[List.length_cons] at hk;go_wp2_with fail;refine bodyPost_ret (v:=.tuple #[.agg #[.int .u8 0,.int .u8 0,.slice a (k :: ks).length c],.bool true]) (by simp[results,Tryz.results154,go_sem,hc]) rfl (qR (ty:=0) hb nX dY.ofAlloc jL ho ?_);obtain⟨q1,q2,q3,q4,q5⟩:=ju.out;exact⟨q1,(zY hf.out Q5.out q5.1).trans q2,(pK q5).2 (by simp),q4,az (az ⟨hf.out,Q5.out,rfl,q5,by simp⟩)⟩
   ·have pn:=dY.trans jL;obtain⟨hc,hz⟩:=pn.cells w.heap.size (by simp) (by omega);go_wp2_with fail;exact bodyPost_ret (v:=.tuple #[.agg #[.int .u8 0,.int .u8 0,.slice none 0 0],.bool false]) (by simp[results,Tryz.results154,go_sem,hc]) rfl (az ⟨j,rfl,pn.ofAlloc.set3 hb aF _ _ _,(zY hf.out Q5.out ju.out.2).bad ju.out.1⟩)
end
section
variable {b aB jd i j l n size:Nat}{e:TypeId}{m:Int}{s:ByteArray}{v:Value}{w w':World}{xs:List Value}
theorem Tryz.info115:(Tryz.prog.info? 115).map (λi=>(i.zero,i.size,i.bytes))=some (some (.agg #[.int .u8 0,.int .u8 0,.slice none 0 0]),3,32):=by kernel_rfl
def Keeps (w w':World)(aB:Nat)(e:TypeId):Prop:=∀g gu,aB<=g->w.heap[g]?=some (.cells gu e (0,0))->w'.heap[g]?=some (.cells gu e (0,0))
theorem Keeps.trans {a b c:World}(h:Keeps a b aB e)(k:Keeps b c aB e):Keeps a c aB e:=λg gu hg hh=>k g gu hg (h g gu hg hh)
theorem e9 {w1:World}(h:At w w1 b s j m)(hb:b<aB)(e:TypeId):Keeps w w1 aB e:=λg gu hg hh=>
 (h.gb.block g (bG.1 hh).1 (λe=>by injection e with e;omega)).trans hh
theorem cX (w:World)(o:Obj)(aB:Nat)(e:TypeId):Keeps w (w.alloc o) aB e:=λg _ _ hh=>(Below.heap_alloc w o g (bG.1 hh).1).trans hh
theorem eW (w:World){p:Addr}(hp:p.block<aB)(u:Value)(e:TypeId):Keeps w (w.setCell p u) aB e:=λg _ hg hh=>(Below.heap_setCell w p u g (by omega)).trans hh
theorem j8 {e':TypeId}(fG:e≠e')(ho:w.ownsRow jd e' size v n xs)(hg:w.grownBy w' v.ownBlock):Keeps w w' aB e:=by
 intro g gu _ hh;refine(hg.block g (bG.1 hh).1 ?_).trans hh;intro eq;rcases ho.2 with⟨rfl,_⟩ | ⟨g',ij,cur',rfl,_,FP,_⟩
 ·simp[Value.ownBlock] at eq
 ·simp[Value.ownBlock] at eq;subst eq;rw[hh] at FP;injection FP with FP
  injection FP with _ h2 _
  exact fG h2
theorem Keeps.owns (hk:Keeps w w' aB e)(h:w.ownsRow aB e size v n xs):w'.ownsRow aB e size v n xs:=by
 refine⟨h.1,?_⟩;rcases h.2 with hn | ⟨g,ij,gu,hv,hg,hh,rest⟩
 ·exact ax hn
 ·exact az ⟨g,ij,gu,hv,hg,hk g gu hg hh,rest⟩
structure eb where
 sg:Int
 ty:Nat
 ps:List PPt
def oU (s:ByteArray)(i0 i:Nat):Int:=if i=i0 then 0 else(bt s (i - 1):Int)
theorem LY (s:ByteArray)(i:Nat):oU s i i=0:=aE rfl
theorem A6 (s:ByteArray)(h:i<l+1):oU s i (l+1)=bt s l:=by
 unfold oU;rw[aA (by omega),Nat.add_sub_cancel]
def Comps (w:World)(aB:Nat):List Value->List eb->Prop
 | xs,[]=>xs=[]
 | xs,x :: cs=>∃(a:Option Addr) (c:Nat) (ps ys:List Value),xs=.int .u8 x.sg :: .int .u8 x.ty :: .slice a x.ps.length c :: ys/\w.ownsRow aB 151 5 (.slice a x.ps.length c) x.ps.length ps/\Kinds ps x.ps/\Comps w aB ys cs
theorem Comps.keep (hk:Keeps w w' aB 151):∀{xs:List Value} {cs:List eb},Comps w aB xs cs->Comps w' aB xs cs
 | _,[],h=>h
 | _,_ :: _,⟨a,c,ps,ys,h1,h2,h3,h4⟩=>⟨a,c,ps,ys,h1,hk.owns h2,h3,Comps.keep hk h4⟩
theorem Comps.mono (hb:jd<=aB):∀{xs:List Value} {cs:List eb},Comps w aB xs cs->Comps w jd xs cs
 | _,[],h=>h
 | _,_ :: _,⟨a,c,ps,ys,h1,h2,h3,h4⟩=>⟨a,c,ps,ys,h1,ba h2 hb,h3,Comps.mono hb h4⟩
theorem Comps.snoc (sg:Int)(ty:Nat)(a:Option Addr)(c:Nat)(ks:List PPt)(ps:List Value)(ho:w.ownsRow aB 151 5 (.slice a ks.length c) ks.length ps)(hk:Kinds ps ks):
  ∀{xs:List Value} {cs:List eb},Comps w aB xs cs->Comps w aB (xs++[.int .u8 sg,.int .u8 ty,.slice a ks.length c]) (cs++[⟨sg,ty,ks⟩])
 | _,[],h=>by simp only[Comps] at h;subst h;exact⟨a,c,ps,[],rfl,ho,hk,rfl⟩
 | _,_ :: _,⟨a',c',tf,ys,h1,h2,h3,h4⟩=>⟨a',c',tf,_,by rw[h1];rfl,h2,h3,Comps.snoc sg ty a c ks ps ho hk h4⟩
def SelPre (s:ByteArray)(i0:Nat):Nat->Nat->List eb->Prop
 | i,j,[]=>i=j
 | i,j,x :: cs=>∃l,fp s i l x.ty x.ps/\i<l/\oX (bt s l)=false/\jf (bt s l)=true/\SelPre s i0 (l+1) j cs/\x.sg=oU s i0 i
theorem SelPre.snoc {i0:Nat}{cs:List eb}{sg:Int}{ty:Nat}{ks:List PPt}(h:SelPre s i0 i j cs)(hg:sg=oU s i0 j)(hc:fp s j l ty ks)(hl:j<l)(hA:oX (bt s l)=false)(hs:jf (bt s l)=true):SelPre s i0 i (l+1) (cs++[⟨sg,ty,ks⟩]):=by
 induction cs generalizing i with
 | nil=>simp only[SelPre] at h;subst h;exact⟨l,hc,hl,hA,hs,rfl,hg⟩
 | cons x cs ih=>
  obtain⟨l',h1,h2,h3,h4,h5,h6⟩:=h;exact⟨l',h1,h2,h3,h4,ih h5,h6⟩
def lC (s:ByteArray)(i j:Nat)(cs:List eb):Prop:=
 ∃pre l ty ks,cs=pre++[⟨oU s i l,ty,ks⟩]/\SelPre s i i l pre/\fp s l j ty ks/\l<j/\oX (bt s j)=false/\jf (bt s j)=false
structure wD (w:World)(b:Nat)(s:ByteArray)(i:Nat)(m:Int)(gk:Nat)(v:Value)(more:Bool)(wr:World)(j:Nat)(mP:Int)(cs:List eb)(xs:List Value):Prop where
 at':At (w.alloc (.cells #[.slice none 0 0] 71)) wr b s j mP
 own:wr.ownsRow (w.heap.size+1) 115 3 v cs.length xs
 comps:Comps wr (w.heap.size+1) xs cs
 le:i<=j
 few:cs.length<=j - i
 gk:more=true->s.size - j<gk
 go:more=true->SelPre s i i j cs/\∀nr,V s 2 ⟨nr,1,m⟩ i=V s 2 ⟨nr,cs.length+1,dq (decide (cs.length=4)) mP j⟩ j
 done:more=false->lC s i j cs/\∀nr,V s 2 ⟨nr,1,m⟩ i=V s 3 ⟨nr,cs.length,mP⟩ j
def Sd (w:World)(b:Nat)(s:ByteArray)(i:Nat)(m:Int)(e:Ending)(w':World):Prop:=
 (∃(a:Option Addr) (c:Nat) (cs:List eb) (xs:List Value) (j:Nat) (m':Int),e=.returned (.tuple #[.agg #[.slice a cs.length c],.bool true])/\At w w' b s j m'/\w'.ownsRow w.heap.size 115 3 (.slice a cs.length c) cs.length xs/\Comps w' w.heap.size xs cs/\
  Hid (lC s i j cs/\i<j/\∀nr,V s 2 ⟨nr,1,m⟩ i=V s 3 ⟨nr,cs.length,m'⟩ j))∨
 (∃j m',e=.returned (.tuple #[.agg #[.slice none 0 0],.bool false])/\At w w' b s j m'/\Hid (∀nr,V s 2 ⟨nr,1,m⟩ i=((j:Int),-1)))
theorem abd (a b:Int)(c:Option Addr)(n k:Nat):∀u∈[Value.int .u8 a,Value.int .u8 b,Value.slice c n k],u.oneCell'=true:=by
 intro u hu;simp only[List.mem_cons,List.not_mem_nil,or_false] at hu;rcases hu with rfl | rfl | rfl<;>rfl
theorem ki:∀{cs:List eb} {i0 i j:Nat},SelPre s i0 i j cs->i<=j
 | [],_,_,_,h=>by simp only[SelPre] at h;omega
 | _ :: _,_,_,_,⟨_,_,h2,_,_,h5,_⟩=>by have:=ki h5;omega
theorem CE {nr nc:Nat}(h:jf (bt s i)=true/\i<s.size):V s 3 ⟨nr,nc,m⟩ i=V s 2 ⟨nr,nc+1,dq (decide (nc=4)) m (i+1)⟩ (i+1):=by
 have i7:bt s i≠33:=by have:=h.1;simp only[jf,bO] at this;omega
 rw[wH h.2 (m':=2) (by simp[ct,jg,h.1,i7]) (by decide)];simp[cnt,h.1]
theorem Rd.allocAt (h:Rd w b s j m)(o:Obj):At (w.alloc o) (w.alloc o) b s j m:=(h.alloc o).at0
theorem CC (w:World)(b:Nat)(s:ByteArray)(i:Nat)(m:Int)(h:Rd w b s i m):
  Calls prog 143 #[.pointer (some ⟨b,0,none⟩)] w λe w'=>Sd w b s i m e w':=by
 have hb:=h.lt;have xC:=h.top;obtain⟨i0,hi,gP,gQ,gR⟩:=info_parts Tryz.info115;go_enter func143,ntmps143;go_wp2_with fail
 go_loopg [4,5,6] (s.size - i+1) (λgk v sgv mv wr=>∃(j:Nat) (mP:Int) (cs:List eb) (xs:List Value) (sg:Int) (more:Bool),sgv=.int .u8 sg/\mv=.bool more/\wD w b s i m gk v more wr j mP cs xs/\Hid (more=true->sg=oU s i j))
 case atStart=>
  refine⟨i,m,[],[],0,true,rfl,rfl,⟨h.allocAt _,eB,rfl,aF,by simp,λ_=>by omega,λ_=>⟨rfl,λnr=>?_⟩,λe=>by cases e⟩,λ_=>(LY s i).symm⟩;simp[dq]
 case round=>
  obtain⟨j,mP,cs,xs,sg,more,rfl,rfl,R,Xs⟩:=hrel;have qU:=R.at'.rd.le;obtain⟨a,c,hv⟩:=aK R.own;subst hv;cases more
  ·have R2:=R;have gA:w.heap.size<wr.heap.size:=by have:=R.at'.size;simp only[World.size_alloc] at this;omega
   obtain⟨hc,hz⟩:=R.at'.cells w.heap.size (by simp) (by omega);clear R;go_wp2;refine bodyPost_ret (v:=.tuple #[.agg #[.slice a cs.length c],.bool true]) (by simp[results,Tryz.results143,go_sem,hc]) rfl (ax ⟨a,c,cs,xs,j,mP,rfl,R2.at'.ofAlloc.setNew hb aF _,ba (ownsRow_setCell_below R2.own (by simp) _) (by omega),(R2.comps.keep (eW _ (by simp) _ _)).mono (by omega),?_⟩);obtain⟨q1,q2⟩:=R2.done rfl;refine⟨q1,?_,q2⟩;obtain⟨pre,l,ty,ks,_,h2,_,h4,_⟩:=q1;have:=ki h2;omega
  ·replace Xs:Hid (sg=oU s i j):=Xs.out rfl
   by_cases h4:cs.length=4
   ·have g4:((cs.length:Int)==4)=true:=by simp[h4]
    have H4:=aw h4;clear h4;go_wp2_with fail;refine(sC _ b s j mP (by exact R.at'.rd)).mono ?_;rintro e w1 ⟨rfl,r7⟩;have hM:Hid (∀nr,V s 2 ⟨nr,cs.length+1,dq (decide (cs.length=4)) mP j⟩ j=V s 2 ⟨nr,cs.length+1,mM mP j⟩ j):=λnr=>by simp[dq,H4.out]
    generalize mM mP j=M at r7 hM;go_wp2_with fail;refine(rT _ b s j M (by exact r7.rd)).mono ?_;rintro e w2 (⟨ty,a2,c2,ks,ps,l,rfl,dK,zh,bM⟩ | ⟨l,rfl,dK,bM⟩)
    ·have dY:=(R.at'.trans r7).trans dK;have gA:=(R.at'.trans r7).size;simp only[World.size_alloc] at gA;have nX:w.heap.size<w2.heap.size:=by have:=dY.size;simp only[World.size_alloc] at this;omega
     have dy:=(r7.trans dK).owns R.own (by omega);have bT:=R.few;go_wp2_with (at_builtin;refine wpList_append_own _ rfl (.tmp 25) (.tmp 27) 69 rfl (w.heap.size+1) 115 i0 (.agg #[.int .u8 0,.int .u8 0,.slice none 0 0]) 3 32 underlying69 hi gP gQ gR rfl (by decide) _ _ _ rfl ((dy.alloc _).alloc _) ⟨w2.heap.size+1,0,none⟩ 1 1 [.int .u8 sg,.int .u8 ty,.slice a2 ks.length c2] rfl rfl ?c1x ?c2x ?c3x ?c4x ?c5x ?_)
     case c1x=>exact bg (w2.alloc _) _ (by simp) _ _ _ rfl
     case c2x=>exact abd _ _ _ _ _
     case c3x=>unfold maxLen;omega
     case c4x=>omega
     case c5x=>simp;omega
     ·intro v' w3 cj fB _;have bH:w3.ownsRow (w.heap.size+1) 115 3 v' (cs++[(⟨sg,ty,ks⟩:eb)]).length (xs++[.int .u8 sg,.int .u8 ty,.slice a2 ks.length c2]):=by simpa using cj
      have gg:Keeps wr w2 (w.heap.size+1) 151:=e9 (r7.trans dK) (by omega) _;have pp:Keeps w2 w3 (w.heap.size+1) 151:=((cX _ _ _ _).trans (cX _ _ _ _)).trans (j8 (by decide) ((dy.alloc _).alloc _) fB)
      have od:Comps w3 (w.heap.size+1) (xs++[.int .u8 sg,.int .u8 ty,.slice a2 ks.length c2]) (cs++[⟨sg,ty,ks⟩]):=
       Comps.snoc sg ty a2 c2 ks ps (pp.owns (ba zh gA)) bM.out.1 (R.comps.keep (gg.trans pp))
      have zb:At (w.alloc (.cells #[.slice none 0 0] 71)) w3 b s l M:=((dY.alloc _).alloc _).app (by simp;omega) (by simpa using((dy.alloc _).alloc _)) fB;obtain⟨q1,q2,q3,q4,q5⟩:=bM.out
      have HV:Hid (SelPre s i i j cs/\fp s j l ty ks/\j<l/\oX (bt s l)=false/\∀nr,V s 2 ⟨nr,1,m⟩ i=V s 3 ⟨nr,cs.length+1,M⟩ l):=
       ⟨(R.go rfl).1,q5,q3,q4,λnr=>by rw[(R.go rfl).2 nr,hM.out,q2]⟩
      have qU:=R.le;have fT:=R.gk rfl;have bJ:(cs++[(⟨sg,ty,ks⟩:eb)]).length<=l - i:=by simp;omega
      clear cj fB dy R gg pp q1 q2 q4 q5 bM;go_wp2_with fail;refine(Fj _ b s l M (by exact zb.rd)).mono ?_;rintro e w4 (⟨rfl,jL,ju⟩ | ⟨rfl,jL,ju⟩)
      ·have R4:wD w b s i m (s.size - l) v' true w4 (l+1) M (cs++[⟨sg,ty,ks⟩]) (xs++[.int .u8 sg,.int .u8 ty,.slice a2 ks.length c2]):=by
        obtain⟨p1,p2,p3,p4,p5⟩:=HV.out;have h4:=ju.out;refine⟨zb.trans jL,jL.owns bH (by omega),od.keep (e9 jL (by omega) _),by omega,by omega,λ_=>by omega,λ_=>⟨p1.snoc (Xs.out) p2 p3 p4 h4.1,λnr=>?_⟩,λe=>by cases e⟩;rw[p5 nr,CE h4];simp
       have B6:=ju.out.2;clear od bH;go_wp2;go_roundg (s.size - l)
       case measure=>omega
       case rel=>exact⟨l+1,M,_,_,_,_,rfl,rfl,R4,λ_=>(A6 s (by have:=HV.out.2.2.1;omega)).symm⟩
      ·have R4:wD w b s i m 0 v' false w4 l M (cs++[⟨sg,ty,ks⟩]) (xs++[.int .u8 sg,.int .u8 ty,.slice a2 ks.length c2]):=by
        obtain⟨p1,p2,p3,p4,p5⟩:=HV.out;exact⟨zb.trans jL,jL.owns bH (by omega),od.keep (e9 jL (by omega) _),by omega,by omega,λe=>(by cases e),λe=>(by cases e),λ_=>⟨⟨cs,j,ty,ks,by rw[Xs.out],p1,p2,p3,p4,ju.out⟩,λnr=>by rw[p5 nr];simp⟩⟩
       clear od bH;go_wp2;go_roundg 0
       case measure=>omega
       case rel=>exact⟨l,M,_,_,_,_,rfl,rfl,R4,λe=>by cases e⟩
    ·have dY:=(R.at'.trans r7).trans dK;have nX:w.heap.size<w2.heap.size:=by have:=dY.size;simp only[World.size_alloc] at this;omega
     obtain⟨hc,hz⟩:=dY.cells w.heap.size (by simp) (by omega);go_wp2_with fail;exact bodyPost_ret (v:=.tuple #[.agg #[.slice none 0 0],.bool false]) (by simp[results,Tryz.results143,go_sem,hc,nX]) rfl (az ⟨l,M,rfl,(dY.ofAlloc.setNew hb aF _).alloc _,λnr=>by rw[(R.go rfl).2 nr,hM.out,bM.out]⟩)
   ·have g4:((cs.length:Int)==4)=false:=by simp;omega
    obtain⟨M,r7,hM⟩:∃M,At wr wr b s j M/\Hid (∀nr,V s 2 ⟨nr,cs.length+1,dq (decide (cs.length=4)) mP j⟩ j=V s 2 ⟨nr,cs.length+1,M⟩ j):=⟨mP,R.at'.rd.at0,λnr=>by simp[dq,h4]⟩;clear h4;go_wp2_with fail;refine(rT _ b s j M (by exact r7.rd)).mono ?_;rintro e w2 (⟨ty,a2,c2,ks,ps,l,rfl,dK,zh,bM⟩ | ⟨l,rfl,dK,bM⟩)
    ·have dY:=(R.at'.trans r7).trans dK;have gA:=(R.at'.trans r7).size;simp only[World.size_alloc] at gA;have nX:w.heap.size<w2.heap.size:=by have:=dY.size;simp only[World.size_alloc] at this;omega
     have dy:=(r7.trans dK).owns R.own (by omega);have bT:=R.few;go_wp2_with (at_builtin;refine wpList_append_own _ rfl (.tmp 25) (.tmp 27) 69 rfl (w.heap.size+1) 115 i0 (.agg #[.int .u8 0,.int .u8 0,.slice none 0 0]) 3 32 underlying69 hi gP gQ gR rfl (by decide) _ _ _ rfl ((dy.alloc _).alloc _) ⟨w2.heap.size+1,0,none⟩ 1 1 [.int .u8 sg,.int .u8 ty,.slice a2 ks.length c2] rfl rfl ?c1y ?c2y ?c3y ?c4y ?c5y ?_)
     case c1y=>exact bg (w2.alloc _) _ (by simp) _ _ _ rfl
     case c2y=>exact abd _ _ _ _ _
     case c3y=>unfold maxLen;omega
     case c4y=>omega
     case c5y=>simp;omega
     ·intro v' w3 cj fB _;have bH:w3.ownsRow (w.heap.size+1) 115 3 v' (cs++[(⟨sg,ty,ks⟩:eb)]).length (xs++[.int .u8 sg,.int .u8 ty,.slice a2 ks.length c2]):=by simpa using cj
      have gg:Keeps wr w2 (w.heap.size+1) 151:=e9 (r7.trans dK) (by omega) _;have pp:Keeps w2 w3 (w.heap.size+1) 151:=((cX _ _ _ _).trans (cX _ _ _ _)).trans (j8 (by decide) ((dy.alloc _).alloc _) fB)
      have od:Comps w3 (w.heap.size+1) (xs++[.int .u8 sg,.int .u8 ty,.slice a2 ks.length c2]) (cs++[⟨sg,ty,ks⟩]):=
       Comps.snoc sg ty a2 c2 ks ps (pp.owns (ba zh gA)) bM.out.1 (R.comps.keep (gg.trans pp))
      have zb:At (w.alloc (.cells #[.slice none 0 0] 71)) w3 b s l M:=((dY.alloc _).alloc _).app (by simp;omega) (by simpa using((dy.alloc _).alloc _)) fB;obtain⟨q1,q2,q3,q4,q5⟩:=bM.out
      have HV:Hid (SelPre s i i j cs/\fp s j l ty ks/\j<l/\oX (bt s l)=false/\∀nr,V s 2 ⟨nr,1,m⟩ i=V s 3 ⟨nr,cs.length+1,M⟩ l):=
       ⟨(R.go rfl).1,q5,q3,q4,λnr=>by rw[(R.go rfl).2 nr,hM.out,q2]⟩
      have qU:=R.le;have fT:=R.gk rfl;have bJ:(cs++[(⟨sg,ty,ks⟩:eb)]).length<=l - i:=by simp;omega
      clear cj fB dy R gg pp q1 q2 q4 q5 bM;go_wp2_with fail;refine(Fj _ b s l M (by exact zb.rd)).mono ?_;rintro e w4 (⟨rfl,jL,ju⟩ | ⟨rfl,jL,ju⟩)
      ·have R4:wD w b s i m (s.size - l) v' true w4 (l+1) M (cs++[⟨sg,ty,ks⟩]) (xs++[.int .u8 sg,.int .u8 ty,.slice a2 ks.length c2]):=by
        obtain⟨p1,p2,p3,p4,p5⟩:=HV.out;have h4:=ju.out;refine⟨zb.trans jL,jL.owns bH (by omega),od.keep (e9 jL (by omega) _),by omega,by omega,λ_=>by omega,λ_=>⟨p1.snoc (Xs.out) p2 p3 p4 h4.1,λnr=>?_⟩,λe=>by cases e⟩;rw[p5 nr,CE h4];simp
       have B6:=ju.out.2;clear od bH;go_wp2;go_roundg (s.size - l)
       case measure=>omega
       case rel=>exact⟨l+1,M,_,_,_,_,rfl,rfl,R4,λ_=>(A6 s (by have:=HV.out.2.2.1;omega)).symm⟩
      ·have R4:wD w b s i m 0 v' false w4 l M (cs++[⟨sg,ty,ks⟩]) (xs++[.int .u8 sg,.int .u8 ty,.slice a2 ks.length c2]):=by
        obtain⟨p1,p2,p3,p4,p5⟩:=HV.out;exact⟨zb.trans jL,jL.owns bH (by omega),od.keep (e9 jL (by omega) _),by omega,by omega,λe=>(by cases e),λe=>(by cases e),λ_=>⟨⟨cs,j,ty,ks,by rw[Xs.out],p1,p2,p3,p4,ju.out⟩,λnr=>by rw[p5 nr];simp⟩⟩
       clear od bH;go_wp2;go_roundg 0
       case measure=>omega
       case rel=>exact⟨l,M,_,_,_,_,rfl,rfl,R4,λe=>by cases e⟩
    ·have dY:=(R.at'.trans r7).trans dK;have nX:w.heap.size<w2.heap.size:=by have:=dY.size;simp only[World.size_alloc] at this;omega
     obtain⟨hc,hz⟩:=dY.cells w.heap.size (by simp) (by omega);go_wp2_with fail;exact bodyPost_ret (v:=.tuple #[.agg #[.slice none 0 0],.bool false]) (by simp[results,Tryz.results143,go_sem,hc,nX]) rfl (az ⟨l,M,rfl,(dY.ofAlloc.setNew hb aF _).alloc _,λnr=>by rw[(R.go rfl).2 nr,hM.out,bM.out]⟩)
end
section
variable {M hm md sg:Int}{b i n nr p q:Nat}{k:Cn}{s:ByteArray}{v vo:Value}{w wr:World}{xs:List Value}
theorem Tryz.info117:(Tryz.prog.info? 117).map (λi=>(i.zero,i.size,i.bytes))=some (some (.agg #[.int .u8 0,.string ⟨#[]⟩]),2,24):=by kernel_rfl
def Txs (s:ByteArray):List Value->List (Nat × Nat)->Prop
 | xs,[]=>xs=[]
 | xs,(p,q) :: r=>∃(sg:Int) (ys:List Value),xs=.int .u8 sg :: .string (s.extract p q) :: ys/\Txs s ys r
theorem Txs.snoc (sg:Int)(p q:Nat):∀{xs:List Value} {aV:List (Nat × Nat)},Txs s xs aV->Txs s (xs++[.int .u8 sg,.string (s.extract p q)]) (aV++[(p,q)])
 | _,[],h=>by simp only[Txs] at h;subst h;exact⟨sg,[],rfl,rfl⟩
 | _,(_,_) :: _,⟨sg',ys,h1,h2⟩=>⟨sg',_,by rw[h1];rfl,Txs.snoc sg p q h2⟩
theorem Txs.len:∀{xs:List Value} {aV:List (Nat × Nat)},Txs s xs aV->xs.length=aV.length*2
 | _,[],h=>by simp only[Txs] at h;subst h;rfl
 | _,(_,_) :: _,⟨sg,ys,h1,h2⟩=>by rw[h1];simp only[List.length_cons];rw[Txs.len h2];omega
def pT (s:ByteArray)(n p:Nat):Int:=if n=0 then 0 else(bt s (p - 1):Int)
def Sgs (s:ByteArray)(xs:List Value)(aV:List (Nat × Nat)):Prop:=∀i p q,aV[i]?=some (p,q)->xs[i*2]?=some (.int .u8 (pT s i p))
theorem Sgs.snoc {aV:List (Nat × Nat)}(h:Sgs s xs aV)(ht:Txs s xs aV)(hs:sg=pT s aV.length p):Sgs s (xs++[.int .u8 sg,.string (s.extract p q)]) (aV++[(p,q)]):=by
 intro i p' q' hi;have hl:=ht.len
 by_cases he:i<aV.length
 ·rw[List.getElem?_append_left he] at hi;rw[List.getElem?_append_left (by omega)];exact h i p' q' hi
 ·rw[List.getElem?_append_right (by omega)] at hi
  obtain rfl:i=aV.length:=by
   have:=(ee.1 hi).1;simp at this;omega
  rw[Nat.sub_self] at hi;injection hi with hi
  injection hi with h1 h2
  rw[List.getElem?_append_right (by omega),hl,Nat.sub_self,hs,h1];rfl
def Segs (s:ByteArray):Nat->Nat->List (Nat × Nat)->Prop
 | i,j,[]=>i=j
 | i,j,(p,q) :: r=>p=i/\(∀k,p<=k->k<q->jf (bt s k)=false)/\p<=q/\jf (bt s q)=true/\Segs s (q+1) j r
theorem Segs.snoc (h1:∀k,p<=k->k<q->jf (bt s k)=false)(h2:p<=q)(h3:jf (bt s q)=true):∀{aV:List (Nat × Nat)} {i:Nat},Segs s i p aV->Segs s i (q+1) (aV++[(p,q)])
 | [],_,h=>by simp only[Segs] at h;subst h;exact⟨rfl,h1,h2,h3,rfl⟩
 | (_,_) :: _,_,⟨a,b,c,d,e⟩=>⟨a,b,c,d,Segs.snoc h1 h2 h3 e⟩
def mF (s:ByteArray)(i j:Nat)(aV:List (Nat × Nat)):Prop:=
 ∃pre p,aV=pre++[(p,j)]/\Segs s i p pre/\p<=j/\∀k,p<=k->k<j->jf (bt s k)=false
structure Ch (w wr:World)(b:Nat)(v:Value)(hm:Int)(vo:Value)(n:Nat)(xs:List Value)(sg:Int):Prop where
 sh:Sh wr b v hm
 gb:w.grownBy wr (some b)
 cb:∃tx,wr.heap[w.heap.size]?=some (.cells #[.int .u8 sg,.string tx] 117 (0,0))
 own:wr.ownsRow (w.heap.size+1) 117 2 vo n xs
 lt:b<w.heap.size
theorem Ch.cells (h:Ch w wr b v hm vo n xs sg):
  (∃tx,wr.cell? ⟨w.heap.size,0,none⟩=some (.int .u8 sg)/\wr.cell? ⟨w.heap.size,1,none⟩=some (.string tx))/\(∀k,wr.frozen? ⟨w.heap.size,k,none⟩=false):=by
 obtain⟨tx,h1⟩:=h.cb;exact⟨⟨tx,au h1 rfl,au h1 rfl⟩,λk=>aH h1⟩
theorem Ch.set1 (h:Ch w wr b v hm vo n xs sg)(tx:ByteArray):
  Ch w (wr.setCell ⟨w.heap.size,1,none⟩ (.string tx)) b v hm vo n xs sg:=by
 have hl:=h.lt;obtain⟨Vh,h1⟩:=h.cb;refine⟨(Below.heap_setCell _ _ _ _ (by show b≠w.heap.size;omega)).trans h.sh,nl h.gb aF _,⟨tx,?_⟩,ownsRow_setCell_below h.own (by show w.heap.size<w.heap.size+1;omega) _,hl⟩;rw[aP h1];rfl
theorem Ch.set0 (h:Ch w wr b v hm vo n xs sg)(x:Int):
  Ch w (wr.setCell ⟨w.heap.size,0,none⟩ (.int .u8 x)) b v hm vo n xs x:=by
 have hl:=h.lt;obtain⟨Vh,h1⟩:=h.cb;refine⟨(Below.heap_setCell _ _ _ _ (by show b≠w.heap.size;omega)).trans h.sh,nl h.gb aF _,⟨Vh,?_⟩,ownsRow_setCell_below h.own (by show w.heap.size<w.heap.size+1;omega) _,hl⟩;rw[aP h1];rfl
theorem Ch.noted {w2:World}{qv:Int}(h:Ch w wr b v hm vo n xs sg)(hs:Sh w2 b v qv)(hg:wr.grownBy w2 (some b)):Ch w w2 b v qv vo n xs sg:=by
 have hl:=h.lt;obtain⟨Vh,h1⟩:=h.cb;refine⟨hs,ns h.gb hg,⟨Vh,(hg.block _ (bG.1 h1).1 (λe=>by injection e with e;omega)).trans h1⟩,h.own.kept hg ?_,hl⟩;cases hv:vo.ownBlock with
 | none=>exact ax rfl
 | some g=>right;intro e;injection e with e;have:=(h.own.lt g hv).1;omega
theorem Ch.alloc (h:Ch w wr b v hm vo n xs sg)(o:Obj):Ch w (wr.alloc o) b v hm vo n xs sg:=by
 obtain⟨Vh,h1⟩:=h.cb;exact⟨(Below.heap_alloc wr o b h.sh.lt).trans h.sh,xo h.gb o,⟨Vh,(Below.heap_alloc wr o _ (bG.1 h1).1).trans h1⟩,h.own.alloc o,h.lt⟩
theorem Ch.app {w3:World}(h:Ch w wr b v hm vo n xs sg){vo':Value}{n':Nat}{xs':List Value}(hg:wr.grownBy w3 vo.ownBlock)(ho:w3.ownsRow (w.heap.size+1) 117 2 vo' n' xs'):Ch w w3 b v hm vo' n' xs' sg:=by
 have hl:=h.lt
 have fG:∀k,k<=w.heap.size->some k≠vo.ownBlock:=by
  intro k hk e;have:=(h.own.lt k e.symm).1;omega
 obtain⟨Vh,h1⟩:=h.cb;refine⟨(hg.block b h.sh.lt (fG b (by omega))).trans h.sh,?_,⟨Vh,(hg.block _ (bG.1 h1).1 (fG _ aF)).trans h1⟩,ho,hl⟩
 exact⟨hg.os.trans h.gb.os,hg.tape.trans h.gb.tape,hg.output.trans h.gb.output,Nat.le_trans h.gb.size hg.size,
  λk hk hn=>(hg.block k (Nat.lt_of_lt_of_le hk h.gb.size) (fG k (by omega))).trans (h.gb.block k hk hn)⟩
structure zG (w:World)(b:Nat)(v:Value)(s:ByteArray)(fr to:Nat)(nr:Nat)(M:Int)(vo:Value)(p i:Nat)(wr:World)(hm:Int)(aV:List (Nat × Nat))(xs:List Value)(sg:Int):Prop where
 ch:Ch w wr b v hm vo aV.length xs sg
 noted:i9 hm p
 txs:Txs s xs aV
 sgs:Sgs s xs aV
 sgn:i<=to->sg=pT s aV.length p
 lo:fr<=i
 hi:i<=to+1
 few:aV.length<=i - fr
 pi:p<=i
 pf:fr<=p
 go:i<=to->Segs s fr p aV/\(∀k,p<=k->k<i->jf (bt s k)=false)/\∃md,iR md/\Acc s md ⟨nr,aV.length+1,dq (decide (aV.length=4)) hm p⟩ i M
 done:i=to+1->mF s fr to aV/\i9 hm to/\∃nc,Acc s 3 ⟨nr,nc,hm⟩ to M
def Vk (w:World)(b:Nat)(v:Value)(s:ByteArray)(fr to:Nat)(nr:Nat)(M:Int)(e:Ending)(w':World):Prop:=
 ∃(a:Option Addr) (c:Nat) (aV:List (Nat × Nat)) (xs:List Value) (hm:Int),e=.returned (.slice a aV.length c)/\Sh w' b v hm/\w.grownBy w' (some b)/\w'.ownsRow w.heap.size 117 2 (.slice a aV.length c) aV.length xs/\
  Hid ((Txs s xs aV/\Sgs s xs aV)/\mF s fr to aV/\i9 hm to/\∃nc,Acc s 3 ⟨nr,nc,hm⟩ to M)
structure MR (s:ByteArray)(fr to:Nat)(nr:Nat)(M:Int)(hm:Int):Prop where
 le:fr<=to
 lt:to<s.size
 top:s.size<=400
 no:∀k,fr<=k->k<to->bt s k≠44/\bt s k≠123
 mark:bt s to=44∨bt s to=123
 noted:i9 hm fr
 acc:Acc s 2 ⟨nr,1,hm⟩ fr M
theorem lM (h:i9 hm p)(bl:Bool)(hq:p<=q):i9 (dq bl hm p) q:=by
 unfold i9 dq mM at *
 repeat' split
 all_goals omega
theorem Tp (a:Int)(t:ByteArray):∀u∈[Value.int .u8 a,Value.string t],u.oneCell'=true:=by
 intro u hu;simp only[List.mem_cons,List.not_mem_nil,or_false] at hu;rcases hu with rfl | rfl<;>rfl
theorem SH {fr to:Nat}{CM:Int}(P:MR s fr to nr M CM)(hm:iR md)(h:Acc s md k i M)(KR:fr<=i)(bc:i<to)(hs:jf (bt s i)=false):∃md',iR md'/\Acc s md' k (i+1) M:=by
 have hl:=h.lt (by unfold iR at hm;omega);obtain⟨n1,n2⟩:=P.no i KR bc;refine⟨_,yn hm n2 (h.ok hl),?_⟩;have:=h.step hl;rwa[TQ hm hs n1] at this
theorem Iy {nc:Nat}{x:Int}(hm:iR md)(h:Acc s md ⟨nr,nc,x⟩ i M)(hs:jf (bt s i)=true):Acc s 2 ⟨nr,nc+1,dq (decide (nc=4)) x (i+1)⟩ (i+1) M:=by
 have hl:=h.lt (by unfold iR at hm;omega);obtain rfl:=ym hm (ax hs) (h.ok hl);unfold Acc at h ⊢;rw[<-h,CE ⟨hs,hl⟩]
theorem Of (hm:iR md)(h:Acc s md k i M)(hs:bt s i=44∨bt s i=123):Acc s 3 k i M:=by
 have hl:=h.lt (by unfold iR at hm;omega);obtain rfl:=ym hm (az hs) (h.ok hl);exact h
theorem JA (s:ByteArray)(h:i<s.size)(aV:List (Nat × Nat))(x:Nat × Nat):(s[i].toNat:Int)=pT s (aV++[x]).length (i+1):=by
 unfold pT;rw[aA (by simp),Nat.add_sub_cancel,bV s i h]
theorem Kj (w:World)(b:Nat)(v:Value)(CM:Int)(s:ByteArray)(fr to nr:Nat)(M:Int)(h:Sh w b v CM)(hP:MR s fr to nr M CM):
  Calls prog 54 #[.pointer (some ⟨b,0,none⟩),.string s,.int .i64 fr,.int .i64 to] w λe w'=>Vk w b v s fr to nr M e w':=by
 have h_lt:=h.lt;have P_le:=hP.le;have P_lt:=hP.lt;have P_top:=hP.top;have HP:=aw hP;clear hP;obtain⟨i0,hi,gP,gQ,gR⟩:=info_parts Tryz.info117;go_enter func54,ntmps54;go_wp2_with fail
 go_loopg [9,11,12] (to+1 - fr) (λgk vo pv iv wr=>∃(p i:Nat) (hm:Int) (aV:List (Nat × Nat)) (xs:List Value) (sg:Int),pv=.int .i64 p/\iv=.int .i64 i/\to+1 - i<=gk/\zG w b v s fr to nr M vo p i wr hm aV xs sg)
 case atStart=>
  refine⟨fr,fr,CM,[],[],0,rfl,rfl,aF,⟨(Below.heap_alloc w _ b h_lt).trans h,World.grownBy_alloc _ _ _,⟨_,heap_alloc_new w _⟩,eB,h_lt⟩,HP.out.noted,rfl,λi p q h=>by simp at h,λ_=>rfl,aF,by omega,by simp,aF,aF,λ_=>⟨rfl,λk h1 h2=>by omega,2,ax rfl,?_⟩,λe=>by omega⟩;simpa[dq] using HP.out.acc
 case round=>
  obtain⟨p,i,hm,aV,xs,sg,rfl,rfl,fT,R⟩:=hrel;have R_lo:=R.lo;have R_hi:=R.hi;have R_pi:=R.pi;obtain⟨a,c,hv⟩:=aK R.ch.own;subst hv
  by_cases bc:i<to
  ·have D4:i<s.size:=by omega
   have hd:decide ((i:Int)<(to:Int))=true:=by simp;omega
   have iC:decide ((i:Int)<=(to:Int))=true:=by simp;omega
   go_wp2_with fail;have GL:=bV s i D4;rw[<-GL];refine(bI _ (bt s i) _ (by decide)).mono ?_;rw[Kf];rintro e w1 ⟨rfl,rfl⟩;obtain⟨wr,rfl⟩:∃wr,wr=w1:=⟨_,rfl⟩;clear GL;cases hS:jf (bt s i)
   ·have HS:=aw hS
    have R2:zG w b v s fr to nr M (.slice a aV.length c) p (i+1) wr hm aV xs sg:=by
     obtain⟨q1,q2,md,q3,q4⟩:=R.go (by omega);refine⟨R.ch,R.noted,R.txs,R.sgs,λ_=>R.sgn (by omega),by omega,by omega,by have:=R.few;omega,by omega,R.pf,λ_=>⟨q1,λk k1 k2=>?_,SH HP.out q3 q4 R_lo bc hS⟩,λe=>by omega⟩
     by_cases e:k=i
     ·rw[e];exact hS
     ·exact q2 k k1 (by omega)
    clear hS R;go_wp2;go_roundg (to+1 - (i+1))
    case measure=>omega
    case rel=>exact⟨p,i+1,hm,aV,xs,sg,rfl,by go_num,aF,R2⟩
   ·have HS:=aw hS;clear hS;have Gp:w.heap.size<wr.heap.size:=by obtain⟨tx,h1⟩:=R.ch.cb;exact(bG.1 h1).1
    obtain⟨⟨tx,adh,adi⟩,cz'⟩:=R.ch.cells
    by_cases h4:aV.length=4
    ·have g4:((aV.length:Int)==4)=true:=by simp[h4]
     obtain⟨X,HX,Bw⟩:∃X,Hid (dq (decide (aV.length=4)) hm p=X)/\Hid (mM hm p=X):=⟨mM hm p,by simp[Hid,dq,h4],rfl⟩;clear h4;go_wp2_with fail;refine(tW _ b v hm p (by exact(R.ch.set1 _).sh) R.noted).mono ?_;rw[Bw.out];rintro e w2 ⟨rfl,hsh2,iD⟩;have zc:Ch w w2 b v X (.slice a aV.length c) aV.length xs sg:=(R.ch.set1 _).noted hsh2 iD
     have adj:w2.cell? ⟨w.heap.size,1,none⟩=some (.string (s.extract p i)):=by
      have e:=(World.cell?_of_block (a:=⟨w.heap.size,1,none⟩) (iD.block w.heap.size (by simpa[World.setCell] using Gp) (by simp;omega)));rw[e];obtain⟨tx,h1⟩:=R.ch.cb;exact au (aP h1 _) rfl
     have bJ:=R.few;have zl:=zc.gb.size;obtain⟨⟨tx2,cc0,_⟩,cz⟩:=zc.cells;go_wp2_with (at_builtin;refine wpList_append_own _ rfl (.tmp 49) (.tmp 51) 81 rfl (w.heap.size+1) 117 i0 (.agg #[.int .u8 0,.string ⟨#[]⟩]) 2 24 underlying81 hi gP gQ gR rfl (by decide) _ _ _ rfl (zc.own.alloc _) ⟨w2.heap.size,0,none⟩ 1 1 [.int .u8 sg,.string (s.extract p i)] rfl rfl ?c1sx ?c2sx ?c3sx ?c4sx ?c5sx ?_)
     case c1sx=>exact bg w2 _ rfl _ _ _ rfl
     case c2sx=>exact Tp _ _
     case c3sx=>unfold maxLen;omega
     case c4sx=>omega
     case c5sx=>simp only[World.size_alloc];have:=(R.ch.own.lt);have:=Gp;have hq:=zl;omega
     ·intro v' w3 cj fB _;have bH:w3.ownsRow (w.heap.size+1) 117 2 v' (aV++[(p,i)]).length (xs++[.int .u8 sg,.string (s.extract p i)]):=by simpa using cj
      have Gq:=(zc.alloc (Obj.cells #[.int .u8 sg,.string (s.extract p i)] 117)).app fB bH;obtain⟨⟨tx3,cd0,cd1⟩,cz3⟩:=Gq.cells
      have R3:zG w b v s fr to nr M v' (i+1) (i+1) ((w3.setCell ⟨w.heap.size,0,none⟩ (.int .u8 (s[i].toNat:Int))).setCell ⟨w.heap.size,1,none⟩ (.string ⟨#[]⟩)) X (aV++[(p,i)]) (xs++[.int .u8 sg,.string (s.extract p i)]) (s[i].toNat:Int):=by
       obtain⟨q1,q2,md,q3,q4⟩:=R.go (by omega);have WH:=Iy q3 q4 HS.out;rw[HX.out] at WH;exact⟨(Gq.set0 _).set1 _,by rw[<-HX.out];exact lM R.noted _ (by omega),R.txs.snoc _ _ _,R.sgs.snoc R.txs (R.sgn (by omega)),λ_=>JA s D4 aV (p,i),by omega,by omega,by simp;omega,aF,by omega,λ_=>⟨q1.snoc q2 R_pi HS.out,λk k1 k2=>by omega,2,ax rfl,by simpa using WH⟩,λe=>by omega⟩
      clear cj fB bH Gq zc R;go_wp2;go_roundg (to+1 - (i+1))
      case measure=>omega
      case rel=>exact⟨i+1,i+1,X,_,_,_,by go_num,by go_num,aF,R3⟩
    ·have g4:((aV.length:Int)==4)=false:=by simp;omega
     obtain⟨X,HX,hX⟩:∃X,Hid (dq (decide (aV.length=4)) hm p=X)/\hm=X:=⟨hm,by simp[Hid,dq,h4],rfl⟩;clear h4;have zc:Ch w (wr.setCell ⟨w.heap.size,1,none⟩ (.string (s.extract p i))) b v X (.slice a aV.length c) aV.length xs sg:=by rw[<-hX];exact R.ch.set1 _
     clear hX;have bJ:=R.few;have zl:=zc.gb.size;go_wp2_with (at_builtin;refine wpList_append_own _ rfl (.tmp 49) (.tmp 51) 81 rfl (w.heap.size+1) 117 i0 (.agg #[.int .u8 0,.string ⟨#[]⟩]) 2 24 underlying81 hi gP gQ gR rfl (by decide) _ _ _ rfl (zc.own.alloc _) ⟨wr.heap.size,0,none⟩ 1 1 [.int .u8 sg,.string (s.extract p i)] rfl rfl ?c1sy ?c2sy ?c3sy ?c4sy ?c5sy ?_)
     case c1sy=>exact bg (wr.setCell ⟨w.heap.size,1,none⟩ (.string (s.extract p i))) _ (by simp[World.setCell]) _ _ _ rfl
     case c2sy=>exact Tp _ _
     case c3sy=>unfold maxLen;omega
     case c4sy=>omega
     case c5sy=>simp only[World.size_alloc];have:=(R.ch.own.lt);have:=Gp;have hq:=zl;omega
     ·intro v' w3 cj fB _;have bH:w3.ownsRow (w.heap.size+1) 117 2 v' (aV++[(p,i)]).length (xs++[.int .u8 sg,.string (s.extract p i)]):=by simpa using cj
      have Gq:=(zc.alloc (Obj.cells #[.int .u8 sg,.string (s.extract p i)] 117)).app fB bH;obtain⟨⟨tx3,cd0,cd1⟩,cz3⟩:=Gq.cells
      have R3:zG w b v s fr to nr M v' (i+1) (i+1) ((w3.setCell ⟨w.heap.size,0,none⟩ (.int .u8 (s[i].toNat:Int))).setCell ⟨w.heap.size,1,none⟩ (.string ⟨#[]⟩)) X (aV++[(p,i)]) (xs++[.int .u8 sg,.string (s.extract p i)]) (s[i].toNat:Int):=by
       obtain⟨q1,q2,md,q3,q4⟩:=R.go (by omega);have WH:=Iy q3 q4 HS.out;rw[HX.out] at WH;exact⟨(Gq.set0 _).set1 _,by rw[<-HX.out];exact lM R.noted _ (by omega),R.txs.snoc _ _ _,R.sgs.snoc R.txs (R.sgn (by omega)),λ_=>JA s D4 aV (p,i),by omega,by omega,by simp;omega,aF,by omega,λ_=>⟨q1.snoc q2 R_pi HS.out,λk k1 k2=>by omega,2,ax rfl,by simpa using WH⟩,λe=>by omega⟩
      clear cj fB bH Gq zc R;go_wp2;go_roundg (to+1 - (i+1))
      case measure=>omega
      case rel=>exact⟨i+1,i+1,X,_,_,_,by go_num,by go_num,aF,R3⟩
  ·by_cases qU:i<=to
   ·obtain rfl:i=to:=by omega
    have D4:i<s.size:=by omega
    have hd:decide ((i:Int)<(i:Int))=false:=by simp
    have Gp:w.heap.size<wr.heap.size:=by obtain⟨tx,h1⟩:=R.ch.cb;exact(bG.1 h1).1
    obtain⟨⟨tx,adh,adi⟩,cz'⟩:=R.ch.cells
    by_cases h4:aV.length=4
    ·have g4:((aV.length:Int)==4)=true:=by simp[h4]
     obtain⟨X,HX,Bw⟩:∃X,Hid (dq (decide (aV.length=4)) hm p=X)/\Hid (mM hm p=X):=⟨mM hm p,by simp[Hid,dq,h4],rfl⟩;clear h4;go_wp2_with fail;refine(tW _ b v hm p (by exact(R.ch.set1 _).sh) R.noted).mono ?_;rw[Bw.out];rintro e w2 ⟨rfl,hsh2,iD⟩;have zc:Ch w w2 b v X (.slice a aV.length c) aV.length xs sg:=(R.ch.set1 _).noted hsh2 iD
     have adj:w2.cell? ⟨w.heap.size,1,none⟩=some (.string (s.extract p i)):=by
      have e:=(World.cell?_of_block (a:=⟨w.heap.size,1,none⟩) (iD.block w.heap.size (by simpa[World.setCell] using Gp) (by simp;omega)));rw[e];obtain⟨tx,h1⟩:=R.ch.cb;exact au (aP h1 _) rfl
     have bJ:=R.few;have zl:=zc.gb.size;obtain⟨⟨tx2,cc0,_⟩,cz⟩:=zc.cells;go_wp2_with (at_builtin;refine wpList_append_own _ rfl (.tmp 49) (.tmp 51) 81 rfl (w.heap.size+1) 117 i0 (.agg #[.int .u8 0,.string ⟨#[]⟩]) 2 24 underlying81 hi gP gQ gR rfl (by decide) _ _ _ rfl (zc.own.alloc _) ⟨w2.heap.size,0,none⟩ 1 1 [.int .u8 sg,.string (s.extract p i)] rfl rfl ?c1ex ?c2ex ?c3ex ?c4ex ?c5ex ?_)
     case c1ex=>exact bg w2 _ rfl _ _ _ rfl
     case c2ex=>exact Tp _ _
     case c3ex=>unfold maxLen;omega
     case c4ex=>omega
     case c5ex=>simp only[World.size_alloc];have:=(R.ch.own.lt);have:=Gp;have hq:=zl;omega
     ·intro v' w3 cj fB _;have bH:w3.ownsRow (w.heap.size+1) 117 2 v' (aV++[(p,i)]).length (xs++[.int .u8 sg,.string (s.extract p i)]):=by simpa using cj
      have Gq:=(zc.alloc (Obj.cells #[.int .u8 sg,.string (s.extract p i)] 117)).app fB bH;obtain⟨⟨tx3,cd0,cd1⟩,cz3⟩:=Gq.cells
      have R3:zG w b v s fr i nr M v' (i+1) (i+1) w3 X (aV++[(p,i)]) (xs++[.int .u8 sg,.string (s.extract p i)]) sg:=by
       obtain⟨q1,q2,md,q3,q4⟩:=R.go (by omega);have hen:=Of q3 q4 HP.out.mark;rw[HX.out] at hen;have FV:=lM R.noted (decide (aV.length=4)) R_pi;rw[HX.out] at FV;exact⟨Gq,by unfold i9 at FV ⊢;omega,R.txs.snoc _ _ _,R.sgs.snoc R.txs (R.sgn (by omega)),λe=>by omega,by omega,by omega,by simp;omega,aF,by omega,λe=>by omega,λ_=>⟨⟨aV,p,rfl,q1,R_pi,q2⟩,FV,_,hen⟩⟩
      clear cj fB bH Gq zc R;go_wp2;go_roundg 0
      case measure=>omega
      case rel=>exact⟨i+1,i+1,X,_,_,_,by go_num,by go_num,by omega,R3⟩
    ·have g4:((aV.length:Int)==4)=false:=by simp;omega
     obtain⟨X,HX,hX⟩:∃X,Hid (dq (decide (aV.length=4)) hm p=X)/\hm=X:=⟨hm,by simp[Hid,dq,h4],rfl⟩;clear h4;have zc:Ch w (wr.setCell ⟨w.heap.size,1,none⟩ (.string (s.extract p i))) b v X (.slice a aV.length c) aV.length xs sg:=by rw[<-hX];exact R.ch.set1 _
     clear hX;have bJ:=R.few;have zl:=zc.gb.size;go_wp2_with (at_builtin;refine wpList_append_own _ rfl (.tmp 49) (.tmp 51) 81 rfl (w.heap.size+1) 117 i0 (.agg #[.int .u8 0,.string ⟨#[]⟩]) 2 24 underlying81 hi gP gQ gR rfl (by decide) _ _ _ rfl (zc.own.alloc _) ⟨wr.heap.size,0,none⟩ 1 1 [.int .u8 sg,.string (s.extract p i)] rfl rfl ?c1ey ?c2ey ?c3ey ?c4ey ?c5ey ?_)
     case c1ey=>exact bg (wr.setCell ⟨w.heap.size,1,none⟩ (.string (s.extract p i))) _ (by simp[World.setCell]) _ _ _ rfl
     case c2ey=>exact Tp _ _
     case c3ey=>unfold maxLen;omega
     case c4ey=>omega
     case c5ey=>simp only[World.size_alloc];have:=(R.ch.own.lt);have:=Gp;have hq:=zl;omega
     ·intro v' w3 cj fB _;have bH:w3.ownsRow (w.heap.size+1) 117 2 v' (aV++[(p,i)]).length (xs++[.int .u8 sg,.string (s.extract p i)]):=by simpa using cj
      have Gq:=(zc.alloc (Obj.cells #[.int .u8 sg,.string (s.extract p i)] 117)).app fB bH;obtain⟨⟨tx3,cd0,cd1⟩,cz3⟩:=Gq.cells
      have R3:zG w b v s fr i nr M v' (i+1) (i+1) w3 X (aV++[(p,i)]) (xs++[.int .u8 sg,.string (s.extract p i)]) sg:=by
       obtain⟨q1,q2,md,q3,q4⟩:=R.go (by omega);have hen:=Of q3 q4 HP.out.mark;rw[HX.out] at hen;have FV:=lM R.noted (decide (aV.length=4)) R_pi;rw[HX.out] at FV;exact⟨Gq,by unfold i9 at FV ⊢;omega,R.txs.snoc _ _ _,R.sgs.snoc R.txs (R.sgn (by omega)),λe=>by omega,by omega,by omega,by simp;omega,aF,by omega,λe=>by omega,λ_=>⟨⟨aV,p,rfl,q1,R_pi,q2⟩,FV,_,hen⟩⟩
      clear cj fB bH Gq zc R;go_wp2;go_roundg 0
      case measure=>omega
      case rel=>exact⟨i+1,i+1,X,_,_,_,by go_num,by go_num,by omega,R3⟩
   ·obtain rfl:i=to+1:=by omega
    have R2:=R;clear R;have hd:decide (((to+1:Nat):Int)<=(to:Int))=false:=by simp;omega
    go_wp2;go_ret;obtain⟨q1,q2,q3⟩:=R2.done rfl;exact⟨a,c,aV,xs,hm,rfl,R2.ch.sh,R2.ch.gb,ba R2.ch.own (by omega),⟨R2.txs,R2.sgs⟩,q1,q2,q3⟩
end
section
variable {t:ByteArray}
theorem Tryz.info149:(Tryz.prog.info? 149).map (λi=>(i.zero,i.size,i.bytes))=some (some (.agg #[.int .u8 0,.string ⟨#[]⟩,.bool false]),3,32):=by kernel_rfl
def DOK (t:ByteArray):Prop:=∀k,k<t.size->(k=0∨bt t (k - 1)=59)->k+2<t.size/\bt t k≠59/\bt t (k+1)≠59/\bt t (k+2)≠59
structure ei where
 pr:Nat
 val:ByteArray
 must:Bool
def kW (ds:List ei):List Value:=ds.flatMap λd=>[.int .u8 d.pr,.string d.val,.bool d.must]
theorem xi (ds:List ei)(d:ei):kW (ds++[d])=kW ds++[.int .u8 d.pr,.string d.val,.bool d.must]:=by
 unfold kW;rw[List.flatMap_append];simp
theorem OK {ds:List ei}{i:Nat}(h:i<ds.length):(kW ds)[i*3]?=some (.int .u8 ds[i].pr)/\(kW ds)[i*3+1]?=some (.string ds[i].val)/\(kW ds)[i*3+2]?=some (.bool ds[i].must):=by
 induction ds generalizing i with
 | nil=>simp at h
 | cons d ds ih=>
  cases i with
  | zero=>exact⟨rfl,rfl,rfl⟩
  | succ i=>
   obtain⟨h1,h2,h3⟩:=ih (i:=i) (by simpa using h);have e:kW (d :: ds)=.int .u8 d.pr :: .string d.val :: .bool d.must :: kW ds:=rfl;rw[e,show(i+1)*3=i*3+3 from by omega];refine⟨?_,?_,?_⟩
   ·simpa using h1
   ·rw[show i*3+3+1=i*3+1+3 from by omega];simpa using h2
   ·rw[show i*3+3+2=i*3+2+3 from by omega];simpa using h3
def mH (t:ByteArray)(f e:Nat):ei:=
 if bt (t.extract (f+2) e) ((t.extract (f+2) e).size - 1)=33 then⟨bt t f,(t.extract (f+2) e).extract 0 ((t.extract (f+2) e).size - 1),true⟩ else⟨bt t f,t.extract (f+2) e,false⟩
def DeclsPre (t:ByteArray):Nat->Nat->List ei->Prop
 | i,j,[]=>i=j
 | i,j,d :: ds=>i<t.size/\∃e,VS t i 59 e/\d=mH t i e/\DeclsPre t (e+1) j ds
theorem DeclsPre.snoc {j e:Nat}(h1:j<t.size)(h2:VS t j 59 e):∀{ds:List ei} {i:Nat},DeclsPre t i j ds->DeclsPre t i (e+1) (ds++[mH t j e])
 | [],_,h=>by simp only[DeclsPre] at h;subst h;exact⟨h1,e,h2,rfl,rfl⟩
 | _ :: _,_,⟨a,x,b,c,d⟩=>⟨a,x,b,c,DeclsPre.snoc h1 h2 d⟩
def rE (t:ByteArray)(ds:List ei):Prop:=∃j,t.size<=j/\DeclsPre t 0 j ds
structure Vl (w:World)(t:ByteArray)(vo:Value)(f:Nat)(wr:World)(ds:List ei):Prop where
 bel:Below w.heap.size w wr
 own:wr.ownsRow w.heap.size 149 3 vo ds.length (kW ds)
 few:ds.length<=f
 pre:DeclsPre t 0 f ds
 hi:f<=t.size+1
 beg:f<t.size->(f=0∨bt t (f - 1)=59)
def XS (w:World)(t:ByteArray)(e:Ending)(w':World):Prop:=∃(a:Option Addr) (c:Nat) (ds:List ei),e=.returned (.slice a ds.length c)/\Below w.heap.size w w'/\w'.ownsRow w.heap.size 149 3 (.slice a ds.length c) ds.length (kW ds)/\Hid (rE t ds)
theorem Mh {f r:Nat}(h:DOK t)(hf:f<t.size)(hb:f=0∨bt t (f - 1)=59)(hu:VS t f 59 r):f+2<r/\r<=t.size:=by
 obtain⟨h1,h2,h3,h4⟩:=h f hf hb;obtain⟨u1,u2,u3,u4⟩:=hu;refine⟨?_,u2⟩;apply Nat.lt_of_not_le;intro hr;have:=u4 (by omega);have hc:r=f∨r=f+1∨r=f+2:=by omega
 rcases hc with rfl | rfl | rfl
 ·exact h2 this
 ·exact h3 this
 ·exact h4 this
theorem U2 (a:Int)(t:ByteArray)(b:Bool):∀u∈[Value.int .u8 a,Value.string t,Value.bool b],u.oneCell'=true:=by
 intro u hu;simp only[List.mem_cons,List.not_mem_nil,or_false] at hu;rcases hu with rfl | rfl | rfl<;>rfl
theorem Kq (w:World)(t:ByteArray)(ht:t.size<=400)(hD:DOK t):
  Calls prog 55 #[.string t] w λe w'=>XS w t e w':=by
 have HD:=aw hD;clear hD;obtain⟨i0,hi,gP,gQ,gR⟩:=info_parts Tryz.info149;go_enter func55,ntmps55;go_wp2_with fail
 go_loopg [3,4] (t.size+1) (λgk vo fv wr=>∃(f:Nat) (ds:List ei),fv=.int .i64 f/\t.size+1 - f<=gk/\Vl w t vo f wr ds)
 case atStart=>exact⟨0,[],rfl,by omega,bo,eB,aF,rfl,by omega,λ_=>ax rfl⟩
 case round=>
  obtain⟨f,ds,rfl,fT,R⟩:=hrel;have R_hi:=R.hi;have R_few:=R.few;obtain⟨a,c,hv⟩:=aK R.own;subst hv
  by_cases bc:f<t.size
  ·have hd:decide ((f:Int)<(t.size:Int))=true:=by simp;omega
   go_wp2_with fail;refine(nS _ t f 59 ht (by omega)).mono ?_;rintro e w1 ⟨r,rfl,rfl,HU⟩;obtain⟨IZ,Ea⟩:=Mh HD.out bc (R.beg bc) HU.out;go_wp2
   go_region
   have il:1<=(t.extract (f+2) r).size/\(t.extract (f+2) r).size<=400:=by rw[ByteArray.size_extract];omega
   have Vq:Hid (mH t f r=if bt (t.extract (f+2) r) ((t.extract (f+2) r).size - 1)=33 then⟨t[f].toNat,(t.extract (f+2) r).extract 0 ((t.extract (f+2) r).size - 1),true⟩ else⟨t[f].toNat,t.extract (f+2) r,false⟩):=by
    unfold Hid mH;rw[bV t f bc]
   generalize t.extract (f+2) r=u at il Vq ⊢;generalize t[f].toNat=x at Vq ⊢;obtain⟨aes,zl⟩:=il;have hul:u.size - 1<u.size:=by omega
   by_cases k1:bt u (u.size - 1)=33
   ·have he:((u[u.size - 1].toNat:Int)==33)=true:=by rw[<-bV u _ hul,k1];rfl
    have oZ:Hid (mH t f r=⟨x,u.extract 0 (u.size - 1),true⟩):=by unfold Hid;rw[Vq.out,aE k1]
    clear k1;go_wp2_with (at_builtin;refine wpList_append_own _ rfl (.tmp 40) (.tmp 42) 77 rfl w.heap.size 149 i0 (.agg #[.int .u8 0,.string ⟨#[]⟩,.bool false]) 3 32 underlying77 hi gP gQ gR rfl (by decide) _ _ _ rfl ((R.own.alloc _).alloc _).drew ⟨w1.heap.size+1,0,none⟩ 1 1 [.int .u8 x,.string (u.extract 0 (u.size - 1)),.bool true] rfl rfl ?c1a ?c2a ?c3a ?c4a ?c5a ?_)
    case c1a=>exact bg (w1.alloc _) _ (by simp) _ _ _ rfl
    case c2a=>exact U2 _ _ _
    case c3a=>unfold maxLen;omega
    case c4a=>omega
    case c5a=>have:=R.bel.size;simp;omega
    ·intro v' w3 cj fB _
     have R3:Vl w t v' (r+1) w3 (ds++[mH t f r]):=by
      refine⟨?_,by rw[xi,oZ.out];simpa using cj,by simp;omega,R.pre.snoc bc HU.out,by omega,λh=>az ?_⟩
      ·refine Below.grown (Below.drew ((R.bel.alloc R.bel.size _).alloc (by have:=R.bel.size;simp;omega) _)) fB (by have:=R.bel.size;simp;omega) (λk hk=>(R.own.lt k hk).1)
      ·have:=HU.out.2.2.2 (by omega);simpa using this
     clear cj fB R;go_wp2;go_roundg (t.size+1 - (r+1))
     case measure=>omega
     case rel=>exact⟨r+1,_,by go_num,aF,R3⟩
   ·have he:((u[u.size - 1].toNat:Int)==33)=false:=by rw[<-bV u _ hul];simp;omega
    have oZ:Hid (mH t f r=⟨x,u,false⟩):=by unfold Hid;rw[Vq.out,aA k1]
    clear k1;go_wp2_with (at_builtin;refine wpList_append_own _ rfl (.tmp 40) (.tmp 42) 77 rfl w.heap.size 149 i0 (.agg #[.int .u8 0,.string ⟨#[]⟩,.bool false]) 3 32 underlying77 hi gP gQ gR rfl (by decide) _ _ _ rfl ((R.own.alloc _).alloc _).drew ⟨w1.heap.size+1,0,none⟩ 1 1 [.int .u8 x,.string u,.bool false] rfl rfl ?c1b ?c2b ?c3b ?c4b ?c5b ?_)
    case c1b=>exact bg (w1.alloc _) _ (by simp) _ _ _ rfl
    case c2b=>exact U2 _ _ _
    case c3b=>unfold maxLen;omega
    case c4b=>omega
    case c5b=>have:=R.bel.size;simp;omega
    ·intro v' w3 cj fB _
     have R3:Vl w t v' (r+1) w3 (ds++[mH t f r]):=by
      refine⟨?_,by rw[xi,oZ.out];simpa using cj,by simp;omega,R.pre.snoc bc HU.out,by omega,λh=>az ?_⟩
      ·refine Below.grown (Below.drew ((R.bel.alloc R.bel.size _).alloc (by have:=R.bel.size;simp;omega) _)) fB (by have:=R.bel.size;simp;omega) (λk hk=>(R.own.lt k hk).1)
      ·have:=HU.out.2.2.2 (by omega);simpa using this
     clear cj fB R;go_wp2;go_roundg (t.size+1 - (r+1))
     case measure=>omega
     case rel=>exact⟨r+1,_,by go_num,aF,R3⟩
  ·have R2:=R;have hd:decide ((f:Int)<(t.size:Int))=false:=by simp;omega
   clear R;go_wp2;go_ret;exact⟨a,c,ds,rfl,R2.bel,R2.own,f,by omega,R2.pre⟩
end
end Go.Proofs.YtblfffbmklkhmabGreat
