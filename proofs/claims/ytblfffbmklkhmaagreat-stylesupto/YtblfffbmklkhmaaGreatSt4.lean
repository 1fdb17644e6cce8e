import Derived.Test.YtblfffbmklkhmaaGreatSt3
import Derived.Deep.LoopGhost
namespace Go.Proofs.YtblfffbmklkhmaaGreat
open Go.RowKit
def ic (s:ByteArray) (i:Nat) (p:PPt) (j:Nat):Prop:=p=iJ s i∧p.kd≠1∧(p.kd=3↔bt s i=35)∧j=i+sl s i∧(bt s i=46∨bt s i=35∨bt s i=58)∧Plain s i j∧SOK s i
def jc (s:ByteArray) (i:Nat) (p:PPt) (j:Nat):Prop:=
 p=kz s i∧if bt s i=33 then (if fl (bt s (i+1))=true then p.kd=1∧j=i+2 else ic s (i+1) ⟨false,p.kd,p.lt,p.st,p.sr⟩ j) else ic s i p j
theorem Kq (s:ByteArray) (i:Nat):(gR s i).nt=false:=by unfold gR;(repeat' split)<;>rfl
theorem EV (s:ByteArray) (i:Nat):(iJ s i).nt=false:=by unfold iJ;split;rfl;split;rfl;exact Kq _ _
theorem IB {s:ByteArray} {i j:Nat} {nt:Bool} {kd lt st sr:Int} (h:ic s i ⟨nt,kd,lt,st,sr⟩ j):ic s i ⟨false,kd,lt,st,sr⟩ j:=by
 have h1:=EV s i
 rw [←h.1] at h1
 replace h1:nt=false:=h1
 subst h1
 exact h
theorem xd {s:ByteArray} {i:Nat} (h:bt s i=46∨bt s i=35):Sim s 8 i 4 (i+1)∧i<s.size:=by
 have hi:i<s.size:=lr (by omega)
 refine ⟨dS hi ?_ (by decide) (fun k=>by simp [cnt]),hi⟩
 have hl:fl (bt s i)=false:=by simp only [fl,decide_eq_false_iff_not];omega
 simp [bC,hl,il,h]
theorem G1 {s:ByteArray} {i:Nat} (h:bt s i=58):Sim s 8 i 5 (i+1)∧i<s.size:=by
 have hi:i<s.size:=lr (by omega)
 refine ⟨dS hi ?_ (by decide) (fun k=>by simp [cnt]),hi⟩
 simp [bC,fl,il,h]
theorem IE {s:ByteArray} {i:Nat} (hl:fl (bt s i)=false) (h1:bt s i≠46) (h2:bt s i≠35) (h3:bt s i≠58):sf s 8 i i:=
 iT (by decide) (by simp [bC,hl,il,h1,h2,h3])
theorem uF {s:ByteArray} {i:Nat} (h:fl (bt s i)=true∧i<s.size):Sim s 4 i 3 (i+1):=dS h.2 (by simp [bC,h.1,wh]) (by decide) (fun k=>by simp [cnt])
theorem xV {s:ByteArray} {i:Nat} (h:fl (bt s i)=false):sf s 4 i i:=iT (by decide) (by simp [bC,h,wh])
abbrev ud:Obj:=Obj.cells #[Value.bool false,Value.int IntKind.i64 0,Value.int IntKind.u8 0,Value.int IntKind.i64 0,Value.int IntKind.i64 0] 192
set_option maxHeartbeats 1000000 in
theorem mO (w:World) (b:Nat) (s:ByteArray) (i:Nat) (m:Int) (h:Rd w b s i m) (hL:fl (bt s i)=false) :
  Calls Tryz.prog 219 #[.pointer (some ⟨b,0,none⟩)] w fun e w'=>vh 8 w b s i m ic e w':=by
 have hb:=h.lt
 have c1:=h.c1
 have f1:=h.fr 1
 have oz:=h.le
 have sN:=h.top
 have HL:Hid (fl (bt s i)=false):=hL
 clear hL
 go_enter Tryz.func219,Tryz.ntmps219
 go_wp2_with fail
 refine (jd _ b s i m (by exact h.alloc _)).mono ?_
 rintro e w1 ⟨rfl,n1,rfl⟩
 by_cases k1:bt s i=46
 ·have g1:((bt s i:Int)==46)=true:=by simp [k1]
  have K1:Hid (bt s i=46):=k1
  clear k1
  have hp:=xd (Or.inl K1.out)
  have HP:Hid (Sim s 8 i 4 (i+1)):=hp.1
  have aN:=hp.2
  clear hp
  go_wp2_with fail
  have ha:=((h.at0.alloc ud).drewN n1).setAt (j:=i+1) (v:=(i:Int)+1) (by omega) (by omega)
  refine (nB _ b s (i+1) m 2 (by exact ha.rd)).mono ?_
  rintro e w2 (⟨rfl,cN,bo⟩ | ⟨rfl,cN,bo⟩)
  ·have cZ:=ha.trans cN
   obtain ⟨hc,hz⟩:=cN.cells w.heap.size (by simp [World.setCell]) (by omega)
   go_wp2_with fail
   refine bodyPost_ret (v:=.tuple #[.agg #[.bool false,.int .i64 2,.int .u8 (bt s (i+1)),.int .i64 0,.int .i64 0],.bool true]) (by simp [results,Tryz.results219,go_sem,hc]) rfl (Or.inl ⟨false,2,_,0,0,i+2,rfl,cZ.set5 hb (Nat.le_refl _) _ _ _ _ _,?_⟩)
   refine ⟨HP.out.trans (uF bo.out),bo.out.2,by unfold iJ;rw [K1.out];rfl,(by show (2:Int)≠1;decide),?_,?_,?_,(Plain.one (jh (by have:=K1.out;omega))).cat (Plain.one (sA bo.out.1)),Or.inl ⟨by have:=K1.out;omega,bo.out.1⟩⟩
   ·have h0:=K1.out;simp [h0]
   ·have:=K1.out;simp only [sl];rw [if_neg (by omega)]
   ·have:=K1.out;omega
  ·have cZ:=ha.trans cN
   obtain ⟨hc,hz⟩:=cN.cells w.heap.size (by simp [World.setCell]) (by omega)
   go_wp2_with fail
   refine bodyPost_ret (v:=.tuple #[.agg #[.bool false,.int .i64 2,.int .u8 0,.int .i64 0,.int .i64 0],.bool false]) (by simp [results,Tryz.results219,go_sem,hc]) rfl (Or.inr ⟨false,2,0,0,0,i+1,rfl,cZ.set5 hb (Nat.le_refl _) _ _ _ _ _,HP.out.bad (xV bo.out)⟩)
 have g1:((bt s i:Int)==46)=false:=by simp;omega
 by_cases k2:bt s i=35
 ·have g2:((bt s i:Int)==35)=true:=by simp [k2]
  have K1:Hid (bt s i=35):=k2
  clear k1 k2
  have hp:=xd (Or.inr K1.out)
  have HP:Hid (Sim s 8 i 4 (i+1)):=hp.1
  have aN:=hp.2
  clear hp
  go_wp2_with fail
  have ha:=((h.at0.alloc ud).drewN n1).setAt (j:=i+1) (v:=(i:Int)+1) (by omega) (by omega)
  refine (nB _ b s (i+1) m 3 (by exact ha.rd)).mono ?_
  rintro e w2 (⟨rfl,cN,bo⟩ | ⟨rfl,cN,bo⟩)
  ·have cZ:=ha.trans cN
   obtain ⟨hc,hz⟩:=cN.cells w.heap.size (by simp [World.setCell]) (by omega)
   go_wp2_with fail
   refine bodyPost_ret (v:=.tuple #[.agg #[.bool false,.int .i64 3,.int .u8 (bt s (i+1)),.int .i64 0,.int .i64 0],.bool true]) (by simp [results,Tryz.results219,go_sem,hc]) rfl (Or.inl ⟨false,3,_,0,0,i+2,rfl,cZ.set5 hb (Nat.le_refl _) _ _ _ _ _,?_⟩)
   refine ⟨HP.out.trans (uF bo.out),bo.out.2,by unfold iJ;rw [K1.out];rfl,(by show (3:Int)≠1;decide),?_,?_,?_,(Plain.one (jh (by have:=K1.out;omega))).cat (Plain.one (sA bo.out.1)),Or.inl ⟨by have:=K1.out;omega,bo.out.1⟩⟩
   ·have h0:=K1.out;simp [h0]
   ·have:=K1.out;simp only [sl];rw [if_neg (by omega)]
   ·have:=K1.out;omega
  ·have cZ:=ha.trans cN
   obtain ⟨hc,hz⟩:=cN.cells w.heap.size (by simp [World.setCell]) (by omega)
   go_wp2_with fail
   refine bodyPost_ret (v:=.tuple #[.agg #[.bool false,.int .i64 3,.int .u8 0,.int .i64 0,.int .i64 0],.bool false]) (by simp [results,Tryz.results219,go_sem,hc]) rfl (Or.inr ⟨false,3,0,0,0,i+1,rfl,cZ.set5 hb (Nat.le_refl _) _ _ _ _ _,HP.out.bad (xV bo.out)⟩)
 have g2:((bt s i:Int)==35)=false:=by simp;omega
 by_cases k3:bt s i=58
 ·have g3:((bt s i:Int)==58)=true:=by simp [k3]
  have K1:Hid (bt s i=58):=k3
  clear k1 k2 k3
  have hp:=G1 K1.out
  have HP:Hid (Sim s 8 i 5 (i+1)):=hp.1
  have aN:=hp.2
  clear hp
  go_wp2_with fail
  have ha:=((h.at0.alloc ud).drewN n1).setAt (j:=i+1) (v:=(i:Int)+1) (by omega) (by omega)
  refine (vB _ b s (i+1) m (by exact ha.rd)).mono ?_
  rintro e w2 (⟨nt,kd,lt,st,sr,j,rfl,cN,bo⟩ | ⟨nt,kd,lt,st,sr,j,rfl,cN,bo⟩)
  ·have cZ:=ha.trans cN
   obtain ⟨hc,hz⟩:=cN.cells w.heap.size (by simp [World.setCell]) (by omega)
   go_wp2_with fail
   refine bodyPost_ret (v:=.tuple #[.agg #[.bool nt,.int .i64 kd,.int .u8 lt,.int .i64 st,.int .i64 sr],.bool true]) (by simp [results,Tryz.results219,go_sem,hc]) rfl (Or.inl ⟨nt,kd,lt,st,sr,j,rfl,cZ.set5 hb (Nat.le_refl _) _ _ _ _ _,?_⟩)
   obtain ⟨q1,q2,q0,q3,q4,q5,q6,q7⟩:=bo.out
   replace q3:(4:Int)≤kd:=q3
   refine ⟨HP.out.trans q1,q2,by rw [q0];unfold iJ;rw [K1.out];rfl,by show kd≠1;omega,?_,?_,?_,(Plain.one (jh (by have:=K1.out;omega))).cat q6,Or.inr ⟨K1.out,q7⟩⟩
   ·have:=K1.out;show kd=3↔_;omega
   ·have:=K1.out;simp only [sl,this,true_and];rw [q5];split<;>omega
   ·have:=K1.out;omega
  ·have cZ:=ha.trans cN
   obtain ⟨hc,hz⟩:=cN.cells w.heap.size (by simp [World.setCell]) (by omega)
   go_wp2_with fail
   refine bodyPost_ret (v:=.tuple #[.agg #[.bool nt,.int .i64 kd,.int .u8 lt,.int .i64 st,.int .i64 sr],.bool false]) (by simp [results,Tryz.results219,go_sem,hc]) rfl (Or.inr ⟨nt,kd,lt,st,sr,j,rfl,cZ.set5 hb (Nat.le_refl _) _ _ _ _ _,HP.out.bad bo.out⟩)
 ·have g3:((bt s i:Int)==58)=false:=by simp;omega
  have HB:Hid (sf s 8 i i):=IE HL.out k1 k2 k3
  clear k1 k2 k3
  go_wp2_with fail
  refine bodyPost_ret (v:=.tuple #[.agg #[.bool false,.int .i64 0,.int .u8 0,.int .i64 0,.int .i64 0],.bool false]) (by simp [results,Tryz.results219,go_sem]) rfl (Or.inr ⟨false,0,0,0,0,i,rfl,(((h.at0.alloc _).drewN _).set5 hb (Nat.le_refl _) _ _ _ _ _),HB.out⟩)
theorem tZ {s:ByteArray} {i:Nat} (h:bt s i=33) (hi:i<s.size):Sim s 3 i 8 (i+1):=
 dS hi (by simp [bC,gH,h]) (by decide) (fun k=>by simp [cnt,fM,h])
theorem N3 {s:ByteArray} {i:Nat} (hA:lJ (bt s i)=true) (h:bt s i≠33):Sim s 3 i 8 i∧fl (bt s i)=false:=by
 simp only [lJ,decide_eq_true_eq] at hA
 have hl:fl (bt s i)=false:=by simp only [fl,decide_eq_false_iff_not];omega
 have hs:fM (bt s i)=false:=by simp only [fM,decide_eq_false_iff_not];omega
 have h1:¬ bt s i=44:=by omega
 have h2:¬ bt s i=123:=by omega
 exact ⟨kY (by decide) (by decide) (by simp [bC,gH,hl,hs,h,h1,h2]) (fun k=>by simp [cnt,hs,h1]),hl⟩
theorem LA {s:ByteArray} {i:Nat} (h:fl (bt s i)=true∧i<s.size):Sim s 8 i 3 (i+1):=dS h.2 (by simp [bC,h.1]) (by decide) (fun k=>by simp [cnt])
set_option maxHeartbeats 1000000 in
theorem LZ (w:World) (b:Nat) (s:ByteArray) (i:Nat) (m:Int) (h:Rd w b s i m) (hA:lJ (bt s i)=true) :
  Calls Tryz.prog 213 #[.pointer (some ⟨b,0,none⟩)] w fun e w'=>vh 3 w b s i m jc e w':=by
 have hb:=h.lt
 have HA:Hid (lJ (bt s i)=true):=hA
 clear hA
 go_enter Tryz.func213,Tryz.ntmps213
 go_wp2_with fail
 refine (gK _ b s i m 33 (by exact h.alloc _) (by decide)).mono ?_
 rintro e w1 (⟨rfl,ha,hf⟩ | ⟨rfl,ha,hf⟩)
 ·have fO:=ha.size
  simp only [World.size_alloc] at fO
  go_wp2_with fail
  refine (oO _ b s (i+1) m (by exact ha.rd)).mono ?_
  rintro e w2 (⟨rfl,cN,bo⟩ | ⟨rfl,cN,bo⟩)
  ·have cZ:=ha.trans cN
   obtain ⟨hc,hz⟩:=cZ.cells w.heap.size (by simp) (by omega)
   go_wp2_with fail
   refine bodyPost_ret (v:=.tuple #[.agg #[.bool true,.int .i64 1,.int .u8 (bt s (i+1)),.int .i64 0,.int .i64 0],.bool true]) (by simp [results,Tryz.results213,go_sem,hc]) rfl (Or.inl ⟨true,1,_,0,0,i+2,rfl,cZ.ofAlloc.set5 hb (Nat.le_refl _) _ _ _ _ _,?_⟩)
   have hq:bt s i=33:=by have:=hf.out.1;omega
   refine ⟨(tZ hq hf.out.2).trans (LA bo.out),bo.out.2,?_⟩
   exact ⟨by unfold kz;rw [if_pos hq,if_pos bo.out.1],by rw [if_pos hq,if_pos bo.out.1];exact ⟨rfl,rfl⟩⟩
  ·have cZ:=ha.trans cN
   have nX:=cZ.size
   simp only [World.size_alloc] at nX
   go_wp2_with fail
   refine (mO _ b s (i+1) m (by exact cN.rd) bo.out).mono ?_
   have hq:bt s i=33:=by have:=hf.out.1;omega
   have HQ:Hid (bt s i=33):=hq
   clear hq
   rintro e w3 (⟨nt,kd,lt,st,sr,j,rfl,iC,gY⟩ | ⟨nt,kd,lt,st,sr,j,rfl,iC,gY⟩)
   ·have mM:=cZ.trans iC
    have EK:w.heap.size<w3.heap.size:=by have:=mM.size;simp only [World.size_alloc] at this;omega
    obtain ⟨hc,hz⟩:=mM.cells w.heap.size (by simp) (by omega)
    go_wp2_with fail
    refine bodyPost_ret (v:=.tuple #[.agg #[.bool true,.int .i64 kd,.int .u8 lt,.int .i64 st,.int .i64 sr],.bool true]) (by simp [results,Tryz.results213,go_sem,hc,EK]) rfl (Or.inl ⟨true,kd,lt,st,sr,j,rfl,(mM.ofAlloc.set5 hb (Nat.le_refl _) _ _ _ _ _).alloc _,?_⟩)
    exact ⟨(tZ HQ.out hf.out.2).trans gY.out.1,gY.out.2.1,⟨by unfold kz;rw [if_pos HQ.out,if_neg (by rw [bo.out];simp),←gY.out.2.2.1];rfl,by rw [if_pos HQ.out,if_neg (by rw [bo.out];simp)];exact IB gY.out.2.2⟩⟩
   ·have mM:=cZ.trans iC
    have EK:w.heap.size<w3.heap.size:=by have:=mM.size;simp only [World.size_alloc] at this;omega
    obtain ⟨hc,hz⟩:=mM.cells w.heap.size (by simp) (by omega)
    go_wp2_with fail
    exact bodyPost_ret (v:=.tuple #[.agg #[.bool true,.int .i64 kd,.int .u8 lt,.int .i64 st,.int .i64 sr],.bool false]) (by simp [results,Tryz.results213,go_sem,hc,EK]) rfl (Or.inr ⟨true,kd,lt,st,sr,j,rfl,(mM.ofAlloc.set5 hb (Nat.le_refl _) _ _ _ _ _).alloc _,(tZ HQ.out hf.out.2).bad gY.out⟩)
 ·have hn:bt s i≠33:=by have:=hf.out;omega
  obtain ⟨q1,q2⟩:=N3 HA.out hn
  have HQ:Hid (Sim s 3 i 8 i∧bt s i≠33):=⟨q1,hn⟩
  clear q1 hn
  go_wp2_with fail
  refine (mO _ b s i m (by exact ha.rd) q2).mono ?_
  rintro e w2 (⟨nt,kd,lt,st,sr,j,rfl,cN,bo⟩ | ⟨nt,kd,lt,st,sr,j,rfl,cN,bo⟩)
  ·have cZ:=ha.trans cN
   obtain ⟨hc,hz⟩:=cZ.cells w.heap.size (by simp) (by omega)
   go_wp2_with fail
   refine bodyPost_ret (v:=.tuple #[.agg #[.bool nt,.int .i64 kd,.int .u8 lt,.int .i64 st,.int .i64 sr],.bool true]) (by simp [results,Tryz.results213,go_sem,hc]) rfl (Or.inl ⟨nt,kd,lt,st,sr,j,rfl,cZ.ofAlloc.set5 hb (Nat.le_refl _) _ _ _ _ _,?_⟩)
   exact ⟨HQ.out.1.trans bo.out.1,bo.out.2.1,⟨by unfold kz;rw [if_neg HQ.out.2];exact bo.out.2.2.1,by rw [if_neg HQ.out.2];exact bo.out.2.2⟩⟩
  ·have cZ:=ha.trans cN
   obtain ⟨hc,hz⟩:=cZ.cells w.heap.size (by simp) (by omega)
   go_wp2_with fail
   refine bodyPost_ret (v:=.tuple #[.agg #[.bool nt,.int .i64 kd,.int .u8 lt,.int .i64 st,.int .i64 sr],.bool false]) (by simp [results,Tryz.results213,go_sem,hc]) rfl (Or.inr ⟨nt,kd,lt,st,sr,j,rfl,cZ.ofAlloc.set5 hb (Nat.le_refl _) _ _ _ _ _,HQ.out.1.bad bo.out⟩)
end Go.Proofs.YtblfffbmklkhmaaGreat
namespace Go.Proofs.YtblfffbmklkhmaaGreat
open Go.RowKit
theorem Tryz.info192:(Tryz.prog.info? 192).map (fun i=>(i.zero,i.size,i.bytes))=some (some (.agg #[.bool false,.int .i64 0,.int .u8 0,.int .i64 0,.int .i64 0]),5,40):=by kernel_rfl
def Kinds:List Value→List PPt→Prop
 | xs,[]=>xs=[]
 | xs,p :: ks=>∃ ys,xs=.bool p.nt :: .int .i64 p.kd :: .int .u8 p.lt :: .int .i64 p.st :: .int .i64 p.sr :: ys∧Kinds ys ks
theorem Kinds.snoc {xs:List Value} {ks:List PPt} (h:Kinds xs ks) (nt:Bool) (kd lt st sr:Int):Kinds (xs++[.bool nt,.int .i64 kd,.int .u8 lt,.int .i64 st,.int .i64 sr]) (ks++[⟨nt,kd,lt,st,sr⟩]):=by
 induction ks generalizing xs with
 | nil=>simp only [Kinds] at h;subst h;exact ⟨[],rfl,rfl⟩
 | cons k ks ih=>
  obtain ⟨ys,rfl,hy⟩:=h
  exact ⟨_,rfl,ih hy⟩
def PartsAt (s:ByteArray):Nat→Nat→List PPt→Prop
 | i,j,[]=>i=j
 | i,j,kd :: ks=>lJ (bt s i)=true∧∃ l,jc s i kd l∧PartsAt s l j ks
theorem PartsAt.snoc {s:ByteArray} {i j l:Nat} {ks:List PPt} {kd:PPt} (h:PartsAt s i j ks) (ha:lJ (bt s j)=true) (hg:jc s j kd l):PartsAt s i l (ks++[kd]):=by
 induction ks generalizing i with
 | nil=>simp only [PartsAt] at h;subst h;exact ⟨ha,l,hg,rfl⟩
 | cons k ks ih=>
  obtain ⟨h1,l',h2,h3⟩:=h
  exact ⟨h1,l',h2,ih h3⟩
theorem lN {s:ByteArray} {i j:Nat} {kd:PPt} (h0:jc s i kd j):i<j:=by
 have h:=h0.2
 have h1:∀ n,2≤sl s n:=by intro n;unfold sl;split<;>omega
 unfold ic at h
 have:=h1 i
 have:=h1 (i+1)
 split at h
 ·split at h<;>omega
 ·omega
structure A8 (w:World) (b:Nat) (s:ByteArray) (i:Nat) (m:Int) (gk:Nat) (v:Value) (wr:World) (j:Nat) (ks:List PPt) (xs:List Value):Prop where
 at':At w wr b s j m
 own:wr.ownsRow w.heap.size 192 5 v ks.length xs
 kinds:Kinds xs ks
 sim:Sim s 3 i 3 j
 le:i≤j
 few:ks.length≤j - i
 parts:PartsAt s i j ks
 gk:s.size - j≤gk
def GK (w:World) (b:Nat) (s:ByteArray) (i:Nat) (m:Int) (e:Ending) (w':World):Prop:=
 (∃ (a:Option Addr) (c:Nat) (ks:List PPt) (xs:List Value) (j:Nat),e=.returned (.tuple #[.slice a ks.length c,.bool true])∧At w w' b s j m∧w'.ownsRow w.heap.size 192 5 (.slice a ks.length c) ks.length xs∧
  Hid (Kinds xs ks∧Sim s 3 i 3 j∧i≤j∧lJ (bt s j)=false∧PartsAt s i j ks))∨
 (∃ j,e=.returned (.tuple #[.slice none 0 0,.bool false])∧At w w' b s j m∧Hid (sf s 3 i j∧lJ (bt s i)=true))
theorem au {w:World} {ae:Nat} {e:TypeId} {size:Nat} {v:Value} {n:Nat} {xs:List Value} (h:w.ownsRow ae e size v n xs):∃ a c,v=.slice a n c:=by
 rcases h.2 with ⟨rfl,rfl⟩ | ⟨g,fL,eU,rfl,_⟩
 ·exact ⟨none,0,rfl⟩
 ·exact ⟨_,_,rfl⟩
theorem At.owns {w w1:World} {b:Nat} {s:ByteArray} {j:Nat} {m:Int} (h:At w w1 b s j m) {ae:Nat} {e:TypeId} {size:Nat} {v:Value} {n:Nat} {xs:List Value} (ho:w.ownsRow ae e size v n xs) (hb:b<ae):w1.ownsRow ae e size v n xs:=by
 refine ho.kept h.gb ?_
 cases hv:v.ownBlock with
 | none=>exact Or.inl rfl
 | some g=>right;intro e;injection e with e;have:=(ho.lt g hv).1;omega
theorem aO (w:World) (B:Nat) (hB:B=w.heap.size) (cs:Array Value) (t:TypeId) (l:List Value) (hl:cs.toList=l) :
  ∀ j u,l[j]?=some u→(w.alloc (.cells cs t)).cell? ((⟨B,0,none⟩:Addr).add j)=some u:=by
 intro j u hu
 subst hB hl
 have YU:(⟨w.heap.size,0,none⟩:Addr).add j=⟨w.heap.size,j,none⟩:=by unfold Addr.add;split<;>simp_all
 rw [YU,cell_of_row _ _ _ cs t (0,0) (heap_alloc_new w _)]
 simpa using hu
theorem Ya (a:Bool) (b c d e:Int):∀ u∈[Value.bool a,Value.int .i64 b,Value.int .u8 c,Value.int .i64 d,Value.int .i64 e],u.oneCell'=true:=by
 intro u hu
 simp only [List.mem_cons,List.not_mem_nil,or_false] at hu
 rcases hu with rfl | rfl | rfl | rfl | rfl<;>rfl
theorem At.app {w w2 w3:World} {b:Nat} {s:ByteArray} {j:Nat} {m:Int} (h:At w w2 b s j m) (hb:b<w.heap.size) {e:TypeId} {size:Nat} {v:Value} {n:Nat} {xs:List Value}
  (ho:w2.ownsRow w.heap.size e size v n xs) (hg:w2.grownBy w3 v.ownBlock):At w w3 b s j m:=by
 have eV:∀ k,k<w.heap.size→some k≠v.ownBlock:=by
  intro k hk e
  have:=(ho.lt k e.symm).1
  omega
 refine ⟨⟨(hg.block b h.rd.lt (eV b hb)).trans h.rd.blk,h.rd.le,h.rd.top,h.rd.lo,h.rd.hi⟩,?_⟩
 exact ⟨hg.os.trans h.gb.os,hg.tape.trans h.gb.tape,hg.output.trans h.gb.output,Nat.le_trans h.gb.size hg.size,
  fun k hk hn=>(hg.block k (Nat.lt_of_lt_of_le hk h.gb.size) (eV k hk)).trans (h.gb.block k hk hn)⟩
theorem zS {s:ByteArray} {i j:Nat} {ks:List PPt} (h:PartsAt s i j ks) (hA:lJ (bt s j)=true):lJ (bt s i)=true:=by
 cases ks with
 | nil=>simp only [PartsAt] at h;subst h;exact hA
 | cons k ks=>exact h.1
set_option maxHeartbeats 1000000 in
theorem qJ (w:World) (b:Nat) (s:ByteArray) (i:Nat) (m:Int) (h:Rd w b s i m) :
  Calls Tryz.prog 206 #[.pointer (some ⟨b,0,none⟩)] w fun e w'=>GK w b s i m e w':=by
 have hb:=h.lt
 have sN:=h.top
 obtain ⟨i0,hi,Wr,fO,nX⟩:=info_parts Tryz.info192
 go_enter Tryz.func206,Tryz.ntmps206
 go_wp2_with fail
 go_loopg [4] (s.size - i) (fun gk v wr=>∃ j ks xs,A8 w b s i m gk v wr j ks xs)
 case atStart=>exact ⟨i,[],[],h.at0,World.ownsRow_nil _ _ _ _,rfl,fun _=>rfl,Nat.le_refl _,by simp,rfl,Nat.le_refl _⟩
 case round=>
  obtain ⟨j,ks,xs,R⟩:=hrel
  have oz:=R.at'.rd.le
  go_wp2_with fail
  refine (wg _ b s j m (by exact R.at'.rd)).mono ?_
  rintro e w1 ⟨rfl,ha⟩
  by_cases hA:lJ (bt s j)=true
  ·have HA:Hid (lJ (bt s j)=true):=hA
   rw [hA]
   clear hA
   go_wp2_with fail
   refine (LZ _ b s j m (by exact ha.rd) HA.out).mono ?_
   rintro e w2 (⟨nt,kd,lt,st,sr,l,rfl,cN,bo⟩ | ⟨nt,kd,lt,st,sr,l,rfl,cN,bo⟩)
   ·have cu:=(ha.trans cN).owns R.own (by omega)
    have wi:=((R.at'.trans ha).trans cN).size
    have bR:=R.few
    go_wp2_with (at_builtin;refine wpList_append_own _ rfl (.tmp 16) (.tmp 18) 188 rfl w.heap.size 192 i0 (.agg #[.bool false,.int .i64 0,.int .u8 0,.int .i64 0,.int .i64 0]) 5 40 Tryz.underlying188 hi Wr fO nX rfl (by decide) _ _ _ rfl ((cu.alloc _).alloc _) ⟨w2.heap.size+1,0,none⟩ 1 1 [.bool nt,.int .i64 kd,.int .u8 lt,.int .i64 st,.int .i64 sr] rfl rfl ?c1 ?c2 ?c3 ?c4 ?c5 ?_)
    case c1=>exact aO (w2.alloc _) _ (by simp) _ _ _ rfl
    case c2=>exact Ya _ _ _ _ _
    case c3=>unfold maxLen;omega
    case c4=>omega
    case c5=>simp;omega
    ·intro v' w3 bB eJ _
     have R3:A8 w b s i m (s.size - l) v' w3 l (ks++[⟨nt,kd,lt,st,sr⟩]) (xs++[.bool nt,.int .i64 kd,.int .u8 lt,.int .i64 st,.int .i64 sr]):=by
      obtain ⟨q1,q2,q3⟩:=bo.out
      have:=lN q3
      exact ⟨((((R.at'.trans ha).trans cN).alloc _).alloc _).app hb ((cu.alloc _).alloc _) eJ,by simpa using bB,R.kinds.snoc _ _ _ _ _,R.sim.trans q1,by have:=R.le;omega,by have:=R.few;have:=R.le;simp;omega,R.parts.snoc HA.out q3,Nat.le_refl _⟩
     have fK:=R.gk
     have Il:j<l:=lN bo.out.2.2
     have G4:=bo.out.2.1
     clear bB eJ cu R
     go_wp2
     go_roundg (s.size - l)
     case measure=>omega
     case rel=>exact ⟨l,_,_,R3⟩
   ·go_wp2_with fail
    go_ret2
    exact Or.inr ⟨l,rfl,((R.at'.trans ha).trans cN).alloc _,R.sim.bad bo.out,zS R.parts HA.out⟩
  ·have Za:lJ (bt s j)=false:=by simpa using hA
   rw [Za]
   have HA:Hid (lJ (bt s j)=false):=Za
   clear hA Za
   obtain ⟨a,c,hv⟩:=au R.own
   have R2:=R
   rw [hv] at R2
   rw [hv]
   go_wp2
   go_ret2
   exact Or.inl ⟨a,c,ks,xs,j,rfl,R2.at'.trans ha,ha.owns R2.own hb,R2.kinds,R2.sim,R2.le,HA.out,R2.parts⟩
end Go.Proofs.YtblfffbmklkhmaaGreat
namespace Go.Proofs.YtblfffbmklkhmaaGreat
open Go.RowKit
def eC (s:ByteArray) (i j:Nat) (ty:Nat) (ks:List PPt):Prop:=
 (fl (bt s i)=true∧ty=bt s i∧PartsAt s (i+1) j ks)∨(fl (bt s i)=false∧bt s i=42∧ty=0∧PartsAt s (i+1) j ks)∨
 (fl (bt s i)=false∧bt s i≠42∧ty=0∧PartsAt s i j ks∧ks≠[])
def Am (w:World) (b:Nat) (s:ByteArray) (i:Nat) (m:Int) (e:Ending) (w':World):Prop:=
 (∃ (ty:Nat) (a:Option Addr) (c:Nat) (ks:List PPt) (xs:List Value) (j:Nat),e=.returned (.tuple #[.agg #[.int .u8 0,.int .u8 ty,.slice a ks.length c],.bool true])∧At w w' b s j m∧w'.ownsRow w.heap.size 192 5 (.slice a ks.length c) ks.length xs∧
  Hid (Kinds xs ks∧Sim s 2 i 3 j∧i<j∧lJ (bt s j)=false∧eC s i j ty ks))∨
 (∃ j,e=.returned (.tuple #[.agg #[.int .u8 0,.int .u8 0,.slice none 0 0],.bool false])∧At w w' b s j m∧Hid (sf s 2 i j))
theorem aG {w:World} {ae eY:Nat} {e:TypeId} {size:Nat} {v:Value} {n:Nat} {xs:List Value} (h:w.ownsRow ae e size v n xs) (hb:eY≤ae):w.ownsRow eY e size v n xs:=by
 refine ⟨h.1,?_⟩
 rcases h.2 with hn | ⟨g,fL,eU,hv,hg,rest⟩
 ·exact Or.inl hn
 ·exact Or.inr ⟨g,fL,eU,hv,by omega,rest⟩
theorem At.set3 {w w1:World} {b:Nat} {s:ByteArray} {j:Nat} {m:Int} (h:At w w1 b s j m) (hb:b<w.heap.size) {B:Nat} (hB:w.heap.size≤B) (v0 v1 v2:Value) :
  At w (((w1.setCell ⟨B,0,none⟩ v0).setCell ⟨B,1,none⟩ v1).setCell ⟨B,2,none⟩ v2) b s j m:=
 ((h.setNew hb hB _).setNew hb hB _).setNew hb hB _
theorem s9 {w:World} {ae:Nat} {e:TypeId} {size:Nat} {v:Value} {n:Nat} {xs:List Value} (h:w.ownsRow ae e size v n xs) {B:Nat} (hB:B<ae) (v0 v1 v2:Value) :
  (((w.setCell ⟨B,0,none⟩ v0).setCell ⟨B,1,none⟩ v1).setCell ⟨B,2,none⟩ v2).ownsRow ae e size v n xs:=
 ownsRow_setCell_below (ownsRow_setCell_below (ownsRow_setCell_below h (by exact hB) _) (by exact hB) _) (by exact hB) _
theorem nG {s:ByteArray} {i:Nat} (h:fl (bt s i)=true∨bt s i=42) (hi:i<s.size):Sim s 2 i 3 (i+1):=
 dS hi (by simp [bC,iM,h]) (by decide) (fun k=>by simp [cnt])
theorem xe {s:ByteArray} {i:Nat} (hl:fl (bt s i)=false) (ql:bt s i≠42) (hA:lJ (bt s i)=true):Sim s 2 i 3 i:=by
 simp only [lJ,decide_eq_true_eq] at hA
 have hs:fM (bt s i)=false:=by simp only [fM,decide_eq_false_iff_not];omega
 have h1:¬ bt s i=44:=by omega
 have h2:¬ bt s i=123:=by omega
 exact kY (by decide) (by decide) (by simp [bC,iM,gH,hl,hs,ql,h1,h2]) (fun k=>by simp [cnt,hs,h1])
theorem NK {s:ByteArray} {i:Nat} (hl:fl (bt s i)=false) (ql:bt s i≠42) (hA:lJ (bt s i)=false):sf s 2 i i:=by
 simp only [lJ,decide_eq_false_iff_not] at hA
 have h1:¬ bt s i=33:=by omega
 have h2:¬ bt s i=46:=by omega
 have h3:¬ bt s i=35:=by omega
 have h4:¬ bt s i=58:=by omega
 exact iT (by decide) (by simp [bC,iM,il,hl,ql,h1,h2,h3,h4])
theorem nw {s:ByteArray} {i j:Nat} {ks:List PPt} (h:PartsAt s i j ks):i≤j∧(ks≠[]→i<j):=by
 induction ks generalizing i with
 | nil=>simp only [PartsAt] at h;exact ⟨by omega,fun e=>absurd rfl e⟩
 | cons k ks ih=>
  obtain ⟨_,l,h2,h3⟩:=h
  have:=lN h2
  have:=(ih h3).1
  exact ⟨by omega,fun _=>by omega⟩
theorem oP {w w1 w2:World} {b:Nat} {s:ByteArray} {i j i':Nat} {m:Int} {ty:Nat} {a:Option Addr} {c:Nat} {ks:List PPt} {xs:List Value}
  (hb:b<w.heap.size) (fO:w.heap.size<w1.heap.size) (ha:At w w1 b s i' m) (cN:At w1 w2 b s j m) (ho:w2.ownsRow w1.heap.size 192 5 (.slice a ks.length c) ks.length xs)
  (hf:Kinds xs ks∧Sim s 2 i 3 j∧i<j∧lJ (bt s j)=false∧eC s i j ty ks) :
  Am w b s i m (.returned (.tuple #[.agg #[.int .u8 0,.int .u8 ty,.slice a ks.length c],.bool true])) (((w2.setCell ⟨w.heap.size,0,none⟩ (.int .u8 0)).setCell ⟨w.heap.size,1,none⟩ (.int .u8 ty)).setCell ⟨w.heap.size,2,none⟩ (.slice a ks.length c)):=
 Or.inl ⟨ty,a,c,ks,xs,j,rfl,(ha.trans cN).set3 hb (Nat.le_refl _) _ _ _,aG (s9 ho fO _ _ _) (by omega),hf⟩
set_option maxHeartbeats 1000000 in
theorem pE (w:World) (b:Nat) (s:ByteArray) (i:Nat) (m:Int) (h:Rd w b s i m) :
  Calls Tryz.prog 192 #[.pointer (some ⟨b,0,none⟩)] w fun e w'=>Am w b s i m e w':=by
 have hb:=h.lt
 go_enter Tryz.func192,Tryz.ntmps192
 go_wp2_with fail
 refine (oO _ b s i m (by exact h.alloc _)).mono ?_
 rintro e w1 (⟨rfl,ha,hf⟩ | ⟨rfl,ha,hf⟩)
 ·have fO:w.heap.size<w1.heap.size:=by have:=ha.size;simp only [World.size_alloc] at this;omega
  go_wp2_with fail
  refine (qJ _ b s (i+1) m (by exact ha.rd)).mono ?_
  rintro e w2 (⟨a,c,ks,xs,j,rfl,cN,ho,bo⟩ | ⟨j,rfl,cN,bo⟩)
  ·have cZ:=ha.trans cN
   obtain ⟨hc,hz⟩:=cZ.cells w.heap.size (by simp) (by omega)
   go_wp2_with fail
   refine bodyPost_ret (v:=.tuple #[.agg #[.int .u8 0,.int .u8 (bt s i),.slice a ks.length c],.bool true]) (by simp [results,Tryz.results192,go_sem,hc]) rfl (oP hb fO ha.ofAlloc cN ho ?_)
   obtain ⟨q1,q2,q3,q4,q5⟩:=bo.out
   exact ⟨q1,(nG (Or.inl hf.out.1) hf.out.2).trans q2,by omega,q4,Or.inl ⟨hf.out.1,rfl,q5⟩⟩
  ·have cZ:=ha.trans cN
   obtain ⟨hc,hz⟩:=cZ.cells w.heap.size (by simp) (by omega)
   go_wp2_with fail
   exact bodyPost_ret (v:=.tuple #[.agg #[.int .u8 0,.int .u8 0,.slice none 0 0],.bool false]) (by simp [results,Tryz.results192,go_sem,hc]) rfl (Or.inr ⟨j,rfl,cZ.ofAlloc.set3 hb (Nat.le_refl _) _ _ _,(nG (Or.inl hf.out.1) hf.out.2).bad bo.out.1⟩)
 ·have fO:w.heap.size<w1.heap.size:=by have:=ha.size;simp only [World.size_alloc] at this;omega
  go_wp2_with fail
  refine (gK _ b s i m 42 (by exact ha.rd) (by decide)).mono ?_
  rintro e w2 (⟨rfl,cN,bo⟩ | ⟨rfl,cN,bo⟩)
  ·have cZ:=ha.trans cN
   have nX:w.heap.size<w2.heap.size:=by have:=cZ.size;simp only [World.size_alloc] at this;omega
   go_wp2_with fail
   refine (qJ _ b s (i+1) m (by exact cZ.rd)).mono ?_
   have ql:bt s i=42:=by have:=bo.out.1;omega
   have MS:Hid (bt s i=42):=ql
   clear ql
   rintro e w3 (⟨a,c,ks,xs,j,rfl,iC,ho,gY⟩ | ⟨j,rfl,iC,gY⟩)
   ·have mM:=cZ.trans iC
    obtain ⟨hc,hz⟩:=mM.cells w.heap.size (by simp) (by omega)
    go_wp2_with fail
    refine bodyPost_ret (v:=.tuple #[.agg #[.int .u8 0,.int .u8 0,.slice a ks.length c],.bool true]) (by simp [results,Tryz.results192,go_sem,hc]) rfl (oP (ty:=0) hb nX cZ.ofAlloc iC ho ?_)
    obtain ⟨q1,q2,q3,q4,q5⟩:=gY.out
    exact ⟨q1,(nG (Or.inr MS.out) bo.out.2).trans q2,by omega,q4,Or.inr (Or.inl ⟨hf.out,MS.out,rfl,q5⟩)⟩
   ·have mM:=cZ.trans iC
    obtain ⟨hc,hz⟩:=mM.cells w.heap.size (by simp) (by omega)
    go_wp2_with fail
    exact bodyPost_ret (v:=.tuple #[.agg #[.int .u8 0,.int .u8 0,.slice none 0 0],.bool false]) (by simp [results,Tryz.results192,go_sem,hc]) rfl (Or.inr ⟨j,rfl,mM.ofAlloc.set3 hb (Nat.le_refl _) _ _ _,(nG (Or.inr MS.out) bo.out.2).bad gY.out.1⟩)
  ·have cZ:=ha.trans cN
   have nX:w.heap.size<w2.heap.size:=by have:=cZ.size;simp only [World.size_alloc] at this;omega
   go_wp2_with fail
   refine (qJ _ b s i m (by exact cZ.rd)).mono ?_
   have ql:bt s i≠42:=by have:=bo.out;omega
   have MS:Hid (bt s i≠42):=ql
   clear ql
   rintro e w3 (⟨a,c,ks,xs,j,rfl,iC,ho,gY⟩ | ⟨j,rfl,iC,gY⟩)
   ·have mM:=cZ.trans iC
    obtain ⟨hc,hz⟩:=mM.cells w.heap.size (by simp) (by omega)
    cases ks with
    | nil=>
     go_wp2_with fail
     refine bodyPost_ret (v:=.tuple #[.agg #[.int .u8 0,.int .u8 0,.slice none 0 0],.bool false]) (by simp [results,Tryz.results192,go_sem,hc]) rfl (Or.inr ⟨j,rfl,mM.ofAlloc.set3 hb (Nat.le_refl _) _ _ _,?_⟩)
     obtain ⟨q1,q2,q3,q4,q5⟩:=gY.out
     simp only [PartsAt] at q5
     subst q5
     exact NK hf.out MS.out q4
    | cons k ks=>
     have hk:((((k :: ks).length:Nat):Int)==0)=false:=by simp;omega
     simp only [List.length_cons] at hk
     go_wp2_with fail
     refine bodyPost_ret (v:=.tuple #[.agg #[.int .u8 0,.int .u8 0,.slice a (k :: ks).length c],.bool true]) (by simp [results,Tryz.results192,go_sem,hc]) rfl (oP (ty:=0) hb nX cZ.ofAlloc iC ho ?_)
     obtain ⟨q1,q2,q3,q4,q5⟩:=gY.out
     exact ⟨q1,(xe hf.out MS.out q5.1).trans q2,(nw q5).2 (by simp),q4,Or.inr (Or.inr ⟨hf.out,MS.out,rfl,q5,by simp⟩)⟩
   ·have mM:=cZ.trans iC
    obtain ⟨hc,hz⟩:=mM.cells w.heap.size (by simp) (by omega)
    go_wp2_with fail
    exact bodyPost_ret (v:=.tuple #[.agg #[.int .u8 0,.int .u8 0,.slice none 0 0],.bool false]) (by simp [results,Tryz.results192,go_sem,hc]) rfl (Or.inr ⟨j,rfl,mM.ofAlloc.set3 hb (Nat.le_refl _) _ _ _,(xe hf.out MS.out gY.out.2).bad gY.out.1⟩)
end Go.Proofs.YtblfffbmklkhmaaGreat
