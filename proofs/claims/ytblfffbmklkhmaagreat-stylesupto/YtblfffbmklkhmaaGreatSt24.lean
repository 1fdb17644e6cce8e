import Derived.Test.YtblfffbmklkhmaaGreatSt22
import Derived.Test.YtblfffbmklkhmaaGreatSt23
import Derived.Test.YtblfffbmklkhmaaGreatSt18
namespace Go.Proofs.YtblfffbmklkhmaaGreat
open Go.RowKit
theorem Oh {w:World} {ae:Nat} {e:TypeId} {sz g n c:Nat} {xs:List Value} (h:w.ownsRow ae e sz (.slice (some ⟨g,0,none⟩) n c) n xs) {i:Nat} (_hi:i<xs.length) (u:Value):(w.setCell ⟨g,i,none⟩ u).ownsRow ae e sz (.slice (some ⟨g,0,none⟩) n c) n (xs.set i u):=by
 refine ⟨by rw [List.length_set];exact h.1,?_⟩
 rcases h.2 with ⟨h1,_⟩ | ⟨g',fL,eU,hv,hb,hg,h3,h4,h5,h6⟩
 ·cases h1
 ·injection hv with h7 _ h8
  injection h7 with h7
  injection h7 with h7 _ _
  subst h7 h8
  refine Or.inr ⟨g,c,eU.setIfInBounds i u,rfl,hb,aq hg u,h3,h4,by rw [Array.size_setIfInBounds];exact h5,?_⟩
  have hl:=h.1
  rw [Array.toList_setIfInBounds,←h6,List.take_set]
theorem FB {w:World} {ae:Nat} {e:TypeId} {sz g n c:Nat} {xs:List Value} (h:w.ownsRow ae e sz (.slice (some ⟨g,0,none⟩) n c) n xs):∃ eU:Array Value,w.heap[g]?=some (.cells eU e (0,0))∧xs.length≤eU.size:=by
 rcases h.2 with ⟨h1,_⟩ | ⟨g',fL,eU,hv,hb,hg,h3,h4,h5,h6⟩
 ·cases h1
 ·injection hv with h7 _ h8
  injection h7 with h7
  injection h7 with h7 _ _
  subst h7
  refine ⟨eU,hg,?_⟩
  rw [h.1,h5]
  exact Nat.mul_le_mul_right _ h3
def PEl.put (x:PEl) (j:Nat) (u:Value):PEl:=⟨x.num,x.par,x.rest.set j u⟩
theorem Gi (x:PEl) (j:Nat) (u:Value):(x.put j u).cells=x.cells.set (j+2) u:=rfl
theorem PEl.ok.put {x:PEl} (h:x.ok) (j:Nat) {u:Value} (hu:u.oneCell'=true):(x.put j u).ok:=by
 refine ⟨by show (x.rest.set j u).length=29;rw [List.length_set];exact h.1,fun v hv=>?_⟩
 rcases List.mem_or_eq_of_mem_set hv with hv | rfl
 ·exact h.2 v hv
 ·exact hu
theorem L6 {els:List PEl} (h:∀ e∈els,e.ok) {i j:Nat} (hi:i<els.length) (hj:j<29) (u:Value):fh (els.set i (els[i].put j u))=(fh els).set (i*31+(j+2)) u:=by
 induction els generalizing i with
 | nil=>simp at hi
 | cons x l ih=>
  have h1:=(h x List.mem_cons_self).len
  have e0:fh (x :: l)=x.cells++fh l:=rfl
  cases i with
  | zero=>
   have e1:fh ((x :: l).set 0 ((x :: l)[0].put j u))=(x.put j u).cells++fh l:=rfl
   rw [e1,e0,Gi,List.set_append_left _ _ (by omega)]
   simp
  | succ i=>
   have T8:i<l.length:=by simpa using hi
   have e1:fh ((x :: l).set (i+1) ((x :: l)[i+1].put j u))=x.cells++fh (l.set i (l[i].put j u)):=rfl
   rw [e1,e0,List.set_append_right _ _ (by omega),ih (fun e he=>h e (List.mem_cons_of_mem _ he)) T8,h1,show (i+1)*31+(j+2) - 31=i*31+(j+2) from by omega]
theorem PL.put {w:World} {g c:Nat} {els:List PEl} (h:PL w (.slice (some ⟨g,0,none⟩) els.length c) els) {i j:Nat} (hi:i<els.length) (hj:j<29) {u:Value} (hu:u.oneCell'=true):PL (w.setCell ⟨g,i*31+(j+2),none⟩ u) (.slice (some ⟨g,0,none⟩) els.length c) (els.set i (els[i].put j u)):=by
 have hl:(fh els).length=els.length*31:=JS h.ok
 refine ⟨?_,fun e he=>?_⟩
 ·rw [L6 h.ok hi hj,List.length_set]
  exact Oh h.row (by rw [hl];omega) u
 ·rcases List.mem_or_eq_of_mem_set he with he | rfl
  ·exact h.ok e he
  ·exact (h.ok _ (List.getElem_mem hi)).put j hu
def PEl.pr (e:PEl):Int × Nat:=(e.par,e.num)
theorem AR (els:List PEl) (n:Int):az els n=((els.map PEl.pr).filter fun p=>decide (p.1=n)).map Prod.snd:=by
 unfold az
 rw [List.filter_map,List.map_map]
 rfl
theorem PT.pairs {els bm:List PEl} {T:aA} (h:PT els T) (hp:bm.map PEl.pr=els.map PEl.pr):PT bm T:=by
 have hm:∀ e∈bm,∃ f∈els,f.num=e.num∧f.par=e.par:=fun e he=>by
  have:e.pr∈els.map PEl.pr:=by rw [←hp];exact List.mem_map.2 ⟨e,he,rfl⟩
  obtain ⟨f,hf,FC⟩:=List.mem_map.1 this
  injection FC with h1 h2
  exact ⟨f,hf,h2,h1⟩
 have o8:∀ e∈els,∃ f∈bm,f.num=e.num:=fun e he=>by
  have:e.pr∈bm.map PEl.pr:=by rw [hp];exact List.mem_map.2 ⟨e,he,rfl⟩
  obtain ⟨f,hf,FC⟩:=List.mem_map.1 this
  injection FC with h1 h2
  exact ⟨f,hf,h2⟩
 have Ey:bm.map PEl.num=els.map PEl.num:=by
  have e1:∀ l:List PEl,l.map PEl.num=(l.map PEl.pr).map Prod.snd:=fun l=>by rw [List.map_map];rfl
  rw [e1,e1,hp]
 refine ⟨by rw [Ey];exact h.nums,fun e he=>?_,fun n l hl=>?_,fun n l hl=>?_,fun e he h0=>?_⟩
 ·obtain ⟨f,hf,h1,_⟩:=hm e he
  obtain ⟨l,hl⟩:=h.to' f hf
  exact ⟨l,by rw [←h1];exact hl⟩
 ·obtain ⟨e,he,h1⟩:=h.of' n l hl
  obtain ⟨f,hf,h2⟩:=o8 e he
  exact ⟨f,hf,h2.trans h1⟩
 ·rw [h.kids n l hl,AR,AR,hp]
 ·obtain ⟨f,hf,h1,h2⟩:=hm e he
  rw [←h2]
  exact h.root f hf (h1.trans h0)
theorem GZ {els:List PEl} {i:Nat} (hi:i<els.length) (j:Nat) (u:Value):(els.set i (els[i].put j u)).map PEl.pr=els.map PEl.pr:=by
 rw [List.map_set]
 apply List.ext_getElem?
 intro k
 by_cases hk:i=k
 ·subst hk
  rw [List.getElem?_set_self (by simpa using hi),List.getElem?_map,List.getElem?_eq_getElem hi]
  rfl
 ·rw [List.getElem?_set_ne hk]
theorem FSq {els:List PEl} (hn:(els.map PEl.num).Nodup) {i:Nat} (hi:i<els.length) {z y:PEl} (_hz:z.num=els[i].num) (hy:y∈els.set i z):y=z∨(y∈els∧y.num≠els[i].num):=by
 obtain ⟨k,hk,rfl⟩:=List.getElem_of_mem hy
 rw [List.length_set] at hk
 by_cases h:i=k
 ·subst h
  left
  rw [List.getElem_set_self]
 ·right
  rw [List.getElem_set_ne h]
  refine ⟨List.getElem_mem hk,fun e=>h ?_⟩
  have h1:=oJ hn (List.getElem?_eq_getElem hi)
  have h2:=oJ hn (List.getElem?_eq_getElem hk)
  rw [e,h1] at h2
  exact h2
theorem MkO.put {els:List PEl} {M:Nat→Mk} (h:MkO els M) (hn:(els.map PEl.num).Nodup) {i:Nat} (hi:i<els.length) {z:PEl} {m:Mk} (hz:z.num=els[i].num) (hs:Shp z) (hm:je z=m.kd∧(∀ i,i<26→dT z i=m.cl i)∧iA z=m.nm):MkO (els.set i z) (bQ M els[i].num m):=by
 refine ⟨fun y hy=>?_,fun y hy=>?_⟩
 ·unfold bQ
  rcases FSq hn hi hz hy with rfl | ⟨h1,h2⟩
  ·rw [if_pos hz];exact hm
  ·rw [if_neg h2];exact h.1 y h1
 ·rcases FSq hn hi hz hy with rfl | ⟨h1,_⟩
  ·exact hs
  ·exact h.2 y h1
theorem PB3.put {w:World} {b:Nat} {vS:Value × Value} {g c:Nat} {els:List PEl} {T:aA} {made:Nat} (h:PB3 w b vS (.slice (some ⟨g,0,none⟩) els.length c) els T made) {i j:Nat} (hi:i<els.length) (hj:j<29) {u:Value} (hu:u.oneCell'=true):PB3 (w.setCell ⟨g,i*31+(j+2),none⟩ u) b vS (.slice (some ⟨g,0,none⟩) els.length c) (els.set i (els[i].put j u)) T made:=by
 have hgb:b≠g:=fun e=>aj h.pl.row h.doc (by decide) (by rw [e];rfl)
 refine ⟨(Below.heap_setCell w ⟨g,i*31+(j+2),none⟩ _ b hgb).trans h.doc,?_,h.pt.pairs (GZ hi j u),by rw [List.length_set];exact h.few⟩
 exact h.pl.put hi hj hu
def pH (w:World) (b:Nat) (vS:Value × Value) (v:Value) (els:List PEl) (T:aA) (made:Nat) (n:Int) (s:ByteArray) (on:Bool) (e:Ending) (w':World):Prop:=
 ∃ (lt y:Int) (bm:List PEl),e=.returned (.tuple #[.int .u8 lt,.int .i64 y])∧y=bK T n s∧PB3 w' b vS v bm T made∧Fr w w' (fun k=>v.ownBlock=some k)∧(y≠0→bm=els)∧∀ M,MkO els M→y=0→MkO bm (bQ M n.toNat (jz (M n.toNat) s on))∧(lt=bt s 0∨(97≤bt s 0∧(M n.toNat).cl (bt s 0 - 97)=on))
theorem Gx {s:ByteArray} (h:ax s=true):∃ k,k<26∧bt s 0=97+k:=by
 unfold ax fl at h
 simp only [Bool.and_eq_true,decide_eq_true_eq] at h
 exact ⟨bt s 0 - 97,by omega,by omega⟩
theorem Nh {x:PEl} (h:x.ok) (hs:Shp x) {k:Nat} (hk:k<26) (on:Bool):Shp (x.put (1+k) (.bool on))∧je (x.put (1+k) (.bool on))=je x∧(∀ i,i<26→dT (x.put (1+k) (.bool on)) i=if i=k then on else dT x i)∧iA (x.put (1+k) (.bool on))=iA x:=by
 have h9:=h.1
 have g0:(x.put (1+k) (.bool on)).rest[0]?=x.rest[0]?:=List.getElem?_set_ne (by omega)
 have g7:(x.put (1+k) (.bool on)).rest[27]?=x.rest[27]?:=List.getElem?_set_ne (by omega)
 have g8:(x.put (1+k) (.bool on)).rest[28]?=x.rest[28]?:=List.getElem?_set_ne (by omega)
 have gi:∀ i,i<26→(x.put (1+k) (.bool on)).rest[1+i]?=if i=k then some (.bool on) else x.rest[1+i]?:=fun i hi=>by
  split
  ·rename_i e
   rw [e]
   exact List.getElem?_set_self (by omega)
  ·exact List.getElem?_set_ne (by omega)
 refine ⟨⟨by rw [g0];exact hs.kind,fun i hi=>?_,by rw [g7];exact hs.name,by rw [g8];exact hs.shown⟩,by unfold je;rw [g0],fun i hi=>?_,by unfold iA;rw [g7]⟩
 ·rw [gi i hi]
  split
  ·exact ⟨on,rfl⟩
  ·exact hs.cls i hi
 ·unfold dT
  rw [gi i hi]
  by_cases e:i=k
  ·rw [if_pos e,if_pos e]
  ·rw [if_neg e,if_neg e]
theorem NO {x:PEl} (h:x.ok) (hs:Shp x) (z:Int):Shp (x.put 27 (.int .u8 z))∧je (x.put 27 (.int .u8 z))=je x∧(∀ i,i<26→dT (x.put 27 (.int .u8 z)) i=dT x i)∧iA (x.put 27 (.int .u8 z))=z:=by
 have h9:=h.1
 have g0:(x.put 27 (.int .u8 z)).rest[0]?=x.rest[0]?:=List.getElem?_set_ne (by omega)
 have g7:(x.put 27 (.int .u8 z)).rest[27]?=some (.int .u8 z):=List.getElem?_set_self (by omega)
 have g8:(x.put 27 (.int .u8 z)).rest[28]?=x.rest[28]?:=List.getElem?_set_ne (by omega)
 have gi:∀ i,i<26→(x.put 27 (.int .u8 z)).rest[1+i]?=x.rest[1+i]?:=fun i hi=>List.getElem?_set_ne (by omega)
 refine ⟨⟨by rw [g0];exact hs.kind,fun i hi=>by rw [gi i hi];exact hs.cls i hi,⟨z,g7⟩,by rw [g8];exact hs.shown⟩,by unfold je;rw [g0],fun i hi=>by unfold dT;rw [gi i hi],by unfold iA;rw [g7]⟩
theorem Br (s:ByteArray):s.toList.isEmpty=(s.size==0):=by
 rw [ByteArray.toList_eq]
 obtain ⟨⟨l⟩⟩:=s
 cases l<;>rfl
section
set_option maxRecDepth 100000
set_option maxHeartbeats 4000000
variable (w:World) (b:Nat) (vS:Value × Value) (v:Value) (els:List PEl) (T:aA) (made:Nat) (n:Int) (s:ByteArray)
theorem Jo (on:Bool) (h:PB3 w b vS v els T made) (hw:TW T made) (vz:∀ x∈els,Shp x):Calls Tryz.prog 80 #[.pointer (some ⟨b,1,none⟩),.int .i64 n,.string s,.bool on] w fun e w'=>pH w b vS v els T made n s on e w':=by
 have HB:Hid (PB3 w b vS v els T made∧TW T made∧∀ x∈els,Shp x):=⟨h,hw,vz⟩
 have bw:=h.few
 have lY:Hid (∀ (y:Int) (w':World),Below w.heap.size w w'→y≠0→bK T n s=y→pH w b vS v els T made n s on (.returned (.tuple #[.int .u8 0,.int .i64 y])) w'):=fun y w' hb hy he=>
  ⟨0,y,els,rfl,he.symm,HB.out.1.below hb,(Fr.refl w _).below hb,fun _=>rfl,fun _ _ h0=>absurd h0 hy⟩
 clear h hw vz
 go_enter Tryz.func80,Tryz.ntmps80
 go_wp2_with fail
 refine (dq w b v els n HB.out.1.c1 HB.out.1.pl bw).mono ?_
 rintro e w1 ⟨cF,⟨hf,rfl⟩ | ⟨ip,xp,nK,hf,rfl⟩⟩
 ·have HE:=lY.out 5 w1 cF (by decide) (by unfold bK;rw [HB.out.1.pt.find_none hf])
  clear hf
  go_wp2
  go_ret2
  exact HE
 ·have HF:Hid (bn T n=some (az els n)∧n=xp.num):=⟨(HB.out.1.pt.find_some HB.out.2.1 hf).1,(HB.out.1.pt.find_some HB.out.2.1 hf).2.2⟩
  have MU:Hid (els[ip]?=some xp):=nK
  have nZ:ip<els.length:=(List.getElem?_eq_some_iff.1 nK).1
  clear hf nK
  go_wp2_with fail
  refine (pG w1 s).mono ?_
  rintro e w2 ⟨cc,rfl,o9,zo,_⟩
  have dp:Below w.heap.size w w2:=cF.trans (o9.below.mono cF.size)
  clear cF o9
  cases hl:ax s with
  | false=>
   have HE:=lY.out 4 w2 dp (by decide) (by unfold bK;rw [HF.out.1];show (if _ then _ else _)=_;rw [if_pos hl])
   clear hl zo
   go_wp2
   go_ret2
   exact HE
  | true=>
   have Ph:Hid (bK T n s=0):=by unfold Hid bK;rw [HF.out.1];show (if _ then _ else _)=_;rw [if_neg (by rw [hl];decide)]
   obtain ⟨k,hk,zv⟩:=Gx hl
   have hcc:cc=97+(k:Int):=by rw [zo hl,zv];omega
   have MO:Hid (bt s 0=97+k):=zv
   subst hcc
   clear hl zo zv
   obtain ⟨av,cv,KN⟩:=HB.out.1.pl.shape
   subst KN
   have ea:Hid (PB3 w2 b vS (.slice av els.length cv) els T made):=HB.out.1.below dp
   obtain ⟨g,hg,db,hr⟩:=ea.out.pl.at' nZ
   subst hg
   have mZ:els[ip]=xp:=(List.getElem?_eq_some_iff.1 MU.out).2
   have q2:w2.cell? ⟨g,ip*31+3+k,none⟩=some (.bool (dT xp k)):=by rw [←mZ,Nat.add_assoc];exact hr (3+k) _ ((HB.out.2.2 _ (List.getElem_mem nZ)).cl hk)
   have q0:=ea.out.c1
   obtain ⟨eU,Mx,_⟩:=FB ea.out.pl.row
   have qf:∀ j,w2.frozen? ⟨g,j,none⟩=false:=fun _=>ag Mx
   have jC:(ip:Int)<(els.length:Int):=by omega
   have WU:Hid (els[ip]=xp∧n.toNat=els[ip].num):=⟨mZ,by rw [mZ];have:=HF.out.2;omega⟩
   clear hr mZ Mx
   by_cases hc:dT xp k=on
   ·have gc:(dT xp k==on)=true:=by simp [hc]
    have HE:Hid (pH w b vS (.slice (some ⟨g,0,none⟩) els.length cv) els T made n s on (.returned (.tuple #[.int .u8 0,.int .i64 0])) w2):=by
     refine ⟨0,0,els,rfl,Ph.out.symm,ea.out,(Fr.refl w _).below dp,fun _=>rfl,fun M hM _=>?_⟩
     have hx:xp∈els:=List.mem_of_getElem? MU.out
     have Ey:n.toNat=xp.num:=by have:=HF.out.2;omega
     have EQ:=hM.1 xp hx
     have kI:(M xp.num).cl k=on:=by rw [←EQ.2.1 k hk];exact hc
     refine ⟨hM.ext (fun y _=>?_),Or.inr ⟨by have:=MO.out;omega,by rw [Ey,MO.out,show 97+k - 97=k from by omega];exact kI⟩⟩
     unfold bQ
     split
     ·rename_i e
      rw [e,Ey]
      unfold jz
      have:(fun i=>if i+97=bt s 0 then on else (M xp.num).cl i)=(M xp.num).cl:=by
       funext i
       split
       ·rename_i e2
        have e3:i=k:=by have:=MO.out;omega
        rw [e3]
        exact kI.symm
       ·rfl
      rw [this]
     ·rfl
    clear hc
    generalize dT xp k=eP at q2 gc
    go_wp2
    go_ret2
    exact HE.out
   ·have gc:(dT xp k==on)=false:=by simp [hc]
    have rE:Hid (PB3 (w2.setCell ⟨g,ip*31+(1+k+2),none⟩ (.bool on)) b vS (.slice (some ⟨g,0,none⟩) els.length cv) (els.set ip (els[ip].put (1+k) (.bool on))) T made):=ea.out.put nZ (by omega) rfl
    have HE:Hid (pH w b vS (.slice (some ⟨g,0,none⟩) els.length cv) els T made n s on (.returned (.tuple #[.int .u8 (97+(k:Int)),.int .i64 0])) (w2.setCell ⟨g,ip*31+3+k,none⟩ (.bool on))):=by
     rw [show ip*31+3+k=ip*31+(1+k+2) from by omega]
     refine ⟨97+(k:Int),0,_,rfl,Ph.out.symm,rE.out,((Fr.refl w (fun k=>(Value.slice (some ⟨g,0,none⟩) els.length cv).ownBlock=some k)).below dp).set (p:=⟨g,ip*31+(1+k+2),none⟩) (Or.inl rfl) _,fun h=>absurd rfl h,fun M hM _=>⟨?_,Or.inl (by rw [MO.out];omega)⟩⟩
     rw [WU.out.2]
     have hx:=List.getElem_mem nZ
     have EQ:=hM.1 _ hx
     obtain ⟨p1,p2,p3,p4⟩:=Nh (HB.out.1.pl.ok _ hx) (hM.2 _ hx) hk on
     refine hM.put HB.out.1.pt.nums nZ rfl p1 ⟨by rw [p2];exact EQ.1,fun i hi=>?_,by rw [p4];exact EQ.2.2⟩
     rw [p3 i hi]
     show _=if i+97=bt s 0 then on else _
     by_cases e:i=k
     ·rw [if_pos e,if_pos (by rw [MO.out];omega)]
     ·rw [if_neg e,if_neg (by rw [MO.out];omega)]
      exact EQ.2.1 i hi
    clear hc rE
    generalize dT xp k=eP at q2 gc
    go_wp2
    go_ret2
    exact HE.out
def tX (w:World) (b:Nat) (vS:Value × Value) (v:Value) (els:List PEl) (T:aA) (made:Nat) (n:Int) (s:ByteArray) (e:Ending) (w':World):Prop:=
 ∃ (eP Hc y:Int) (bm:List PEl),e=.returned (.tuple #[.int .u8 eP,.int .u8 Hc,.int .i64 y])∧y=bM T n s∧PB3 w' b vS v bm T made∧Fr w w' (fun k=>v.ownBlock=some k)∧(y≠0→bm=els∧eP=Hc)∧∀ M,MkO els M→y=0→MkO bm (bQ M n.toNat (fy (M n.toNat) s))∧eP=(M n.toNat).nm∧Hc=(fy (M n.toNat) s).nm
theorem Jb (h:PB3 w b vS v els T made) (hw:TW T made) (vz:∀ x∈els,Shp x):Calls Tryz.prog 39 #[.pointer (some ⟨b,1,none⟩),.int .i64 n,.string s] w fun e w'=>tX w b vS v els T made n s e w':=by
 have HB:Hid (PB3 w b vS v els T made∧TW T made∧∀ x∈els,Shp x):=⟨h,hw,vz⟩
 have bw:=h.few
 have lY:Hid (∀ (y:Int) (w':World),Below w.heap.size w w'→y≠0→bM T n s=y→tX w b vS v els T made n s (.returned (.tuple #[.int .u8 0,.int .u8 0,.int .i64 y])) w'):=fun y w' hb hy he=>
  ⟨0,0,y,els,rfl,he.symm,HB.out.1.below hb,(Fr.refl w _).below hb,fun _=>⟨rfl,rfl⟩,fun _ _ h0=>absurd h0 hy⟩
 clear h hw vz
 go_enter Tryz.func39,Tryz.ntmps39
 go_wp2_with fail
 refine (dq w b v els n HB.out.1.c1 HB.out.1.pl bw).mono ?_
 rintro e w1 ⟨cF,⟨hf,rfl⟩ | ⟨ip,xp,nK,hf,rfl⟩⟩
 ·have HE:=lY.out 5 w1 cF (by decide) (by unfold bM;rw [HB.out.1.pt.find_none hf])
  clear hf
  go_wp2
  go_ret3
  exact HE
 ·have HF:Hid (bn T n=some (az els n)∧n=xp.num):=⟨(HB.out.1.pt.find_some HB.out.2.1 hf).1,(HB.out.1.pt.find_some HB.out.2.1 hf).2.2⟩
  have MU:Hid (els[ip]?=some xp):=nK
  have nZ:ip<els.length:=(List.getElem?_eq_some_iff.1 nK).1
  clear hf nK
  go_wp2_with fail
  refine (pG w1 s).mono ?_
  rintro e w2 ⟨cc,rfl,o9,zo,Z2⟩
  have dp:Below w.heap.size w w2:=cF.trans (o9.below.mono cF.size)
  clear cF o9
  by_cases jE:s.size≠0∧ax s=false
  ·have HE:=lY.out 4 w2 dp (by decide) (by unfold bM;rw [HF.out.1];show (if _ then _ else _)=_;rw [if_pos jE])
   have Xk:s.toList.isEmpty=false:=by
    rw [Br,beq_eq_false_iff_ne]
    exact jE.1
   have zL:=jE.2
   rw [zL]
   clear jE zo Z2 zL
   go_wp2
   go_ret3
   exact HE
  ·have Ph:Hid (bM T n s=0):=by unfold Hid bM;rw [HF.out.1];show (if _ then _ else _)=_;rw [if_neg jE]
   have HCC:Hid (cc=if s.size=0 then (0:Int) else (bt s 0:Int)):=by
    unfold Hid
    by_cases h0:s.size=0
    ·rw [if_pos h0];exact Z2 h0
    ·rw [if_neg h0]
     refine zo ?_
     cases hl:ax s with
     | true=>rfl
     | false=>exact absurd ⟨h0,hl⟩ jE
   obtain ⟨av,cv,KN⟩:=HB.out.1.pl.shape
   subst KN
   have ea:Hid (PB3 w2 b vS (.slice av els.length cv) els T made):=HB.out.1.below dp
   obtain ⟨g,hg,db,hr⟩:=ea.out.pl.at' nZ
   subst hg
   have mZ:els[ip]=xp:=(List.getElem?_eq_some_iff.1 MU.out).2
   have q2:w2.cell? ⟨g,ip*31+29,none⟩=some (.int .u8 (iA xp)):=by rw [←mZ];exact hr 29 _ (HB.out.2.2 _ (List.getElem_mem nZ)).nm
   have q0:=ea.out.c1
   obtain ⟨eU,Mx,_⟩:=FB ea.out.pl.row
   have qf:∀ j,w2.frozen? ⟨g,j,none⟩=false:=fun _=>ag Mx
   have jC:(ip:Int)<(els.length:Int):=by omega
   have WU:Hid (els[ip]=xp∧n.toNat=els[ip].num):=⟨mZ,by rw [mZ];have:=HF.out.2;omega⟩
   have rE:Hid (PB3 (w2.setCell ⟨g,ip*31+29,none⟩ (.int .u8 cc)) b vS (.slice (some ⟨g,0,none⟩) els.length cv) (els.set ip (els[ip].put 27 (.int .u8 cc))) T made):=ea.out.put nZ (by omega) rfl
   have HE:Hid (tX w b vS (.slice (some ⟨g,0,none⟩) els.length cv) els T made n s (.returned (.tuple #[.int .u8 (iA xp),.int .u8 cc,.int .i64 0])) (w2.setCell ⟨g,ip*31+29,none⟩ (.int .u8 cc))):=by
    refine ⟨iA xp,cc,0,_,rfl,Ph.out.symm,rE.out,((Fr.refl w (fun k=>(Value.slice (some ⟨g,0,none⟩) els.length cv).ownBlock=some k)).below dp).set (p:=⟨g,ip*31+29,none⟩) (Or.inl rfl) _,fun h=>absurd rfl h,fun M hM _=>?_⟩
    rw [WU.out.2]
    have hx:=List.getElem_mem nZ
    have EQ:=hM.1 _ hx
    obtain ⟨p1,p2,p3,p4⟩:=NO (HB.out.1.pl.ok _ hx) (hM.2 _ hx) cc
    refine ⟨hM.put HB.out.1.pt.nums nZ rfl p1 ⟨by rw [p2];exact EQ.1,fun i hi=>by rw [p3 i hi];exact EQ.2.1 i hi,by rw [p4];exact HCC.out⟩,by rw [←WU.out.1];exact EQ.2.2,HCC.out⟩
   clear hr mZ Mx rE zo Z2
   generalize iA xp=eP at q2 HE
   cases hl:ax s with
   | true=>
    clear hl jE
    go_wp2
    go_ret3
    exact HE.out
   | false=>
    have Xk:s.toList.isEmpty=true:=by
     have h0:s.size=0:=by
      by_cases h0:s.size=0
      ·exact h0
      ·exact absurd ⟨h0,hl⟩ jE
     rw [Br,h0]
     rfl
    clear hl jE
    go_wp2
    go_ret3
    exact HE.out
end
end Go.Proofs.YtblfffbmklkhmaaGreat
