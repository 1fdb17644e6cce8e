import Derived.Test.YtblfffbmklkhmaaGreatSt45
namespace Go.Proofs.YtblfffbmklkhmaaGreat
open Go.RowKit
section
set_option maxRecDepth 100000
set_option maxHeartbeats 4000000
variable (w:World)
theorem qS {l:List Int} {p:Nat} (hp:p<l.length):(ai l)[p]?=some (.int .i64 (l.getD p 0)):=by
 rw [List.getElem?_map,List.getElem?_eq_getElem hp,List.getD_eq_getElem?_getD,List.getElem?_eq_getElem hp]
 rfl
theorem gP (l:List Int):(ai l).toArray.all (·.oneCell')=true:=all_oneCell_toArray (fun v hv=>by
 obtain ⟨x,_,rfl⟩:=List.mem_map.1 hv
 rfl)
abbrev mL (w:World) (W:List Clm) (comes:List Int):World:=(w.alloc (.cells (aF W).toArray 223)).alloc (.cells (ai comes).toArray 103)
theorem xR (w:World) (W:List Clm) (comes:List Int):(mL w W comes).heap.size=w.heap.size+2:=by simp
theorem uc (w:World) (W:List Clm) (comes:List Int):Below w.heap.size w (mL w W comes):=((Below.refl _ _).alloc (Nat.le_refl _) _).alloc (by simp) _
theorem J6 (w:World) (W:List Clm) (comes:List Int):(mL w W comes).rangeAt w.heap.size 0 (aF W):=World.rangeAt_alloc (dY w _ _) _
theorem Ju (w:World) (W:List Clm) (comes:List Int):(mL w W comes).rangeAt (w.heap.size+1) 0 (ai comes):=by
 have:=dY (w.alloc (.cells (aF W).toArray 223)) (ai comes) 103
 simpa using this
theorem A7 (W:List Clm) (hF:fw W) (p:Nat) (hp:p<9) (comes:List Int) (hc:comes.length=9):Calls Tryz.prog 185 #[.agg (aF W).toArray,.int .i64 p,.agg (ai comes).toArray] w fun e w'=>si w (bH W p comes) e w':=by
 have HZ:Hid ((mL w W comes).heap.size=w.heap.size+2):=xR w W comes
 have ow:Hid (Below w.heap.size w (mL w W comes)):=uc w W comes
 have ES:Hid ((mL w W comes).rangeAt w.heap.size 0 (aF W)):=J6 w W comes
 have G8:Hid ((mL w W comes).rangeAt (w.heap.size+1) 0 (ai comes)):=Ju w W comes
 have hl:=hF.1
 have HD:Hid (bH W p comes=if W[p].kd=1 then W[p].nu else if W[p].kd=2 then comes.getD p 0 else if W[p].kd=3 then dO.getD p 0 else if kW p then comes.getD p 0 else dO.getD p 0):=by
  unfold Hid bH
  have:W.getD p Clm.none=W[p]:=by rw [List.getD_eq_getElem?_getD,List.getElem?_eq_getElem (by omega)];rfl
  rw [this]
 have HK:Hid ((aF W)[p*7+4]?=some (.int .i64 W[p].kd)∧(aF W)[p*7+4+1]?=some (.int .i64 W[p].nu)):=⟨by rw [eG (by omega) (by omega)];rfl,by rw [show p*7+4+1=p*7+5 from rfl,eG (by omega) (by omega)];rfl⟩
 have HCM:Hid ((ai comes)[p]?=some (.int .i64 (comes.getD p 0))):=qS (by omega)
 have HIN:Hid ((ai dO)[p]?=some (.int .i64 (dO.getD p 0))):=qS (by show p<9;omega)
 have CC:Hid ((Tryz.prog.info? 103).map (·.size)=some (ai dO).toArray.size):=Tryz.sizeS
 have V3:Hid ((ai dO).toArray.all (·.oneCell')=true):=gP dO
 have kL:(p:Int)<9:=by omega
 generalize W[p].kd=kd at HD HK
 generalize W[p].nu=nu at HD HK
 clear hF hl
 go_enter Tryz.func185,Tryz.ntmps185
 go_wp2_with fail
 refine (pN _).mono ?_
 rintro e w1 ⟨rfl,hB⟩
 have ed:Hid (Below (w.heap.size+2) (mL w W comes) w1):=hB.mono (by have:=HZ.out;simp at this ⊢)
 have fO:w.heap.size+2≤w1.heap.size:=by have:=ed.out.size;have:=HZ.out;omega
 clear hB
 have hzA:w.heap.size<w1.heap.size:=by omega
 have hzB:w.heap.size+1<w1.heap.size:=by omega
 have q0:w1.cell? ⟨w.heap.size,p*7+4,none⟩=some (.int .i64 kd):=by have:=ba ed.out (by omega) ES.out (p*7+4) _ HK.out.1;rwa [Nat.zero_add] at this
 have q1:w1.cell? ⟨w.heap.size,p*7+4+1,none⟩=some (.int .i64 nu):=by have:=ba ed.out (by omega) ES.out (p*7+4+1) _ HK.out.2;rwa [Nat.zero_add] at this
 have q2:w1.cell? ⟨w.heap.size+1,p,none⟩=some (.int .i64 (comes.getD p 0)):=by have:=ba ed.out (by omega) G8.out p _ HCM.out;rwa [Nat.zero_add] at this
 have q3:(w1.alloc (.cells (ai dO).toArray 103)).cell? ⟨w1.heap.size,p,none⟩=some (.int .i64 (dO.getD p 0)):=yh w1 _ _ (by rw [List.getElem?_toArray];exact HIN.out)
 have r8:Hid (Below w.heap.size w (w1.alloc (.cells (ai dO).toArray 103))):=(ow.out.trans (ed.out.mono (by omega))).alloc (by omega) _
 generalize comes.getD p 0=cv at q2 HD
 generalize dO.getD p 0=ivv at q3 HD
 have Mv:Hid (9=(ai dO).toArray.size):=rfl
 generalize (ai dO).toArray=IA at q3 r8 CC V3 Mv ⊢
 by_cases h1:kd=1
 ·have g1:(kd==1)=true:=by simp [h1]
  have HR:Hid (si w (bH W p comes) (.returned (.int .i64 nu)) (w1.alloc (.cells IA 103))):=⟨by rw [HD.out,if_pos h1],r8.out⟩
  clear h1 HD
  go_wp2_with (refine aw rfl 103 _ _ rfl _ IA 103 rfl rfl CC.out Mv.out V3.out ?_)
  go_ret
  exact HR.out
 have g1:(kd==1)=false:=by simp [h1]
 by_cases h2:kd=2
 ·have g2:(kd==2)=true:=by simp [h2]
  have HR:Hid (si w (bH W p comes) (.returned (.int .i64 cv)) (w1.alloc (.cells IA 103))):=⟨by rw [HD.out,if_neg h1,if_pos h2],r8.out⟩
  clear h1 h2 HD
  go_wp2_with (refine aw rfl 103 _ _ rfl _ IA 103 rfl rfl CC.out Mv.out V3.out ?_)
  go_ret
  exact HR.out
 have g2:(kd==2)=false:=by simp [h2]
 by_cases h3:kd=3
 ·have g3:(kd==3)=true:=by simp [h3]
  have HR:Hid (si w (bH W p comes) (.returned (.int .i64 ivv)) (w1.alloc (.cells IA 103))):=⟨by rw [HD.out,if_neg h1,if_neg h2,if_pos h3],r8.out⟩
  clear h1 h2 h3 HD
  go_wp2_with (refine aw rfl 103 _ _ rfl _ IA 103 rfl rfl CC.out Mv.out V3.out ?_)
  go_ret
  exact HR.out
 have g3:(kd==3)=false:=by simp [h3]
 have n9:Hid (bH W p comes=if kW p then cv else ivv):=by unfold Hid;rw [HD.out,if_neg h1,if_neg h2,if_neg h3]
 clear h1 h2 h3 HD
 go_wp2_with (refine aw rfl 103 _ _ rfl _ IA 103 rfl rfl CC.out Mv.out V3.out ?_)
 refine (Hk _ p).mono ?_
 rintro e w2 ⟨rfl,hB⟩
 have nX:w1.heap.size<w2.heap.size:=by have:=hB.size;simp at this;omega
 have HBF:Hid (Below w.heap.size w w2):=r8.out.trans (hB.mono r8.out.size)
 have q2':w2.cell? ⟨w.heap.size+1,p,none⟩=some (.int .i64 cv):=(hB.cell (p:=⟨w.heap.size+1,p,none⟩) (by simp;omega)).trans ((((Below.refl w1.heap.size w1).alloc (Nat.le_refl _) _).cell (p:=⟨w.heap.size+1,p,none⟩) hzB).trans q2)
 have q3':w2.cell? ⟨w1.heap.size,p,none⟩=some (.int .i64 ivv):=(hB.cell (p:=⟨w1.heap.size,p,none⟩) (by simp)).trans q3
 clear hB q0 q1 q2 q3
 cases hdn:kW p with
 | true=>
  have HR:Hid (si w (bH W p comes) (.returned (.int .i64 cv)) w2):=⟨by rw [n9.out,hdn];rfl,HBF.out⟩
  clear hdn
  go_wp2
  go_ret
  exact HR.out
 | false=>
  have HR:Hid (si w (bH W p comes) (.returned (.int .i64 ivv)) w2):=⟨by rw [n9.out,hdn];rfl,HBF.out⟩
  clear hdn
  go_wp2
  go_ret
  exact HR.out
end
end Go.Proofs.YtblfffbmklkhmaaGreat
namespace Go.Proofs.YtblfffbmklkhmaaGreat
open Go.RowKit
section
set_option maxRecDepth 100000
set_option maxHeartbeats 4000000
variable (w:World)
theorem D6 (W:List Clm) (hF:fw W) (p0:Nat) (hp:p0<9) (comes:List Int) (hc:comes.length=9):Calls Tryz.prog 163 #[.agg (aF W).toArray,.int .i64 p0,.agg (ai comes).toArray] w fun e w'=>si w (cV W comes 9 p0) e w':=by
 have HZ:Hid ((mL w W comes).heap.size=w.heap.size+2):=xR w W comes
 have ow:Hid (Below w.heap.size w (mL w W comes)):=uc w W comes
 have ES:Hid ((mL w W comes).rangeAt w.heap.size 0 (aF W)):=J6 w W comes
 have G8:Hid ((mL w W comes).rangeAt (w.heap.size+1) 0 (ai comes)):=Ju w W comes
 have HF:Hid (fw W):=hF
 have rZ:Hid ((Tryz.prog.info? 223).map (·.size)=some (aF W).length):=sizeW hF.1
 have Wq:Hid ((Tryz.prog.info? 103).map (·.size)=some (ai comes).length):=sizeS hc
 clear hF
 go_enter Tryz.func163,Tryz.ntmps163
 go_wp2_with fail
 go_loopg [1,9] 9 (fun gk pv iv wr=>∃ (i p:Nat),iv=.int .i64 i∧pv=.int .i64 p∧i≤9∧9 - i≤gk∧p<9∧Hid (Below (w.heap.size+2) (mL w W comes) wr∧cV W comes 9 p0=cV W comes (9 - i) p))
 case atStart=>exact ⟨0,p0,rfl,rfl,by omega,by omega,hp,Below.refl _ _,rfl⟩
 case round=>
  obtain ⟨i,p,rfl,rfl,hi,fK,MI,HN⟩:=hrel
  have iS:w.heap.size+2≤wr.heap.size:=by have:=HN.out.1.size;have:=HZ.out;omega
  have A2:Hid (Below w.heap.size w wr):=ow.out.trans (HN.out.1.mono (by omega))
  have HWr:Hid (wr.rangeAt w.heap.size 0 (aF W)):=ba HN.out.1 (by omega) ES.out
  have kL:(p:Int)<9:=by omega
  by_cases aN:i<9
  ·have hd:decide ((i:Int)<9)=true:=by simp;omega
   have HV:Hid (cV W comes 9 p0=if ix W p 3 (bA W p) then comes.getD p 0 else match bA W p with | Option.none=>bH W p comes | some q=>cV W comes (9 - (i+1)) q):=by
    unfold Hid
    rw [HN.out.2,show 9 - i=(9 - (i+1))+1 from by omega]
    rfl
   go_wp2_with (refine wpList_load_mid rfl 223 _ rfl w.heap.size 0 rfl (aF W) _ HWr.out Tryz.underlying223 rfl rZ.out ?_)
   refine (GN _ W HF.out p MI).mono ?_
   rintro e w1 ⟨rfl,hB⟩
   have ed:Hid (Below (w.heap.size+2) (mL w W comes) w1):=HN.out.1.trans (hB.mono (by omega))
   have OA:w.heap.size+2≤w1.heap.size:=by have:=ed.out.size;have:=HZ.out;omega
   have YI:Hid (Below w.heap.size w w1):=ow.out.trans (ed.out.mono (by omega))
   have MR:Hid (w1.rangeAt w.heap.size 0 (aF W)):=ba ed.out (by omega) ES.out
   clear hB
   cases zv:ix W p 3 (bA W p) with
   | true=>
    have q2:w1.cell? ⟨w.heap.size+1,p,none⟩=some (.int .i64 (comes.getD p 0)):=by have:=ba ed.out (by omega) G8.out p _ (qS (by omega));rwa [Nat.zero_add] at this
    have HR:Hid (si w (cV W comes 9 p0) (.returned (.int .i64 (comes.getD p 0))) w1):=⟨by rw [HV.out,zv];rfl,YI.out⟩
    clear zv HV
    generalize comes.getD p 0=cv at q2 HR
    go_wp2
    go_ret
    exact HR.out
   | false=>
    have Xh:Hid (cV W comes 9 p0=match bA W p with | Option.none=>bH W p comes | some q=>cV W comes (9 - (i+1)) q):=by unfold Hid;rw [HV.out,zv];rfl
    clear zv HV HN HWr A2
    go_wp2_with (refine wpList_load_mid rfl 223 _ rfl w.heap.size 0 rfl (aF W) _ MR.out Tryz.underlying223 rfl rZ.out ?_)
    refine (qw _ W HF.out p MI).mono ?_
    rintro e w2 ⟨rfl,hB⟩
    have ea:Hid (Below (w.heap.size+2) (mL w W comes) w2):=ed.out.trans (hB.mono (by omega))
    have Re:w.heap.size+2≤w2.heap.size:=by have:=ea.out.size;have:=HZ.out;omega
    have ZU:Hid (Below w.heap.size w w2):=ow.out.trans (ea.out.mono (by omega))
    clear hB
    cases wZ:bA W p with
    | none=>
     have Qh:Hid (w2.rangeAt w.heap.size 0 (aF W)):=ba ea.out (by omega) ES.out
     have t8:Hid (w2.rangeAt (w.heap.size+1) 0 (ai comes)):=ba ea.out (by omega) G8.out
     have WL:Hid (cV W comes 9 p0=bH W p comes):=by unfold Hid;rw [Xh.out,wZ]
     clear wZ Xh
     simp only [Option.getD_none,Option.isSome_none]
     go_wp2_with (first | (refine wpList_load_mid rfl 223 _ rfl w.heap.size 0 rfl (aF W) _ Qh.out Tryz.underlying223 rfl rZ.out ?_) | (refine wpList_load_mid rfl 103 _ rfl (w.heap.size+1) 0 rfl (ai comes) _ t8.out Tryz.underlying103 rfl Wq.out ?_))
     refine (A7 _ W HF.out p MI comes hc).mono ?_
     rintro e w3 ⟨rfl,hB⟩
     have HR:Hid (si w (cV W comes 9 p0) (.returned (.int .i64 (bH W p comes))) w3):=⟨by rw [WL.out],ZU.out.trans (hB.mono (by omega))⟩
     clear hB WL
     generalize bH W p comes=dv at HR ⊢
     go_wp2
     go_ret
     exact HR.out
    | some q=>
     have Hf:q<9:=yF wZ
     have eL:Hid (Below (w.heap.size+2) (mL w W comes) w2∧cV W comes 9 p0=cV W comes (9 - (i+1)) q):=⟨ea.out,by rw [Xh.out,wZ]⟩
     clear wZ Xh
     simp only [Option.getD_some,Option.isSome_some]
     go_wp2
     go_roundg (9 - (i+1))
     case measure=>omega
     case rel=>exact ⟨i+1,q,by go_num,rfl,by omega,Nat.le_refl _,Hf,eL⟩
  ·have hd:decide ((i:Int)<9)=false:=by simp;omega
   have q2:wr.cell? ⟨w.heap.size+1,p,none⟩=some (.int .i64 (comes.getD p 0)):=by have:=ba HN.out.1 (by omega) G8.out p _ (qS (by omega));rwa [Nat.zero_add] at this
   have HR:Hid (si w (cV W comes 9 p0) (.returned (.int .i64 (comes.getD p 0))) wr):=⟨by rw [HN.out.2,show 9 - i=0 from by omega];rfl,A2.out⟩
   generalize comes.getD p 0=cv at q2 HR
   go_wp2
   go_ret
   exact HR.out
structure SlRow (w:World) (Na:Option Addr) (cc:Nat) (xs:List Value) (ss:List (List cO)):Prop where
 row:w.ownsRow 0 141 1 (.slice Na ss.length cc) ss.length xs
 sels:Sels w 0 xs ss
 few:ss.length≤400
 short:∀ cs∈ss,nD cs
 fine:∀ cs∈ss,∀ x∈cs,∀ p∈x.ps,p.fine
theorem SlRow.below {w w':World} {Na:Option Addr} {cc:Nat} {xs:List Value} {ss:List (List cO)} (h:SlRow w Na cc xs ss) (hB:Below w.heap.size w w'):SlRow w' Na cc xs ss:=
 ⟨aQ h.row hB,h.sels.keep (fI hB _ _) (fI hB _ _),h.few,h.short,h.fine⟩
def Ut (w:World) (r:Int × Bool) (e:Ending) (w':World):Prop:=e=.returned (.tuple #[.int .i64 r.1,.bool r.2])∧Below w.heap.size w w'
theorem C0 {els:List PEl} {n:Int} {ss:List (List cO)} {i:Nat} (h:i<ss.length):dJ els n (ss.take (i+1))=eZ els n (dJ els n (ss.take i)) ss[i]:=by
 unfold dJ
 rw [List.take_succ_eq_append_getElem h,List.foldl_append]
 rfl
theorem B4 {els:List PEl} {n:Int}:∀ {ss:List (List cO)} {a:Int × Bool},(∀ cs∈ss,nD cs)→0≤a.1∧a.1≤160000000400→0≤(ss.foldl (eZ els n) a).1∧(ss.foldl (eZ els n) a).1≤160000000400
 | [],_,_,h=>h
 | cs :: ss,a,hs,h=>by
  rw [List.foldl_cons]
  refine B4 (fun x hx=>hs x (List.mem_cons_of_mem _ hx)) ?_
  unfold eZ
  split
  ·have h2:=m7 (hs cs List.mem_cons_self) cs.length
   rw [List.take_length] at h2
   show 0≤max _ _∧max _ _≤_
   omega
  ·exact h
theorem uZ (b:Nat) (a:Option Addr) (c:Nat) (els:List PEl) (n:Int) (ly:Int) (Na:Option Addr) (cc:Nat) (xs:List Value) (ss:List (List cO)) (vd:Value) (hvd:∃ ad nd cd,vd=.slice ad nd cd) (h:TRd w b a c els) (ho:SlRow w Na cc xs ss) :
  Calls Tryz.prog 181 #[.agg #[.int .i64 ly,.slice Na ss.length cc,vd],.pointer (some ⟨b,1,none⟩),.int .i64 n] w fun e w'=>Ut w (dJ els n ss) e w':=by
 obtain ⟨ad,nd,cd,rfl⟩:=hvd
 have HT:Hid (TRd w b a c els):=h
 have HO:Hid (SlRow w Na cc xs ss):=ho
 have bw:=ho.few
 have HWL:Hid (∀ i,0≤(dJ els n (ss.take i)).1∧(dJ els n (ss.take i)).1≤160000000400):=fun i=>B4 (fun x hx=>ho.short x (List.mem_of_mem_take hx)) ⟨by decide,by decide⟩
 have ed:Hid (Below w.heap.size w (w.alloc (.cells #[.int .i64 ly,.slice Na ss.length cc,.slice ad nd cd] 138))):=(Below.refl _ _).alloc (Nat.le_refl _) _
 clear h ho
 go_enter Tryz.func181,Tryz.ntmps181
 go_wp2_with fail
 go_loopg [8,9,16] ss.length (fun gk gv mv iv wr=>∃ (i:Nat),iv=.int .i64 i∧i≤ss.length∧ss.length - i≤gk∧gv=.int .i64 (dJ els n (ss.take i)).1∧mv=.bool (dJ els n (ss.take i)).2∧Hid (Below w.heap.size w wr))
 case atStart=>exact ⟨0,rfl,Nat.zero_le _,by omega,rfl,rfl,ed.out⟩
 case round=>
  obtain ⟨i,rfl,hi,fK,rfl,rfl,HN⟩:=hrel
  have iS:=HN.out.size
  by_cases aN:i<ss.length
  ·have hd:decide ((i:Int)<(ss.length:Int))=true:=by simp;omega
   obtain ⟨g,hg,db,fN⟩:=aH HO.out.row (by omega)
   subst hg
   obtain ⟨ac,Vo,ps,e1,e2,e3⟩:=ya HO.out.sels aN
   have c0:=(HN.out.cell (p:=⟨g,i,none⟩) db).trans (fN _ _ e1)
   have gA:Hid (dJ els n (ss.take (i+1))=eZ els n (dJ els n (ss.take i)) ss[i]):=C0 aN
   have Ca:Hid (ClRow w ac Vo ps ss[i]):=⟨e2,e3,(HO.out.short _ (List.getElem_mem aN)).1,(HO.out.short _ (List.getElem_mem aN)).2,HO.out.fine _ (List.getElem_mem aN)⟩
   have Fn:Hid (nD ss[i]):=HO.out.short _ (List.getElem_mem aN)
   have ZR:=HWL.out i
   have kI:vq ss[i]≤160000000400:=by have:=m7 Fn.out ss[i].length;rwa [List.take_length] at this
   clear e1 e2 e3 fN
   generalize dJ els n (ss.take i)=a0 at gA ZR ⊢
   obtain ⟨gr,mt⟩:=a0
   simp only at ZR ⊢
   obtain ⟨hw1,hw2⟩:=ZR
   generalize ss[i]=cs at c0 gA Ca Fn kI
   have ea:Hid (Below w.heap.size w (wr.alloc (.cells #[.slice ac cs.length Vo] 141))):=HN.out.alloc iS _
   go_wp2_with fail
   refine (vx b a c els _ n ac Vo ps cs (HT.out.below ea.out) (Ca.out.below ea.out)).mono ?_
   rintro e w1 ⟨rfl,hB⟩
   have fO:wr.heap.size<w1.heap.size:=by have:=hB.size;simp at this;omega
   have q0:w1.cell? ⟨wr.heap.size,0,none⟩=some (.slice ac cs.length Vo):=(hB.cell (p:=⟨wr.heap.size,0,none⟩) (by simp)).trans (aa (heap_alloc_new wr _) rfl)
   have ji:Hid (Below w.heap.size w w1):=ea.out.trans (hB.mono (by simp;omega))
   have YP:=ji.out.size
   clear hB c0 ea
   cases hr:qE els cs n with
   | false=>
    have fD:Hid (dJ els n (ss.take (i+1))=(gr,mt)):=by unfold Hid;rw [gA.out];unfold eZ;rw [hr];rfl
    clear hr gA
    go_wp2
    go_roundg (ss.length - (i+1))
    case measure=>omega
    case rel=>exact ⟨i+1,by go_num,by omega,Nat.le_refl _,by rw [fD.out],by rw [fD.out],ji⟩
   | true=>
    have fD:Hid (dJ els n (ss.take (i+1))=(max gr ((vq cs:Nat):Int),true)):=by unfold Hid;rw [gA.out];unfold eZ;rw [hr];rfl
    clear hr gA
    have QK:=Ca.out.below ji.out
    go_wp2_with fail
    refine (I7 w1 0 ac Vo cs ps QK.row QK.comps Fn.out).mono ?_
    rintro e w2 ⟨rfl,hB⟩
    have AJ:Hid (Below w.heap.size w w2):=ji.out.trans (hB.mono YP)
    clear hB QK
    generalize vq cs=z at fD kI ⊢
    go_wp2
    case inl=>
     go_roundg (ss.length - (i+1))
     case measure=>omega
     case rel=>exact ⟨i+1,by go_num,by omega,Nat.le_refl _,by rw [fD.out];show Value.int .i64 (z:Int)=Value.int .i64 (max gr (z:Int));congr 1;omega,by rw [fD.out],AJ⟩
    case inr=>
     go_roundg (ss.length - (i+1))
     case measure=>omega
     case rel=>exact ⟨i+1,by go_num,by omega,Nat.le_refl _,by rw [fD.out];show Value.int .i64 gr=Value.int .i64 (max gr (z:Int));congr 1;omega,by rw [fD.out],AJ⟩
  ·have hd:decide ((i:Int)<(ss.length:Int))=false:=by simp;omega
   obtain rfl:i=ss.length:=by omega
   rw [List.take_length]
   have HR:Hid (Ut w (dJ els n ss) (.returned (.tuple #[.int .i64 (dJ els n ss).1,.bool (dJ els n ss).2])) wr):=⟨rfl,HN.out⟩
   generalize (dJ els n ss).1=r1 at HR ⊢
   generalize (dJ els n ss).2=r2 at HR ⊢
   go_wp2
   go_ret2
   exact HR.out
end
end Go.Proofs.YtblfffbmklkhmaaGreat
namespace Go.Proofs.YtblfffbmklkhmaaGreat
open Go.RowKit
theorem fS {P:Program} {fn:Func} {s:Tmp} {t:TypeId} (h:fn.results=#[.cell s t]) (tmps:Array Value) {w:World} {b:Nat} (hx:tmps.getD s undef=.pointer (some ⟨b,0,none⟩)) {cs:List Value} {d:TypeDesc} (hc:w.rangeAt b 0 cs) (hu:P.underlying t=some d) (hd:d.isRow=true) (hi:(P.info? t).map (·.size)=some cs.length) :
  (results fn tmps).run P w=.ok (.agg cs.toArray) w:=by
 have BP:tmps[s]?.getD undef=.pointer (some ⟨b,0,none⟩):=by simpa using hx
 simp [results,h,BP,asAddr,run_loadVar_mid w b 0 t cs d hc hu hd hi]
theorem cq {ae:Nat} {w:World} {b:Nat} (hb:ae≤b):∀ (vs:List Value) (o:Nat) (wr:World),Below ae w wr→Below ae w (wr.setCells b o vs)
 | [],_,_,h=>h
 | v :: vs,o,wr,h=>cq hb vs (o+1) _ (h.setCell (by exact hb) v)
theorem eF (w:World) (C:Array Value) (t:TypeId) (n:Nat) (hn:n≤C.size):(w.alloc (.cells C t)).there w.heap.size 0 n:=fun j hj=>by
 rw [Nat.zero_add]
 refine ⟨?_,ag (heap_alloc_new w _)⟩
 rw [cell_of_row _ _ j C t (0,0) (heap_alloc_new w _)]
 simp
 omega
theorem cG {w wr:World} {ae b o n:Nat} (hB:Below ae w wr) (hb:b<ae) (h:w.there b o n):wr.there b o n:=fun j hj=>by
 obtain ⟨h1,h2⟩:=h j hj
 obtain ⟨u,hu⟩:=Option.isSome_iff_exists.1 h1
 have hl:=World.block_lt_of_cell? w _ hu
 have he:=hB.block b (by omega)
 refine ⟨by rw [hB.cell (p:=⟨b,o+j,none⟩) hb];exact h1,?_⟩
 unfold World.frozen? at h2 ⊢
 rw [he]
 exact h2
theorem oC {w:World} {b o n o' n':Nat} (h:w.there b o n) (h1:o≤o') (h2:o'+n'≤o+n):w.there b o' n':=fun j hj=>by
 have:=h (o' - o+j) (by omega)
 rwa [show o+(o' - o+j)=o'+j from by omega] at this
theorem Iv {w:World} {b:Nat} {W:List Clm} (h:w.rangeAt b 0 (aF W)) (ht:w.there b 0 (W.length*7)) {p:Nat} (hp:p<W.length) (c:Clm):(w.setCells b (p*7) c.cells).rangeAt b 0 (aF (W.set p c)):=fun j v hv=>by
 rw [Nat.zero_add]
 have hj:j<W.length*7:=by
  have:=(List.getElem?_eq_some_iff.1 hv).1
  rwa [fP,List.length_set] at this
 have hi:j / 7<W.length:=by omega
 have jr:(aF (W.set p c))[j / 7*7+j % 7]?=some v:=by rw [show j / 7*7+j % 7=j from by omega];exact hv
 rw [eG (by rw [List.length_set];exact hi) (by omega),List.getElem_set] at jr
 by_cases he:p=j / 7
 ·rw [if_pos he] at jr
  have:=World.rangeAt_setCells_same w b (p*7) c.cells (oC ht (by omega) (by show p*7+7≤_;omega)) (j % 7) v jr
  rwa [show p*7+j % 7=j from by omega] at this
 ·rw [if_neg he] at jr
  rw [World.cell?_setCells_out b c.cells (p*7) w ⟨b,j,none⟩ (fun _ _=>by
   show j<p*7∨p*7+7≤j
   omega)]
  have:=h j v (by rw [←show j / 7*7+j % 7=j from by omega,eG hi (by omega)];exact jr)
  rwa [Nat.zero_add] at this
structure AfI (w:World) (ly:Int) (W:List Clm) (wr:World):Prop where
 rng:wr.rangeAt w.heap.size 0 (aF W)
 thr:wr.there w.heap.size 0 63
 lay:wr.cell? ⟨w.heap.size+1,0,none⟩=some (.int .i64 ly)
 res:wr.there (w.heap.size+2) 0 63
 below:Below w.heap.size w wr
 far:w.heap.size+3≤wr.heap.size
theorem AfI.go {w:World} {ly:Int} {W:List Clm} {wr w':World} (h:AfI w ly W wr) (hB:Below wr.heap.size wr w'):AfI w ly W w':=by
 have h1:=h.far
 have h2:=h.below.size
 exact ⟨ba hB (by omega) h.rng,cG hB (by omega) h.thr,(hB.cell (p:=⟨w.heap.size+1,0,none⟩) (by show w.heap.size+1<_;omega)).trans h.lay,cG hB (by omega) h.res,h.below.trans (hB.mono h2),Nat.le_trans h1 hB.size⟩
theorem AfI.put {w:World} {ly:Int} {W:List Clm} {wr:World} (h:AfI w ly W wr) (hl:W.length=9) {p:Nat} (hp:p<9) (c:Clm):AfI w ly (W.set p c) (wr.setCells w.heap.size (p*7) c.cells):=by
 refine ⟨Iv h.rng (by rw [hl];exact h.thr) (by omega) c,World.there_setCells h.thr _ _ _,?_,World.there_setCells h.res _ _ _,cq (Nat.le_refl _) _ _ _ h.below,?_⟩
 ·rw [World.cell?_setCells_out w.heap.size c.cells (p*7) wr ⟨w.heap.size+1,0,none⟩ (fun hb _=>absurd hb (by show ¬ (w.heap.size+1=w.heap.size);omega))]
  exact h.lay
 ·have:∀ (vs:List Value) (o:Nat) (wx:World),(wx.setCells w.heap.size o vs).heap.size=wx.heap.size:=by
   intro vs
   induction vs with
   | nil=>intro o wx;rfl
   | cons v vs ih=>intro o wx;show ((wx.setCell _ v).setCells _ _ vs).heap.size=_;rw [ih];simp
  rw [this]
  exact h.far
def Wm (w:World) (W:List Clm) (e:Ending) (w':World):Prop:=e=.returned (.agg (aF W).toArray)∧Below w.heap.size w w'
theorem sK (W:List Clm):∀ v∈aF W,v.oneCell'=true:=by
 intro v hv
 unfold aF at hv
 rw [List.mem_flatMap] at hv
 obtain ⟨c,_,hc⟩:=hv
 unfold Clm.cells at hc
 simp only [List.mem_cons,List.not_mem_nil,or_false] at hc
 rcases hc with rfl | rfl | rfl | rfl | rfl | rfl | rfl<;>rfl
theorem Hz {ly wt:Int} {W:List Clm} {ds:List PDc} {i:Nat} (h:i<ds.length):(ds.take (i+1)).foldl (dL ly wt) W=dL ly wt ((ds.take i).foldl (dL ly wt) W) ds[i]:=by
 rw [List.take_succ_eq_append_getElem h,List.foldl_append]
 rfl
theorem Ir {ly wt:Int} {W:List Clm} {d:PDc} (h:fw W) (hd:d.fine):fw (dL ly wt W d):=by
 refine ⟨by rw [xA];exact h.1,fun c hc=>?_⟩
 unfold dL at hc
 split at hc
 ·split at hc
  ·rcases List.mem_or_eq_of_mem_set hc with hc | rfl
   ·exact h.2 c hc
   ·exact hd.2
  ·exact h.2 c hc
 ·exact h.2 c hc
theorem qZ {ly wt:Int}:∀ {ds:List PDc} {W:List Clm},fw W→(∀ d∈ds,d.fine)→fw (ds.foldl (dL ly wt) W)
 | [],_,h,_=>h
 | d :: ds,W,h,hd=>by
  rw [List.foldl_cons]
  exact qZ (Ir h (hd d List.mem_cons_self)) (fun x hx=>hd x (List.mem_cons_of_mem _ hx))
end Go.Proofs.YtblfffbmklkhmaaGreat
namespace Go.Proofs.YtblfffbmklkhmaaGreat
open Go.RowKit
theorem Yq (a b:Bool) (c d e f g:Int):(#[.bool a,.bool b,.int .i64 c,.int .i64 d,.int .i64 e,.int .i64 f,.int .u8 g]:Array Value).all (·.oneCell')=true:=all_oneCell_toArray (cs:=[.bool a,.bool b,.int .i64 c,.int .i64 d,.int .i64 e,.int .i64 f,.int .u8 g]) (fun u hu=>by
 simp only [List.mem_cons,List.not_mem_nil,or_false] at hu
 rcases hu with rfl | rfl | rfl | rfl | rfl | rfl | rfl<;>rfl)
theorem Tryz.sizeCl:(Tryz.prog.info? 221).map (·.size)=some 7:=by kernel_rfl
theorem Ie (w:World) (W:List Clm) (hW:W.length=9) (ly:Int) (v1 v2:Value) (t1 t2 t3:TypeId) (Z:Array Value) (hZ:Z.size=63):AfI w ly W (((w.alloc (.cells (aF W).toArray t1)).alloc (.cells #[.int .i64 ly,v1,v2] t2)).alloc (.cells Z t3)):=by
 have e1:(w.alloc (.cells (aF W).toArray t1)).heap.size=w.heap.size+1:=by simp
 have e2:((w.alloc (.cells (aF W).toArray t1)).alloc (.cells #[.int .i64 ly,v1,v2] t2)).heap.size=w.heap.size+2:=by simp
 have hl:(aF W).toArray.size=63:=by rw [List.size_toArray,fP,hW]
 refine ⟨World.rangeAt_alloc (World.rangeAt_alloc (dY w _ _) _) _,World.there_alloc (World.there_alloc (eF w _ _ 63 (by omega)) _) _,?_,?_,(((Below.refl _ _).alloc (Nat.le_refl _) _).alloc (by simp) _).alloc (by simp;omega) _,by simp⟩
 ·rw [World.cell?_alloc_lt _ _ _ (by show w.heap.size+1<_;omega)]
  have:=yh (w.alloc (.cells (aF W).toArray t1)) #[.int .i64 ly,v1,v2] t2 (k:=0) (v:=.int .i64 ly) rfl
  rwa [e1] at this
 ·have:=eF ((w.alloc (.cells (aF W).toArray t1)).alloc (.cells #[.int .i64 ly,v1,v2] t2)) Z t3 63 (by omega)
  rwa [e2] at this
section
set_option maxRecDepth 100000
set_option maxHeartbeats 1500000
variable (w:World)
theorem Df (W:List Clm) (hF:fw W) (ly wt:Int) (sa:Option Addr) (sn sc:Nat) (ad:Option Addr) (cd:Nat) (qs:List Value) (ds:List PDc) (ho:w.ownsRow 0 253 5 (.slice ad ds.length cd) ds.length qs) (hk:Decs qs ds) (XG:∀ d∈ds,d.fine) (hl:ds.length≤400) :
  Calls Tryz.prog 182 #[.agg (aF W).toArray,.agg #[.int .i64 ly,.slice sa sn sc,.slice ad ds.length cd],.int .i64 wt] w fun e w'=>Wm w (ds.foldl (dL ly wt) W) e w':=by
 have HF:Hid (∀ i,fw ((ds.take i).foldl (dL ly wt) W)):=fun i=>qZ hF (fun d hd=>XG d (List.mem_of_mem_take hd))
 have HO:Hid (w.ownsRow 0 253 5 (.slice ad ds.length cd) ds.length qs∧Decs qs ds∧∀ d∈ds,d.fine):=⟨ho,hk,XG⟩
 clear hF ho hk XG
 go_enter Tryz.func182,Tryz.ntmps182
 go_wp2_with fail
 go_loopg [15] ds.length (fun gk iv wr=>∃ i:Nat,iv=.int .i64 i∧i≤ds.length∧ds.length - i≤gk∧Hid (AfI w ly ((ds.take i).foldl (dL ly wt) W) wr))
 case atStart=>exact ⟨0,rfl,Nat.zero_le _,by omega,Ie w W (HF.out 0).1 ly _ _ _ _ _ _ rfl⟩
 case round=>
  obtain ⟨i,rfl,hi,fK,HN⟩:=hrel
  have Qj:=HN.out.far
  have iS:=HN.out.below.size
  by_cases aN:i<ds.length
  ·have hd:decide ((i:Int)<(ds.length:Int))=true:=by simp;omega
   obtain ⟨g,hg,db,fN⟩:=aH HO.out.1 (by omega)
   subst hg
   obtain ⟨e0,e1,e2,e3,e4⟩:=Fa HO.out.2.1 aN
   have c0:=(HN.out.below.cell (p:=⟨g,i*5,none⟩) db).trans (fN _ _ e0)
   have c1:=(HN.out.below.cell (p:=⟨g,i*5+1,none⟩) db).trans (fN _ _ e1)
   have c2:=(HN.out.below.cell (p:=⟨g,i*5+2,none⟩) db).trans (fN _ _ e2)
   have c3:=(HN.out.below.cell (p:=⟨g,i*5+3,none⟩) db).trans (fN _ _ e3)
   have c4:=(HN.out.below.cell (p:=⟨g,i*5+4,none⟩) db).trans (fN _ _ e4)
   have gA:Hid ((ds.take (i+1)).foldl (dL ly wt) W=dL ly wt ((ds.take i).foldl (dL ly wt) W) ds[i]):=Hz aN
   have OO:=HO.out.2.2 ds[i] (List.getElem_mem aN)
   have TY:Hid (fw ((ds.take i).foldl (dL ly wt) W)):=HF.out i
   clear e0 e1 e2 e3 e4 fN
   generalize ds[i]=d at c0 c1 c2 c3 c4 gA OO
   obtain ⟨pr,kd,nu,va,im⟩:=d
   simp only at c0 c1 c2 c3 c4
   obtain ⟨Xl,YJ⟩:=OO
   simp only at Xl YJ
   generalize (ds.take i).foldl (dL ly wt) W=Wi at HN gA TY
   obtain ⟨Wj,Q1⟩:∃ Wj,(ds.take (i+1)).foldl (dL ly wt) W=Wj:=⟨_,rfl⟩
   have Uj:Hid ((ds.take (i+1)).foldl (dL ly wt) W=Wj):=Q1
   rw [Q1] at gA
   clear Q1
   have HNa:Hid (AfI w ly Wi (wr.alloc (.cells #[.int .u8 pr,.int .i64 kd,.int .i64 nu,.int .u8 va,.bool im] 253))):=HN.out.go ((Below.refl _ _).alloc (Nat.le_refl _) _)
   go_wp2_with fail
   refine (kA _ pr Xl).mono ?_
   rintro e w1 ⟨rfl,hB⟩
   have nn:Hid (AfI w ly Wi w1):=HNa.out.go hB
   have fO:wr.heap.size<w1.heap.size:=by have:=hB.size;simp at this;omega
   have UL:=nn.out.far
   have d1:w1.cell? ⟨wr.heap.size,1,none⟩=some (.int .i64 kd):=(hB.cell (p:=⟨wr.heap.size,1,none⟩) (by simp)).trans (aa (heap_alloc_new wr _) rfl)
   have d2:w1.cell? ⟨wr.heap.size,2,none⟩=some (.int .i64 nu):=(hB.cell (p:=⟨wr.heap.size,2,none⟩) (by simp)).trans (aa (heap_alloc_new wr _) rfl)
   have d3:w1.cell? ⟨wr.heap.size,3,none⟩=some (.int .u8 va):=(hB.cell (p:=⟨wr.heap.size,3,none⟩) (by simp)).trans (aa (heap_alloc_new wr _) rfl)
   have d4:w1.cell? ⟨wr.heap.size,4,none⟩=some (.bool im):=(hB.cell (p:=⟨wr.heap.size,4,none⟩) (by simp)).trans (aa (heap_alloc_new wr _) rfl)
   have dl:=nn.out.lay
   have hzl:w.heap.size+1<w1.heap.size:=by omega
   clear hB c0 c1 c2 c3 c4 HN HNa
   cases kL:bj pr with
   | none=>
    have eL:Hid (AfI w ly Wj w1):=by
     have:Wj=Wi:=by rw [gA.out];unfold dL;simp only [kL]
     rw [this]
     exact nn.out
    clear kL gA
    simp only [Option.getD_none,Option.isSome_none]
    go_wp2
    go_roundg (ds.length - (i+1))
    case measure=>omega
    case rel=>exact ⟨i+1,by go_num,by omega,Nat.le_refl _,by unfold Hid;rw [Uj.out];exact eL.out⟩
   | some k=>
    have hk9:k<9:=kw kL
    have om:(k:Int)<9:=by omega
    have hWl:=TY.out.1
    have HK:Hid ((aF Wi)[k*7]?=Wi[k].cells[0]?∧(aF Wi)[k*7+1]?=Wi[k].cells[1]?∧(aF Wi)[k*7+2]?=Wi[k].cells[2]?∧(aF Wi)[k*7+3]?=Wi[k].cells[3]?∧(aF Wi)[k*7+4]?=Wi[k].cells[4]?∧(aF Wi)[k*7+5]?=Wi[k].cells[5]?∧(aF Wi)[k*7+6]?=Wi[k].cells[6]?):=
     ⟨eG (j:=0) (by omega) (by omega),eG (by omega) (by omega),eG (by omega) (by omega),eG (by omega) (by omega),eG (by omega) (by omega),eG (by omega) (by omega),eG (by omega) (by omega)⟩
    have fD:Hid (Wj=if fX (kB ly wt ⟨pr,kd,nu,va,im⟩) Wi[k] then Wi.set k (kB ly wt ⟨pr,kd,nu,va,im⟩) else Wi):=by
     have:Wi.getD k Clm.none=Wi[k]:=by rw [List.getD_eq_getElem?_getD,List.getElem?_eq_getElem (by omega)];rfl
     unfold Hid
     rw [gA.out]
     unfold dL
     simp only [kL]
     rw [this]
    clear kL gA
    generalize Wi[k]=xk at HK fD
    obtain ⟨MQ,F9,AY,EF,Gn,FZ,Hd⟩:=xk
    simp only [Option.getD_some,Option.isSome_some]
    have HC:Hid (∀ wx,Below (w1.heap.size+1) (w1.alloc (.cells #[.bool true,.bool im,.int .i64 ly,.int .i64 wt,.int .i64 kd,.int .i64 nu,.int .u8 va] 221)).drew wx→wx.cell? ⟨w1.heap.size,0,none⟩=some (.bool true)∧wx.cell? ⟨w1.heap.size,1,none⟩=some (.bool im)∧wx.cell? ⟨w1.heap.size,2,none⟩=some (.int .i64 ly)∧wx.cell? ⟨w1.heap.size,3,none⟩=some (.int .i64 wt)∧wx.cell? ⟨w1.heap.size,4,none⟩=some (.int .i64 kd)∧wx.cell? ⟨w1.heap.size,5,none⟩=some (.int .i64 nu)∧wx.cell? ⟨w1.heap.size,6,none⟩=some (.int .u8 va)∧wx.cell? ⟨w.heap.size,k*7,none⟩=some (.bool MQ)∧wx.cell? ⟨w.heap.size,k*7+1,none⟩=some (.bool F9)∧wx.cell? ⟨w.heap.size,k*7+2,none⟩=some (.int .i64 AY)∧wx.cell? ⟨w.heap.size,k*7+3,none⟩=some (.int .i64 EF)∧wx.cell? ⟨w.heap.size,k*7+4,none⟩=some (.int .i64 Gn)∧wx.cell? ⟨w.heap.size,k*7+5,none⟩=some (.int .i64 FZ)∧wx.cell? ⟨w.heap.size,k*7+6,none⟩=some (.int .u8 Hd)):=fun wx hb=>by
     have lg:(w1.alloc (.cells #[.bool true,.bool im,.int .i64 ly,.int .i64 wt,.int .i64 kd,.int .i64 nu,.int .u8 va] 221)).drew.heap[w1.heap.size]?=some (.cells #[.bool true,.bool im,.int .i64 ly,.int .i64 wt,.int .i64 kd,.int .i64 nu,.int .u8 va] 221):=heap_alloc_new w1 _
     have hx:wx.heap[w1.heap.size]?=some (.cells #[.bool true,.bool im,.int .i64 ly,.int .i64 wt,.int .i64 kd,.int .i64 nu,.int .u8 va] 221):=(hb.block _ (by omega)).trans lg
     have hr0:(w1.alloc (.cells #[.bool true,.bool im,.int .i64 ly,.int .i64 wt,.int .i64 kd,.int .i64 nu,.int .u8 va] 221)).drew.rangeAt w.heap.size 0 (aF Wi):=World.rangeAt_alloc nn.out.rng _
     have hr:wx.rangeAt w.heap.size 0 (aF Wi):=ba hb (by omega) hr0
     have hz:∀ j v,(aF Wi)[j]?=some v→wx.cell? ⟨w.heap.size,j,none⟩=some v:=fun j v hv=>by have:=hr j v hv;rwa [Nat.zero_add] at this
     obtain ⟨f0,f1,f2,f3,f4,f5,f6⟩:=HK.out
     exact ⟨aa hx rfl,aa hx rfl,aa hx rfl,aa hx rfl,aa hx rfl,aa hx rfl,aa hx rfl,hz _ _ f0,hz _ _ f1,hz _ _ f2,hz _ _ f3,hz _ _ f4,hz _ _ f5,hz _ _ f6⟩
    have H0:Hid (Below (w1.heap.size+1) (w1.alloc (.cells #[.bool true,.bool im,.int .i64 ly,.int .i64 wt,.int .i64 kd,.int .i64 nu,.int .u8 va] 221)).drew (w1.alloc (.cells #[.bool true,.bool im,.int .i64 ly,.int .i64 wt,.int .i64 kd,.int .i64 nu,.int .u8 va] 221)).drew):=Below.refl _ _
    have XW:Hid (AfI w ly Wi (w1.alloc (.cells #[.bool true,.bool im,.int .i64 ly,.int .i64 wt,.int .i64 kd,.int .i64 nu,.int .u8 va] 221)).drew):=nn.out.go ((Below.refl _ _).alloc (Nat.le_refl _) _).drew
    have hzb:(w1.alloc (.cells #[.bool true,.bool im,.int .i64 ly,.int .i64 wt,.int .i64 kd,.int .i64 nu,.int .u8 va] 221)).drew.heap.size=w1.heap.size+1:=by simp [World.drew]
    have Zw:Hid ((w1.alloc (.cells #[.bool true,.bool im,.int .i64 ly,.int .i64 wt,.int .i64 kd,.int .i64 nu,.int .u8 va] 221)).drew.heap.size=w1.heap.size+1):=hzb
    clear hzb
    go_upto_region 7 with fail
    go_cut [39] (fun v wx=>v=.bool (fX (kB ly wt ⟨pr,kd,nu,va,im⟩) ⟨MQ,F9,AY,EF,Gn,FZ,Hd⟩)∧Hid (Below (w1.heap.size+1) (w1.alloc (.cells #[.bool true,.bool im,.int .i64 ly,.int .i64 wt,.int .i64 kd,.int .i64 nu,.int .u8 va] 221)).drew wx))
    case first=>
     go_region_held3 (fun w'=>w'.cell? ⟨w1.heap.size,0,none⟩=some (.bool true)∧w'.cell? ⟨w1.heap.size,1,none⟩=some (.bool im)∧w'.cell? ⟨w1.heap.size,2,none⟩=some (.int .i64 ly)∧w'.cell? ⟨w1.heap.size,3,none⟩=some (.int .i64 wt)∧w'.cell? ⟨w1.heap.size,4,none⟩=some (.int .i64 kd)∧w'.cell? ⟨w1.heap.size,5,none⟩=some (.int .i64 nu)∧w'.cell? ⟨w1.heap.size,6,none⟩=some (.int .u8 va)∧w'.cell? ⟨w.heap.size,k*7,none⟩=some (.bool MQ)∧w'.cell? ⟨w.heap.size,k*7+1,none⟩=some (.bool F9)∧w'.cell? ⟨w.heap.size,k*7+2,none⟩=some (.int .i64 AY)∧w'.cell? ⟨w.heap.size,k*7+3,none⟩=some (.int .i64 EF)∧w'.cell? ⟨w.heap.size,k*7+4,none⟩=some (.int .i64 Gn)∧w'.cell? ⟨w.heap.size,k*7+5,none⟩=some (.int .i64 FZ)∧w'.cell? ⟨w.heap.size,k*7+6,none⟩=some (.int .u8 Hd)) (first | exact HC.out _ H0.out | exact HC.out _ HX.out)
      (first | (go_at_call 196;refine (DW _ true im ly wt kd nu va MQ F9 AY EF Gn FZ Hd).mono ?_;rintro e w2 ⟨rfl,dp⟩;have HX:Hid (Below (w1.heap.size+1) (w1.alloc (.cells #[.bool true,.bool im,.int .i64 ly,.int .i64 wt,.int .i64 kd,.int .i64 nu,.int .u8 va] 221)).drew w2):=dp.mono (by have:=Zw.out;omega)))
     all_goals
      go_wp2_with fail
      go_meet
      exact ⟨rfl,HX⟩
    case rest=>
     obtain ⟨rfl,HX⟩:=hcut
     have OG:Hid (AfI w ly Wi wc):=XW.out.go (HX.out.mono (by have:=Zw.out;omega))
     have DP:=OG.out.far
     have hzx:w1.heap.size+1≤wc.heap.size:=by have:=HX.out.size;have:=Zw.out;omega
     clear d1 d2 d3 d4 dl
     cases Eb:fX (kB ly wt ⟨pr,kd,nu,va,im⟩) ⟨MQ,F9,AY,EF,Gn,FZ,Hd⟩ with
     | true=>
      have eL:Hid (AfI w ly Wj (wc.setCells w.heap.size (k*7) [.bool true,.bool im,.int .i64 ly,.int .i64 wt,.int .i64 kd,.int .i64 nu,.int .u8 va])):=by
       unfold Hid
       rw [fD.out,Eb,if_pos rfl]
       exact OG.out.put hWl hk9 _
      have HRC:Hid (wc.rangeAt w1.heap.size 0 [.bool true,.bool im,.int .i64 ly,.int .i64 wt,.int .i64 kd,.int .i64 nu,.int .u8 va]):=ba HX.out (by omega) (dY w1 _ _)
      obtain ⟨MH,Nn⟩:∃ MH:List Value,MH=[.bool true,.bool im,.int .i64 ly,.int .i64 wt,.int .i64 kd,.int .i64 nu,.int .u8 va]:=⟨_,rfl⟩
      have bR:MH.length=7:=by rw [Nn];rfl
      have HO7:Hid (MH.toArray.all (·.oneCell')=true):=by unfold Hid;rw [Nn];exact Yq true im ly wt kd nu va
      rw [←Nn] at HRC eL
      have rp:Hid (wc.there w.heap.size (k*7) MH.toArray.size):=(by unfold Hid;rw [show MH.toArray.size=7 from (List.size_toArray).trans bR];exact oC OG.out.thr (by omega) (by omega))
      have rZ:Hid ((Tryz.prog.info? 221).map (·.size)=some MH.length):=by unfold Hid;rw [bR];exact Tryz.sizeCl
      have ZS:Hid ((Tryz.prog.info? 221).map (·.size)=some MH.toArray.size):=by unfold Hid;rw [List.size_toArray];exact rZ.out
      clear Eb fD HC H0 XW OG Nn bR
      go_wp2_with (first | (refine wpList_load_mid rfl 221 _ rfl w1.heap.size 0 rfl MH _ HRC.out Tryz.underlying221 rfl rZ.out ?_) | (refine wpList_store_mid rfl 221 _ _ rfl w.heap.size (k*7) MH.toArray rfl rfl rp.out ZS.out HO7.out ?_))
      go_roundg (ds.length - (i+1))
      case measure=>omega
      case rel=>exact ⟨i+1,by go_num,by omega,Nat.le_refl _,by unfold Hid;rw [Uj.out];exact eL.out⟩
     | false=>
      have eL:Hid (AfI w ly Wj wc):=by
       unfold Hid
       rw [fD.out,Eb]
       exact OG.out
      clear Eb fD HC H0 XW OG
      go_wp2
      go_roundg (ds.length - (i+1))
      case measure=>omega
      case rel=>exact ⟨i+1,by go_num,by omega,Nat.le_refl _,by unfold Hid;rw [Uj.out];exact eL.out⟩
  ·have hd:decide ((i:Int)<(ds.length:Int))=false:=by simp;omega
   obtain rfl:i=ds.length:=by omega
   rw [List.take_length] at HN
   have IV:Hid (fw (ds.foldl (dL ly wt) W)):=by have:=HF.out ds.length;rwa [List.take_length] at this
   obtain ⟨Wn,QU⟩:∃ Wn,ds.foldl (dL ly wt) W=Wn:=⟨_,rfl⟩
   rw [QU] at HN IV
   have ON:Hid (ds.foldl (dL ly wt) W=Wn):=QU
   clear QU
   have Cj:Hid ((Tryz.prog.info? 223).map (·.size)=some (aF Wn).length):=sizeW IV.out.1
   have HLN:Hid ((aF Wn).toArray.size=63):=by unfold Hid;rw [List.size_toArray,fP,IV.out.1]
   have Bo:Hid ((Tryz.prog.info? 223).map (·.size)=some (aF Wn).toArray.size):=by unfold Hid;rw [List.size_toArray];exact Cj.out
   have rp:Hid (wr.there (w.heap.size+2) 0 (aF Wn).toArray.size):=by unfold Hid;rw [HLN.out];exact HN.out.res
   have BQ:Hid ((aF Wn).toArray.all (·.oneCell')=true):=all_oneCell_toArray (sK Wn)
   have yn:Hid ((wr.setCells (w.heap.size+2) 0 (aF Wn)).rangeAt (w.heap.size+2) 0 (aF Wn)):=World.rangeAt_setCells_same wr _ 0 _ (by have:=rp.out;rwa [List.size_toArray] at this)
   have r8:Hid (Below w.heap.size w (wr.setCells (w.heap.size+2) 0 (aF Wn))):=cq (by omega) _ _ _ HN.out.below
   go_wp2_with (first | (refine wpList_load_mid rfl 223 _ rfl w.heap.size 0 rfl (aF Wn) _ HN.out.rng Tryz.underlying223 rfl Cj.out ?_) | (refine wpList_store_mid rfl 223 _ _ rfl (w.heap.size+2) 0 (aF Wn).toArray rfl rfl rp.out Bo.out BQ.out ?_))
   exact bodyPost_ret (fS Tryz.results182 _ rfl yn.out Tryz.underlying223 rfl Cj.out) rfl ⟨by rw [ON.out],r8.out⟩
end
end Go.Proofs.YtblfffbmklkhmaaGreat
