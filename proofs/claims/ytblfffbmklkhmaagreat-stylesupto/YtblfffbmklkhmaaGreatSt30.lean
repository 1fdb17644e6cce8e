import Derived.Test.YtblfffbmklkhmaaGreatSt29
import Derived.Test.YtblfffbmklkhmaaGreatSt28
import Derived.BigRegion
namespace Go.Proofs.YtblfffbmklkhmaaGreat
open Go.RowKit
noncomputable def br (els:List REl) (sels:List (List ex)):Nat→List Int
 | 0=>List.replicate els.length (-1)
 | k+1=>(List.range els.length).map fun i=>
  if (gg els (sels[k]?.getD []) (sels[k]?.getD []).length)[i]?.getD false=true∧(br els sels k)[i]?.getD 0<(iK (sels[k]?.getD []):Int) then (iK (sels[k]?.getD []):Int) else (br els sels k)[i]?.getD 0
theorem eN (els:List REl) (sels:List (List ex)) (k:Nat):(br els sels k).length=els.length:=by
 cases k<;>simp [br]
theorem LD {els:List REl} {sels:List (List ex)} {k i:Nat} (hk:k<sels.length) (hi:i<els.length) (hs:0<sels[k].length) :
  ∃ (o:Bool) (l:Int),(gg els sels[k] sels[k].length)[i]?=some o∧(br els sels k)[i]?=some l∧(br els sels (k+1))[i]?=some (if o=true∧l<(iK sels[k]:Int) then (iK sels[k]:Int) else l):=by
 have l2:=eN els sels k
 have l3:=pn (els:=els) (cs:=sels[k]) hs
 have e1:sels[k]?.getD []=sels[k]:=by rw [List.getElem?_eq_getElem hk];rfl
 refine ⟨(gg els sels[k] sels[k].length)[i]'(by omega),(br els sels k)[i]'(by omega),List.getElem?_eq_getElem _,List.getElem?_eq_getElem _,?_⟩
 show ((List.range els.length).map fun i=>_)[i]?=_
 rw [List.getElem?_map,List.getElem?_range hi,e1]
 show some (if _ then _ else _)=_
 rw [List.getElem?_eq_getElem (by omega),List.getElem?_eq_getElem (by omega)]
 rfl
def SelsM (w:World) (ae:Nat) (xs:List Value) (sels:List (List ex)):Prop:=
 ∀ i (hi:i<sels.length),∃ (a:Option Addr) (c:Nat),xs[i]?=some (.slice a sels[i].length c)∧w.ownsRow ae 206 2 (.slice a sels[i].length c) sels[i].length (jB sels[i])
structure xX (cs:List ex):Prop where
 some:0<cs.length
 few:cs.length≤400
 ok:∀ x∈cs,kT 400 x.tx
abbrev mV (l:List Int):List Value:=l.map (Value.int .i64)
def PJ (w:World) (l:List Int) (e:Ending) (w':World):Prop:=∃ (a:Option Addr) (c:Nat),e=.returned (.slice a l.length c)∧w'.ownsRow w.heap.size 3 1 (.slice a l.length c) l.length (mV l)∧Below w.heap.size w w'
theorem Ia (w:World) (ae n:Nat) (hb:ae≤w.heap.size) (hn:n≤24):(w.alloc (.cells (madeCells #[.int .i64 0] n) 3)).ownsRow ae 3 1 (.slice (some ⟨w.heap.size,0,none⟩) n n) n (mV (List.replicate n 0)):=
 ⟨by simp,Or.inr ⟨w.heap.size,n,madeCells #[.int .i64 0] n,rfl,hb,heap_alloc_new w _,Nat.le_refl _,by unfold maxLen;omega,by rw [size_madeCells,Nat.mul_one],by rw [toList_madeCells_one];simp [mV]⟩⟩
def mT (l m:List Int) (i:Nat):List Int:=m.take i++l.drop i
theorem Mt {l m:List Int} {i n:Nat} (hm:m.length=n) (hi:i<n):(mT l m i)[i]?=l[i]?:=by
 unfold mT
 have:(m.take i).length=i:=by rw [List.length_take];omega
 rw [List.getElem?_append_right (by omega),this,Nat.sub_self,List.getElem?_drop,Nat.add_zero]
theorem FN {l m:List Int} {i n:Nat} (hl:l.length=n) (hm:m.length=n) (hi:i<n) {x:Int} (hx:m[i]?=some x):(mT l m i).set i x=mT l m (i+1):=by
 obtain rfl:m[i]'(by omega)=x:=(List.getElem?_eq_some_iff.1 hx).2
 unfold mT
 have h1:(m.take i).length=i:=by rw [List.length_take];omega
 rw [List.set_append_right _ _ (by omega),h1,Nat.sub_self,List.take_succ_eq_append_getElem (by omega),List.append_assoc]
 congr 1
 rw [List.drop_eq_getElem_cons (by omega)]
 rfl
theorem LG {l m:List Int} {i n:Nat} (hl:l.length=n) (hm:m.length=n) (hi:i<n) (QB:m[i]?=l[i]?):mT l m i=mT l m (i+1):=by
 have he:m[i]'(by omega)=l[i]'(by omega):=by
  rw [List.getElem?_eq_getElem (by omega),List.getElem?_eq_getElem (by omega)] at QB
  injection QB
 unfold mT
 rw [List.take_succ_eq_append_getElem (by omega),List.append_assoc,he,List.drop_eq_getElem_cons (i:=i) (by omega)]
 rfl
theorem Fv {l m:List Int} {n:Nat} (hl:l.length=n) (hm:m.length=n):mT l m n=m:=by
 unfold mT
 rw [List.take_of_length_le (by omega),List.drop_of_length_le (by omega),List.append_nil]
theorem NS {l:List Int} {i:Nat} {x:Int}:(mV l).set i (.int .i64 x)=mV (l.set i x):=by
 unfold mV
 rw [List.map_set]
structure HI (W0:World) (ae:Nat) (wr:World) (nb n:Nat) (l:List Int):Prop where
 row:wr.ownsRow ae 3 1 (.slice (some ⟨nb,0,none⟩) n n) n (mV l)
 below:Below ae W0 wr
theorem HI.set {W0:World} {ae:Nat} {wr:World} {nb n:Nat} {l:List Int} (h:HI W0 ae wr nb n l) (i:Nat) (x:Int):HI W0 ae (wr.setCell ⟨nb,i,none⟩ (.int .i64 x)) nb n (l.set i x):=by
 refine ⟨?_,h.below.setCell ((h.row.lt nb rfl).1) _⟩
 have:=(h.row.stored i (.int .i64 x)).1
 rw [NS] at this
 exact this
theorem HI.go {W0:World} {ae:Nat} {wr:World} {nb n:Nat} {l:List Int} (h:HI W0 ae wr nb n l) (hb:ae≤wr.heap.size) {w':World} (hB:Below wr.heap.size wr w'):HI W0 ae w' nb n l:=⟨aQ h.row hB,h.below.trans (hB.mono hb)⟩
set_option maxRecDepth 100000 in
set_option maxHeartbeats 8000000 in
theorem IM (w:World) (d:Nat) (els:List REl) (made:Nat) (hp:Option Addr) (vT:Value) (aR:Bool) (vL:Value) (h:RD w d els made hp vT aR vL) (rk:Nat→Nat) (hr:lM els rk) (kI:∀ y∈els,y.cl.size≤maxLen)
  (ae:Nat) (ly:Int) (a:Option Addr) (c:Nat) (vD:Value) (sels:List (List ex)) (xs:List Value) (ho:w.ownsRow ae 166 1 (.slice a sels.length c) sels.length xs) (hs:SelsM w ae xs sels) (oE:∀ x∈sels,xX x) (hfs:sels.length≤400) :
  Calls Tryz.prog 167 #[.pointer (some ⟨d,0,none⟩),.agg #[.int .i64 ly,.slice a sels.length c,vD]] w fun e w'=>PJ w (br els sels sels.length) e w':=by
 obtain ⟨i0,hi,gx,gw,gB⟩:=info_parts Tryz.info3
 have bw:=h.few
 have Ci:∀ u:World,(Instr.makeSlice 40 (.int .i64 (els.length:Int)) (.int .i64 (els.length:Int))).run Tryz.prog u=.ok (.slice (some ⟨u.heap.size,0,none⟩) els.length els.length) (u.alloc (.cells (madeCells #[.int .i64 0] els.length) 3)):=fun u=>by
  have h:=run_make (P:=Tryz.prog) u 40 3 i0 (.int .i64 0) Tryz.underlying40 hi gx .i64 .i64 (els.length:Int) (els.length:Int) (by omega) (Int.le_refl _) (by rw [gB];omega) (by omega)
  simpa [gw,Value.cells] using h
 obtain ⟨aL,cL,sX⟩:=h.shape
 subst sX
 have ow:Hid (Below w.heap.size w (w.alloc (.cells #[.int .i64 ly,.slice a sels.length c,vD] 164))):=(Below.refl _ _).alloc (Nat.le_refl _) _
 have HR:Hid (RD (w.alloc (.cells #[.int .i64 ly,.slice a sels.length c,vD] 164)) d els made hp vT aR (.slice aL els.length cL)∧lM els rk∧∀ y∈els,y.cl.size≤maxLen):=⟨h.below ow.out,hr,kI⟩
 have HO:Hid (w.ownsRow ae 166 1 (.slice a sels.length c) sels.length xs∧SelsM w ae xs sels∧∀ x∈sels,xX x):=⟨ho,hs,oE⟩
 have sy:Hid ((w.alloc (.cells #[.int .i64 ly,.slice a sels.length c,vD] 164)).heap[w.heap.size]?=some (.cells #[.int .i64 ly,.slice a sels.length c,vD] 164 (0,0))):=heap_alloc_new w _
 have d1:=HR.out.1.c1
 have Wr:(w.alloc (.cells #[.int .i64 ly,.slice a sels.length c,vD] 164)).heap.size=w.heap.size+1:=by simp
 clear h hr kI ho hs oE
 go_enter Tryz.func167,Tryz.ntmps167
 go_wp2_with fail
 have JU:Hid (HI (w.alloc (.cells #[.int .i64 ly,.slice a sels.length c,vD] 164)) (w.heap.size+1) ((w.alloc (.cells #[.int .i64 ly,.slice a sels.length c,vD] 164)).alloc (.cells (madeCells #[.int .i64 0] els.length) 3)) (w.heap.size+1) els.length (mT (List.replicate els.length 0) (br els sels 0) 0)):=by
  have:=Ia (w.alloc (.cells #[.int .i64 ly,.slice a sels.length c,vD] 164)) (w.heap.size+1) els.length (by omega) bw
  rw [Wr] at this
  refine ⟨?_,(Below.refl _ _).alloc (by omega) _⟩
  show World.ownsRow _ _ _ _ _ _ (mV (List.take 0 _++List.drop 0 _))
  exact this
 generalize hW0:w.alloc (.cells #[.int .i64 ly,.slice a sels.length c,vD] 164)=W0 at ow HR sy d1 Wr JU ⊢
 generalize W0.alloc (.cells (madeCells #[.int .i64 0] els.length) 3)=W1 at JU ⊢
 clear hW0 d1
 go_loopg [6] els.length (fun gk iv wr=>∃ i:Nat,iv=.int .i64 i∧i≤els.length∧els.length - i≤gk∧Hid (HI W0 (w.heap.size+1) wr (w.heap.size+1) els.length (mT (List.replicate els.length 0) (br els sels 0) i)))
 case atStart=>exact ⟨0,rfl,Nat.zero_le _,by omega,JU⟩
 case round=>
  obtain ⟨i,rfl,jC,fK,HN⟩:=hrel
  by_cases aN:i<els.length
  ·have hd:decide ((i:Int)<(els.length:Int))=true:=by simp;omega
   have IX:(List.replicate els.length (0:Int)).length=els.length:=by simp
   have yl:=eN els sels 0
   have q:=HN.out.row.cellAt i (by omega)
   have qz:=HN.out.row.frozenAt i
   rw [List.getElem?_map,Mt yl aN,List.getElem?_replicate,if_pos aN] at q
   have Al:(br els sels 0)[i]?=some (-1):=by simp [br,aN]
   have eL:Hid (HI W0 (w.heap.size+1) (wr.setCell ⟨w.heap.size+1,i,none⟩ (.int .i64 (-1))) (w.heap.size+1) els.length (mT (List.replicate els.length 0) (br els sels 0) (i+1))):=by
    have:=HN.out.set i (-1)
    rw [←FN IX yl aN Al]
    exact this
   clear HN IX yl Al
   go_wp2
   go_roundg (els.length - (i+1))
   case measure=>omega
   case rel=>exact ⟨i+1,by go_num,by omega,Nat.le_refl _,eL⟩
  ·have hd:decide ((i:Int)<(els.length:Int))=false:=by simp;omega
   obtain rfl:i=els.length:=by omega
   have nn:Hid (HI W0 (w.heap.size+1) wr (w.heap.size+1) els.length (br els sels 0)):=by
    have:=HN.out
    rw [Fv (by simp) (eN els sels 0)] at this
    exact this
   clear HN
   go_wp2_with fail
   go_loopg [7] sels.length (fun gk kv wr=>∃ k:Nat,kv=.int .i64 k∧k≤sels.length∧sels.length - k≤gk∧Hid (HI W0 (w.heap.size+1) wr (w.heap.size+1) els.length (br els sels k)))
   case atStart=>exact ⟨0,rfl,Nat.zero_le _,by omega,nn⟩
   case round=>
    obtain ⟨k,rfl,om,fK,HN⟩:=hrel
    by_cases hkt:k<sels.length
    ·have iL:decide ((k:Int)<(sels.length:Int))=true:=by simp;omega
     have iS:=HN.out.below.size
     have T0:=(HN.out.row.lt (w.heap.size+1) rfl).2
     have A2:Hid (Below w.heap.size w wr):=ow.out.trans (HN.out.below.mono (Nat.le_succ _))
     have r1:wr.cell? ⟨w.heap.size,1,none⟩=some (.slice a sels.length c):=(HN.out.below.cell (p:=⟨w.heap.size,1,none⟩) (Nat.lt_succ_self _)).trans (aa sy.out rfl)
     obtain ⟨g,hg,db,fN⟩:=aH HO.out.1 (by omega)
     subst hg
     obtain ⟨ak,ck,hx,Ma⟩:=HO.out.2.1 k hkt
     have s0:=fN _ _ hx
     have Uh:=(A2.out.cell (p:=⟨g,k,none⟩) db).trans s0
     have JM:=HO.out.2.2 _ (List.getElem_mem hkt)
     have NB:Hid (xX sels[k]∧wr.ownsRow ae 206 2 (.slice ak sels[k].length ck) sels[k].length (jB sels[k])):=⟨JM,aQ Ma A2.out⟩
     have Cj:Hid (w.ownsRow ae 206 2 (.slice ak sels[k].length ck) sels[k].length (jB sels[k])):=Ma
     have y9:Hid (∀ i,i<els.length→∃ (o:Bool) (l:Int),(gg els sels[k] sels[k].length)[i]?=some o∧(br els sels k)[i]?=some l∧(br els sels (k+1))[i]?=some (if o=true∧l<(iK sels[k]:Int) then (iK sels[k]:Int) else l)):=fun i hi=>LD hkt hi JM.some
     have Xc:=eN els sels k
     have KA:=eN els sels (k+1)
     have U2:iK sels[k]≤160000000000:=by have h1:=FI sels[k];have h2:=JM.few;omega
     have Xt:=pn (els:=els) (cs:=sels[k]) JM.some
     clear fN hx Ma JM
     generalize sels[k]=sel at s0 Uh NB Cj y9 U2 Xt
     generalize vE:br els sels (k+1)=m1 at y9 KA
     have HK1:Hid (br els sels (k+1)=m1):=vE
     clear vE
     generalize br els sels k=m0 at HN y9 Xc
     have yD:Hid (RD wr d els made hp vT aR (.slice aL els.length cL)):=HR.out.1.below (by rw [Wr];exact HN.out.below)
     go_wp2_with fail
     refine (zR wr d els made hp vT aR _ yD.out rk HR.out.2.1 HR.out.2.2 ae ak ck sel NB.out.2 NB.out.1.ok NB.out.1.few).mono ?_
     rintro e w2 ⟨a2,c2,rfl,Pk,dp⟩
     have eL:Hid (HI W0 (w.heap.size+1) w2 (w.heap.size+1) els.length m0):=HN.out.go (by omega) dp
     have BQ:Hid (w2.ownsRow wr.heap.size 4 1 (.slice a2 (gg els sel sel.length).length c2) (gg els sel sel.length).length (ei (gg els sel sel.length))):=Pk
     have ea:Hid (Below w.heap.size w w2):=A2.out.trans (dp.mono A2.out.size)
     have HWT:Hid (∀ j,Calls Tryz.prog 89 #[.pointer hp,.slice ak sel.length ck] (w2.drewN j) fun e w'=>e=.returned (.int .i64 (iK sel))∧∃ m,w'=w2.drewN m):=fun j=>(Ho _ hp ae ak ck sel (aQ Cj.out (ea.out.trans ((cJ w2 j).mono ea.out.size))) NB.out.1.ok NB.out.1.few).mono fun _ _ ⟨he,i,hi⟩=>⟨he,j+i,by rw [hi,World.drewN_drewN]⟩
     have t0:w2.cell? ⟨d,0,none⟩=some (.pointer hp):=aa (yD.out.below dp).doc rfl
     have r2:w2.cell? ⟨w.heap.size,1,none⟩=some (.slice (some ⟨g,0,none⟩) sels.length c):=(dp.cell (p:=⟨w.heap.size,1,none⟩) (by show w.heap.size<wr.heap.size;omega)).trans r1
     have s2:=(dp.cell (p:=⟨g,k,none⟩) (by show g<wr.heap.size;omega)).trans Uh
     have V2:(k:Int)<(sels.length:Int):=by omega
     clear Pk s0 Uh r1 dp HN yD
     go_upto_region 10 with fail
     go_quiet ((go_at_call 89;exact (HWT.out _)))
     have nR:Hid (HI W0 (w.heap.size+1) (w2.drewN nq) (w.heap.size+1) els.length (mT m0 m1 0)):=eL.out.go (by have:=eL.out.below.size;omega) (cJ w2 nq)
     have M0:Hid ((w2.drewN nq).ownsRow wr.heap.size 4 1 (.slice a2 (gg els sel sel.length).length c2) (gg els sel sel.length).length (ei (gg els sel sel.length))):=aQ BQ.out (cJ w2 nq)
     generalize w2.drewN nq=w3 at nR M0 ⊢
     clear t0 r2 s2 HWT eL BQ ea NB Cj
     have Uv:Hid (∀ j,(Value.slice a2 (gg els sel sel.length).length c2).ownBlock=some j→j≠w.heap.size+1):=fun j hj e=>by have h1:=(M0.out.lt j hj).1;omega
     generalize gg els sel sel.length=on at M0 y9 Xt Uv ⊢
     generalize iK sel=ws at y9 U2 ⊢
     go_wp2_with fail
     go_loopg [10] els.length (fun H7 iv wq=>∃ i:Nat,iv=.int .i64 i∧i≤els.length∧els.length - i≤H7∧Hid (HI W0 (w.heap.size+1) wq (w.heap.size+1) els.length (mT m0 m1 i)∧wq.ownsRow 0 4 1 (.slice a2 on.length c2) on.length (ei on)))
     case atStart=>exact ⟨0,rfl,Nat.zero_le _,by omega,nR.out,aG M0.out (Nat.zero_le _)⟩
     case round=>
      obtain ⟨i,rfl,Wu,r7,HJ⟩:=hrel
      by_cases hit:i<els.length
      ·have Bi:decide ((i:Int)<(els.length:Int))=true:=by simp;omega
       obtain ⟨o,l,PP,Ee,vt⟩:=y9.out i hit
       have q:=HJ.out.1.row.cellAt i (by omega)
       rw [List.getElem?_map,Mt KA hit,Ee] at q
       have qz:=HJ.out.1.row.frozenAt i
       obtain ⟨gO,YX,_,Wk⟩:=aH HJ.out.2 (by omega)
       subst YX
       have q2:=Wk i (.bool o) (by rw [List.getElem?_map,PP];rfl)
       have hio:(i:Int)<(on.length:Int):=by omega
       clear Wk
       by_cases hc:o=true∧l<(ws:Int)
       ·obtain ⟨rfl,XU⟩:=hc
        have zG:m1[i]?=some (ws:Int):=by rw [vt,if_pos ⟨rfl,XU⟩]
        have gl:decide (l<(ws:Int))=true:=by simpa using XU
        have rW:Hid (HI W0 (w.heap.size+1) (wr.setCell ⟨w.heap.size+1,i,none⟩ (.int .i64 (ws:Int))) (w.heap.size+1) els.length (mT m0 m1 (i+1))∧(wr.setCell ⟨w.heap.size+1,i,none⟩ (.int .i64 (ws:Int))).ownsRow 0 4 1 (.slice (some ⟨gO,0,none⟩) on.length c2) on.length (ei on)):=by
         refine ⟨?_,aX HJ.out.2 (fun e=>Uv.out _ e rfl) _⟩
         have:=HJ.out.1.set i (ws:Int)
         rw [FN Xc KA hit zG] at this
         exact this
        clear HJ vt zG PP Ee XU
        go_wp2
        go_roundg (els.length - (i+1))
        case measure=>omega
        case rel=>exact ⟨i+1,by go_num,by omega,Nat.le_refl _,rW⟩
       ·have zG:m1[i]?=some l:=by rw [vt,if_neg hc]
        have rW:Hid (HI W0 (w.heap.size+1) wr (w.heap.size+1) els.length (mT m0 m1 (i+1))∧wr.ownsRow 0 4 1 (.slice (some ⟨gO,0,none⟩) on.length c2) on.length (ei on)):=by
         refine ⟨?_,HJ.out.2⟩
         rw [←LG Xc KA hit (zG.trans Ee.symm)]
         exact HJ.out.1
        cases o with
        | false=>
         clear HJ vt zG PP Ee hc
         go_wp2
         go_roundg (els.length - (i+1))
         case measure=>omega
         case rel=>exact ⟨i+1,by go_num,by omega,Nat.le_refl _,rW⟩
        | true=>
         have gl:decide (l<(ws:Int))=false:=by simpa using hc
         clear HJ vt zG PP Ee hc
         go_wp2
         go_roundg (els.length - (i+1))
         case measure=>omega
         case rel=>exact ⟨i+1,by go_num,by omega,Nat.le_refl _,rW⟩
      ·have Bi:decide ((i:Int)<(els.length:Int))=false:=by simp;omega
       obtain rfl:i=els.length:=by omega
       have HF:Hid (HI W0 (w.heap.size+1) wr (w.heap.size+1) els.length (br els sels (k+1))):=by
        have:=HJ.out.1
        rw [Fv Xc KA] at this
        rw [HK1.out]
        exact this
       clear HJ
       go_wp2
       go_roundg (sels.length - (k+1))
       case measure=>omega
       case rel=>exact ⟨k+1,by go_num,by omega,Nat.le_refl _,HF⟩
    ·have iL:decide ((k:Int)<(sels.length:Int))=false:=by simp;omega
     obtain rfl:k=sels.length:=by omega
     have HF:Hid (PJ w (br els sels sels.length) (.returned (.slice (some ⟨w.heap.size+1,0,none⟩) els.length els.length)) wr):=by
      refine ⟨some ⟨w.heap.size+1,0,none⟩,els.length,by rw [eN],?_,ow.out.trans (HN.out.below.mono (Nat.le_succ _))⟩
      rw [eN]
      exact aG HN.out.row (Nat.le_succ _)
     have r1:wr.cell? ⟨w.heap.size,1,none⟩=some (.slice a sels.length c):=(HN.out.below.cell (p:=⟨w.heap.size,1,none⟩) (Nat.lt_succ_self _)).trans (aa sy.out rfl)
     go_wp2
     go_ret
     exact HF.out
end Go.Proofs.YtblfffbmklkhmaaGreat
namespace Go.Proofs.YtblfffbmklkhmaaGreat
open Go.RowKit
structure Cl where
 d:dg
 ly:Int
 hv:Int
 no:Int
def m8:Cl:=⟨⟨0,⟨#[]⟩,false⟩,0,0,0⟩
def rl (c:Cl):Nat→Value
 | 0=>.int .u8 c.d.pr
 | 1=>.string c.d.val
 | 2=>.bool c.d.must
 | 3=>.int .i64 c.ly
 | 4=>.int .i64 c.hv
 | _=>.int .i64 c.no
abbrev V8 (c:Cl):List Value:=[.int .u8 c.d.pr,.string c.d.val,.bool c.d.must,.int .i64 c.ly,.int .i64 c.hv,.int .i64 c.no]
def t7 (a b:Cl):Bool:=lu a.d.must a.ly a.hv a.no b.d.must b.ly b.hv b.no
abbrev ms:=Nat→Nat→ByteArray × Cl
def qO (hi:Int) (c:Cl) (o:ByteArray × Cl):ByteArray × Cl:=
 if hi<0 then o else if o.1.size=0∨t7 {c with hv:=hi} o.2=true then (c.d.val,{c with hv:=hi}) else o
def fj (S:ms) (c:Cl) (hv:Nat→Int) (p k:Nat):ms:=fun i q=>if i<k∧q=p then qO (hv i) c (S i q) else S i q
theorem CW (S:ms) (c:Cl) (hv:Nat→Int) (p:Nat):fj S c hv p 0=S:=by
 funext i q
 unfold fj
 rw [if_neg (by omega)]
def eR (S:ms) (i p:Nat) (x:ByteArray × Cl):ms:=fun i' p'=>if i'=i∧p'=p then x else S i' p'
theorem JN (S:ms) (c:Cl) (hv:Nat→Int) (p k:Nat):fj S c hv p k k p=S k p:=by
 unfold fj
 rw [if_neg (by omega)]
theorem Dk (S:ms) (c:Cl) (hv:Nat→Int) (p k:Nat):fj S c hv p (k+1)=eR (fj S c hv p k) k p (qO (hv k) c (S k p)):=by
 funext i q
 unfold eR fj
 by_cases h:i=k∧q=p
 ·obtain ⟨rfl,rfl⟩:=h
  rw [if_pos ⟨by omega,rfl⟩,if_pos ⟨rfl,rfl⟩]
 ·rw [if_neg h]
  by_cases h2:i<k∧q=p
  ·rw [if_pos ⟨by omega,h2.2⟩,if_pos h2]
  ·rw [if_neg h2,if_neg (fun h3=>h2 ⟨Nat.lt_of_le_of_ne (by omega) (fun e=>h ⟨e,h3.2⟩),h3.2⟩)]
theorem rL (S:ms) (i p:Nat):eR S i p (S i p)=S:=by
 funext i' p'
 unfold eR
 split
 ·rename_i h;rw [h.1,h.2]
 ·rfl
structure dx where
 ly:Int
 sels:List (List ex)
 dl:List dg
def Gp (c:Nat):Nat:=(eh c).getD 9
def mX (n:Nat) (hv:Nat→Int) (ly:Int) (dl:List dg) (n0:Nat) (S:ms):Nat→ms
 | 0=>S
 | d+1=>match dl[d]? with
  | none=>mX n hv ly dl n0 S d
  | some x=>fj (mX n hv ly dl n0 S d) ⟨x,ly,0,((n0+d+1:Nat):Int)⟩ hv (Gp x.pr) n
def kb (rs:List dx):Nat→Nat
 | 0=>0
 | r+1=>kb rs r+(rs[r]?.map fun x=>x.dl.length).getD 0
noncomputable def qh (els:List REl) (rs:List dx):Nat→ms
 | 0=>fun _ _=>(⟨#[]⟩,m8)
 | r+1=>match rs[r]? with
  | none=>qh els rs r
  | some x=>mX els.length (fun i=>(br els x.sels x.sels.length)[i]?.getD 0) x.ly x.dl (kb rs r) (qh els rs r) x.dl.length
noncomputable def IF (els:List REl) (rs:List dx) (i p:Nat):ByteArray:=(qh els rs rs.length i p).1
def m9 (S:ms) (n:Nat):List Value:=(List.range (n*54)).map fun j=>rl (S (j / 54) (j / 6 % 9)).2 (j % 6)
def ki (S:ms) (n:Nat):List Value:=(List.range (n*9)).map fun j=>Value.string (S (j / 9) (j % 9)).1
theorem ff (S:ms) (n:Nat):(m9 S n).length=n*54:=by simp [m9]
theorem jK (S:ms) (n:Nat):(ki S n).length=n*9:=by simp [ki]
theorem qD {S:ms} {n j:Nat} (h:j<n*54):(m9 S n)[j]?=some (rl (S (j / 54) (j / 6 % 9)).2 (j % 6)):=by
 unfold m9
 rw [List.getElem?_map,List.getElem?_range h]
 rfl
theorem nO {S:ms} {n j:Nat} (h:j<n*9):(ki S n)[j]?=some (.string (S (j / 9) (j % 9)).1):=by
 unfold ki
 rw [List.getElem?_map,List.getElem?_range h]
 rfl
theorem Bw {S:ms} {n i p r:Nat} (hi:i<n) (hp:p<9) (hr:r<6):(m9 S n)[i*54+p*6+r]?=some (rl (S i p).2 r):=by
 rw [qD (by omega),show (i*54+p*6+r) / 54=i from by omega,show (i*54+p*6+r) / 6 % 9=p from by omega,show (i*54+p*6+r) % 6=r from by omega]
theorem BT {S:ms} {n i p:Nat} (hi:i<n) (hp:p<9):(ki S n)[i*9+p]?=some (.string (S i p).1):=by
 rw [nO (by omega),show (i*9+p) / 9=i from by omega,show (i*9+p) % 9=p from by omega]
theorem AT (S:ms) (n:Nat):ki S n=kn (fun i p=>(S i p).1) n:=by
 apply List.ext_getElem?
 intro j
 by_cases h:j<n*9
 ·have h2:=Av (fun i p=>(S i p).1) (n:=n) (i:=j / 9) (p:=j % 9) (by omega) (by omega)
  rw [show j / 9*9+j % 9=j from by omega] at h2
  rw [nO h,h2]
 ·rw [List.getElem?_eq_none (by rw [jK];omega),List.getElem?_eq_none (by rw [xZ];omega)]
theorem Hy {S:ms} {n i p:Nat} (hp:p<9) (v:ByteArray) (c:Cl):(ki S n).set (i*9+p) (.string v)=ki (eR S i p (v,c)) n:=by
 apply List.ext_getElem?
 intro j
 by_cases h:j<n*9
 ·rw [nO h]
  by_cases he:i*9+p=j
  ·subst he
   rw [List.getElem?_set_self (by rw [jK];omega)]
   unfold eR
   rw [if_pos ⟨by omega,by omega⟩]
  ·rw [List.getElem?_set_ne he,nO h]
   unfold eR
   rw [if_neg (by omega)]
 ·rw [List.getElem?_eq_none (by rw [List.length_set,jK];omega),List.getElem?_eq_none (by rw [jK];omega)]
theorem Ik {S:ms} {n i p:Nat} (hp:p<9) (v:ByteArray) (c:Cl) :
  ((((((m9 S n).set (i*54+p*6) (.int .u8 c.d.pr)).set (i*54+p*6+1) (.string c.d.val)).set (i*54+p*6+2) (.bool c.d.must)).set (i*54+p*6+3) (.int .i64 c.ly)).set (i*54+p*6+4) (.int .i64 c.hv)).set (i*54+p*6+5) (.int .i64 c.no)=m9 (eR S i p (v,c)) n:=by
 apply List.ext_getElem?
 intro j
 by_cases h:j<n*54
 ·rw [qD h]
  by_cases he:j / 54=i∧j / 6 % 9=p
  ·have Al:eR S i p (v,c) (j / 54) (j / 6 % 9)=(v,c):=by unfold eR;rw [if_pos he]
   rw [Al]
   have h6:j % 6=0∨j % 6=1∨j % 6=2∨j % 6=3∨j % 6=4∨j % 6=5:=by omega
   rcases h6 with h6 | h6 | h6 | h6 | h6 | h6<;>rw [h6]
   ·obtain rfl:j=i*54+p*6:=by omega
    rw [List.getElem?_set_ne (by omega),List.getElem?_set_ne (by omega),List.getElem?_set_ne (by omega),List.getElem?_set_ne (by omega),List.getElem?_set_ne (by omega),List.getElem?_set_self (by simp only [ff];omega)]
    rfl
   ·obtain rfl:j=i*54+p*6+1:=by omega
    rw [List.getElem?_set_ne (by omega),List.getElem?_set_ne (by omega),List.getElem?_set_ne (by omega),List.getElem?_set_ne (by omega),List.getElem?_set_self (by simp only [List.length_set,ff];omega)]
    rfl
   ·obtain rfl:j=i*54+p*6+2:=by omega
    rw [List.getElem?_set_ne (by omega),List.getElem?_set_ne (by omega),List.getElem?_set_ne (by omega),List.getElem?_set_self (by simp only [List.length_set,ff];omega)]
    rfl
   ·obtain rfl:j=i*54+p*6+3:=by omega
    rw [List.getElem?_set_ne (by omega),List.getElem?_set_ne (by omega),List.getElem?_set_self (by simp only [List.length_set,ff];omega)]
    rfl
   ·obtain rfl:j=i*54+p*6+4:=by omega
    rw [List.getElem?_set_ne (by omega),List.getElem?_set_self (by simp only [List.length_set,ff];omega)]
    rfl
   ·obtain rfl:j=i*54+p*6+5:=by omega
    rw [List.getElem?_set_self (by simp only [List.length_set,ff];omega)]
    rfl
  ·have Al:eR S i p (v,c) (j / 54) (j / 6 % 9)=S (j / 54) (j / 6 % 9):=by unfold eR;rw [if_neg he]
   rw [Al,List.getElem?_set_ne (by omega),List.getElem?_set_ne (by omega),List.getElem?_set_ne (by omega),List.getElem?_set_ne (by omega),List.getElem?_set_ne (by omega),List.getElem?_set_ne (by omega),qD h]
 ·rw [List.getElem?_eq_none (by simp only [List.length_set,ff];omega),List.getElem?_eq_none (by rw [ff];omega)]
def zB:Array Value:=((List.range 54).map fun r=>rl m8 (r % 6)).toArray
def zT:Array Value:=((List.range 9).map fun _=>Value.string ⟨#[]⟩).toArray
theorem FM:zB.size=54:=rfl
theorem E6:zT.size=9:=rfl
theorem Tryz.info236:(Tryz.prog.info? 236).map (fun i=>(i.zero,i.size,i.bytes))=some (some (.agg zB),54,504):=by kernel_rfl
theorem Tryz.infoq234:(Tryz.prog.info? 234).map (fun i=>(i.zero,i.size,i.bytes))=some (some (.agg zT),9,144):=by kernel_rfl
theorem Ct (n:Nat):(madeCells zB (n*54)).toList=m9 (fun _ _=>(⟨#[]⟩,m8)) n:=by
 unfold madeCells m9
 rw [Array.toList_map,Array.toList_range]
 apply List.map_congr_left
 intro j _
 have hj:j % 54<zB.size:=by rw [FM];omega
 have h2:zB[j % 54]?=some (rl m8 (j % 6)):=by
  unfold zB
  rw [List.getElem?_toArray,List.getElem?_map,List.getElem?_range (by omega),←show j % 54 % 6=j % 6 from by omega]
  rfl
 rw [FM,getElem!_pos zB (j % 54) hj]
 exact (Array.getElem?_eq_some_iff.1 h2).2
theorem Eg (n:Nat):(madeCells zT (n*9)).toList=ki (fun _ _=>(⟨#[]⟩,m8)) n:=by
 unfold madeCells ki
 rw [Array.toList_map,Array.toList_range]
 apply List.map_congr_left
 intro j _
 have hj:j % 9<zT.size:=by rw [E6];omega
 have h2:zT[j % 9]?=some (.string ⟨#[]⟩):=by
  unfold zT
  rw [List.getElem?_toArray,List.getElem?_map,List.getElem?_range (by omega)]
  rfl
 rw [E6,getElem!_pos zT (j % 9) hj]
 exact (Array.getElem?_eq_some_iff.1 h2).2
theorem Gu (w:World) (ae n:Nat) (hb:ae≤w.heap.size) (hn:n≤24):(w.alloc (.cells (madeCells zB (n*54)) 236)).ownsRow ae 236 54 (.slice (some ⟨w.heap.size,0,none⟩) n n) n (m9 (fun _ _=>(⟨#[]⟩,m8)) n):=
 ⟨ff _ _,Or.inr ⟨w.heap.size,n,madeCells zB (n*54),rfl,hb,heap_alloc_new w _,Nat.le_refl _,by unfold maxLen;omega,size_madeCells _ _,by rw [Ct,List.take_of_length_le (by rw [ff];exact Nat.le_refl _)]⟩⟩
theorem Gb (w:World) (ae n:Nat) (hb:ae≤w.heap.size) (hn:n≤24):(w.alloc (.cells (madeCells zT (n*9)) 234)).ownsRow ae 234 9 (.slice (some ⟨w.heap.size,0,none⟩) n n) n (ki (fun _ _=>(⟨#[]⟩,m8)) n):=
 ⟨jK _ _,Or.inr ⟨w.heap.size,n,madeCells zT (n*9),rfl,hb,heap_alloc_new w _,Nat.le_refl _,by unfold maxLen;omega,size_madeCells _ _,by rw [Eg,List.take_of_length_le (by rw [jK];exact Nat.le_refl _)]⟩⟩
structure TB (w:World) (n:Nat) (wr:World) (S:ms):Prop where
 out:wr.ownsRow w.heap.size 234 9 (.slice (some ⟨w.heap.size,0,none⟩) n n) n (ki S n)
 best:wr.ownsRow w.heap.size 236 54 (.slice (some ⟨w.heap.size+1,0,none⟩) n n) n (m9 S n)
 below:Below w.heap.size w wr
theorem TB.far {w:World} {n:Nat} {wr:World} {S:ms} (h:TB w n wr S):w.heap.size+2≤wr.heap.size:=by
 have:=(h.best.lt (w.heap.size+1) rfl).2
 omega
theorem TB.go {w:World} {n:Nat} {wr:World} {S:ms} (h:TB w n wr S) {w':World} (hB:Below wr.heap.size wr w'):TB w n w' S:=
 ⟨aQ h.out hB,aQ h.best hB,h.below.trans (hB.mono h.below.size)⟩
theorem TB.put {w:World} {n:Nat} {wr:World} {S:ms} (h:TB w n wr S) {b:Nat} (hb:w.heap.size+1<b) (k:Nat) (u:Value):TB w n (wr.setCell ⟨b,k,none⟩ u) S:=
 ⟨aX h.out (fun e=>by simp [Value.ownBlock] at e;omega) _,aX h.best (fun e=>by simp [Value.ownBlock] at e;omega) _,h.below.setCell (by show w.heap.size≤b;omega) _⟩
theorem TB.setBest {w:World} {n:Nat} {wr:World} {S:ms} (h:TB w n wr S) {i p:Nat} (hi:i<n) (hp:p<9) (v:ByteArray) (c:Cl) :
  wr.there (w.heap.size+1) (i*54+p*6) 6∧TB w n ((wr.setCells (w.heap.size+1) (i*54+p*6) (V8 c)).setCell ⟨w.heap.size,i*9+p,none⟩ (.string v)) (eR S i p (v,c))∧
   (wr.setCells (w.heap.size+1) (i*54+p*6) (V8 c)).cell? ⟨w.heap.size,i*9+p,none⟩=some (.string (S i p).1)∧(wr.setCells (w.heap.size+1) (i*54+p*6) (V8 c)).frozen? ⟨w.heap.size,i*9+p,none⟩=false:=by
 have hb:=(((((((h.best.stored (i*54+p*6) (.int .u8 c.d.pr)).1).stored (i*54+p*6+1) (.string c.d.val)).1.stored (i*54+p*6+2) (.bool c.d.must)).1.stored (i*54+p*6+3) (.int .i64 c.ly)).1.stored (i*54+p*6+4) (.int .i64 c.hv)).1.stored (i*54+p*6+5) (.int .i64 c.no)).1
 rw [Ik hp v c] at hb
 have ho:∀ {wq:World},wq.ownsRow w.heap.size 234 9 (.slice (some ⟨w.heap.size,0,none⟩) n n) n (ki S n)→∀ k u,(wq.setCell ⟨w.heap.size+1,k,none⟩ u).ownsRow w.heap.size 234 9 (.slice (some ⟨w.heap.size,0,none⟩) n n) n (ki S n):=fun hq k u=>aX hq (fun e=>by simp [Value.ownBlock] at e) _
 have Iy:=ho (ho (ho (ho (ho (ho h.out (i*54+p*6) (.int .u8 c.d.pr)) (i*54+p*6+1) (.string c.d.val)) (i*54+p*6+2) (.bool c.d.must)) (i*54+p*6+3) (.int .i64 c.ly)) (i*54+p*6+4) (.int .i64 c.hv)) (i*54+p*6+5) (.int .i64 c.no)
 have jI:∀ {wq:World},Below w.heap.size w wq→∀ k u,Below w.heap.size w (wq.setCell ⟨w.heap.size+1,k,none⟩ u):=fun hq k u=>hq.setCell (by show w.heap.size≤w.heap.size+1;omega) _
 have Z6:=jI (jI (jI (jI (jI (jI h.below (i*54+p*6) (.int .u8 c.d.pr)) (i*54+p*6+1) (.string c.d.val)) (i*54+p*6+2) (.bool c.d.must)) (i*54+p*6+3) (.int .i64 c.ly)) (i*54+p*6+4) (.int .i64 c.hv)) (i*54+p*6+5) (.int .i64 c.no)
 refine ⟨fun j hj=>⟨?_,h.best.frozenAt _⟩,⟨?_,?_,?_⟩,?_,?_⟩
 ·rw [h.best.cellAt _ (by omega),Bw hi hp hj]
  rfl
 ·have:=(Iy.stored (i*9+p) (.string v)).1
  rw [Hy hp v c] at this
  exact this
 ·exact aX hb (fun e=>by simp [Value.ownBlock] at e) _
 ·exact Z6.setCell (Nat.le_refl _) _
 ·exact (Iy.cellAt _ (by omega)).trans (BT hi hp)
 ·exact Iy.frozenAt _
end Go.Proofs.YtblfffbmklkhmaaGreat
namespace Go.Proofs.YtblfffbmklkhmaaGreat
open Go.RowKit
def WD (w:World) (xs:List Value) (r:Nat) (x:dx):Prop:=
 ∃ (aS:Option Addr) (cS:Nat) (aD:Option Addr) (cD:Nat) (ys:List Value),xs[r*3]?=some (.int .i64 x.ly)∧xs[r*3+1]?=some (.slice aS x.sels.length cS)∧xs[r*3+2]?=some (.slice aD x.dl.length cD)∧
  w.ownsRow 0 166 1 (.slice aS x.sels.length cS) x.sels.length ys∧SelsM w 0 ys x.sels∧w.ownsRow 0 229 3 (.slice aD x.dl.length cD) x.dl.length (jx x.dl)
structure Db (x:dx):Prop where
 sels:x.sels.length≤400
 sok:∀ y∈x.sels,xX y
 few:x.dl.length≤400
 dok:∀ d∈x.dl,∃ q,eh d.pr=some q∧q<9
def WX (w:World) (hp:Option Addr) (rs:List dx):Prop:=
 ∃ (b:Nat) (a:Option Addr) (c:Nat) (xs:List Value) (mn:Int),hp=some ⟨b,0,none⟩∧Sh w b (.slice a rs.length c) mn∧w.ownsRow 0 164 3 (.slice a rs.length c) rs.length xs∧∀ r (h:r<rs.length),WD w xs r rs[r]
theorem SelsM.below {w w':World} {ae:Nat} {xs:List Value} {sels:List (List ex)} (h:SelsM w ae xs sels) (hB:Below w.heap.size w w'):SelsM w' ae xs sels:=fun i hi=>by
 obtain ⟨a,c,h1,h2⟩:=h i hi
 exact ⟨a,c,h1,aQ h2 hB⟩
def Pn (w:World) (els:List REl) (rs:List dx) (e:Ending) (w':World):Prop:=
 e=.returned (.slice (some ⟨w.heap.size,0,none⟩) els.length els.length)∧w'.ownsRow w.heap.size 234 9 (.slice (some ⟨w.heap.size,0,none⟩) els.length els.length) els.length (kn (IF els rs) els.length)∧Below w.heap.size w w'
structure TH (w:World) (n:Nat) (wq:World) (S:ms) (ah:Option Addr) (ch:Nat) (l:List Int):Prop where
 tb:TB w n wq S
 hv:wq.ownsRow (w.heap.size+2) 3 1 (.slice ah l.length ch) l.length (mV l)
theorem TH.go {w:World} {n:Nat} {wq:World} {S:ms} {ah:Option Addr} {ch:Nat} {l:List Int} (h:TH w n wq S ah ch l) {w':World} (hB:Below wq.heap.size wq w'):TH w n w' S ah ch l:=⟨h.tb.go hB,aQ h.hv hB⟩
structure TI (w:World) (n:Nat) (wq:World) (S:ms) (ah:Option Addr) (ch:Nat) (l:List Int) (b9:Nat) (c:Cl):Prop where
 th:TH w n wq S ah ch l
 blk:∃ h4:Int,wq.heap[b9]?=some (.cells #[.int .u8 c.d.pr,.string c.d.val,.bool c.d.must,.int .i64 c.ly,.int .i64 h4,.int .i64 c.no] 233 (0,0))
 far:w.heap.size+2≤b9
 ne:(Value.slice ah l.length ch).ownBlock≠some b9
theorem TI.setH {w:World} {n:Nat} {wq:World} {S:ms} {ah:Option Addr} {ch:Nat} {l:List Int} {b9:Nat} {c:Cl} (h:TI w n wq S ah ch l b9 c) (x:Int) :
  TI w n (wq.setCell ⟨b9,4,none⟩ (.int .i64 x)) S ah ch l b9 c∧(wq.setCell ⟨b9,4,none⟩ (.int .i64 x)).heap[b9]?=some (.cells #[.int .u8 c.d.pr,.string c.d.val,.bool c.d.must,.int .i64 c.ly,.int .i64 x,.int .i64 c.no] 233 (0,0)):=by
 obtain ⟨h4,hb⟩:=h.blk
 have hf:=h.far
 have lg:(wq.setCell ⟨b9,4,none⟩ (.int .i64 x)).heap[b9]?=some (.cells #[.int .u8 c.d.pr,.string c.d.val,.bool c.d.must,.int .i64 c.ly,.int .i64 x,.int .i64 c.no] 233 (0,0)):=by
  rw [aq hb]
  rfl
 exact ⟨⟨⟨h.th.tb.put (by omega) _ _,aX h.th.hv h.ne _⟩,⟨x,lg⟩,hf,h.ne⟩,lg⟩
theorem TI.go {w:World} {n:Nat} {wq:World} {S:ms} {ah:Option Addr} {ch:Nat} {l:List Int} {b9:Nat} {c:Cl} (h:TI w n wq S ah ch l b9 c) {w':World} (hB:Below wq.heap.size wq w'):TI w n w' S ah ch l b9 c:=by
 obtain ⟨h4,hb⟩:=h.blk
 exact ⟨h.th.go hB,⟨h4,(hB.block _ (Array.getElem?_eq_some_iff.1 hb).1).trans hb⟩,h.far,h.ne⟩
theorem TI.tab {w:World} {n:Nat} {wq:World} {S S':ms} {ah:Option Addr} {ch:Nat} {l:List Int} {b9:Nat} {c:Cl} (h:TI w n wq S ah ch l b9 c) (hS:S=S'):TI w n wq S' ah ch l b9 c:=by rw [←hS];exact h
theorem TI.win {w:World} {n:Nat} {wq:World} {S:ms} {ah:Option Addr} {ch:Nat} {l:List Int} {b9:Nat} {c:Cl} (h:TI w n wq S ah ch l b9 c) {i p:Nat} (hi:i<n) (hp:p<9) (v:ByteArray) (c':Cl) :
  TI w n ((wq.setCells (w.heap.size+1) (i*54+p*6) (V8 c')).setCell ⟨w.heap.size,i*9+p,none⟩ (.string v)) (eR S i p (v,c')) ah ch l b9 c:=by
 obtain ⟨h4,hb⟩:=h.blk
 have hf:=h.far
 have T0:∀ k,k≤w.heap.size+1→(Value.slice ah l.length ch).ownBlock≠some k:=fun k hk e=>by have:=(h.th.hv.lt k e).1;omega
 have h1:∀ {wx:World},wx.ownsRow (w.heap.size+2) 3 1 (.slice ah l.length ch) l.length (mV l)→∀ k u,(wx.setCell ⟨w.heap.size+1,k,none⟩ u).ownsRow (w.heap.size+2) 3 1 (.slice ah l.length ch) l.length (mV l):=fun hx k u=>aX hx (T0 _ (Nat.le_refl _)) u
 have h2:∀ {wx:World} {cs:Array Value},wx.heap[b9]?=some (.cells cs 233 (0,0))→∀ k u,(wx.setCell ⟨w.heap.size+1,k,none⟩ u).heap[b9]?=some (.cells cs 233 (0,0)):=fun hx k u=>(Below.heap_setCell _ _ _ _ (by show b9≠w.heap.size+1;omega)).trans hx
 refine ⟨⟨(h.th.tb.setBest hi hp v c').2.1,aX (h1 (h1 (h1 (h1 (h1 (h1 h.th.hv _ _) _ _) _ _) _ _) _ _) _ _) (T0 w.heap.size (by omega)) _⟩,⟨h4,?_⟩,hf,h.ne⟩
 exact (Below.heap_setCell _ _ _ _ (by show b9≠w.heap.size;omega)).trans (h2 (h2 (h2 (h2 (h2 (h2 hb _ _) _ _) _ _) _ _) _ _) _ _)
end Go.Proofs.YtblfffbmklkhmaaGreat
