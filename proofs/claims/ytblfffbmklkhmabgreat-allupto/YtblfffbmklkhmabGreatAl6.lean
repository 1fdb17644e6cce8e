/- Own work. -/
import Derived.Test.YtblfffbmklkhmabGreatAl5
import Derived.Deep.RegionHeld3
set_option maxRecDepth 100000
set_option maxHeartbeats 40000000
namespace Go.Proofs.YtblfffbmklkhmabGreat
open Go.RowKit Go.Proofs.Tryz
section
variable {n:Nat}{u v:Value}{w w':World}
theorem Tryz.info28:(Tryz.prog.info? 28).map (λi=>(i.zero,i.size,i.bytes))=some (some (.slice none 0 0),1,24):=by kernel_rfl
def WB (w:World)(B:Nat)(vD vI vM:Value)(nx:Nat):Prop:=w.heap[B]?=some (.cells #[vD,vI,vM,.int .i64 nx] 30 (0,0))
theorem WB.blk {B:Nat}{vD vI vM:Value}{nx:Nat}(h:WB w B vD vI vM nx):w.heap[B]?=some (.cells #[vD,vI,vM,.int .i64 nx] 30 (0,0)):=h
def Full (w:World)(v:Value)(n:Nat)(u:Value):Prop:=(v=.slice none 0 0/\n=0)∨∃g c,v=.slice (some ⟨g,0,none⟩) n c/\∀i,i<n->w.cell? ⟨g,i,none⟩=some u
theorem lF {aB:Nat}{e:TypeId}(h:w.ownsRow aB e 1 v n (List.replicate n u)):Full w v n u:=by
 rcases h.2 with hn | ⟨g,ij,gu,rfl,_,_⟩
 ·exact ax hn
 ·refine az ⟨g,ij,rfl,λi hi=>?_⟩;have:=h.cells (g:=g) rfl i u (by rw[List.getElem?_replicate,aE hi]);rwa[Go.WideShapes.add_plain,Nat.zero_add] at this
theorem Full.stays (h:Full w v n u)(hs:Stays u w w'):Full w' v n u:=by
 rcases h with hn | ⟨g,c,hv,hc⟩
 ·exact ax hn
 ·exact az ⟨g,c,hv,λi hi=>hs _ (hc i hi)⟩
theorem Full.blk (h:Full w v n u)(hs:∀g,v.ownBlock=some g->g<w.heap.size->w'.heap[g]?=w.heap[g]?):Full w' v n u:=by
 rcases h with hn | ⟨g,c,hv,hc⟩
 ·exact ax hn
 ·refine az ⟨g,c,hv,λi hi=>?_⟩;have h1:=hc i hi
  have bc:g<w.heap.size:=by
   unfold World.cell? at h1;cases hb:w.heap[g]? with
   | none=>simp only[hb] at h1;cases h1
   | some o=>exact(bG.1 hb).1
  have h2:=hs g (by rw[hv];rfl) bc;unfold World.cell? at h1 ⊢;rw[h2];exact h1
def fpO (B:Nat)(v vI vM:Value)(k:Nat):Prop:=k=B∨v.ownBlock=some k∨vI.ownBlock=some k∨vM.ownBlock=some k
structure OS (w wr:World)(B:Nat)(vD vI vM:Value)(nx:Nat)(v:Value)(n:Nat)(xs:List Value)(ni nm:Nat)(F7 FF:List Value):Prop where
 wb:WB wr B vD vI vM nx
 row:wr.ownsRow 0 3 1 v n xs
 rowI:wr.ownsRow 0 28 1 vI ni F7
 rowM:wr.ownsRow 0 3 1 vM nm FF
 fr:Fr w wr (fpO B v vI vM)
 ne:∀j,v.ownBlock=some j->vM.ownBlock≠some j
section
variable {w wr:World}{B:Nat}{vD vI vM:Value}{nx:Nat}{v:Value}{n:Nat}{xs:List Value}{ni nm:Nat}{F7 FF:List Value}
theorem OS.alloc (h:OS w wr B vD vI vM nx v n xs ni nm F7 FF)(o:Obj):OS w (wr.alloc o) B vD vI vM nx v n xs ni nm F7 FF:=
 ⟨(Below.heap_alloc wr o B (bG.1 h.wb.blk).1).trans h.wb,h.row.alloc o,h.rowI.alloc o,h.rowM.alloc o,h.fr.alloc o,h.ne⟩
theorem OS.app (h:OS w wr B vD vI vM nx v n xs ni nm F7 FF){w2:World}(hg:wr.grownBy w2 v.ownBlock){xs':List Value}(ho:w2.ownsRow 0 3 1 v n xs'):OS w w2 B vD vI vM nx v n xs' ni nm F7 FF:=by
 have hI:vI.ownBlock=none∨vI.ownBlock≠v.ownBlock:=by
  cases hv:v.ownBlock with
  | none=>cases vI.ownBlock<;>simp
  | some g=>
   refine az λe=>?_;rcases h.row.2 with⟨rfl,_⟩ | ⟨g',_,gu,rfl,_,vk,_⟩
   ·simp[Value.ownBlock] at hv
   ·simp[Value.ownBlock] at hv;subst hv;exact aN h.rowI vk (by decide) e
 have hM:vM.ownBlock=none∨vM.ownBlock≠v.ownBlock:=by
  cases hv:v.ownBlock with
  | none=>cases vM.ownBlock<;>simp
  | some g=>exact az (h.ne g hv)
 exact⟨(hg.block B (bG.1 h.wb.blk).1 (λe=>aN h.row h.wb.blk (by decide) e.symm)).trans h.wb,ho,h.rowI.kept hg hI,h.rowM.kept hg hM,h.fr.gb hg (λk hk=>ax (az (ax hk))),h.ne⟩
end
theorem QK {xs:List Value}{i:Nat}(u:Value)(h:i<xs.length):(List.replicate i u++xs.drop i).set i u=List.replicate (i+1) u++xs.drop (i+1):=by
 rw[List.set_append,aA (by simp),List.length_replicate,Nat.sub_self,List.drop_eq_getElem_cons h,List.set_cons_zero,List.replicate_succ',List.append_assoc];rfl
def vA (w:World)(B:Nat)(vD vI vM:Value)(nx:Nat)(v:Value)(n:Nat)(ni nm:Nat)(F7 FF:List Value)(e:Ending)(w':World):Prop:=
 e=.returned (.tuple #[])/\∃sW sX v1 v2 v3,WB w' B vD sW sX (nx+1)/\w'.ownsRow 0 28 1 sW (ni+4) (F7++[v,v1,v2,v3])/\w'.ownsRow 0 3 1 sX (nm+4) (FF++List.replicate 4 (.int .i64 (-((nx:Int)+1))))/\
  Full w' v n (.int .i64 (-((nx:Int)+1)))/\Full w' v1 (n+1) (.int .i64 (-((nx:Int)+1)))/\Full w' v2 (n+2) (.int .i64 (-((nx:Int)+1)))/\Full w' v3 (n+3) (.int .i64 (-((nx:Int)+1)))/\
  Fr w w' (fpO B v vI vM)/\(∀x,x=v1∨x=v2∨x=v3->∀j,x.ownBlock=some j->v.ownBlock=some j∨w.heap.size<=j)/\(∀j,sW.ownBlock=some j->vI.ownBlock=some j∨w.heap.size<=j)/\(∀j,sX.ownBlock=some j->vM.ownBlock=some j∨w.heap.size<=j)/\
  (∀x,x=v1∨x=v2∨x=v3->∀j,x.ownBlock=some j->sW.ownBlock≠some j/\sX.ownBlock≠some j)
theorem Full.lt (h:Full w v n u)(hn:0<n):∀j,v.ownBlock=some j->j<w.heap.size:=by
 intro j hj;rcases h with⟨rfl,rfl⟩ | ⟨g,c,rfl,hc⟩
 ·omega
 ·have h1:=hc 0 hn;obtain rfl:g=j:=by simpa[Value.ownBlock] using hj
  unfold World.cell? at h1;cases hb:w.heap[g]? with
  | none=>simp only[hb] at h1;cases h1
  | some o=>exact(bG.1 hb).1
theorem ob (w:World)(cs:Array Value)(t:TypeId)(j:Nat):(w.alloc (.cells cs t)).cell? ((⟨w.heap.size,0,none⟩:Addr).add j)=cs[j]?:=by
 rw[Go.WideShapes.add_plain,Nat.zero_add];unfold World.cell?;simp only[heap_alloc_new w];rfl
theorem pX (u:Value)(w:World)(o:Obj):Stays u w (w.alloc o):=oy λk hk=>Below.heap_alloc w o k hk
theorem q8 (i m:Nat)(u:Value):List.replicate i u++List.replicate m u=List.replicate (i+m) u:=List.replicate_append_replicate
theorem Jl (w:World)(B:Nat)(vD vI vM:Value)(nx:Nat)(a:Option Addr)(c:Nat)(n:Nat)(xs:List Value)(ni nm:Nat)(F7 FF:List Value)(h:OS w w B vD vI vM nx (.slice a n c) n xs ni nm F7 FF)
  (hn:n<=24) (qb:nx<=1099511627776) (hni:ni<=1099511627776) (uC:nm<=1099511627776) :
  Calls prog 31 #[.pointer (some ⟨B,0,none⟩),.slice a n c] w λe w'=>vA w B vD vI vM nx (.slice a n c) n ni nm F7 FF e w':=by
 obtain⟨i0,hi,gP,gQ,gR⟩:=info_parts Tryz.info3;obtain⟨j0,hj,jz0,jz1,jz2⟩:=info_parts Tryz.info28;have b3:w.cell? ⟨B,3,none⟩=some (.int .i64 nx):=au h.wb.blk rfl;have bz:∀k,w.frozen? ⟨B,k,none⟩=false:=λ_=>aH h.wb.blk
 have J1:Hid (OS w (w.setCell ⟨B,3,none⟩ (.int .i64 ((nx:Int)+1))) B vD vI vM (nx+1) (.slice a n c) n xs ni nm F7 FF):=by
  refine⟨?_,bw h.row (aN h.row h.wb.blk (by decide)) _,bw h.rowI (aN h.rowI h.wb.blk (by decide)) _,bw h.rowM (aN h.rowM h.wb.blk (by decide)) _,(Fr.refl w _).set (ax (ax rfl)) _,h.ne⟩;show(World.setCell _ _ _).heap[B]?=_;rw[aP h.wb.blk];rfl
 have HA:Hid (∀g,((Value.slice a n c).ownBlock=some g∨w.heap.size<=g)->vI.ownBlock≠some g/\vM.ownBlock≠some g/\g≠B):=by
  intro g hg;rcases hg with hg | hg
  ·rcases h.row.2 with⟨h1,_⟩ | ⟨g',_,gu,h1,_,vk,_⟩
   ·rw[h1] at hg;simp[Value.ownBlock] at hg
   ·rw[h1] at hg;simp[Value.ownBlock] at hg;subst hg;refine⟨aN h.rowI vk (by decide),h.ne _ (by rw[h1];rfl),λe=>?_⟩;subst e;have h3:=h.wb.blk;rw[vk] at h3;injection h3 with h3
    injection h3 with _ h4 _
    exact absurd h4 (by decide)
  ·have h1:=(bG.1 h.wb.blk).1;exact⟨λe=>by have:=(h.rowI.lt g e).2;omega,λe=>by have:=(h.rowM.lt g e).2;omega,by omega⟩
 have WM:xs.length=n:=by have:=h.row.1;omega
 have Um:=aw WM;clear h WM;go_enter func31,ntmps31;go_wp2_with fail;generalize FU:(-((nx:Int)+1))=mk;have Rb:=aw FU;clear FU;obtain⟨W1,UE⟩:∃W1,W1=w.setCell ⟨B,3,none⟩ (.int .i64 ((nx:Int)+1)):=⟨_,rfl⟩;rw[<-UE] at J1 ⊢;clear UE b3 bz
 go_loopg [5] n (λgk iv wr=>∃i:Nat,iv=.int .i64 i/\i<=n/\n - i<=gk/\Hid (OS w wr B vD vI vM (nx+1) (.slice a n c) n (List.replicate i (.int .i64 mk)++xs.drop i) ni nm F7 FF))
 case atStart=>exact⟨0,rfl,bm,by omega,J1⟩
 case round=>
  obtain⟨i,rfl,jQ,fT,HS⟩:=hrel
  by_cases bc:i<n
  ·have hd:decide ((i:Int)<(n:Int))=true:=by simp;omega
   obtain⟨g,rfl⟩:∃g,a=some ⟨g,0,none⟩:=by
    rcases HS.out.row.2 with⟨h,h0⟩ | ⟨g,_,_,h,_⟩
    ·omega
    ·injection h with h;exact⟨g,h⟩
   have q:wr.cell? ⟨g,i,none⟩=(List.replicate i (Value.int .i64 mk)++xs.drop i)[i]?:=HS.out.row.cellAt i (by omega);rw[List.getElem?_append_right (by simp),List.length_replicate,Nat.sub_self,List.getElem?_drop,Nat.add_zero,bW (by rw[Um.out];exact bc)] at q;have qz:=HS.out.row.frozenAt i;have Ec:=HS.out.row.stored i (.int .i64 mk);rw[QK _ (by rw[Um.out];exact bc)] at Ec;have qK:=aw (HS.out.app Ec.2 Ec.1);clear Ec HS;generalize xs[i]'(by rw[Um.out];exact bc)=gB at q;go_wp2;go_roundg (n - (i+1))
   case measure=>omega
   case rel=>exact⟨i+1,by go_num,by omega,aF,qK⟩
  ·have hd:decide ((i:Int)<(n:Int))=false:=by simp;omega
   obtain rfl:i=n:=by omega
   have rB:List.replicate i (Value.int .i64 mk)++xs.drop i=List.replicate i (.int .i64 mk):=by rw[List.drop_of_length_le (by rw[Um.out];exact aF),List.append_nil]
   rw[rB] at HS;clear rB;have adA:=HS.out.fr.size;have HF0:=aw (lF HS.out.row);go_wp2_with (at_builtin;refine fN _ rfl (.tmp 31) (.tmp 33) 28 rfl 0 3 i0 (.int .i64 0) 8 underlying28 hi gP gQ gR rfl _ _ _ rfl (HS.out.alloc _).row ⟨wr.heap.size,0,none⟩ 1 1 (.int .i64 mk) rfl ?c1 rfl ?c3 ?c4 ?c5 ?_)
   case c1=>intro j hj;rw[ob];match j,hj with | 0,_=>rfl
   case c3=>unfold maxLen;omega
   case c4=>omega
   case c5=>exact bm
   intro v1 w2 pJ D2 eu P4 ac3;have U3:w2.ownsRow 0 3 1 v1 (i+1) (List.replicate (i+1) (.int .i64 mk)):=by rw[<-q8];simpa using pJ
   replace pJ:=U3;clear U3;have qK:=aw ((HS.out.alloc _).app D2 P4);have zJ:=bZ (lF P4) (lF pJ);have kU:Hid (∀j,v1.ownBlock=some j->(Value.slice a i c).ownBlock=some j∨w.heap.size<=j):=λj hj=>(eu.out j hj).imp id (λh=>by first | omega | (simp at h;omega));obtain⟨a1,c1,I1⟩:=aK pJ;subst I1;have adB:=qK.out.fr.size;clear pJ D2 eu P4 ac3 HS HF0 adA;go_wp2_with (at_builtin;refine fN _ rfl (.tmp 35) (.tmp 38) 28 rfl 0 3 i0 (.int .i64 0) 8 underlying28 hi gP gQ gR rfl _ _ _ rfl (qK.out.alloc _).row ⟨w2.heap.size,0,none⟩ 2 2 (.int .i64 mk) rfl ?c1 rfl ?c3 ?c4 ?c5 ?_)
   case c1=>intro j hj;rw[ob];match j,hj with | 0,_=>rfl | 1,_=>rfl
   case c3=>unfold maxLen;omega
   case c4=>omega
   case c5=>exact bm
   intro v2 w3 dy iD eM P5 Yt;have U4:w3.ownsRow 0 3 1 v2 (i+2) (List.replicate (i+2) (.int .i64 mk)):=by rw[<-q8];simpa using dy
   replace dy:=U4;clear U4;have Ui:=aw ((qK.out.alloc _).app iD P5);have tj:Hid (Full w3 (.slice a i c) i (.int .i64 mk)/\Full w3 (.slice a1 (i+1) c1) (i+1) (.int .i64 mk)/\Full w3 v2 (i+2) (.int .i64 mk)):=⟨lF P5,zJ.out.2.stays ((pX _ _ _).trans Yt.out),lF dy⟩;have fj:Hid (∀j,v2.ownBlock=some j->(Value.slice a i c).ownBlock=some j∨w.heap.size<=j):=λj hj=>(eM.out j hj).imp id (λh=>by first | omega | (simp at h;omega));obtain⟨a2,c2,jJ⟩:=aK dy;subst jJ;have adC:=Ui.out.fr.size;clear dy iD eM P5 Yt qK zJ adB;go_wp2_with (at_builtin;refine fN _ rfl (.tmp 40) (.tmp 44) 28 rfl 0 3 i0 (.int .i64 0) 8 underlying28 hi gP gQ gR rfl _ _ _ rfl (Ui.out.alloc _).row ⟨w3.heap.size,0,none⟩ 3 3 (.int .i64 mk) rfl ?c1 rfl ?c3 ?c4 ?c5 ?_)
   case c1=>intro j hj;rw[ob];match j,hj with | 0,_=>rfl | 1,_=>rfl | 2,_=>rfl
   case c3=>unfold maxLen;omega
   case c4=>omega
   case c5=>exact bm
   intro v3 w4 bH fB iP P6 VJ;have U5:w4.ownsRow 0 3 1 v3 (i+3) (List.replicate (i+3) (.int .i64 mk)):=by rw[<-q8];simpa using bH
   replace bH:=U5;clear U5;have J2:=aw ((Ui.out.alloc _).app fB P6)
   have JV:Hid (Full w4 (.slice a i c) i (.int .i64 mk)/\Full w4 (.slice a1 (i+1) c1) (i+1) (.int .i64 mk)/\Full w4 (.slice a2 (i+2) c2) (i+2) (.int .i64 mk)/\Full w4 v3 (i+3) (.int .i64 mk)):=
    ⟨lF P6,tj.out.2.1.stays ((pX _ _ _).trans VJ.out),tj.out.2.2.stays ((pX _ _ _).trans VJ.out),lF bH⟩
   have oF:Hid (∀j,v3.ownBlock=some j->(Value.slice a i c).ownBlock=some j∨w.heap.size<=j):=λj hj=>(iP.out j hj).imp id (λh=>by first | omega | (simp at h;omega));obtain⟨a3,c3,zm⟩:=aK bH;subst zm;have aik:=J2.out.fr.size;clear bH fB iP P6 VJ Ui tj adC;obtain⟨aI,cI,hvI⟩:=aK J2.out.rowI;subst hvI;obtain⟨aM,cM,hvM⟩:=aK J2.out.rowM;subst hvM;have wb4:=J2.out.wb.blk;have b1:w4.cell? ⟨B,1,none⟩=some (.slice aI ni cI):=au wb4 rfl;have HBl:=aw ((bG.1 wb4).1);clear wb4;go_wp2_with (at_builtin;refine ff _ rfl (.tmp 50) (.tmp 55) 27 rfl 0 28 j0 (.slice none 0 0) 1 24 underlying27 hj jz0 jz1 jz2 rfl (by decide) _ _ _ rfl (J2.out.rowI.alloc _) ⟨w4.heap.size,0,none⟩ 4 4 [.slice a i c,.slice a1 (i+1) c1,.slice a2 (i+2) c2,.slice a3 (i+3) c3] rfl rfl ?c1 ?c2 ?c3 ?c4 ?c5 ?_)
   case c1=>exact bg w4 _ rfl _ _ _ rfl
   case c2=>intro u hu;simp only[List.mem_cons,List.not_mem_nil,or_false] at hu;rcases hu with rfl | rfl | rfl | rfl<;>rfl
   case c3=>unfold maxLen;omega
   case c4=>omega
   case c5=>exact bm
   intro v5 w5 cf jn qJ
   have HFB:Hid (∀(wa wb:World),(∀g,((Value.slice a i c).ownBlock=some g∨w.heap.size<=g)->g<wa.heap.size->wb.heap[g]?=wa.heap[g]?)->(Full wa (.slice a i c) i (.int .i64 mk)/\Full wa (.slice a1 (i+1) c1) (i+1) (.int .i64 mk)/\Full wa (.slice a2 (i+2) c2) (i+2) (.int .i64 mk)/\Full wa (.slice a3 (i+3) c3) (i+3) (.int .i64 mk))->
     (Full wb (.slice a i c) i (.int .i64 mk)/\Full wb (.slice a1 (i+1) c1) (i+1) (.int .i64 mk)/\Full wb (.slice a2 (i+2) c2) (i+2) (.int .i64 mk)/\Full wb (.slice a3 (i+3) c3) (i+3) (.int .i64 mk))):=λwa wb KH hf=>
    ⟨hf.1.blk (λg hg hl=>KH g (ax hg) hl),hf.2.1.blk (λg hg hl=>KH g (kU.out g hg) hl),hf.2.2.1.blk (λg hg hl=>KH g (fj.out g hg) hl),hf.2.2.2.blk (λg hg hl=>KH g (oF.out g hg) hl)⟩
   have ajx:w4.heap.size<w5.heap.size:=by have:=jn.size;simp at this;omega
   have Ti:∀k,k<w4.heap.size->(Value.slice aI ni cI).ownBlock≠some k->w5.heap[k]?=w4.heap[k]?:=λk hk hn=>(jn.block k (by simp;omega) (λe=>hn e.symm)).trans (Below.heap_alloc _ _ _ hk);have GQ:=HFB.out w4 w5 (λg hA hl=>Ti g hl (HA.out g hA).1) JV.out;have Xe:w5.heap[B]?=some (.cells #[vD,.slice aI ni cI,.slice aM nm cM,.int .i64 ((nx+1:Nat):Int)] 30 (0,0)):=(Ti B HBl.out (aN J2.out.rowI J2.out.wb.blk (by decide))).trans J2.out.wb.blk
   have QB:w5.ownsRow 0 3 1 (.slice aM nm cM) nm FF:=by
    refine⟨J2.out.rowM.1,?_⟩;rcases J2.out.rowM.2 with h | ⟨g,ij,gu,h1,h2,h3,h4⟩
    ·exact ax h
    ·exact az ⟨g,ij,gu,h1,h2,(Ti g (bG.1 h3).1 (aN J2.out.rowI h3 (by decide))).trans h3,h4⟩
   have fr5:Fr w w5 (fpO B (.slice a i c) (.slice aI ni cI) (.slice aM nm cM)):=(J2.out.fr.alloc _).gb jn (λk hk=>ax (az (az (ax hk))))
   have HX5:Hid (∀x,x=Value.slice a1 (i+1) c1∨x=Value.slice a2 (i+2) c2∨x=Value.slice a3 (i+3) c3->∀j,x.ownBlock=some j->v5.ownBlock≠some j):=by
    intro x hx j hj h5
    have bc:j<w4.heap.size/\((Value.slice a i c).ownBlock=some j∨w.heap.size<=j):=by
     rcases hx with rfl | rfl | rfl
     ·exact⟨JV.out.2.1.lt (by omega) j hj,kU.out j hj⟩
     ·exact⟨JV.out.2.2.1.lt (by omega) j hj,fj.out j hj⟩
     ·exact⟨JV.out.2.2.2.lt (by omega) j hj,oF.out j hj⟩
    rcases qJ.out j h5 with h | h
    ·exact(HA.out j bc.2).1 h
    ·have:=bc.1
     first | omega | (simp at h;omega)
   have uo:Hid (∀j,v5.ownBlock=some j->(Value.slice aI ni cI).ownBlock=some j∨w.heap.size<=j):=λj hj=>(qJ.out j hj).imp id (λh=>by first | omega | (simp at h;omega));obtain⟨a5,c5,G3⟩:=aK cf;subst G3;have e1:w5.cell? ⟨B,1,none⟩=some (.slice aI ni cI):=au Xe rfl;have e2:w5.cell? ⟨B,2,none⟩=some (.slice aM nm cM):=au Xe rfl;have ez:∀k,w5.frozen? ⟨B,k,none⟩=false:=λ_=>aH Xe;have wb6:(w5.setCell ⟨B,1,none⟩ (.slice a5 (ni+4) c5)).heap[B]?=some (.cells #[vD,.slice a5 (ni+4) c5,.slice aM nm cM,.int .i64 ((nx+1:Nat):Int)] 30 (0,0)):=by rw[aP Xe];rfl
   have Vc:=bw QB (aN QB Xe (by decide)) (p:=⟨B,1,none⟩) (.slice a5 (ni+4) c5);have Va:=bw cf (aN cf Xe (by decide)) (p:=⟨B,1,none⟩) (.slice a5 (ni+4) c5);have fr6:=fr5.set (p:=⟨B,1,none⟩) (ax (ax rfl)) (.slice a5 (ni+4) c5);have IT:=HFB.out w5 (w5.setCell ⟨B,1,none⟩ (.slice a5 (ni+4) c5)) (λg hA _=>Below.heap_setCell _ _ _ _ (HA.out g hA).2.2) GQ
   have uq:Hid ((w5.setCell ⟨B,1,none⟩ (.slice a5 (ni+4) c5)).heap[B]?=some (.cells #[vD,.slice a5 (ni+4) c5,.slice aM nm cM,.int .i64 ((nx+1:Nat):Int)] 30 (0,0))/\(w5.setCell ⟨B,1,none⟩ (.slice a5 (ni+4) c5)).ownsRow 0 3 1 (.slice aM nm cM) nm FF/\(w5.setCell ⟨B,1,none⟩ (.slice a5 (ni+4) c5)).ownsRow 0 28 1 (.slice a5 (ni+4) c5) (ni+4) (F7++[.slice a i c,.slice a1 (i+1) c1,.slice a2 (i+2) c2,.slice a3 (i+3) c3])/\Fr w (w5.setCell ⟨B,1,none⟩ (.slice a5 (ni+4) c5)) (fpO B (.slice a i c) (.slice aI ni cI) (.slice aM nm cM))/\
    (Full (w5.setCell ⟨B,1,none⟩ (.slice a5 (ni+4) c5)) (.slice a i c) i (.int .i64 mk)/\Full (w5.setCell ⟨B,1,none⟩ (.slice a5 (ni+4) c5)) (.slice a1 (i+1) c1) (i+1) (.int .i64 mk)/\Full (w5.setCell ⟨B,1,none⟩ (.slice a5 (ni+4) c5)) (.slice a2 (i+2) c2) (i+2) (.int .i64 mk)/\Full (w5.setCell ⟨B,1,none⟩ (.slice a5 (ni+4) c5)) (.slice a3 (i+3) c3) (i+3) (.int .i64 mk))):=⟨wb6,Vc,Va,fr6,IT⟩
   clear wb6 Vc Va fr6 IT Xe QB fr5 GQ Ti cf jn qJ J2 JV b1;go_upto_region 10 with fail;obtain⟨W6,DV⟩:∃W6,W6=w5.setCell ⟨B,1,none⟩ (.slice a5 (ni+4) c5):=⟨_,rfl⟩;rw[<-DV] at uq ⊢;clear DV e1 e2 ez;have ail:=uq.out.2.2.2.1.size;have e2:W6.cell? ⟨B,2,none⟩=some (.slice aM nm cM):=au uq.out.1 rfl;go_wp2_with (at_builtin;refine fN _ rfl (.tmp 63) (.tmp 68) 28 rfl 0 3 i0 (.int .i64 0) 8 underlying28 hi gP gQ gR rfl _ _ _ rfl (uq.out.2.1.alloc _) ⟨W6.heap.size,0,none⟩ 4 4 (.int .i64 mk) rfl ?c1 rfl ?c3 ?c4 ?c5 ?_)
   case c1=>intro j hj;rw[ob];match j,hj with | 0,_=>rfl | 1,_=>rfl | 2,_=>rfl | 3,_=>rfl
   case c3=>unfold maxLen;omega
   case c4=>omega
   case c5=>exact bm
   intro v7 w7 Ck hg7 HB7 _ _;have Jk:w7.ownsRow 0 3 1 v7 (nm+4) (FF++List.replicate 4 (.int .i64 mk)):=by simpa using Ck
   have Tj:∀k,k<W6.heap.size->(Value.slice aM nm cM).ownBlock≠some k->w7.heap[k]?=W6.heap[k]?:=λk hk hn=>(hg7.block k (by simp;omega) (λe=>hn e.symm)).trans (Below.heap_alloc _ _ _ hk);have hB6:=(bG.1 uq.out.1).1;have XQ:=(Tj B hB6 (aN uq.out.2.1 uq.out.1 (by decide))).trans uq.out.1;have UG:=HFB.out W6 w7 (λg hA hl=>Tj g hl (HA.out g hA).2.1) uq.out.2.2.2.2
   have QA:w7.ownsRow 0 28 1 (.slice a5 (ni+4) c5) (ni+4) (F7++[.slice a i c,.slice a1 (i+1) c1,.slice a2 (i+2) c2,.slice a3 (i+3) c3]):=by
    refine⟨uq.out.2.2.1.1,?_⟩;rcases uq.out.2.2.1.2 with h | ⟨g,ij,gu,h1,h2,h3,h4⟩
    ·exact ax h
    ·exact az ⟨g,ij,gu,h1,h2,(Tj g (bG.1 h3).1 (aN uq.out.2.1 h3 (by decide))).trans h3,h4⟩
   have XB:Fr w w7 (fpO B (.slice a i c) (.slice aI ni cI) (.slice aM nm cM)):=(uq.out.2.2.2.1.alloc _).gb hg7 (λk hk=>ax (az (az (az hk))))
   have HX7:Hid (∀x,x=Value.slice a1 (i+1) c1∨x=Value.slice a2 (i+2) c2∨x=Value.slice a3 (i+3) c3->∀j,x.ownBlock=some j->v7.ownBlock≠some j):=by
    intro x hx j hj h5
    have bc:j<W6.heap.size/\((Value.slice a i c).ownBlock=some j∨w.heap.size<=j):=by
     rcases hx with rfl | rfl | rfl
     ·exact⟨uq.out.2.2.2.2.2.1.lt (by omega) j hj,kU.out j hj⟩
     ·exact⟨uq.out.2.2.2.2.2.2.1.lt (by omega) j hj,fj.out j hj⟩
     ·exact⟨uq.out.2.2.2.2.2.2.2.lt (by omega) j hj,oF.out j hj⟩
    rcases HB7.out j h5 with h | h
    ·exact(HA.out j bc.2).2.1 h
    ·have:=bc.1
     first | omega | (simp at h;omega)
   have HN7:Hid (∀j,v7.ownBlock=some j->(Value.slice aM nm cM).ownBlock=some j∨w.heap.size<=j):=λj hj=>(HB7.out j hj).imp id (λh=>by first | omega | (simp at h;omega));obtain⟨a7,c7,hv7⟩:=aK Jk;subst hv7;have e2':w7.cell? ⟨B,2,none⟩=some (.slice aM nm cM):=au XQ rfl;have ez:∀k,w7.frozen? ⟨B,k,none⟩=false:=λ_=>aH XQ;have wb8:(w7.setCell ⟨B,2,none⟩ (.slice a7 (nm+4) c7)).heap[B]?=some (.cells #[vD,.slice a5 (ni+4) c5,.slice a7 (nm+4) c7,.int .i64 ((nx+1:Nat):Int)] 30 (0,0)):=by rw[aP XQ];rfl
   have Vd:=bw Jk (aN Jk XQ (by decide)) (p:=⟨B,2,none⟩) (.slice a7 (nm+4) c7);have Vb:=bw QA (aN QA XQ (by decide)) (p:=⟨B,2,none⟩) (.slice a7 (nm+4) c7);have fr8:=XB.set (p:=⟨B,2,none⟩) (ax (ax rfl)) (.slice a7 (nm+4) c7);have hf8:=HFB.out w7 (w7.setCell ⟨B,2,none⟩ (.slice a7 (nm+4) c7)) (λg hA _=>Below.heap_setCell _ _ _ _ (HA.out g hA).2.2) UG
   have acF:Hid (vA w B vD (.slice aI ni cI) (.slice aM nm cM) nx (.slice a i c) i ni nm F7 FF (.returned (.tuple #[])) (w7.setCell ⟨B,2,none⟩ (.slice a7 (nm+4) c7))):=by
    unfold Hid vA;rw[Rb.out];refine⟨rfl,.slice a5 (ni+4) c5,.slice a7 (nm+4) c7,.slice a1 (i+1) c1,.slice a2 (i+2) c2,.slice a3 (i+3) c3,wb8,Vb,Vd,hf8.1,hf8.2.1,hf8.2.2.1,hf8.2.2.2,fr8,?_,uo.out,HN7.out,λx hx j hj=>⟨HX5.out x hx j hj,HX7.out x hx j hj⟩⟩;rintro x (rfl | rfl | rfl)
    ·exact kU.out
    ·exact fj.out
    ·exact oF.out
   clear wb8 Vd Vb fr8 hf8 XQ UG QA XB Tj Ck Jk hg7 HB7 uq e2 hB6;go_wp2;go_end0;exact acF.out
end
section
variable {n:Nat}{u:Value}{w:World}
structure tg where
 v:Value
 n:Nat
 m:Int
def LK (w:World)(B:Nat)(vD vI vM:Value)(nx:Nat)(es:List tg):Prop:=
 WB w B vD vI vM nx/\w.ownsRow 0 28 1 vI es.length (es.map tg.v)/\w.ownsRow 0 3 1 vM es.length (es.map λe=>.int .i64 e.m)/\∀e∈es,Full w e.v e.n (.int .i64 e.m)/\e.n<=1099511627776
theorem Full.shape {v:Value}(h:Full w v n u):∃a c,v=.slice a n c:=by
 rcases h with⟨rfl,rfl⟩ | ⟨g,c,rfl,_⟩
 ·exact⟨_,_,rfl⟩
 ·exact⟨_,_,rfl⟩
theorem Full.at' {a:Option Addr}{c:Nat}(h:Full w (.slice a n c) n u){i:Nat}(hi:i<n):∃g,a=some ⟨g,0,none⟩/\w.cell? ⟨g,i,none⟩=some u/\g<w.heap.size:=by
 rcases h with⟨_,rfl⟩ | ⟨g,c',hv,hc⟩
 ·omega
 ·injection hv with hv _ _
  refine⟨g,hv,hc i hi,?_⟩;have h1:=hc i hi;unfold World.cell? at h1;cases hb:w.heap[g]? with
  | none=>simp only[hb] at h1;cases h1
  | some o=>exact(bG.1 hb).1
theorem G6 (w:World)(B:Nat)(vD vI vM:Value)(nx:Nat)(es:List tg)(h:LK w B vD vI vM nx es)(OZ:es.length<=1099511627776):
  Calls prog 7 #[.pointer (some ⟨B,0,none⟩)] w λe w'=>e=.returned (.bool true)/\Drew w w':=by
 obtain⟨wb,rI,rM,hf⟩:=h;obtain⟨aI,cI,hvI⟩:=aK rI;subst hvI;obtain⟨aM,cM,hvM⟩:=aK rM;subst hvM;have c1:w.cell? ⟨B,1,none⟩=some (.slice aI es.length cI):=au wb.blk rfl;have c2:w.cell? ⟨B,2,none⟩=some (.slice aM es.length cM):=au wb.blk rfl;have Wf:=(bG.1 wb.blk).1;have HI:=aw rI;have HM:=aw rM;have HF:=aw hf;clear rI rM hf wb;go_enter func7,ntmps7;go_wp2
 go_loopg [3] es.length (λgk iv wr=>∃i:Nat,iv=.int .i64 i/\i<=es.length/\es.length - i<=gk/\Hid (Drew w wr))
 case atStart=>exact⟨0,rfl,bm,by omega,0,rfl⟩
 case round=>
  obtain⟨i,rfl,jQ,fT,hD⟩:=hrel;have CL:=hD.out.below;have d1:=(CL.cell (p:=⟨B,1,none⟩) Wf).trans c1;have d2:=(CL.cell (p:=⟨B,2,none⟩) Wf).trans c2
  by_cases bc:i<es.length
  ·have hd:decide ((i:Int)<(es.length:Int))=true:=by simp;omega
   obtain⟨g,hg,di,hc⟩:=aX HI.out (by omega);subst hg;have q0:=hc i (es[i].v) (by simp[bc]);clear hc;obtain⟨g',vk,O7,Rn⟩:=aX HM.out (by omega);subst vk;have r0:=Rn i (.int .i64 es[i].m) (by simp[bc]);clear Rn;obtain⟨r8,CO⟩:=HF.out es[i] (bN bc);generalize es[i]=y at q0 r0 r8 CO;obtain⟨ay,cy,hy⟩:=r8.shape;rw[hy] at q0 r8;have q1:=(CL.cell (p:=⟨g,i,none⟩) di).trans q0;have HFY:=aw r8;clear r8 hy;go_wp2_with fail
   go_loopg [4] y.n (λKC jv wq=>∃j:Nat,jv=.int .i64 j/\j<=y.n/\y.n - j<=KC/\Hid (Drew w wq))
   case atStart=>exact⟨0,rfl,bm,by omega,hD⟩
   case round=>
    obtain⟨j,rfl,FR,r9,hD2⟩:=hrel;have hbq:=hD2.out.below;have f1:=(hbq.cell (p:=⟨B,1,none⟩) Wf).trans c1;have f2:=(hbq.cell (p:=⟨B,2,none⟩) Wf).trans c2;have f3:=(hbq.cell (p:=⟨g,i,none⟩) di).trans q0;have f4:=(hbq.cell (p:=⟨g',i,none⟩) O7).trans r0;clear d1 d2 q1
    by_cases hjt:j<y.n
    ·have iC:decide ((j:Int)<(y.n:Int))=true:=by simp;omega
     obtain⟨gy,hgy,hcy,ad2⟩:=HFY.out.at' hjt;subst hgy;have f5:=(hbq.cell (p:=⟨gy,j,none⟩) ad2).trans hcy;go_upto_region 7 with fail;go_quiet (fail);go_wp2;go_roundg (y.n - (j+1))
     case measure=>omega
     case rel=>exact⟨j+1,by go_num,by omega,aF,ln hD2.out nq⟩
    ·have iC:decide ((j:Int)<(y.n:Int))=false:=by simp;omega
     go_wp2;go_roundg (es.length - (i+1))
     case measure=>omega
     case rel=>exact⟨i+1,by go_num,by omega,aF,hD2⟩
  ·have hd:decide ((i:Int)<(es.length:Int))=false:=by simp;omega
   go_wp2;go_ret;exact⟨rfl,hD.out⟩
end
section
variable {a:Int}{e:Nat × List Nat}{k ae n x:Nat}{l:List Nat}
abbrev aU:=List (Nat × List Nat)
def yD (e:Nat × List Nat)(n:Int):Bool:=e.2.any λk=>decide ((k:Int)=n)
def bF (T:aU)(n:Int):Option (List Nat):=(T.find? λe=>decide ((e.1:Int)=n)).map (·.2)
def bi (T:aU)(n:Int):Int:=match T.find? λe=>yD e n with | some e=>e.1 | none=>-1
def io (T:aU):Nat->Int->Int
 | 0,n=>n
 | k+1,n=>io T k (bi T n)
def dM (T:aU)(a n:Int):Prop:=0<=a/\∃k,io T k n=a
open Classical in
noncomputable def cu (T:aU)(a n:Int):Bool:=decide (dM T a n)
def sU (p:Nat)(f:List Nat->List Nat)(T:aU):aU:=T.map λe=>if e.1=p then(e.1,f e.2) else e
def lT (T:aU)(p k n:Nat):aU:=sU p (λl=>dp l k n) T++[(n,[])]
noncomputable def kj (T:aU)(a:Nat):aU:=sU (bi T a).toNat (aG a) (T.filter λe=>!cu T a e.1)
def lU (T:aU)(a p k:Nat):aU:=sU p (λl=>dp (aG a l) k a) (sU (bi T a).toNat (aG a) T)
def aW (aa:List REl):aU:=aa.map λe=>(e.num,e.kids)
theorem ea (aa:List REl)(n:Int):bi (aW aa) n=bn aa n:=by
 unfold bi bn Hh aW;rw[List.find?_map];have h:(aa.find? ((λe:Nat × List Nat=>yD e n) ∘ λe:REl=>(e.num,e.kids)))=aa.find? λe=>jt e n:=rfl;rw[h];cases aa.find? λe=>jt e n<;>rfl
theorem Nm (aa:List REl):∀(k:Nat) (n:Int),io (aW aa) k n=up aa k n
 | 0,_=>rfl
 | k+1,n=>by
  show io _ k (bi _ n)=up aa k (bn aa n);rw[ea,Nm aa k]
theorem mV (aa:List REl)(a n:Int):dM (aW aa) a n↔oJ aa a n:=by
 unfold dM oJ;simp only[Nm]
theorem bC {T:aU}{n:Int}:cu T a n=true↔dM T a n:=by simp[cu]
theorem lD (aa:List REl)(a n:Int):cu (aW aa) a n=fb aa a n:=by
 have h:=mV aa a n;rw[<-bC,<-ko] at h;cases h1:cu (aW aa) a n<;>cases h2:fb aa a n<;>simp_all
theorem rP (aa:List REl)(n:Int):bF (aW aa) n=(bR aa n).map REl.kids:=by
 unfold bF bR aW;rw[List.find?_map,Option.map_map];rfl
structure TW (T:aU)(made:Nat):Prop where
 nums:(T.map Prod.fst).Nodup
 lt:∀e∈T,e.1<made
 root:∃l,(0,l)∈T
 top:∀e∈T,0 ∉ e.2
 kin:∀e∈T,∀k∈e.2,∃l,(k,l)∈T
 kdup:∀e∈T,e.2.Nodup
 one:∀e∈T,∀f∈T,∀k,k∈e.2->k∈f.2->e=f
 par:∀e∈T,e.1≠0->∃f∈T,e.1∈f.2
 rank:∃rk:Nat->Nat,∀e∈T,∀k∈e.2,rk e.1<rk k
theorem qe {T:aU}(h:(T.map Prod.fst).Nodup){f:Nat × List Nat}(he:e∈T)(hf:f∈T)(hn:e.1=f.1):e=f:=by
 induction T with
 | nil=>cases he
 | cons x T ih=>
  rw[List.map_cons,List.nodup_cons] at h;rcases List.mem_cons.1 he with Ai | Ai<;>rcases List.mem_cons.1 hf with r8 | r8
  ·rw[Ai,r8]
  ·rw[Ai] at hn;exact absurd (bx.2 ⟨f,r8,hn.symm⟩) h.1
  ·rw[r8] at hn;exact absurd (bx.2 ⟨e,Ai,hn⟩) h.1
  ·exact ih h.2 Ai r8
theorem yE {n:Int}:yD e n=true↔∃k∈e.2,(k:Int)=n:=by simp[yD]
theorem iI:yD e n=true↔n∈e.2:=by
 rw[yE];constructor
 ·rintro⟨k,hk,h⟩;rw[show n=k from by omega];exact hk
 ·intro h;exact⟨n,h,rfl⟩
theorem TW.parent {T:aU}(h:TW T ae)(he:e∈T)(hk:k∈e.2):bi T k=e.1:=by
 unfold bi;cases hf:T.find? λe=>yD e (k:Int) with
 | none=>
  rw[List.find?_eq_none] at hf;exact absurd (iI.2 hk) (hf e he)
 | some f=>
  have h1:k∈f.2:=iI.1 (List.find?_some (p:=λe=>yD e (k:Int)) hf);have h2:=h.one e he f (List.mem_of_find?_eq_some hf) k hk h1;subst h2;rfl
theorem db (T:aU)(n:Int):bi T n=-1/\(∀e∈T,yD e n=false)∨∃e∈T,yD e n=true/\bi T n=e.1:=by
 unfold bi;cases h:T.find? λe=>yD e n with
 | none=>
  rw[List.find?_eq_none] at h;exact ax ⟨rfl,λe he=>by simpa using h e he⟩
 | some e=>exact az ⟨e,List.mem_of_find?_eq_some h,List.find?_some (p:=λe=>yD e n) h,rfl⟩
theorem TW.len {T:aU}(h:TW T ae)(he:e∈T):e.2.length<T.length:=by
 obtain⟨rk,hr⟩:=h.rank;have hs:(e.1 :: e.2).Nodup:=List.nodup_cons.2 ⟨λhx=>by have:=hr e he _ hx;omega,h.kdup e he⟩
 have:=dG hs (m:=T.map Prod.fst) (λk hk=>by
  rcases List.mem_cons.1 hk with rfl | hk
  ·exact bx.2 ⟨e,he,rfl⟩
  ·obtain⟨l,hl⟩:=h.kin e he k hk;exact bx.2 ⟨_,hl,rfl⟩)
 simp at this;omega
theorem xL:x∈dp l k n↔x=n∨x∈l:=by
 unfold dp;rw[List.mem_append,List.mem_append,ft];constructor
 ·rintro((h | h) | h)
  ·exact az (List.mem_of_mem_take h)
  ·exact ax h
  ·exact az (List.mem_of_mem_drop h)
 ·rintro(h | h)
  ·exact ax (az h)
  ·rw[<-List.take_append_drop k l,List.mem_append] at h;exact h.elim (λx=>ax (ax x)) az
theorem rf (h:l.Nodup)(hn:n ∉ l):(dp l k n).Nodup:=by
 have h2:(l.take k++l.drop k).Nodup:=by rw[List.take_append_drop];exact h
 rw[List.nodup_append] at h2;unfold dp;rw[List.nodup_append,List.nodup_append];refine⟨⟨h2.1,by simp,λa ha b hb=>?_⟩,h2.2.1,λa ha b hb=>?_⟩
 ·rw[ft] at hb;rw[hb];exact λe=>hn (e▸List.mem_of_mem_take ha)
 ·rcases List.mem_append.1 ha with ha | ha
  ·exact h2.2.2 a ha b hb
  ·rw[ft] at ha;rw[ha];exact λe=>hn (e▸List.mem_of_mem_drop hb)
theorem lJ {a:Nat}:x∈aG a l↔x∈l/\x≠a:=by
 unfold aG;rw[dJ,bO];exact⟨λ⟨h1,h2⟩=>⟨h1,λe=>h2 (by omega)⟩,λ⟨h1,h2⟩=>⟨h1,λe=>h2 (by omega)⟩⟩
theorem lg (h:l.Nodup):(aG a l).Nodup:=h.filter _
theorem nF {p:Nat}{f:List Nat->List Nat}{T:aU}:e∈sU p f T↔∃x∈T,e.1=x.1/\e.2=if x.1=p then f x.2 else x.2:=by
 unfold sU;rw[bx];constructor
 ·rintro⟨x,hx,rfl⟩;refine⟨x,hx,?_⟩;split<;>exact⟨rfl,rfl⟩
 ·rintro⟨x,hx,h1,h2⟩;refine⟨x,hx,?_⟩;split at h2
  ·rename_i h;rw[aE h,<-h1,<-h2]
  ·rename_i h;rw[aA h];exact(Prod.ext h1 h2).symm
theorem km (p:Nat)(f:List Nat->List Nat)(T:aU):(sU p f T).map Prod.fst=T.map Prod.fst:=by
 unfold sU;rw[List.map_map];refine List.map_congr_left λe _=>?_;show(if e.1=p then(e.1,f e.2) else e).1=e.1;split<;>rfl
end
section
variable {T:aU}{e:Nat × List Nat}{k ae p:Nat}{n:Int}
theorem TW.klt (h:TW T ae){x:Nat × List Nat}(hx:x∈T)(hk:k∈x.2):k<ae:=by
 obtain⟨l,hl⟩:=h.kin x hx k hk;exact h.lt _ hl
theorem cQ {n:Nat}:e∈lT T p k n↔(∃x∈T,e.1=x.1/\e.2=if x.1=p then dp x.2 k n else x.2)∨e=(n,[]):=by
 unfold lT;rw[List.mem_append,nF,ft]
theorem TW.ins (h:TW T ae)(hp:∃l,(p,l)∈T):TW (lT T p k ae) (ae+1):=by
 obtain⟨l0,zg⟩:=h.root;have h0:0<ae:=h.lt _ zg;obtain⟨lp,S5⟩:=hp
 have gB:∀x∈T,∀y,y∈(if x.1=p then dp x.2 k ae else x.2)↔(y=ae/\x.1=p)∨y∈x.2:=by
  intro x hx y;split
  ·rename_i oN;rw[xL];exact⟨λh=>h.imp (λe=>⟨e,oN⟩) id,λh=>h.imp (λe=>e.1) id⟩
  ·rename_i oN;exact⟨az,λh=>h.elim (λe=>absurd e.2 oN) id⟩
 have I4:∀x∈T,(x.1,if x.1=p then dp x.2 k ae else x.2)∈lT T p k ae:=λx hx=>cQ.2 (ax ⟨x,hx,rfl,rfl⟩);refine⟨?_,?_,⟨_,I4 _ zg⟩,?_,?_,?_,?_,?_,?_⟩
 ·unfold lT;rw[List.map_append,km,List.nodup_append];refine⟨h.nums,by simp,λa ha b hb=>?_⟩;simp only[List.map_cons,List.map_nil,ft] at hb;obtain⟨x,hx,rfl⟩:=bx.1 ha;have:=h.lt x hx;omega
 ·intro e he;rcases cQ.1 he with⟨x,hx,h1,_⟩ | rfl
  ·have:=h.lt x hx;omega
  ·exact Nat.lt_succ_self _
 ·intro e he h1;rcases cQ.1 he with⟨x,hx,_,h2⟩ | rfl
  ·rw[h2,gB x hx] at h1;rcases h1 with⟨h3,_⟩ | h3
   ·omega
   ·exact h.top x hx h3
  ·cases h1
 ·intro e he y hy;rcases cQ.1 he with⟨x,hx,_,h2⟩ | rfl
  ·rw[h2,gB x hx] at hy;rcases hy with⟨rfl,_⟩ | hy
   ·exact⟨[],cQ.2 (az rfl)⟩
   ·obtain⟨l,hl⟩:=h.kin x hx y hy;exact⟨_,I4 _ hl⟩
  ·cases hy
 ·intro e he;rcases cQ.1 he with⟨x,hx,_,h2⟩ | rfl
  ·rw[h2];split
   ·exact rf (h.kdup x hx) (λhm=>by have:=h.klt hx hm;omega)
   ·exact h.kdup x hx
  ·exact List.nodup_nil
 ·intro e he f hf y I2 I3;rcases cQ.1 he with⟨x,hx,a1,a2⟩ | rfl
  ·rcases cQ.1 hf with⟨z,hz,b1,b2⟩ | rfl
   ·have hxz:x=z:=by
     rw[a2,gB x hx] at I2;rw[b2,gB z hz] at I3;rcases I2 with⟨c1,c2⟩ | I2<;>rcases I3 with⟨d1,d2⟩ | I3
     ·exact qe h.nums hx hz (c2.trans d2.symm)
     ·have:=h.klt hz I3;omega
     ·have:=h.klt hx I2;omega
     ·exact h.one x hx z hz y I2 I3
    subst hxz;exact Prod.ext (a1.trans b1.symm) (a2.trans b2.symm)
   ·cases I3
  ·cases I2
 ·intro e he fG;rcases cQ.1 he with⟨x,hx,a1,_⟩ | rfl
  ·rw[a1] at fG ⊢;obtain⟨f,hf,hm⟩:=h.par x hx fG;exact⟨_,I4 f hf,(gB f hf _).2 (az hm)⟩
  ·exact⟨_,I4 _ S5,(gB _ S5 _).2 (ax ⟨rfl,rfl⟩)⟩
 ·obtain⟨rk,hr⟩:=h.rank;refine⟨λn=>if n=ae then rk p+1 else rk n,λe he y hy=>?_⟩;rcases cQ.1 he with⟨x,hx,a1,a2⟩ | rfl
  ·rw[a2,gB x hx] at hy;have FY:=h.lt x hx;rw[a1];show(if x.1=ae then _ else _)<(if y=ae then _ else _);rw[aA (by omega)];rcases hy with⟨c1,c2⟩ | hy
   ·rw[aE c1,c2];omega
   ·have:=h.klt hx hy;rw[aA (by omega)];exact hr x hx y hy
  ·cases hy
theorem qm (T:aU)(n:Int):∀(t k:Nat),io T (t+k) n=io T k (io T t n)
 | 0,k=>by rw[Nat.zero_add];rfl
 | t+1,k=>by
  rw[show t+1+k=(t+k)+1 from by omega];exact qm T (bi T n) t k
theorem QP (T:aU)(hn:n<0):bi T n=-1:=by
 rcases db T n with h | ⟨e,_,h,_⟩
 ·exact h.1
 ·obtain⟨k,_,hk⟩:=yE.1 h;omega
theorem mB (T:aU){n:Int}(hn:n<0):∀k,io T k n<0
 | 0=>hn
 | k+1=>by
  show io T k (bi T n)<0
  rw[QP T hn]
  exact mB T (by omega) k
theorem TW.under_kid (h:TW T ae)(he:e∈T)(hk:k∈e.2)(a:Nat):dM T a k↔k=a∨dM T a e.1:=by
 have hp:=h.parent he hk;constructor
 ·rintro⟨h0,t,ht⟩;cases t with
  | zero=>exact ax (by have:(k:Int)=a:=ht;omega)
  | succ t=>
   refine az ⟨h0,t,?_⟩;rw[<-hp];exact ht
 ·rintro(rfl | ⟨h0,t,ht⟩)
  ·exact⟨by omega,0,rfl⟩
  ·refine⟨h0,t+1,?_⟩;show io T t (bi T k)=a;rw[hp];exact ht
theorem iJ (T:aU)(a:Nat):dM T a a:=⟨by omega,0,rfl⟩
theorem TW.under_rank (h:TW T ae){rk:Nat->Nat}(hr:∀e∈T,∀k∈e.2,rk e.1<rk k){a:Nat}:∀(t n:Nat),io T t n=a->rk a<=rk n
 | 0,n,ht=>by
  have:(n:Int)=a:=ht;rw[show n=a from by omega];exact aF
 | t+1,n,ht=>by
  have Ru:io T t (bi T n)=a:=ht;rcases db T n with⟨h1,_⟩ | ⟨e,he,h1,h2⟩
  ·rw[h1] at Ru;have:=mB T (n:=-1) (by omega) t;omega
  ·rw[h2] at Ru;have:=TW.under_rank h hr t e.1 Ru;have:=hr e he n (iI.1 h1);omega
end
section
variable {T:aU}{a k ae p:Nat}{e q:Nat × List Nat}{la:List Nat}
theorem TW.up (h:TW T ae)(ha:(a,la)∈T)(h0:a≠0):∃q∈T,a∈q.2/\bi T a=q.1:=by
 obtain⟨q,hq,hm⟩:=h.par _ ha h0;exact⟨q,hq,hm,h.parent hq hm⟩
theorem TW.root_par (h:TW T ae):bi T 0=-1:=by
 rcases db T 0 with h1 | ⟨e,he,h1,_⟩
 ·exact h1.1
 ·exact absurd (iI.1 h1) (h.top e he)
theorem TW.root_not (h:TW T ae)(h0:a≠0):¬dM T a (0:Nat):=by
 rintro⟨_,t,ht⟩;cases t with
 | zero=>have:((0:Nat):Int)=a:=ht;omega
 | succ t=>
  have Ru:io T t (bi T 0)=a:=ht;rw[h.root_par] at Ru;have:=mB T (n:=-1) (by omega) t;omega
theorem TW.less (h:TW T ae)(hq:q∈T)(hm:a∈q.2){x:Nat × List Nat}(hx:x∈T)(y:Nat):y∈(if x.1=q.1 then aG a x.2 else x.2)↔y∈x.2/\y≠a:=by
 split
 ·exact lJ
 ·rename_i hn;refine⟨λhy=>⟨hy,λe=>?_⟩,λhy=>hy.1⟩;subst e;exact hn (by rw[h.one x hx q hq y hy hm])
theorem er (hp:bi T a=q.1):e∈kj T a↔∃x∈T,¬dM T a x.1/\e.1=x.1/\e.2=if x.1=q.1 then aG a x.2 else x.2:=by
 unfold kj;rw[hp,Int.toNat_natCast,nF];constructor
 ·rintro⟨x,hx,h1⟩;rw[dJ] at hx;refine⟨x,hx.1,λhu=>?_,h1⟩;rw[bC.2 hu] at hx;simp at hx
 ·rintro⟨x,hx,hu,h1⟩;refine⟨x,dJ.2 ⟨hx,?_⟩,h1⟩;cases hb:cu T a x.1 with
  | false=>rfl
  | true=>exact absurd (bC.1 hb) hu
theorem TW.rem (h:TW T ae)(ha:(a,la)∈T)(h0:a≠0):TW (kj T a) ae:=by
 obtain⟨q,hq,hm,hp⟩:=h.up ha h0;have gB:=λ{x:Nat × List Nat} (hx:x∈T) (y:Nat)=>h.less hq hm hx y;have I4:∀x∈T,¬dM T a x.1->(x.1,if x.1=q.1 then aG a x.2 else x.2)∈kj T a:=λx hx hu=>(er hp).2 ⟨x,hx,hu,rfl,rfl⟩;refine⟨?_,?_,?_,?_,?_,?_,?_,?_,?_⟩
 ·unfold kj;rw[km];exact h.nums.sublist (List.filter_sublist.map _)
 ·intro e he;obtain⟨x,hx,_,h1,_⟩:=(er hp).1 he;rw[h1];exact h.lt x hx
 ·obtain⟨l0,zg⟩:=h.root;exact⟨_,I4 _ zg (h.root_not h0)⟩
 ·intro e he hy;obtain⟨x,hx,_,_,h2⟩:=(er hp).1 he;rw[h2,gB hx] at hy;exact h.top x hx hy.1
 ·intro e he y hy;obtain⟨x,hx,hu,_,h2⟩:=(er hp).1 he;rw[h2,gB hx] at hy;obtain⟨l,hl⟩:=h.kin x hx y hy.1;exact⟨_,I4 _ hl (λAr=>((h.under_kid hx hy.1 a).1 Ar).elim hy.2 hu)⟩
 ·intro e he;obtain⟨x,hx,_,_,h2⟩:=(er hp).1 he;rw[h2];split
  ·exact lg (h.kdup x hx)
  ·exact h.kdup x hx
 ·intro e he f hf y I2 I3;obtain⟨x,hx,_,a1,a2⟩:=(er hp).1 he;obtain⟨z,hz,_,b1,b2⟩:=(er hp).1 hf;rw[a2,gB hx] at I2;rw[b2,gB hz] at I3;have:=h.one x hx z hz y I2.1 I3.1;subst this;exact Prod.ext (a1.trans b1.symm) (a2.trans b2.symm)
 ·intro e he fG;obtain⟨x,hx,hu,a1,_⟩:=(er hp).1 he;rw[a1] at fG ⊢;obtain⟨f,hf,hmf⟩:=h.par x hx fG;refine⟨_,I4 f hf (λAr=>hu ((h.under_kid hf hmf a).2 (az Ar))),(gB hf _).2 ⟨hmf,λe=>hu ?_⟩⟩;rw[e];exact iJ T a
 ·obtain⟨rk,hr⟩:=h.rank;refine⟨rk,λe he y hy=>?_⟩;obtain⟨x,hx,_,a1,a2⟩:=(er hp).1 he;rw[a2,gB hx] at hy;rw[a1];exact hr x hx y hy.1
theorem ed (hp:bi T a=q.1):
  e∈lU T a p k↔∃x∈T,e.1=x.1/\e.2=if x.1=p then dp (aG a (if x.1=q.1 then aG a x.2 else x.2)) k a else if x.1=q.1 then aG a x.2 else x.2:=by
 unfold lU;rw[hp,Int.toNat_natCast,nF];constructor
 ·rintro⟨x,hx,h1,h2⟩;obtain⟨y,hy,h3,h4⟩:=nF.1 hx;refine⟨y,hy,h1.trans h3,?_⟩;rw[h2,h3,h4]
 ·rintro⟨x,hx,h1,h2⟩;exact⟨(x.1,if x.1=q.1 then aG a x.2 else x.2),nF.2 ⟨x,hx,rfl,rfl⟩,h1,h2⟩
theorem TW.mov {lp:List Nat}(h:TW T ae)(ha:(a,la)∈T)(h0:a≠0)(zi:(p,lp)∈T)(KU:¬dM T a p):TW (lU T a p k) ae:=by
 obtain⟨q,hq,hm,hp⟩:=h.up ha h0
 have gB:∀x∈T,∀y,y∈(if x.1=p then dp (aG a (if x.1=q.1 then aG a x.2 else x.2)) k a else if x.1=q.1 then aG a x.2 else x.2)↔(y=a/\x.1=p)∨(y∈x.2/\y≠a):=by
  intro x hx y;have h1:=h.less hq hm hx y
  by_cases oN:x.1=p
  ·rw[aE oN,xL,lJ,h1];exact⟨λh=>h.imp (λe=>⟨e,oN⟩) (λe=>e.1),λh=>h.imp (λe=>e.1) (λe=>⟨e,e.2⟩)⟩
  ·rw[aA oN,h1];exact⟨az,λh=>h.elim (λe=>absurd e.2 oN) id⟩
 have I4:∀x∈T,(x.1,if x.1=p then dp (aG a (if x.1=q.1 then aG a x.2 else x.2)) k a else if x.1=q.1 then aG a x.2 else x.2)∈lU T a p k:=λx hx=>(ed hp).2 ⟨x,hx,rfl,rfl⟩;refine⟨?_,?_,?_,?_,?_,?_,?_,?_,?_⟩
 ·unfold lU;rw[km,km];exact h.nums
 ·intro e he;obtain⟨x,hx,h1,_⟩:=(ed hp).1 he;rw[h1];exact h.lt x hx
 ·obtain⟨l0,zg⟩:=h.root;exact⟨_,I4 _ zg⟩
 ·intro e he hy;obtain⟨x,hx,_,h2⟩:=(ed hp).1 he;rw[h2,gB x hx] at hy;rcases hy with hy | hy
  ·exact h0 hy.1.symm
  ·exact h.top x hx hy.1
 ·intro e he y hy;obtain⟨x,hx,_,h2⟩:=(ed hp).1 he;rw[h2,gB x hx] at hy;rcases hy with⟨rfl,_⟩ | hy
  ·exact⟨_,I4 _ ha⟩
  ·obtain⟨l,hl⟩:=h.kin x hx y hy.1;exact⟨_,I4 _ hl⟩
 ·intro e he;obtain⟨x,hx,_,h2⟩:=(ed hp).1 he
  have hd:(if x.1=q.1 then aG a x.2 else x.2).Nodup:=by
   split
   ·exact lg (h.kdup x hx)
   ·exact h.kdup x hx
  rw[h2];split
  ·exact rf (lg hd) (λAr=>(lJ.1 Ar).2 rfl)
  ·exact hd
 ·intro e he f hf y I2 I3;obtain⟨x,hx,a1,a2⟩:=(ed hp).1 he;obtain⟨z,hz,b1,b2⟩:=(ed hp).1 hf
  have hxz:x=z:=by
   rw[a2,gB x hx] at I2;rw[b2,gB z hz] at I3;rcases I2 with⟨c1,c2⟩ | ⟨c1,c2⟩<;>rcases I3 with⟨d1,d2⟩ | ⟨d1,d2⟩
   ·exact qe h.nums hx hz (c2.trans d2.symm)
   ·exact absurd c1 d2
   ·exact absurd d1 c2
   ·exact h.one x hx z hz y c1 d1
  subst hxz;exact Prod.ext (a1.trans b1.symm) (a2.trans b2.symm)
 ·intro e he fG;obtain⟨x,hx,a1,_⟩:=(ed hp).1 he;rw[a1] at fG ⊢
  by_cases UW:x.1=a
  ·exact⟨_,I4 _ zi,(gB _ zi _).2 (ax ⟨UW,rfl⟩)⟩
  ·obtain⟨f,hf,hmf⟩:=h.par x hx fG;exact⟨_,I4 f hf,(gB f hf _).2 (az ⟨hmf,UW⟩)⟩
 ·obtain⟨rk,hr⟩:=h.rank;refine⟨λn=>if cu T a n=true then rk n+(rk p+1) else rk n,λe he y hy=>?_⟩;obtain⟨x,hx,a1,a2⟩:=(ed hp).1 he;rw[a2,gB x hx] at hy;rw[a1];show(if cu T a x.1=true then _ else _)<(if cu T a y=true then _ else _);rcases hy with⟨rfl,c2⟩ | ⟨c1,c2⟩
  ·rw[c2,aA (λhb=>KU (bC.1 hb)),aE (bC.2 (iJ T y))];omega
  ·have hk:=h.under_kid hx c1 a;have bc:=hr x hx y c1
   by_cases hu:dM T a x.1
   ·rw[aE (bC.2 hu),aE (bC.2 (hk.2 (az hu)))];omega
   ·rw[aA (λhb=>hu (bC.1 hb)),aA (λhb=>(hk.1 (bC.1 hb)).elim c2 hu)];exact bc
end
section
variable {S:Nat->Prop}{d ae:Nat}{e f:REl}{aa:List REl}{br:Bool}{hp:Option Addr}{vL vT:Value}{w w':World}
theorem Gx (h:(aa.map REl.num).Nodup)(he:e∈aa)(hf:f∈aa)(hn:e.num=f.num):e=f:=by
 induction aa with
 | nil=>cases he
 | cons x T ih=>
  rw[List.map_cons,List.nodup_cons] at h;rcases List.mem_cons.1 he with Ai | Ai<;>rcases List.mem_cons.1 hf with r8 | r8
  ·rw[Ai,r8]
  ·rw[Ai] at hn;exact absurd (bx.2 ⟨f,r8,hn.symm⟩) h.1
  ·rw[r8] at hn;exact absurd (bx.2 ⟨e,Ai,hn⟩) h.1
  ·exact ih h.2 Ai r8
theorem mU (aa:List REl):(aW aa).map Prod.fst=aa.map REl.num:=by
 unfold aW;rw[List.map_map];rfl
theorem rQ (aa:List REl):(aW aa).length=aa.length:=by simp[aW]
theorem RD.same (h:RD w d aa ae hp vT br vL)(he:e∈aa)(hf:f∈aa)(hb:e.blk=f.blk):e.num=f.num:=by
 have h1:=h.el e he;have h2:=h.el f hf;rw[hb,h2] at h1;injection h1 with h1
 injection h1 with h1 _ _
 unfold REl.cells at h1;injection h1 with h1
 injection h1 with h1 _
 injection h1 with _ h1
 omega
def CU (aa:List REl):Prop:=∀e∈aa,∀f∈aa,e.blk=f.blk↔e.num=f.num
theorem RD.apart (h:RD w d aa ae hp vT br vL)(hn:(aa.map REl.num).Nodup):CU aa:=
 λe he f hf=>⟨h.same he hf,λx=>by rw[Gx hn he hf x]⟩
theorem rR {l:List REl}(ha:CU aa)(hl:∀e∈l,e∈aa){p:REl}(hp:p∈aa)(kids:List Nat)(ks:Value):aW (l.map (et p.blk kids ks))=sU p.num (λ_=>kids) (aW l):=by
 unfold aW sU;rw[List.map_map,List.map_map];refine List.map_congr_left λe he=>?_;show((et p.blk kids ks e).num,(et p.blk kids ks e).kids)=if e.num=p.num then(e.num,kids) else(e.num,e.kids)
 unfold et
 by_cases hb:e.blk=p.blk
 ·rw[aE hb,aE ((ha e (hl e he) p hp).1 hb)]
 ·rw[aA hb,aA (λx=>hb ((ha e (hl e he) p hp).2 x))]
theorem vP {T:aU}(hn:(T.map Prod.fst).Nodup){p:Nat}{l:List Nat}(hp:(p,l)∈T){U:aU}(hU:∀e∈U,e∈T)(f:List Nat->List Nat):sU p (λ_=>f l) U=sU p f U:=by
 unfold sU;refine List.map_congr_left λe he=>?_
 by_cases h:e.1=p
 ·rw[aE h,aE h];have:=qe hn (hU e he) hp h;rw[this]
 ·rw[aA h,aA h]
theorem RD.keep (h:RD w d aa ae hp vT br vL)(hk:∀k,jX d aa vL k->k<w.heap.size->w'.heap[k]?=w.heap[k]?):RD w' d aa ae hp vT br vL:=by
 have own:∀{e:TypeId} {v:Value} {n:Nat} {xs:List Value},w.ownsRow 0 e 1 v n xs->(∀k,v.ownBlock=some k->jX d aa vL k)->w'.ownsRow 0 e 1 v n xs:=by
  intro e v n xs ho hf;refine⟨ho.1,?_⟩;rcases ho.2 with hn | ⟨g,ij,gu,hv,hb,hg,rest⟩
  ·exact ax hn
  ·exact az ⟨g,ij,gu,hv,hb,(hk g (hf g (by rw[hv];rfl)) (bG.1 hg).1).trans hg,rest⟩
 exact⟨(hk d (ax rfl) (bG.1 h.doc).1).trans h.doc,own h.row (λk hk=>az (az (ax hk))),λe he=>(hk _ (az (ax ⟨e,he,rfl⟩)) (bG.1 (h.el e he)).1).trans (h.el e he),λe he=>own (h.kid e he) (λk hk=>az (az (az ⟨e,he,hk⟩))),h.few,h.kfew⟩
theorem Fr.mono {S':Nat->Prop}(h:Fr w w' S)(hs:∀k,S k->S' k):Fr w w' S':=⟨h.os,h.tape,h.output,h.size,λk hk hn=>h.block k hk (λx=>hn (hs k x))⟩
def cV (F:Nat->Prop)(w:World)(k:Nat):Prop:=F k∨w.heap.size<=k
def jU (T:aU)(an af:Int)(aj:ByteArray):Int:=
 match bF T an with
 | none=>5
 | some l=>if af<0∨(l.length:Int)<af then 8 else if aQ aj=false then 4 else if 24<=T.length then 9 else 0
theorem I6 (aa:List REl)(an af:Int)(aj:ByteArray):jw aa an af aj=jU (aW aa) an af aj:=by
 unfold jw jU;rw[rP,rQ];cases bR aa an<;>rfl
def TIns (T:aU)(ae:Nat)(an af:Int)(aj:ByteArray)(y:Int)(T':aU)(made':Nat)(n:Int):Prop:=
 y=jU T an af aj/\((y≠0/\n=0/\T'=T/\made'=ae)∨(y=0/\n=ae/\made'=ae+1/\∃p k:Nat,an=p/\af=k/\(∃l,(p,l)∈T/\k<=l.length)/\T'=lT T p k ae))
theorem vC {b:Nat}{kids:List Nat}{ks:Value}{vL':Value}(h1:∀k,jX d aa vL k->S k)(h2:∀k,ks.ownBlock=some k->S k)(h3:∀k,vL'.ownBlock=some k->S k):∀k,jX d (aa.map (et b kids ks)) vL' k->S k:=by
 rintro k (rfl | ⟨e,he,rfl⟩ | hk | ⟨e,he,hk⟩)
 ·exact h1 _ (ax rfl)
 ·obtain⟨f,hf,rfl⟩:=bx.1 he;rw[kI];exact h1 _ (az (ax ⟨f,hf,rfl⟩))
 ·exact h3 k hk
 ·obtain⟨f,hf,rfl⟩:=bx.1 he;unfold et at hk;split at hk
  ·exact h2 k hk
  ·exact h1 k (az (az (az ⟨f,hf,hk⟩)))
end
section
variable {aa:List REl}{n:Int}
theorem gJ {T:aU}{l:List Nat}(h:bF T n=some l):∃k:Nat,n=k/\(k,l)∈T:=by
 unfold bF at h;cases hf:T.find? λe=>decide ((e.1:Int)=n) with
 | none=>rw[hf] at h;cases h
 | some e=>
  rw[hf] at h;have h1:(e.1:Int)=n:=by simpa using List.find?_some hf
  have h2:e.2=l:=by simpa using h
  exact⟨e.1,h1.symm,h2▸List.mem_of_find?_eq_some hf⟩
theorem cU {y:REl}(h:bR aa n=some y):bF (aW aa) n=some y.kids:=by rw[rP,h];rfl
theorem cW (h:bR aa n=none):bF (aW aa) n=none:=by rw[rP,h];rfl
theorem Kc (aa:List REl)(a:Int)(l:List REl):aW (dL aa a l)=(aW l).filter λe=>!cu (aW aa) a e.1:=by
 unfold aW dL;rw[List.filter_map]
 congr 1
 refine List.filter_congr λe _=>?_;show(!fb aa a e.num)=(!cu (aW aa) a e.num);rw[lD]
open Classical in
noncomputable def lh (T:aU)(n:Int):Int:=match bF T n with | none=>5 | some _=>if bi T n<0 then 6 else 0
def TRem (T:aU)(n:Int)(y:Int)(T':aU):Prop:=
 y=lh T n/\((y≠0/\T'=T)∨(y=0/\∃a:Nat,n=a/\a≠0/\(∃l,(a,l)∈T)/\T'=kj T a))
theorem pN {ae:Nat}(h:TW (aW aa) ae):∃rk,rN aa rk:=by
 obtain⟨rk,hr⟩:=h.rank;exact⟨rk,λe he k hk=>hr (e.num,e.kids) (bx.2 ⟨e,he,rfl⟩) k hk⟩
noncomputable def jo (T:aU)(n m af:Int):Int:=
 match bF T n,bF T m with
 | some _,some l=>if bi T n<0 then 6 else if cu T n m=true then 7 else if af<0∨((aG n l).length:Int)<af then 8 else 0
 | _,_=>5
def TMov (T:aU)(n m af:Int)(y:Int)(T':aU):Prop:=
 y=jo T n m af/\((y≠0/\T'=T)∨(y=0/\∃a p k:Nat,n=a/\m=p/\af=k/\a≠0/\(∃l,(a,l)∈T)/\(∃l,(p,l)∈T/\k<=(aG a l).length)/\¬dM T a p/\T'=lU T a p k))
theorem sB (a:Int)(l:List Nat):aG a (aG a l)=aG a l:=by
 unfold aG;rw[List.filter_filter]
 congr 1
 funext k;simp
theorem JE:TW [(0,[])] 1:=by
 refine⟨by simp,?_,⟨[],by simp⟩,?_,?_,?_,?_,?_,⟨λ_=>0,?_⟩⟩<;>intro e he<;>(rw[ft] at he;subst he)<;>simp
end
section
variable {T U U':aU}{af n an y y':Int}{aj:ByteArray}{m ae:Nat}
theorem TIns.one {m':Nat}{n':Int}(h:TIns T ae an af aj y U m n)(h':TIns T ae an af aj y' U' m' n'):y=y'/\U=U'/\m=m'/\n=n':=by
 have hy:=h.1.trans h'.1.symm;subst hy;refine⟨rfl,?_⟩;rcases h.2 with⟨h1,h2,h3,h4⟩ | ⟨h1,h2,h3,p,k,hp,hk,_,h4⟩<;>rcases h'.2 with⟨g1,g2,g3,g4⟩ | ⟨g1,g2,g3,p',k',uF,Rt,_,g4⟩
 ·exact⟨h3.trans g3.symm,h4.trans g4.symm,h2.trans g2.symm⟩
 ·exact absurd g1 h1
 ·exact absurd h1 g1
 ·have e1:p=p':=by omega
  have e2:k=k':=by omega
  subst e1 e2;exact⟨h4.trans g4.symm,h3.trans g3.symm,h2.trans g2.symm⟩
theorem TRem.one (h:TRem T n y U)(h':TRem T n y' U'):y=y'/\U=U':=by
 have hy:=h.1.trans h'.1.symm;subst hy;refine⟨rfl,?_⟩;rcases h.2 with⟨h1,h2⟩ | ⟨h1,a,ha,_,_,h2⟩<;>rcases h'.2 with⟨g1,g2⟩ | ⟨g1,a',Wm,_,_,g2⟩
 ·exact h2.trans g2.symm
 ·exact absurd g1 h1
 ·exact absurd h1 g1
 ·have e1:a=a':=by omega
  subst e1;exact h2.trans g2.symm
theorem TMov.one {m:Int}(h:TMov T n m af y U)(h':TMov T n m af y' U'):y=y'/\U=U':=by
 have hy:=h.1.trans h'.1.symm;subst hy;refine⟨rfl,?_⟩;rcases h.2 with⟨h1,h2⟩ | ⟨h1,a,p,k,ha,hp,hk,_,_,_,_,h2⟩<;>rcases h'.2 with⟨g1,g2⟩ | ⟨g1,a',p',k',Wm,uF,Rt,_,_,_,_,g2⟩
 ·exact h2.trans g2.symm
 ·exact absurd g1 h1
 ·exact absurd h1 g1
 ·have e1:a=a':=by omega
  have e2:p=p':=by omega
  have e3:k=k':=by omega
  subst e1 e2 e3;exact h2.trans g2.symm
theorem TIns.tw (h:TIns T ae an af aj y U m n)(hw:TW T ae):TW U m/\m<=ae+1:=by
 rcases h.2 with⟨_,_,rfl,rfl⟩ | ⟨_,_,rfl,p,k,_,_,⟨l,hl,_⟩,rfl⟩
 ·exact⟨hw,Nat.le_succ _⟩
 ·exact⟨hw.ins ⟨l,hl⟩,aF⟩
def LT (T:aU)(l:List Nat):Prop:=l.Nodup/\∀k∈l,∃c,(k,c)∈T
theorem aa9 {aa:List REl}{l:List Nat}:LT (aW aa) l↔LS aa l:=by
 unfold LT LS aW;constructor
 ·rintro⟨h1,h2⟩;refine⟨h1,λk hk=>?_⟩;obtain⟨c,hc⟩:=h2 k hk;obtain⟨e,he,h3⟩:=bx.1 hc;injection h3 with h3 _
  exact⟨e,he,h3⟩
 ·rintro⟨h1,h2⟩;refine⟨h1,λk hk=>?_⟩;obtain⟨e,he,rfl⟩:=h2 k hk;exact⟨e.kids,bx.2 ⟨e,he,rfl⟩⟩
def nZ (F:Nat->Prop)(w w':World)(k:Nat):Prop:=cV F w k/\k<w'.heap.size
theorem cZ {w w':World}{e:TypeId}{v:Value}{n:Nat}{xs:List Value}(h:w.ownsRow 0 e 1 v n xs)(hk:∀k,v.ownBlock=some k->k<w.heap.size->w'.heap[k]?=w.heap[k]?):w'.ownsRow 0 e 1 v n xs:=by
 refine⟨h.1,?_⟩;rcases h.2 with hn | ⟨g,ij,gu,hv,hb,hg,rest⟩
 ·exact ax hn
 ·exact az ⟨g,ij,gu,hv,hb,(hk g (by rw[hv];rfl) (bG.1 hg).1).trans hg,rest⟩
section
variable {PS:World->Value->aU->Nat->(Nat->Prop)->Prop}{w:World}{b:Nat}{Tx:aU}{mx:Nat}{Ty:aU}{my:Nat}{px:Value}{d:Nat}{vm vy vs:Value}{cnt:Int}{held:Bool}{lm ly:List Nat}{Fp Fx Fy:Nat->Prop}
end
end
section
variable {T:aU}{l:List Nat}
abbrev aR (kd af X Y Z:Int)(S Tt:ByteArray)(on:Bool):Obj:=.cells #[.int .i64 kd,.int .i64 af,.int .i64 X,.int .i64 Y,.int .i64 Z,.string S,.string Tt,.bool on] 32
theorem Fr.comp {a w w1:World}{G S:Nat->Prop}(h:Fr a w G)(k:Fr w w1 S)(hs:∀j,S j->G j∨a.heap.size<=j):Fr a w1 G:=
 ⟨k.os.trans h.os,k.tape.trans h.tape,k.output.trans h.output,Nat.le_trans h.size k.size,λi hi hn=>(k.block i (Nat.lt_of_lt_of_le hi h.size) (λx=>(hs i x).elim hn (λy=>by omega))).trans (h.block i hi hn)⟩
theorem bQ (w:World)(y:Int):Calls prog 29 #[.int .i64 y,.int .i64 y] w λe w'=>e=.returned (.bool true)/\w'=w:=by
 go_enter func29,ntmps29;go_wp2_with fail;refine(kw _ y).mono ?_;rintro e w1 ⟨rfl,rfl⟩;obtain⟨w,rfl⟩:∃w,w=w1:=⟨_,rfl⟩;go_wp2_with fail;refine(kw _ y).mono ?_;rintro e w1 ⟨rfl,rfl⟩;obtain⟨w,rfl⟩:∃w,w=w1:=⟨_,rfl⟩;go_wp2;go_ret;exact⟨by simp,rfl⟩
section
variable {PS:World->Value->aU->Nat->(Nat->Prop)->Prop}{w0:World}{G:Nat->Prop}{w:World}{b:Nat}{Tx:aU}{mx:Nat}{Ty:aU}{my:Nat}{px:Value}{d:Nat}{vm vy vs:Value}{cnt:Int}{held:Bool}{lm ly:List Nat}
end
theorem LT.len (h:LT T l):l.length<=T.length:=by
 have:=dG h.1 (m:=T.map Prod.fst) (λk hk=>by
  obtain⟨c,hc⟩:=h.2 k hk;exact bx.2 ⟨_,hc,rfl⟩)
 simpa using this
theorem LT.ins (h:LT T l)(p k n:Nat):LT (lT T p k n) l:=by
 refine⟨h.1,λx hx=>?_⟩;obtain⟨c,hc⟩:=h.2 x hx;exact⟨if x=p then dp c k n else c,cQ.2 (ax ⟨(x,c),hc,rfl,rfl⟩)⟩
theorem LT.with (h:LT T l){n:Nat}{c:List Nat}(hn:(n,c)∈T):LT T (dN l n):=by
 unfold dN;split
 ·exact h
 ·rename_i hx;rw[iB] at hx;refine⟨?_,λk hk=>?_⟩
  ·rw[List.nodup_append];refine⟨h.1,by simp,λa ha b hb=>?_⟩;rw[ft] at hb;rw[hb];exact λe=>hx (e▸ha)
  ·rcases List.mem_append.1 hk with hk | hk
   ·exact h.2 k hk
   ·rw[ft] at hk;rw[hk];exact⟨c,hn⟩
end
theorem LT.of_nums {T U:aU}{l:List Nat}(h:LT T l)(hn:U.map Prod.fst=T.map Prod.fst):LT U l:=by
 refine⟨h.1,λk hk=>?_⟩;obtain⟨c,hc⟩:=h.2 k hk;have h1:k∈U.map Prod.fst:=by rw[hn];exact bx.2 ⟨_,hc,rfl⟩
 obtain⟨x,hx,rfl⟩:=bx.1 h1;exact⟨x.2,hx⟩
theorem Md (T:aU)(a p k:Nat):(lU T a p k).map Prod.fst=T.map Prod.fst:=by
 unfold lU;rw[km,km]
section
variable {PS:World->Value->aU->Nat->(Nat->Prop)->Prop}
end
theorem TMov.nums {T:aU}{n m af:Int}{y:Int}{U:aU}(h:TMov T n m af y U):U.map Prod.fst=T.map Prod.fst:=by
 rcases h.2 with⟨_,rfl⟩ | ⟨_,a,p,k,_,_,_,_,_,_,_,rfl⟩
 ·rfl
 ·exact Md T a p k
structure j4 where
 b:Nat
 made:Nat
 G:Nat->Prop
def tp (B:Nat)(vD vI vM:Value)(es:List tg)(k:Nat):Prop:=k=B∨vD.ownBlock=some k∨vI.ownBlock=some k∨vM.ownBlock=some k∨∃e∈es,e.v.ownBlock=some k
section
variable {PS:World->Value->aU->Nat->(Nat->Prop)->Prop}{aB:Nat}{w:World}{B:Nat}{vD vI vM:Value}{nx:Nat}{ps:List j4}{es:List tg}
end
section
variable {PS:World->Value->aU->Nat->(Nat->Prop)->Prop}{w:World}{b:Nat}{Tx:aU}{mx:Nat}{Ty:aU}{my:Nat}{px:Value}{d:Nat}{vm vy vs:Value}{cnt:Int}{held:Bool}{lm ly:List Nat}{Fp Fx Fy:Nat->Prop}
end
theorem Fr.toBelow {w w':World}{S:Nat->Prop}{aB:Nat}(h:Fr w w' S)(hb:aB<=w.heap.size)(hs:∀k,S k->aB<=k):Below aB w w':=by
 refine⟨h.os,h.tape,h.output,h.size,λk hk=>h.block k (by omega) (λx=>by have:=hs k x;omega)⟩
theorem Tryz.info42:(Tryz.prog.info? 42).map (λi=>(i.zero,i.size,i.bytes))=some (some (.pointer none),1,8):=by kernel_rfl
section
variable {PS:World->Value->aU->Nat->(Nat->Prop)->Prop}{aB:Nat}{w:World}{B:Nat}{vD vI vM:Value}{nx:Nat}{ps:List j4}{es:List tg}
end
abbrev sG (pa:Addr)(d m1 m2:Nat):Obj:=.cells #[.pointer (some pa),.pointer (some ⟨d,0,none⟩),.slice (some ⟨m1,0,none⟩) 1 1,.slice (some ⟨m2,0,none⟩) 1 1,.int .i64 1,.slice none 0 0,.bool false] 56
theorem I8:LT [(0,[])] [0]:=⟨by simp,λk hk=>by rw[ft] at hk;rw[hk];exact⟨[],by simp⟩⟩
theorem Jd (w:World)(x:Value)(t:TypeId):(w.alloc (.cells #[x] t)).ownsRow 0 t 1 (.slice (some ⟨w.heap.size,0,none⟩) 1 1) 1 [x]:=
 ⟨rfl,az ⟨w.heap.size,1,#[x],rfl,bm,heap_alloc_new w _,aF,by unfold maxLen;omega,rfl,rfl⟩⟩
def oP (k:Int)(n:Nat):Nat:=if k<0∨(n:Int)<=k then 0 else k.toNat
theorem Qd {k:Int}{n:Nat}(h:0<n):oP k n<n:=by
 unfold oP;split<;>omega
theorem Qe (w:World)(k:Int)(n:Nat):Calls prog 14 #[.int .i64 k,.int .i64 n] w λe w'=>e=.returned (.int .i64 (oP k n))/\w'=w:=by
 by_cases h1:k<0
 ·have HE:Hid (oP k n=0):=by unfold Hid oP;rw[aE (ax h1)]
  go_enter func14,ntmps14;go_wp2;go_ret;rw[HE.out];exact⟨rfl,rfl⟩
 ·have XG:decide (k<0)=false:=by simpa using h1
  by_cases h2:(n:Int)<=k
  ·have HE:Hid (oP k n=0):=by unfold Hid oP;rw[aE (az h2)]
   clear h1;go_enter func14,ntmps14;go_wp2;go_ret;rw[HE.out];exact⟨rfl,rfl⟩
  ·have iC:decide ((n:Int)<=k)=false:=by simpa using h2
   have HE:Hid (((oP k n:Nat):Int)=k):=by unfold Hid oP;rw[aA (λh=>h.elim h1 h2)];omega
   clear h1 h2;go_enter func14,ntmps14;go_wp2;go_ret;rw[HE.out];exact⟨rfl,rfl⟩
theorem Fd {ps:List j4}{i:Nat}{p:j4}{M:Nat}(h:∀q∈ps,q.made<=M)(hp:p.made<=M+1):∀q∈ps.set i p,q.made<=M+1:=by
 intro q hq;rcases List.mem_or_eq_of_mem_set hq with hq | rfl
 ·exact Nat.le_succ_of_le (h q hq)
 ·exact hp
section
variable {PS:World->Value->aU->Nat->(Nat->Prop)->Prop}
end
section
variable {a n:Int}{k p place:Nat}{la:List Nat}
structure PEl where
 num:Nat
 par:Int
 rest:List Value
def aZ (aa:List PEl)(n:Int):List Nat:=(aa.filter λe=>decide (e.par=n)).map PEl.num
theorem eO (A B:List PEl)(n:Int):aZ (A++B) n=aZ A n++aZ B n:=by simp[aZ]
theorem qc (x:PEl)(n:Int):aZ [x] n=if x.par=n then[x.num] else[]:=by
 by_cases h:x.par=n<;>simp[aZ,h]
theorem fU {aa:List PEl}:k∈aZ aa n↔∃e∈aa,e.par=n/\e.num=k:=by
 unfold aZ;rw[bx];constructor
 ·rintro⟨e,he,h⟩;rw[dJ] at he;exact⟨e,he.1,by simpa using he.2,h⟩
 ·rintro⟨e,he,h1,h2⟩;exact⟨e,dJ.2 ⟨he,by simpa using h1⟩,h2⟩
structure PT (els:List PEl)(T:aU):Prop where
 nums:(els.map PEl.num).Nodup
 to':∀e∈els,∃l,(e.num,l)∈T
 of':∀n l,(n,l)∈T->∃e∈els,e.num=n
 kids:∀n l,(n,l)∈T->l=aZ els n
 root:∀e∈els,e.num=0->e.par=-1
theorem Co {aa:List PEl}(h:(aa.map PEl.num).Nodup){e f:PEl}(he:e∈aa)(hf:f∈aa)(hn:e.num=f.num):e=f:=by
 induction aa with
 | nil=>cases he
 | cons x T ih=>
  rw[List.map_cons,List.nodup_cons] at h;rcases List.mem_cons.1 he with Ai | Ai<;>rcases List.mem_cons.1 hf with r8 | r8
  ·rw[Ai,r8]
  ·rw[Ai] at hn;exact absurd (bx.2 ⟨f,r8,hn.symm⟩) h.1
  ·rw[r8] at hn;exact absurd (bx.2 ⟨e,Ai,hn⟩) h.1
  ·exact ih h.2 Ai r8
section
variable {aa:List PEl}{T:aU}{ae:Nat}
theorem PT.par (h:PT aa T)(hw:TW T ae){e:PEl}(he:e∈aa):e.par=bi T e.num:=by
 by_cases h0:e.num=0
 ·rw[h.root e he h0,h0];exact hw.root_par.symm
 ·obtain⟨l,hl⟩:=h.to' e he;obtain⟨q,hq,hm,hp⟩:=hw.up hl h0;rw[hp];rw[h.kids q.1 q.2 hq,fU] at hm;obtain⟨f,hf,h1,h2⟩:=hm;rw[<-Co h.nums hf he h2];exact h1
theorem PT.len (h:PT aa T)(hw:TW T ae):aa.length=T.length:=by
 have h1:=dG h.nums (m:=T.map Prod.fst) (λk hk=>by
  obtain⟨e,he,rfl⟩:=bx.1 hk;obtain⟨l,hl⟩:=h.to' e he;exact bx.2 ⟨_,hl,rfl⟩)
 have h2:=dG hw.nums (m:=aa.map PEl.num) (λk hk=>by
  obtain⟨x,hx,rfl⟩:=bx.1 hk;obtain⟨e,he,h3⟩:=h.of' x.1 x.2 hx;exact bx.2 ⟨e,he,h3⟩)
 simp at h1 h2;omega
def dB (aa:List PEl)(n:Int):Option PEl:=aa.find? λe=>decide ((e.num:Int)=n)
theorem dQ {e:PEl}(h:dB aa n=some e):e∈aa/\(e.num:Int)=n:=⟨List.mem_of_find?_eq_some h,by simpa using List.find?_some h⟩
theorem qT (h:dB aa n=none){e:PEl}(he:e∈aa):(e.num:Int)≠n:=by
 unfold dB at h;rw[List.find?_eq_none] at h;simpa using h e he
theorem PT.find_none (h:PT aa T)(hf:dB aa n=none):bF T n=none:=by
 cases ht:bF T n with
 | none=>rfl
 | some l=>
  obtain⟨k,rfl,hk⟩:=gJ ht;obtain⟨e,he,h1⟩:=h.of' k l hk;exact absurd (by rw[h1]) (qT hf he)
theorem eg {T:aU}(hn:(T.map Prod.fst).Nodup){l:List Nat}(h:(k,l)∈T):bF T k=some l:=by
 unfold bF;cases hf:T.find? λe=>decide ((e.1:Int)=(k:Int)) with
 | none=>
  rw[List.find?_eq_none] at hf;exact absurd (by simp) (hf _ h)
 | some e=>
  have h1:(e.1:Int)=(k:Int):=by simpa using List.find?_some hf
  have h2:=qe hn (List.mem_of_find?_eq_some hf) h (by show e.1=k;omega);rw[h2];rfl
theorem PT.find_some (h:PT aa T)(hw:TW T ae){e:PEl}(hf:dB aa n=some e):bF T n=some (aZ aa n)/\(e.num,aZ aa n)∈T/\n=e.num:=by
 obtain⟨he,rfl⟩:=dQ hf;obtain⟨l,hl⟩:=h.to' e he;have:=h.kids _ _ hl;subst this;exact⟨eg hw.nums hl,hl,rfl⟩
def parP (aa:List PEl)(n:Int):Int:=match dB aa n with | none=>-1 | some e=>e.par
theorem PT.parP (h:PT aa T)(hw:TW T ae)(n:Int):parP aa n=bi T n:=by
 unfold Go.Proofs.YtblfffbmklkhmabGreat.parP;cases hf:dB aa n with
 | some e=>
  obtain⟨he,rfl⟩:=dQ hf;exact h.par hw he
 | none=>
  rcases db T n with h1 | ⟨e,he,h1,_⟩
  ·exact h1.1.symm
  ·obtain⟨k,hk,rfl⟩:=yE.1 h1;obtain⟨l,hl⟩:=hw.kin e he k hk;obtain⟨f,bM,h2⟩:=h.of' k l hl;exact absurd (by rw[h2]) (qT hf bM)
theorem TW.chain (hw:TW T ae){rk:Nat->Nat}(hr:∀e∈T,∀k∈e.2,rk e.1<rk k)(ha:0<=a):∀(k n:Nat),(∃c,(n,c)∈T)->io T k n=a->∃l:List Nat,l.length=k+1/\l.Nodup/\(∀x∈l,∃c,(x,c)∈T)/\∀x∈l,rk x<=rk n
 | 0,n,hn,_=>⟨[n],rfl,by simp,λx hx=>by rw[ft] at hx;rw[hx];exact hn,λx hx=>by rw[ft] at hx;rw[hx];exact aF⟩
 | k+1,n,hn,h=>by
  have h':io T k (bi T n)=a:=h;rcases db T n with⟨h1,_⟩ | ⟨e,he,h1,h2⟩
  ·rw[h1] at h';have:=mB T (n:=-1) (by omega) k;omega
  ·rw[h2] at h';obtain⟨l,hl,hd,jZ,qU⟩:=TW.chain hw hr ha k e.1 ⟨e.2,he⟩ h';have bc:=hr e he n (iI.1 h1);refine⟨n :: l,by simp[hl],List.nodup_cons.2 ⟨λhx=>by have:=qU n hx;omega,hd⟩,λx hx=>?_,λx hx=>?_⟩
   ·rcases List.mem_cons.1 hx with rfl | hx
    ·exact hn
    ·exact jZ x hx
   ·rcases List.mem_cons.1 hx with rfl | hx
    ·exact aF
    ·have:=qU x hx;omega
theorem TW.short (hw:TW T ae)(ha:0<=a){n:Nat}(hn:∃c,(n,c)∈T):dM T a n↔∃k,k<T.length/\io T k n=a:=by
 obtain⟨rk,hr⟩:=hw.rank;constructor
 ·rintro⟨_,k,hk⟩;obtain⟨l,hl,hd,jZ,_⟩:=hw.chain hr ha k n hn hk
  have:=dG hd (m:=T.map Prod.fst) (λx hx=>by
   obtain⟨c,hc⟩:=jZ x hx;exact bx.2 ⟨_,hc,rfl⟩)
  simp at this;exact⟨k,by omega,hk⟩
 ·rintro⟨k,_,hk⟩;exact⟨ha,k,hk⟩
def dW (aa:List PEl)(place:Nat)(x:PEl):List PEl:=aa.take place++[x]++aa.drop place
theorem Ax (place:Nat)(x:PEl)(n:Int):aZ (dW aa place x) n=if x.par=n then dp (aZ aa n) (aZ (aa.take place) n).length x.num else aZ aa n:=by
 unfold dW;rw[eO,eO,qc];have Te:aZ aa n=aZ (aa.take place) n++aZ (aa.drop place) n:=by rw[<-eO,List.take_append_drop]
 by_cases h:x.par=n
 ·rw[aE h,aE h,Te];unfold dp;rw[List.take_left',List.drop_left']<;>rfl
 ·rw[aA h,aA h,Te,List.append_nil]
theorem fV {x e:PEl}:e∈dW aa place x↔e=x∨e∈aa:=by
 unfold dW;rw[List.mem_append,List.mem_append,ft];constructor
 ·rintro((h | h) | h)
  ·exact az (List.mem_of_mem_take h)
  ·exact ax h
  ·exact az (List.mem_of_mem_drop h)
 ·rintro(h | h)
  ·exact ax (az h)
  ·rw[<-List.take_append_drop place aa,List.mem_append] at h;exact h.elim (λx=>ax (ax x)) az
theorem AM (place:Nat)(x:PEl)(h:(aa.map PEl.num).Nodup)(hx:∀e∈aa,e.num≠x.num):((dW aa place x).map PEl.num).Nodup:=by
 have:(dW aa place x).map PEl.num=dp (aa.map PEl.num) place x.num:=by
  unfold dW dp;rw[List.map_append,List.map_append,List.map_take,List.map_drop];rfl
 rw[this]
 exact rf h (λhm=>by
  obtain⟨e,he,h1⟩:=bx.1 hm;exact hx e he h1)
theorem PT.ins (h:PT aa T)(hw:TW T ae)(hp:∃l,(p,l)∈T)(rest:List Value)(hk:(aZ (aa.take place) p).length=k):PT (dW aa place ⟨ae,p,rest⟩) (lT T p k ae):=by
 obtain⟨l0,zg⟩:=hw.root;have h0:0<ae:=hw.lt _ zg
 have bc:∀e∈aa,e.num<ae:=λe he=>by
  obtain⟨l,hl⟩:=h.to' e he;exact hw.lt _ hl
 refine⟨AM _ _ h.nums (λe he=>by have:=bc e he;show e.num≠ae;omega),λe he=>?_,λn l hl=>?_,λn l hl=>?_,λe he h1=>?_⟩
 ·rcases fV.1 he with rfl | he
  ·exact⟨[],cQ.2 (az rfl)⟩
  ·obtain⟨l,hl⟩:=h.to' e he;exact⟨if e.num=p then dp l k ae else l,cQ.2 (ax ⟨(e.num,l),hl,rfl,rfl⟩)⟩
 ·rcases cQ.1 hl with⟨x,hx,h1,_⟩ | h1
  ·obtain⟨e,he,h2⟩:=h.of' x.1 x.2 hx;exact⟨e,fV.2 (az he),h2.trans h1.symm⟩
  ·injection h1 with h1 _
   exact⟨_,fV.2 (ax rfl),h1.symm⟩
 ·rw[Ax];rcases cQ.1 hl with⟨x,hx,h1,h2⟩ | h1
  ·have tc:n=x.1:=h1;have GJ:l=if x.1=p then dp x.2 k ae else x.2:=h2
   have gg:=h.kids x.1 x.2 hx;subst tc;rw[GJ]
   by_cases oN:x.1=p
   ·rw[aE oN,aE (by show(p:Int)=_;rw[oN]),<-gg,oN,hk]
   ·rw[aA oN,aA (by show¬(p:Int)=_;omega),<-gg]
  ·injection h1 with h1 h2
   subst h1 h2;obtain⟨lp,S5⟩:=hp;have fJ:=hw.lt _ S5;rw[aA (by show¬(p:Int)=_;have:p<n:=fJ;omega)];symm;rw[List.eq_nil_iff_forall_not_mem];intro x hx;rw[fU] at hx;obtain⟨e,he,h1,_⟩:=hx;rw[h.par hw he] at h1;rcases db T e.num with⟨h2,_⟩ | ⟨f,hf,_,h2⟩
   ·omega
   ·have:=hw.lt f hf;omega
 ·rcases fV.1 he with rfl | he
  ·have:ae=0:=h1;omega
  ·exact h.root e he h1
theorem sk (p:PEl->Bool)(n:Int):aZ (aa.filter p) n=(aa.filter λe=>p e&&decide (e.par=n)).map PEl.num:=by
 unfold aZ;rw[List.filter_filter]
 congr 1
 refine List.filter_congr λe _=>?_;rw[Bool.and_comm]
theorem uJ (a:Nat)(n:Int):aG a (aZ aa n)=(aa.filter λe=>decide (e.num≠a)&&decide (e.par=n)).map PEl.num:=by
 unfold aG aZ;rw[List.filter_map,List.filter_filter]
 congr 1
 refine List.filter_congr λe _=>?_;show(decide (¬((e.num:Nat):Int)=a)&&_)=_
 congr 1
 by_cases h:e.num=a
 ·simp[h]
 ·simp[h];omega
theorem PT.rem (h:PT aa T)(hw:TW T ae){a:Nat}(ha:(a,la)∈T)(h0:a≠0):PT (aa.filter λe=>!cu T a e.num) (kj T a):=by
 obtain⟨q,hq,hm,hp⟩:=hw.up ha h0
 have hu:∀(e:PEl),(!cu T a e.num)=true↔¬dM T a e.num:=λe=>by
  rw[<-bC];cases cu T a e.num<;>simp
 refine⟨h.nums.sublist (List.filter_sublist.map _),λe he=>?_,λn l hl=>?_,λn l hl=>?_,λe he=>h.root e (dJ.1 he).1⟩
 ·rw[dJ,hu] at he;obtain⟨l,hl⟩:=h.to' e he.1;exact⟨if e.num=q.1 then aG a l else l,(er hp).2 ⟨(e.num,l),hl,he.2,rfl,rfl⟩⟩
 ·obtain⟨x,hx,hxu,h1,_⟩:=(er hp).1 hl;obtain⟨e,he,h2⟩:=h.of' x.1 x.2 hx;refine⟨e,dJ.2 ⟨he,(hu e).2 ?_⟩,h2.trans h1.symm⟩;rw[h2];exact hxu
 ·obtain⟨x,hx,hxu,h1,h2⟩:=(er hp).1 hl;have tc:n=x.1:=h1;have GJ:l=if x.1=q.1 then aG a x.2 else x.2:=h2
  subst tc;have gg:=h.kids x.1 x.2 hx
  have nY:∀e∈aa,e.par=(x.1:Int)->((!cu T a e.num)=true↔e.num≠a):=by
   intro e he hep;rw[hu];have hme:e.num∈x.2:=by rw[gg];exact fU.2 ⟨e,he,hep,rfl⟩
   rw[hw.under_kid hx hme a];exact⟨λh1 h2=>h1 (ax h2),λh1 h2=>h2.elim h1 hxu⟩
  have adX:aZ (aa.filter λe=>!cu T a e.num) x.1=aG a (aZ aa x.1):=by
   rw[sk,uJ]
   congr 1
   refine List.filter_congr λe he=>?_
   by_cases hep:e.par=(x.1:Int)
   ·have:=nY e he hep
    by_cases hea:e.num=a
    ·have h3:(!cu T a e.num)=false:=by
      cases hb:(!cu T a e.num) with
      | false=>rfl
      | true=>exact absurd hea (this.1 hb)
     rw[h3];simp[hea]
    ·rw[this.2 hea];simp[hea]
   ·simp[hep]
  rw[adX,GJ,<-gg];split
  ·rfl
  ·rename_i hn;symm;unfold aG;rw[List.filter_eq_self];intro y hy;rw[bO];intro e;have hya:y=a:=by omega
   subst hya;have:=hw.one x hx q hq y hy hm;rw[this] at hn;exact hn rfl
theorem PT.without (h:PT aa T){e:PEl}(he:aa[place]?=some e):aa.eraseIdx place=aa.filter λx=>decide (x.num≠e.num):=by
 have bc:=(ee.1 he).1;have CP:=(ee.1 he).2
 have Te:aa=aa.take place++e :: aa.drop (place+1):=by
  rw[<-CP,<-List.drop_eq_getElem_cons bc,List.take_append_drop]
 have hn:=h.nums;rw[List.eraseIdx_eq_take_drop_succ]
 conv=>rhs;rw[Te]
 rw[Te] at hn;rw[List.map_append,List.map_cons,List.nodup_append] at hn;rw[List.filter_append,List.filter_cons]
 have h1:(aa.take place).filter (λx=>decide (x.num≠e.num))=aa.take place:=by
  rw[List.filter_eq_self];intro x hx;rw[bO];exact hn.2.2 x.num (bx.2 ⟨x,hx,rfl⟩) e.num (by simp)
 have h2:(aa.drop (place+1)).filter (λx=>decide (x.num≠e.num))=aa.drop (place+1):=by
  rw[List.filter_eq_self];intro x hx;rw[bO];intro h3;have h4:=hn.2.1;rw[List.nodup_cons] at h4;exact h4.1 (bx.2 ⟨x,hx,h3⟩)
 rw[h1,h2];simp
theorem sq (a:Nat)(n:Int):aZ (aa.filter λx=>decide (x.num≠a)) n=aG a (aZ aa n):=by
 rw[sk,uJ]
theorem PT.mov (h:PT aa T)(hw:TW T ae){a:Nat}(ha:(a,la)∈T)(h0:a≠0)(rest:List Value)(hk:(aZ ((aa.filter λx=>decide (x.num≠a)).take place) p).length=k):
  PT (dW (aa.filter λx=>decide (x.num≠a)) place ⟨a,p,rest⟩) (lU T a p k):=by
 obtain⟨q,hq,hm,hp⟩:=hw.up ha h0;have jZ:∀e:PEl,e∈(aa.filter λx=>decide (x.num≠a))↔e∈aa/\e.num≠a:=λe=>by rw[dJ,bO]
 refine⟨AM _ _ (h.nums.sublist (List.filter_sublist.map _)) (λe he=>((jZ e).1 he).2),λe he=>?_,λn l hl=>?_,λn l hl=>?_,λe he h1=>?_⟩
 ·rcases fV.1 he with rfl | he
  ·exact⟨if a=p then dp (aG a (if a=q.1 then aG a la else la)) k a else if a=q.1 then aG a la else la,(ed hp).2 ⟨(a,la),ha,rfl,rfl⟩⟩
  ·obtain⟨l,hl⟩:=h.to' e ((jZ e).1 he).1;exact⟨if e.num=p then dp (aG a (if e.num=q.1 then aG a l else l)) k a else if e.num=q.1 then aG a l else l,(ed hp).2 ⟨(e.num,l),hl,rfl,rfl⟩⟩
 ·obtain⟨x,hx,h1,_⟩:=(ed hp).1 hl;have tc:n=x.1:=h1
  by_cases UW:x.1=a
  ·exact⟨_,fV.2 (ax rfl),by rw[tc,UW]⟩
  ·obtain⟨e,he,h2⟩:=h.of' x.1 x.2 hx;exact⟨e,fV.2 (az ((jZ e).2 ⟨he,by omega⟩)),h2.trans tc.symm⟩
 ·obtain⟨x,hx,h1,h2⟩:=(ed hp).1 hl;have tc:n=x.1:=h1;subst tc;have gg:=h.kids x.1 x.2 hx
  have ol:∀l',(if x.1=q.1 then aG a x.2 else x.2)=l'->l'=aG a x.2:=by
   intro l' h3;rw[<-h3];split
   ·rfl
   ·rename_i hn;symm;unfold aG;rw[List.filter_eq_self];intro y hy;rw[bO];intro e;have hya:y=a:=by omega
    subst hya;have:=hw.one x hx q hq y hy hm;rw[this] at hn;exact hn rfl
  have aeg:=ol _ rfl;have GJ:l=if x.1=p then dp (aG a (if x.1=q.1 then aG a x.2 else x.2)) k a else if x.1=q.1 then aG a x.2 else x.2:=h2
  rw[aeg] at GJ;rw[Ax,sq,<-gg,GJ,sB]
  by_cases oN:x.1=p
  ·rw[aE oN,aE (by show(p:Int)=_;rw[oN]),oN,hk]
  ·rw[aA oN,aA (by show¬(p:Int)=_;omega)]
 ·rcases fV.1 he with rfl | he
  ·exact absurd h1 h0
  ·exact h.root e ((jZ e).1 he).1 h1
end
end
end Go.Proofs.YtblfffbmklkhmabGreat
