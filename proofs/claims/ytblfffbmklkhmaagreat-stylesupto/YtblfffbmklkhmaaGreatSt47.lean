import Derived.Test.YtblfffbmklkhmaaGreatSt46
import Derived.Test.YtblfffbmklkhmaaGreatSt36
import Derived.Test.YtblfffbmklkhmaaGreatSt20
import Derived.Test.YtblfffbmklkhmaaGreatSt25
namespace Go.Proofs.YtblfffbmklkhmaaGreat
open Go.RowKit
structure WnI (w:World) (W:List Clm) (wr:World):Prop where
 rng:wr.rangeAt (w.heap.size+2) 0 (aF W)
 thr:wr.there (w.heap.size+2) 0 63
 res:wr.there (w.heap.size+1) 0 63
 below:Below w.heap.size w wr
 far:w.heap.size+3≤wr.heap.size
theorem WnI.go {w:World} {W:List Clm} {wr w':World} (h:WnI w W wr) (hB:Below wr.heap.size wr w'):WnI w W w':=by
 have h1:=h.far
 have h2:=h.below.size
 exact ⟨ba hB (by omega) h.rng,cG hB (by omega) h.thr,cG hB (by omega) h.res,h.below.trans (hB.mono h2),Nat.le_trans h1 hB.size⟩
theorem dW (b:Nat):∀ (vs:List Value) (o:Nat) (wx:World),(wx.setCells b o vs).heap.size=wx.heap.size
 | [],_,_=>rfl
 | v :: vs,o,wx=>by
  show ((wx.setCell _ v).setCells _ _ vs).heap.size=_
  rw [dW b vs]
  simp
theorem WnI.put {w:World} {W:List Clm} {wr:World} (h:WnI w W wr) {W':List Clm} (hl:W'.length=9):WnI w W' (wr.setCells (w.heap.size+2) 0 (aF W')):=by
 have e:(aF W').length=63:=by rw [fP,hl]
 refine ⟨World.rangeAt_setCells_same wr _ 0 _ (by rw [e];exact h.thr),World.there_setCells h.thr _ _ _,World.there_setCells h.res _ _ _,cq (by omega) _ _ _ h.below,?_⟩
 rw [dW]
 exact h.far
theorem GO (w:World) (A:Array Value) (t1 t2 t3:TypeId) (Z Y:Array Value) (hY:Y.size=63) (hZ:Z=(aF (List.replicate 9 Clm.none)).toArray):WnI w (List.replicate 9 Clm.none) (((w.alloc (.cells A t1)).alloc (.cells Y t2)).alloc (.cells Z t3)):=by
 subst hZ
 have e1:(w.alloc (.cells A t1)).heap.size=w.heap.size+1:=by simp
 have e2:((w.alloc (.cells A t1)).alloc (.cells Y t2)).heap.size=w.heap.size+2:=by simp
 refine ⟨?_,?_,?_,(((Below.refl _ _).alloc (Nat.le_refl _) _).alloc (by simp) _).alloc (by simp;omega) _,by simp⟩
 ·have:=dY ((w.alloc (.cells A t1)).alloc (.cells Y t2)) (aF (List.replicate 9 Clm.none)) t3
  rwa [e2] at this
 ·have:=eF ((w.alloc (.cells A t1)).alloc (.cells Y t2)) (aF (List.replicate 9 Clm.none)).toArray t3 63 (by rw [List.size_toArray,fP,List.length_replicate];decide)
  rwa [e2] at this
 ·have:=eF (w.alloc (.cells A t1)) Y t2 63 (by omega)
  rw [e1] at this
  exact World.there_alloc this _
theorem Gw {els:List PEl} {n:Int} {rs:List cQ} {i:Nat} (h:i<rs.length):bc els (rs.take (i+1)) n=jQ els n (bc els (rs.take i) n) rs[i]:=by
 unfold bc
 rw [List.take_succ_eq_append_getElem h,List.foldl_append]
 rfl
theorem qn {els:List PEl} {n:Int}:∀ {rs:List cQ} {W:List Clm},fw W→(∀ r∈rs,∀ d∈r.ds,d.fine)→fw (rs.foldl (jQ els n) W)
 | [],_,h,_=>h
 | r :: rs,W,h,hd=>by
  rw [List.foldl_cons]
  refine qn ?_ (fun x hx=>hd x (List.mem_cons_of_mem _ hx))
  unfold jQ
  split
  ·exact qZ h (hd r List.mem_cons_self)
  ·exact h
theorem xC:fw (List.replicate 9 Clm.none):=by
 refine ⟨by simp,fun c hc=>?_⟩
 rw [List.eq_of_mem_replicate hc]
 exact ⟨by decide,by decide⟩
section
set_option maxRecDepth 100000
set_option maxHeartbeats 1500000
variable (w:World)
theorem yH (b:Nat) (a:Option Addr) (c:Nat) (els:List PEl) (n:Int) (ar:Option Addr) (cr:Nat) (xs:List Value) (rs:List cQ) (h:TRd w b a c els) (ho:RsRow w ar cr xs rs) :
  Calls Tryz.prog 162 #[.agg #[.slice ar rs.length cr],.pointer (some ⟨b,1,none⟩),.int .i64 n] w fun e w'=>Wm w (bc els rs n) e w':=by
 have HT:Hid (TRd w b a c els):=h
 have HO:Hid (RsRow w ar cr xs rs):=ho
 have bw:=ho.few
 have HF:Hid (∀ i,fw (bc els (rs.take i) n)):=fun i=>qn xC (fun r hr=>(ho.decl r (List.mem_of_mem_take hr)).2)
 clear h ho
 go_enter Tryz.func162,Tryz.ntmps162
 go_wp2_with fail
 go_loopg [15] rs.length (fun gk iv wr=>∃ i:Nat,iv=.int .i64 i∧i≤rs.length∧rs.length - i≤gk∧Hid (WnI w (bc els (rs.take i) n) wr))
 case atStart=>exact ⟨0,rfl,Nat.zero_le _,by omega,GO w _ _ _ _ _ _ rfl rfl⟩
 case round=>
  obtain ⟨i,rfl,hi,fK,HN⟩:=hrel
  have Qj:=HN.out.far
  have iS:=HN.out.below.size
  by_cases aN:i<rs.length
  ·have hd:decide ((i:Int)<(rs.length:Int))=true:=by simp;omega
   obtain ⟨g,hg,db,fN⟩:=aH HO.out.row (by omega)
   subst hg
   obtain ⟨sa,sc,ps,e1,e2,e3⟩:=zy HO.out.ruls aN
   obtain ⟨e0,da,dc,qs,f1,f2,f3⟩:=qC HO.out.ruls aN
   have c0:=(HN.out.below.cell (p:=⟨g,i*3,none⟩) db).trans (fN _ _ e0)
   have c1:=(HN.out.below.cell (p:=⟨g,i*3+1,none⟩) db).trans (fN _ _ e1)
   have c2:=(HN.out.below.cell (p:=⟨g,i*3+2,none⟩) db).trans (fN _ _ f1)
   have gA:Hid (bc els (rs.take (i+1)) n=jQ els n (bc els (rs.take i) n) rs[i]):=Gw aN
   have xQ:Hid (SlRow w sa sc ps rs[i].ss):=⟨e2,e3,(HO.out.short _ (List.getElem_mem aN)).1,(HO.out.short _ (List.getElem_mem aN)).2,HO.out.fine _ (List.getElem_mem aN)⟩
   have MD:Hid (w.ownsRow 0 253 5 (.slice da rs[i].ds.length dc) rs[i].ds.length qs∧Decs qs rs[i].ds∧(∀ d∈rs[i].ds,d.fine)∧rs[i].ds.length≤400):=⟨f2,f3,(HO.out.decl _ (List.getElem_mem aN)).2,(HO.out.decl _ (List.getElem_mem aN)).1⟩
   have TY:Hid (fw (bc els (rs.take i) n)):=HF.out i
   have Zj:Hid (fw (bc els (rs.take (i+1)) n)):=HF.out (i+1)
   clear e0 e1 e2 e3 f1 f2 f3 fN
   generalize rs[i]=r at c0 c1 c2 gA xQ MD
   obtain ⟨ly,ss,ds⟩:=r
   simp only at c0 c1 c2
   replace xQ:Hid (SlRow w sa sc ps ss):=xQ
   replace MD:Hid (w.ownsRow 0 253 5 (.slice da ds.length dc) ds.length qs∧Decs qs ds∧(∀ d∈ds,d.fine)∧ds.length≤400):=MD
   generalize bc els (rs.take i) n=Wi at HN gA TY
   obtain ⟨Wj,Q1⟩:∃ Wj,bc els (rs.take (i+1)) n=Wj:=⟨_,rfl⟩
   have Uj:Hid (bc els (rs.take (i+1)) n=Wj):=Q1
   rw [Q1] at gA Zj
   clear Q1
   have ea:Hid (Below w.heap.size w (wr.alloc (.cells #[.int .i64 ly,.slice sa ss.length sc,.slice da ds.length dc] 138))):=HN.out.below.alloc iS _
   go_wp2_with fail
   refine (uZ _ b a c els n ly sa sc ps ss (.slice da ds.length dc) ⟨_,_,_,rfl⟩ (HT.out.below ea.out) (xQ.out.below ea.out)).mono ?_
   rintro e w1 ⟨rfl,hB⟩
   have nn:Hid (WnI w Wi w1):=(HN.out.go ((Below.refl _ _).alloc (Nat.le_refl _) _)).go hB
   have fO:wr.heap.size<w1.heap.size:=by have:=hB.size;simp at this;omega
   have d0:w1.cell? ⟨wr.heap.size,0,none⟩=some (.int .i64 ly):=(hB.cell (p:=⟨wr.heap.size,0,none⟩) (by simp)).trans (aa (heap_alloc_new wr _) rfl)
   have d1:w1.cell? ⟨wr.heap.size,1,none⟩=some (.slice sa ss.length sc):=(hB.cell (p:=⟨wr.heap.size,1,none⟩) (by simp)).trans (aa (heap_alloc_new wr _) rfl)
   have d2:w1.cell? ⟨wr.heap.size,2,none⟩=some (.slice da ds.length dc):=(hB.cell (p:=⟨wr.heap.size,2,none⟩) (by simp)).trans (aa (heap_alloc_new wr _) rfl)
   have UL:=nn.out.far
   clear hB c0 c1 c2 ea HN
   have Hs:Hid (Wj=if (dJ els n ss).2 then ds.foldl (dL ly (dJ els n ss).1) Wi else Wi):=gA.out
   clear gA
   generalize dJ els n ss=wm at Hs ⊢
   obtain ⟨wt,mt⟩:=wm
   simp only at Hs ⊢
   cases mt with
   | false=>
    have eL:Hid (WnI w Wj w1):=by
     have:Wj=Wi:=Hs.out
     rw [this]
     exact nn.out
    clear Hs
    go_wp2
    go_roundg (rs.length - (i+1))
    case measure=>omega
    case rel=>exact ⟨i+1,by go_num,by omega,Nat.le_refl _,by unfold Hid;rw [Uj.out];exact eL.out⟩
   | true=>
    have fD:Hid (Wj=ds.foldl (dL ly wt) Wi):=Hs.out
    clear Hs
    have Cj:Hid ((Tryz.prog.info? 223).map (·.size)=some (aF Wi).length):=sizeW TY.out.1
    have YF:Hid (w1.ownsRow 0 253 5 (.slice da ds.length dc) ds.length qs):=aQ MD.out.1 nn.out.below
    go_wp2_with (refine wpList_load_mid rfl 223 _ rfl (w.heap.size+2) 0 rfl (aF Wi) _ nn.out.rng Tryz.underlying223 rfl Cj.out ?_)
    refine (Df w1 Wi TY.out ly wt sa ss.length sc da dc qs ds YF.out MD.out.2.1 MD.out.2.2.1 MD.out.2.2.2).mono ?_
    rintro e w2 ⟨rfl,dp⟩
    rw [←fD.out]
    have OG:Hid (WnI w Wi w2):=nn.out.go dp
    have eL:Hid (WnI w Wj (w2.setCells (w.heap.size+2) 0 (aF Wj))):=OG.out.put Zj.out.1
    have bR:(aF Wj).toArray.size=63:=List.size_toArray.trans (by rw [fP,Zj.out.1])
    have rp:Hid (w2.there (w.heap.size+2) 0 (aF Wj).toArray.size):=by unfold Hid;rw [bR];exact OG.out.thr
    have Bo:Hid ((Tryz.prog.info? 223).map (·.size)=some (aF Wj).toArray.size):=by unfold Hid;rw [bR];exact Tryz.sizeW
    have BQ:Hid ((aF Wj).toArray.all (·.oneCell')=true):=all_oneCell_toArray (sK Wj)
    clear dp bR d0 d1 d2 fD Cj
    go_wp2_with (refine wpList_store_mid rfl 223 _ _ rfl (w.heap.size+2) 0 (aF Wj).toArray rfl rfl rp.out Bo.out BQ.out ?_)
    go_roundg (rs.length - (i+1))
    case measure=>omega
    case rel=>exact ⟨i+1,by go_num,by omega,Nat.le_refl _,by unfold Hid;rw [Uj.out];exact eL.out⟩
  ·have hd:decide ((i:Int)<(rs.length:Int))=false:=by simp;omega
   obtain rfl:i=rs.length:=by omega
   rw [List.take_length] at HN
   have IV:Hid (fw (bc els rs n)):=by have:=HF.out rs.length;rwa [List.take_length] at this
   obtain ⟨Wn,QU⟩:∃ Wn,bc els rs n=Wn:=⟨_,rfl⟩
   rw [QU] at HN IV
   have ON:Hid (bc els rs n=Wn):=QU
   clear QU
   have Cj:Hid ((Tryz.prog.info? 223).map (·.size)=some (aF Wn).length):=sizeW IV.out.1
   have bR:(aF Wn).toArray.size=63:=List.size_toArray.trans (by rw [fP,IV.out.1])
   have Bo:Hid ((Tryz.prog.info? 223).map (·.size)=some (aF Wn).toArray.size):=by unfold Hid;rw [bR];exact Tryz.sizeW
   have rp:Hid (wr.there (w.heap.size+1) 0 (aF Wn).toArray.size):=by unfold Hid;rw [bR];exact HN.out.res
   have BQ:Hid ((aF Wn).toArray.all (·.oneCell')=true):=all_oneCell_toArray (sK Wn)
   have yn:Hid ((wr.setCells (w.heap.size+1) 0 (aF Wn)).rangeAt (w.heap.size+1) 0 (aF Wn)):=World.rangeAt_setCells_same wr _ 0 _ (by have:=rp.out;rwa [show (aF Wn).toArray.size=(aF Wn).length from List.size_toArray] at this)
   have r8:Hid (Below w.heap.size w (wr.setCells (w.heap.size+1) 0 (aF Wn))):=cq (by omega) _ _ _ HN.out.below
   clear bR
   go_wp2_with (first | (refine wpList_load_mid rfl 223 _ rfl (w.heap.size+2) 0 rfl (aF Wn) _ HN.out.rng Tryz.underlying223 rfl Cj.out ?_) | (refine wpList_store_mid rfl 223 _ _ rfl (w.heap.size+1) 0 (aF Wn).toArray rfl rfl rp.out Bo.out BQ.out ?_))
   exact bodyPost_ret (fS Tryz.results162 _ rfl yn.out Tryz.underlying223 rfl Cj.out) rfl ⟨by rw [ON.out],r8.out⟩
end
end Go.Proofs.YtblfffbmklkhmaaGreat
namespace Go.Proofs.YtblfffbmklkhmaaGreat
open Go.RowKit
def eH (cs:List cO) (kd lt:Int):Bool:=cs.any fun c=>c.ps.any fun p=>decide (p.kd=kd)&&decide (p.lt=lt)
theorem xI (rs:List cQ) (kd lt:Int):eI rs kd lt=rs.any fun r=>r.ss.any fun cs=>eH cs kd lt:=rfl
section
set_option maxRecDepth 100000
set_option maxHeartbeats 4000000
theorem AZ (w:World) (ac:Option Addr) (cc:Nat) (xs:List Value) (cs:List cO) (kd lt:Int) (ho:ClRow w ac cc xs cs):Calls Tryz.prog 74 #[.agg #[.slice ac cs.length cc],.int .i64 kd,.int .u8 lt] w fun e w'=>bh w (eH cs kd lt) e w':=by
 have HO:Hid (ClRow w ac cc xs cs):=ho
 have bw:=ho.few
 clear ho
 go_enter Tryz.func74,Tryz.ntmps74
 go_wp2_with fail
 go_loopg [14] cs.length (fun gk iv wr=>∃ i:Nat,iv=.int .i64 i∧i≤cs.length∧cs.length - i≤gk∧Hid (Below w.heap.size w wr∧∀ j (_:j<cs.length),j<i→(cs[j].ps.any fun p=>decide (p.kd=kd)&&decide (p.lt=lt))=false))
 case atStart=>exact ⟨0,rfl,Nat.zero_le _,by omega,(Below.refl _ _).alloc (Nat.le_refl _) _,fun j _ h=>by omega⟩
 case round=>
  obtain ⟨i,rfl,hi,fK,HN⟩:=hrel
  obtain ⟨wo,rfl⟩:∃ wo,wo=wr:=⟨_,rfl⟩
  have iS:=HN.out.1.size
  by_cases aN:i<cs.length
  ·have hd:decide ((i:Int)<(cs.length:Int))=true:=by simp;omega
   obtain ⟨g,hg,db,fN⟩:=aH HO.out.row (by omega)
   subst hg
   obtain ⟨ap,cp,ps,e0,e1,e2,e3,e4⟩:=pC HO.out.comps aN
   have c0:=(HN.out.1.cell (p:=⟨g,i*3,none⟩) db).trans (fN _ _ e0)
   have c1:=(HN.out.1.cell (p:=⟨g,i*3+1,none⟩) db).trans (fN _ _ e1)
   have c2:=(HN.out.1.cell (p:=⟨g,i*3+2,none⟩) db).trans (fN _ _ e2)
   have zH:Hid (w.ownsRow 0 192 5 (.slice ap cs[i].ps.length cp) cs[i].ps.length ps∧Kinds ps cs[i].ps):=⟨e3,e4⟩
   have kL:=HO.out.short _ (List.getElem_mem aN)
   have jl:Hid ((cs[i].ps.any fun p=>decide (p.kd=kd)&&decide (p.lt=lt))=false→∀ j (_:j<cs.length),j<i+1→(cs[j].ps.any fun p=>decide (p.kd=kd)&&decide (p.lt=lt))=false):=fun hm j hj h1=>by
    by_cases e:j=i
    ·subst e;exact hm
    ·exact HN.out.2 j hj (by omega)
   have HY:Hid ((cs[i].ps.any fun p=>decide (p.kd=kd)&&decide (p.lt=lt))=true→eH cs kd lt=true):=fun h=>by
    unfold eH
    rw [List.any_eq_true]
    exact ⟨cs[i],List.getElem_mem aN,h⟩
   clear e0 e1 e2 e3 e4 fN
   generalize cs[i].sg=sg at c0
   generalize (cs[i].ty:Int)=ty at c1
   generalize cs[i].ps=pl at c2 zH kL jl HY
   have ed:Hid (Below w.heap.size w (wo.alloc (.cells #[.int .u8 sg,.int .u8 ty,.slice ap pl.length cp] 190))):=HN.out.1.alloc iS _
   clear HN
   go_wp2_with fail
   go_loopg [21] pl.length (fun gk iv wr=>∃ k:Nat,iv=.int .i64 k∧k≤pl.length∧pl.length - k≤gk∧Hid (Below w.heap.size w wr∧∀ j (_:j<pl.length),j<k→¬ (pl[j].kd=kd∧pl[j].lt=lt)))
   case atStart=>exact ⟨0,rfl,Nat.zero_le _,by omega,ed.out,fun j _ h=>by omega⟩
   case round=>
    obtain ⟨k,rfl,hk,r7,HJ⟩:=hrel
    have Tv:=HJ.out.1.size
    by_cases mB:k<pl.length
    ·have iL:decide ((k:Int)<(pl.length:Int))=true:=by simp;omega
     obtain ⟨g2,hJ,mj,zi⟩:=aH zH.out.1 (by omega)
     subst hJ
     obtain ⟨e0,e1,e2,e3,e4⟩:=mA zH.out.2 mB
     have k0:=(HJ.out.1.cell (p:=⟨g2,k*5,none⟩) mj).trans (zi _ _ e0)
     have k1:=(HJ.out.1.cell (p:=⟨g2,k*5+1,none⟩) mj).trans (zi _ _ e1)
     have k2:=(HJ.out.1.cell (p:=⟨g2,k*5+2,none⟩) mj).trans (zi _ _ e2)
     have k3:=(HJ.out.1.cell (p:=⟨g2,k*5+3,none⟩) mj).trans (zi _ _ e3)
     have k4:=(HJ.out.1.cell (p:=⟨g2,k*5+4,none⟩) mj).trans (zi _ _ e4)
     have P9:Hid (¬ (pl[k].kd=kd∧pl[k].lt=lt)→∀ j (_:j<pl.length),j<k+1→¬ (pl[j].kd=kd∧pl[j].lt=lt)):=fun hm j hj h1=>by
      by_cases e:j=k
      ·subst e;exact hm
      ·exact HJ.out.2 j hj (by omega)
     have Ue:Hid (pl[k].kd=kd∧pl[k].lt=lt→eH cs kd lt=true):=fun h=>HY.out (by
      rw [List.any_eq_true]
      exact ⟨pl[k],List.getElem_mem mB,by simp [h.1,h.2]⟩)
     clear e0 e1 e2 e3 e4 zi
     generalize pl[k].nt=pnt at k0
     generalize pl[k].kd=pkd at k1 P9 Ue
     generalize pl[k].lt=plt at k2 P9 Ue
     generalize pl[k].st=pst at k3
     generalize pl[k].sr=psr at k4
     have ji:Hid (Below w.heap.size w (wr.alloc (.cells #[.bool pnt,.int .i64 pkd,.int .u8 plt,.int .i64 pst,.int .i64 psr] 192))):=HJ.out.1.alloc Tv _
     by_cases h1:pkd=kd
     ·have g1:(pkd==kd)=true:=by simp [h1]
      by_cases h2:plt=lt
      ·have g2:(plt==lt)=true:=by simp [h2]
       have HR:Hid (bh w (eH cs kd lt) (.returned (.bool true)) (wr.alloc (.cells #[.bool pnt,.int .i64 pkd,.int .u8 plt,.int .i64 pst,.int .i64 psr] 192))):=⟨by rw [Ue.out ⟨h1,h2⟩],ji.out⟩
       clear h1 h2
       go_wp2
       go_ret
       exact HR.out
      ·have g2:(plt==lt)=false:=by simp [h2]
       have rW:Hid (Below w.heap.size w (wr.alloc (.cells #[.bool pnt,.int .i64 pkd,.int .u8 plt,.int .i64 pst,.int .i64 psr] 192))∧∀ j (_:j<pl.length),j<k+1→¬ (pl[j].kd=kd∧pl[j].lt=lt)):=⟨ji.out,P9.out (fun h=>h2 h.2)⟩
       clear h1 h2
       go_wp2
       go_roundg (pl.length - (k+1))
       case measure=>omega
       case rel=>exact ⟨k+1,by go_num,by omega,Nat.le_refl _,rW⟩
     ·have g1:(pkd==kd)=false:=by simp [h1]
      have rW:Hid (Below w.heap.size w (wr.alloc (.cells #[.bool pnt,.int .i64 pkd,.int .u8 plt,.int .i64 pst,.int .i64 psr] 192))∧∀ j (_:j<pl.length),j<k+1→¬ (pl[j].kd=kd∧pl[j].lt=lt)):=⟨ji.out,P9.out (fun h=>h1 h.1)⟩
      clear h1
      go_wp2
      go_roundg (pl.length - (k+1))
      case measure=>omega
      case rel=>exact ⟨k+1,by go_num,by omega,Nat.le_refl _,rW⟩
    ·have iL:decide ((k:Int)<(pl.length:Int))=false:=by simp;omega
     have eL:Hid (Below w.heap.size w wr∧∀ j (_:j<cs.length),j<i+1→(cs[j].ps.any fun p=>decide (p.kd=kd)&&decide (p.lt=lt))=false):=by
      refine ⟨HJ.out.1,jl.out ?_⟩
      rw [List.any_eq_false]
      intro p hp hx
      obtain ⟨j,hj,rfl⟩:=List.getElem_of_mem hp
      refine HJ.out.2 j hj (by omega) ?_
      simpa using hx
     clear HJ
     go_wp2
     go_roundg (cs.length - (i+1))
     case measure=>omega
     case rel=>exact ⟨i+1,by go_num,by omega,Nat.le_refl _,eL⟩
  ·have hd:decide ((i:Int)<(cs.length:Int))=false:=by simp;omega
   have HR:Hid (bh w (eH cs kd lt) (.returned (.bool false)) wo):=by
    refine ⟨?_,HN.out.1⟩
    have:eH cs kd lt=false:=by
     unfold eH
     rw [List.any_eq_false]
     intro x hx
     obtain ⟨j,hj,rfl⟩:=List.getElem_of_mem hx
     rw [HN.out.2 j hj (by omega)]
     decide
    rw [this]
   go_wp2
   go_ret
   exact HR.out
theorem mD (w:World) (ar:Option Addr) (cr:Nat) (xs:List Value) (rs:List cQ) (kd lt:Int) (ho:RsRow w ar cr xs rs):Calls Tryz.prog 40 #[.agg #[.slice ar rs.length cr],.int .i64 kd,.int .u8 lt] w fun e w'=>bh w (eI rs kd lt) e w':=by
 have HO:Hid (RsRow w ar cr xs rs):=ho
 have bw:=ho.few
 clear ho
 go_enter Tryz.func40,Tryz.ntmps40
 go_wp2_with fail
 go_loopg [14] rs.length (fun gk iv wr=>∃ i:Nat,iv=.int .i64 i∧i≤rs.length∧rs.length - i≤gk∧Hid (Below w.heap.size w wr∧∀ j (_:j<rs.length),j<i→(rs[j].ss.any fun cs=>eH cs kd lt)=false))
 case atStart=>exact ⟨0,rfl,Nat.zero_le _,by omega,(Below.refl _ _).alloc (Nat.le_refl _) _,fun j _ h=>by omega⟩
 case round=>
  obtain ⟨i,rfl,hi,fK,HN⟩:=hrel
  obtain ⟨wo,rfl⟩:∃ wo,wo=wr:=⟨_,rfl⟩
  have iS:=HN.out.1.size
  by_cases aN:i<rs.length
  ·have hd:decide ((i:Int)<(rs.length:Int))=true:=by simp;omega
   obtain ⟨g,hg,db,fN⟩:=aH HO.out.row (by omega)
   subst hg
   obtain ⟨sa,sc,ps,e1,e2,e3⟩:=zy HO.out.ruls aN
   obtain ⟨e0,da,dc,qs,f1,f2,f3⟩:=qC HO.out.ruls aN
   have c0:=(HN.out.1.cell (p:=⟨g,i*3,none⟩) db).trans (fN _ _ e0)
   have c1:=(HN.out.1.cell (p:=⟨g,i*3+1,none⟩) db).trans (fN _ _ e1)
   have c2:=(HN.out.1.cell (p:=⟨g,i*3+2,none⟩) db).trans (fN _ _ f1)
   have xQ:Hid (SlRow w sa sc ps rs[i].ss):=⟨e2,e3,(HO.out.short _ (List.getElem_mem aN)).1,(HO.out.short _ (List.getElem_mem aN)).2,HO.out.fine _ (List.getElem_mem aN)⟩
   have jl:Hid ((rs[i].ss.any fun cs=>eH cs kd lt)=false→∀ j (_:j<rs.length),j<i+1→(rs[j].ss.any fun cs=>eH cs kd lt)=false):=fun hm j hj h1=>by
    by_cases e:j=i
    ·subst e;exact hm
    ·exact HN.out.2 j hj (by omega)
   have HY:Hid ((rs[i].ss.any fun cs=>eH cs kd lt)=true→eI rs kd lt=true):=fun h=>by
    rw [xI,List.any_eq_true]
    exact ⟨rs[i],List.getElem_mem aN,h⟩
   clear e0 e1 e2 e3 f1 f2 f3 fN
   generalize rs[i].ly=ly at c0
   generalize rs[i].ds.length=nd at c2
   generalize rs[i].ss=ss at c1 xQ jl HY
   have UH:=xQ.out.few
   have ed:Hid (Below w.heap.size w (wo.alloc (.cells #[.int .i64 ly,.slice sa ss.length sc,.slice da nd dc] 138))):=HN.out.1.alloc iS _
   clear HN
   go_wp2_with fail
   go_loopg [21] ss.length (fun gk iv wr=>∃ k:Nat,iv=.int .i64 k∧k≤ss.length∧ss.length - k≤gk∧Hid (Below w.heap.size w wr∧∀ j (_:j<ss.length),j<k→eH ss[j] kd lt=false))
   case atStart=>exact ⟨0,rfl,Nat.zero_le _,by omega,ed.out,fun j _ h=>by omega⟩
   case round=>
    obtain ⟨k,rfl,hk,r7,HJ⟩:=hrel
    have Tv:=HJ.out.1.size
    by_cases mB:k<ss.length
    ·have iL:decide ((k:Int)<(ss.length:Int))=true:=by simp;omega
     obtain ⟨g2,hJ,mj,zi⟩:=aH xQ.out.row (by omega)
     subst hJ
     obtain ⟨ca,cc,qs2,e0,e1,e2⟩:=ya xQ.out.sels mB
     have k0:=(HJ.out.1.cell (p:=⟨g2,k,none⟩) mj).trans (zi _ _ e0)
     have Ca:Hid (ClRow w ca cc qs2 ss[k]):=⟨e1,e2,(xQ.out.short _ (List.getElem_mem mB)).1,(xQ.out.short _ (List.getElem_mem mB)).2,xQ.out.fine _ (List.getElem_mem mB)⟩
     have P9:Hid (eH ss[k] kd lt=false→∀ j (_:j<ss.length),j<k+1→eH ss[j] kd lt=false):=fun hm j hj h1=>by
      by_cases e:j=k
      ·subst e;exact hm
      ·exact HJ.out.2 j hj (by omega)
     have Ue:Hid (eH ss[k] kd lt=true→eI rs kd lt=true):=fun h=>HY.out (by
      rw [List.any_eq_true]
      exact ⟨ss[k],List.getElem_mem mB,h⟩)
     clear e0 e1 e2 zi
     generalize ss[k]=cs at k0 Ca P9 Ue
     have ji:Hid (Below w.heap.size w (wr.alloc (.cells #[.slice ca cs.length cc] 141))):=HJ.out.1.alloc Tv _
     clear HJ
     go_wp2_with fail
     refine (AZ _ ca cc qs2 cs kd lt (Ca.out.below ji.out)).mono ?_
     rintro e w3 ⟨rfl,eS⟩
     have AJ:Hid (Below w.heap.size w w3):=ji.out.trans (eS.mono ji.out.size)
     clear eS ji k0
     cases hr:eH cs kd lt with
     | true=>
      have HR:Hid (bh w (eI rs kd lt) (.returned (.bool true)) w3):=⟨by rw [Ue.out hr],AJ.out⟩
      clear hr
      go_wp2
      go_ret
      exact HR.out
     | false=>
      have rW:Hid (Below w.heap.size w w3∧∀ j (_:j<ss.length),j<k+1→eH ss[j] kd lt=false):=⟨AJ.out,P9.out hr⟩
      clear hr
      go_wp2
      go_roundg (ss.length - (k+1))
      case measure=>omega
      case rel=>exact ⟨k+1,by go_num,by omega,Nat.le_refl _,rW⟩
    ·have iL:decide ((k:Int)<(ss.length:Int))=false:=by simp;omega
     have eL:Hid (Below w.heap.size w wr∧∀ j (_:j<rs.length),j<i+1→(rs[j].ss.any fun cs=>eH cs kd lt)=false):=by
      refine ⟨HJ.out.1,jl.out ?_⟩
      rw [List.any_eq_false]
      intro p hp
      obtain ⟨j,hj,rfl⟩:=List.getElem_of_mem hp
      rw [HJ.out.2 j hj (by omega)]
      decide
     clear HJ
     go_wp2
     go_roundg (rs.length - (i+1))
     case measure=>omega
     case rel=>exact ⟨i+1,by go_num,by omega,Nat.le_refl _,eL⟩
  ·have hd:decide ((i:Int)<(rs.length:Int))=false:=by simp;omega
   have HR:Hid (bh w (eI rs kd lt) (.returned (.bool false)) wo):=by
    refine ⟨?_,HN.out.1⟩
    have:eI rs kd lt=false:=by
     rw [xI,List.any_eq_false]
     intro x hx
     obtain ⟨j,hj,rfl⟩:=List.getElem_of_mem hx
     rw [HN.out.2 j hj (by omega)]
     decide
    rw [this]
   go_wp2
   go_ret
   exact HR.out
end
end Go.Proofs.YtblfffbmklkhmaaGreat
namespace Go.Proofs.YtblfffbmklkhmaaGreat
open Go.RowKit
section
set_option maxRecDepth 100000
set_option maxHeartbeats 2000000
variable (w:World) (px:Value) (T:aA) (made:Nat) (M:Nat→Mk) (rs:List cQ) (kl:List (Int × List Int)) (F:Nat→Prop)
theorem uJ {T:aA} {n:Int} {l:List Nat} (h:bn T n=some l):(n.toNat,l)∈T∧n=(n.toNat:Int):=by
 obtain ⟨k,rfl,hk⟩:=fx h
 exact ⟨by simpa using hk,by omega⟩
theorem KQ {n:Int} {s:ByteArray} (h:bK T n s=0):∃ l,bn T n=some l:=by
 unfold bK at h
 cases ht:bn T n with
 | none=>rw [ht] at h;cases h
 | some l=>exact ⟨l,rfl⟩
theorem La {n:Int} {s:ByteArray} (h:bM T n s=0):∃ l,bn T n=some l:=by
 unfold bM at h
 cases ht:bn T n with
 | none=>rw [ht] at h;cases h
 | some l=>exact ⟨l,rfl⟩
def uQ (n:Int) (s:ByteArray) (on:Bool) (e:Ending) (w':World):Prop:=
 ∃ y iN,e=.returned (.int .i64 y)∧y=bK T n s∧DSk w' px T made (if y=0 then bQ M n.toNat (jz (M n.toNat) s on) else M) rs iN (bu F w)∧Fr w w' F∧iN.Sublist kl
theorem JJ (n:Int) (s:ByteArray) (on:Bool) (h:DSk w px T made M rs kl F):Calls Tryz.prog 46 #[px,.int .i64 n,.string s,.bool on] w fun e w'=>uQ w px T made M rs kl F n s on e w':=by
 obtain ⟨b,vS,v,els,G,rfl,h2,h3,h4,h5,h6,h7⟩:=h
 have HB:Hid (DM w b vS v els T made M rs kl G∧KOK T M rs kl∧F b∧(∀ j,v.ownBlock=some j→F j)∧(∀ j,vS.2.ownBlock=some j→F j)∧∀ k,G k→F k):=⟨h2,h3,h4,h5,h6,h7⟩
 clear h2 h3 h4 h5 h6 h7
 go_enter Tryz.func46,Tryz.ntmps46
 go_wp2_with fail
 refine (Jo w b vS v els T made n s on HB.out.1.pb HB.out.1.tw HB.out.1.mks.2).mono ?_
 rintro e w1 ⟨lt,y,bm,rfl,hy,hp,hf,eV,hm⟩
 have UM:Hid (MkO bm (if y=0 then bQ M n.toNat (jz (M n.toNat) s on) else M)∧(y=0→lt=bt s 0∨(97≤bt s 0∧(M n.toNat).cl (bt s 0 - 97)=on))):=by
  by_cases h0:y=0
  ·have:=hm M HB.out.1.mks h0
   rw [if_pos h0]
   exact ⟨this.1,fun _=>this.2⟩
  ·rw [if_neg h0,eV h0]
   exact ⟨HB.out.1.mks,fun h=>absurd h h0⟩
 have ju:Hid (DM w1 b vS v bm T made (if y=0 then bQ M n.toNat (jz (M n.toNat) s on) else M) rs kl G):=HB.out.1.inpl hp UM.out.1 hf
 have xY:Hid (Fr w w1 F):=hf.mono (fun k hk=>HB.out.2.2.2.1 k hk)
 have HY:Hid (y=bK T n s):=hy
 obtain ⟨ar,cr,xs,EB,fY⟩:=ju.out.sh.row
 have q0:w1.cell? ⟨b,0,none⟩=some (.slice ar rs.length cr):=by
  have:w1.cell? ⟨b,0,none⟩=some vS.1:=aa ju.out.pb.doc rfl
  rw [this,EB]
 have Ht:Hid (RsRow w1 ar cr xs rs):=fY
 clear hp hf hm eV hy fY EB
 go_wp2_with fail
 refine (mD w1 ar cr xs rs 2 lt Ht.out).mono ?_
 rintro e w2 ⟨rfl,dp⟩
 have n9:Hid (DM w2 b vS v bm T made (if y=0 then bQ M n.toNat (jz (M n.toNat) s on) else M) rs kl G):=ju.out.below dp
 have qT:Hid (Fr w w2 F):=xY.out.below dp
 clear dp ju xY Ht q0
 cases Cb:eI rs 2 lt with
 | false=>
  have HE:Hid (uQ w (.pointer (some ⟨b,0,none⟩)) T made M rs kl F n s on (.returned (.int .i64 y)) w2):=by
   refine ⟨y,kl,rfl,HY.out,⟨b,vS,v,bm,G,rfl,n9.out,?_,Or.inl HB.out.2.2.1,fun j hj=>Or.inl (HB.out.2.2.2.1 j hj),fun j hj=>Or.inl (HB.out.2.2.2.2.1 j hj),fun k hk=>Or.inl (HB.out.2.2.2.2.2 k hk)⟩,qT.out,List.Sublist.refl _⟩
   by_cases h0:y=0
   ·rw [if_pos h0]
    refine HB.out.2.1.cls HB.out.1.tw s on ?_
    rcases UM.out.2 h0 with h1 | h1
    ·exact Or.inl (by rw [←h1];exact Cb)
    ·exact Or.inr h1
   ·rw [if_neg h0]
    exact HB.out.2.1
  clear Cb
  go_wp2
  go_ret
  exact HE.out
 | true=>
  clear Cb
  go_wp2_with fail
  refine (iw w2 b vS v bm T made _ rs kl G n n9.out).mono ?_
  rintro e w3 ⟨rfl,v2,iL,bo,jr⟩
  have HE:Hid (uQ w (.pointer (some ⟨b,0,none⟩)) T made M rs kl F n s on (.returned (.int .i64 y)) w3):=by
   refine ⟨y,dD (cR bm n) kl,rfl,HY.out,⟨b,(vS.1,v2),v,bm,G,rfl,iL,?_,Or.inl HB.out.2.2.1,fun j hj=>Or.inl (HB.out.2.2.2.1 j hj),fun j hj=>Or.inr (Nat.le_trans qT.out.size (jr j hj)),fun k hk=>Or.inl (HB.out.2.2.2.2.2 k hk)⟩,qT.out.trans (bo.mono (fun k hk=>hk▸HB.out.2.2.1)),dy _ _⟩
   by_cases h0:y=0
   ·rw [if_pos h0]
    obtain ⟨l,hl⟩:=KQ T (HY.out.symm.trans h0)
    obtain ⟨yj,hn⟩:=uJ hl
    refine HB.out.2.1.mark HB.out.1.tw yj _ (dy _ _) (fun x hx j hj=>?_)
    obtain ⟨j',lj,sb,FO⟩:=HB.out.2.1.els x ((dy _ _).subset hx)
    have:j'=j:=by omega
    subst this
    rw [hn] at hx
    exact lx iL.pb.pt iL.tw yj hx hj FO
   ·rw [if_neg h0]
    exact HB.out.2.1.sub (dy _ _)
  clear iL bo jr
  go_wp2
  go_ret
  exact HE.out
def mR (n:Int) (s:ByteArray) (e:Ending) (w':World):Prop:=
 ∃ y iN,e=.returned (.int .i64 y)∧y=bM T n s∧DSk w' px T made (if y=0 then bQ M n.toNat (fy (M n.toNat) s) else M) rs iN (bu F w)∧Fr w w' F∧iN.Sublist kl
theorem Ld (n:Int) (s:ByteArray) (h:DSk w px T made M rs kl F):Calls Tryz.prog 21 #[px,.int .i64 n,.string s] w fun e w'=>mR w px T made M rs kl F n s e w':=by
 obtain ⟨b,vS,v,els,G,rfl,h2,h3,h4,h5,h6,h7⟩:=h
 have HB:Hid (DM w b vS v els T made M rs kl G∧KOK T M rs kl∧F b∧(∀ j,v.ownBlock=some j→F j)∧(∀ j,vS.2.ownBlock=some j→F j)∧∀ k,G k→F k):=⟨h2,h3,h4,h5,h6,h7⟩
 clear h2 h3 h4 h5 h6 h7
 go_enter Tryz.func21,Tryz.ntmps21
 go_wp2_with fail
 refine (Jb w b vS v els T made n s HB.out.1.pb HB.out.1.tw HB.out.1.mks.2).mono ?_
 rintro e w1 ⟨eP,Hc,y,bm,rfl,hy,hp,hf,eV,hm⟩
 have UM:Hid (MkO bm (if y=0 then bQ M n.toNat (fy (M n.toNat) s) else M)∧(y=0→eP=(M n.toNat).nm∧Hc=(fy (M n.toNat) s).nm)∧(¬ y=0→eP=Hc)):=by
  by_cases h0:y=0
  ·have:=hm M HB.out.1.mks h0
   rw [if_pos h0]
   exact ⟨this.1,fun _=>this.2,fun h=>absurd h0 h⟩
  ·rw [if_neg h0,(eV h0).1]
   exact ⟨HB.out.1.mks,fun h=>absurd h h0,fun _=>(eV h0).2⟩
 have ju:Hid (DM w1 b vS v bm T made (if y=0 then bQ M n.toNat (fy (M n.toNat) s) else M) rs kl G):=HB.out.1.inpl hp UM.out.1 hf
 have xY:Hid (Fr w w1 F):=hf.mono (fun k hk=>HB.out.2.2.2.1 k hk)
 have HY:Hid (y=bM T n s):=hy
 obtain ⟨ar,cr,xs,EB,fY⟩:=ju.out.sh.row
 have q0:w1.cell? ⟨b,0,none⟩=some (.slice ar rs.length cr):=by
  have:w1.cell? ⟨b,0,none⟩=some vS.1:=aa ju.out.pb.doc rfl
  rw [this,EB]
 have Ht:Hid (RsRow w1 ar cr xs rs):=fY
 have jI:=ju.out.lt
 clear hp hf hm eV hy fY EB
 go_wp2_with fail
 refine (mD w1 ar cr xs rs 3 eP Ht.out).mono ?_
 rintro e w2 ⟨rfl,dp⟩
 have q2:w2.cell? ⟨b,0,none⟩=some (.slice ar rs.length cr):=(dp.cell (p:=⟨b,0,none⟩) jI).trans q0
 have Vu:Hid (RsRow w2 ar cr xs rs):=Ht.out.below dp
 have ea:Hid (Below w1.heap.size w1 w2):=dp
 clear dp q0 Ht
 obtain ⟨ot,Ym⟩:∃ ot,eI rs 3 eP=ot:=⟨_,rfl⟩
 have HOT:Hid (eI rs 3 eP=ot):=Ym
 rw [Ym]
 clear Ym
 go_wp2_with fail
 refine (mD w2 ar cr xs rs 3 Hc Vu.out).mono ?_
 rintro e w3 ⟨rfl,eS⟩
 have ji:Hid (Below w1.heap.size w1 w3):=ea.out.trans (eS.mono ea.out.size)
 have n9:Hid (DM w3 b vS v bm T made (if y=0 then bQ M n.toNat (fy (M n.toNat) s) else M) rs kl G):=ju.out.below ji.out
 have qT:Hid (Fr w w3 F):=xY.out.below ji.out
 clear eS ea ji ju xY Vu q2
 obtain ⟨nt,Nr⟩:∃ nt,eI rs 3 Hc=nt:=⟨_,rfl⟩
 have Z3:Hid (eI rs 3 Hc=nt):=Nr
 rw [Nr]
 clear Nr
 have HEN:Hid ((eP=Hc∨(ot=false∧nt=false))→mR w (.pointer (some ⟨b,0,none⟩)) T made M rs kl F n s (.returned (.int .i64 y)) w3):=fun hc=>by
  refine ⟨y,kl,rfl,HY.out,⟨b,vS,v,bm,G,rfl,n9.out,?_,Or.inl HB.out.2.2.1,fun j hj=>Or.inl (HB.out.2.2.2.1 j hj),fun j hj=>Or.inl (HB.out.2.2.2.2.1 j hj),fun k hk=>Or.inl (HB.out.2.2.2.2.2 k hk)⟩,qT.out,List.Sublist.refl _⟩
  by_cases h0:y=0
  ·rw [if_pos h0]
   obtain ⟨e1,e2⟩:=UM.out.2.1 h0
   refine HB.out.2.1.nam HB.out.1.tw s ?_
   rw [←e1,←e2]
   rcases hc with hc | ⟨h1,h2⟩
   ·exact Or.inl hc
   ·exact Or.inr ⟨by rw [HOT.out];exact h1,by rw [Z3.out];exact h2⟩
  ·rw [if_neg h0]
   exact HB.out.2.1
 have HTU:Hid (∀ w4,oH w3 b vS v bm T made (if y=0 then bQ M n.toNat (fy (M n.toNat) s) else M) rs kl G n (.returned (.tuple #[])) w4→mR w (.pointer (some ⟨b,0,none⟩)) T made M rs kl F n s (.returned (.int .i64 y)) w4):=fun w4 ⟨_,v2,iL,bo,jr⟩=>by
  refine ⟨y,dD (cR bm n) kl,rfl,HY.out,⟨b,(vS.1,v2),v,bm,G,rfl,iL,?_,Or.inl HB.out.2.2.1,fun j hj=>Or.inl (HB.out.2.2.2.1 j hj),fun j hj=>Or.inr (Nat.le_trans qT.out.size (jr j hj)),fun k hk=>Or.inl (HB.out.2.2.2.2.2 k hk)⟩,qT.out.trans (bo.mono (fun k hk=>hk▸HB.out.2.2.1)),dy _ _⟩
  by_cases h0:y=0
  ·rw [if_pos h0]
   obtain ⟨l,hl⟩:=La T (HY.out.symm.trans h0)
   obtain ⟨yj,hn⟩:=uJ hl
   refine HB.out.2.1.mark HB.out.1.tw yj _ (dy _ _) (fun x hx j hj=>?_)
   obtain ⟨j',lj,sb,FO⟩:=HB.out.2.1.els x ((dy _ _).subset hx)
   have:j'=j:=by omega
   subst this
   rw [hn] at hx
   exact lx iL.pb.pt iL.tw yj hx hj FO
  ·rw [if_neg h0]
   exact HB.out.2.1.sub (dy _ _)
 by_cases Pk:eP=Hc
 ·have gn:(eP != Hc)=false:=by simp [Pk]
  have HE:=HEN.out (Or.inl Pk)
  clear Pk
  go_wp2
  go_ret
  exact HE
 ·have gn:(eP != Hc)=true:=by simp [Pk]
  clear Pk
  cases ot with
  | true=>
   go_wp2_with fail
   refine (iw w3 b vS v bm T made _ rs kl G n n9.out).mono ?_
   intro e w4 ht
   obtain ⟨rfl,_⟩:=id ht
   have HE:Hid (mR w (.pointer (some ⟨b,0,none⟩)) T made M rs kl F n s (.returned (.int .i64 y)) w4):=HTU.out w4 ht
   clear ht
   go_wp2
   go_ret
   exact HE.out
  | false=>
   cases nt with
   | true=>
    go_wp2_with fail
    refine (iw w3 b vS v bm T made _ rs kl G n n9.out).mono ?_
    intro e w4 ht
    obtain ⟨rfl,_⟩:=id ht
    have HE:Hid (mR w (.pointer (some ⟨b,0,none⟩)) T made M rs kl F n s (.returned (.int .i64 y)) w4):=HTU.out w4 ht
    clear ht
    go_wp2
    go_ret
    exact HE.out
   | false=>
    have HE:=HEN.out (Or.inr ⟨rfl,rfl⟩)
    go_wp2
    go_ret
    exact HE
def uX (s:ByteArray) (e:Ending) (w':World):Prop:=
 ∃ y iN,e=.returned (.int .i64 y)∧y=(fa s).1∧DSk w' px T made M (if y=0 then dQ s else rs) iN (bu F w)∧Fr w w' F∧iN=if y=0 then [] else kl
theorem L4 (s:ByteArray) (hs:s.size≤maxLen) (h:DSk w px T made M rs kl F):Calls Tryz.prog 28 #[px,.string s] w fun e w'=>uX w px T made M rs kl F s e w':=by
 obtain ⟨b,vS,v,els,G,rfl,h2,h3,h4,h5,h6,h7⟩:=h
 have HB:Hid (DM w b vS v els T made M rs kl G∧KOK T M rs kl∧F b∧(∀ j,v.ownBlock=some j→F j)∧(∀ j,vS.2.ownBlock=some j→F j)∧∀ k,G k→F k):=⟨h2,h3,h4,h5,h6,h7⟩
 clear h2 h3 h4 h5 h6 h7
 go_enter Tryz.func28,Tryz.ntmps28
 go_wp2_with fail
 refine (uk w s hs).mono ?_
 rintro e w1 ⟨a,n,c,rfl,cF,q9⟩
 by_cases hc:(fa s).1=0
 ·have Fn:Hid (SheetIn w1 (fun k=>w.heap.size≤k∧k<w1.heap.size) (.slice a n c) (dQ s)):=by
   obtain ⟨rs,xs,h1,h2,h3,h4⟩:=q9 hc
   exact AA hc h1 h2 h3 h4
  have HCK:Hid ((fa s).1=0):=hc
  have ju:Hid (DM (w1.alloc (.cells #[.slice a n c] 82)) b vS v els T made M rs kl G):=HB.out.1.below (cF.alloc cF.size _)
  have ed:Hid (Below w.heap.size w w1):=cF
  rw [hc]
  have sy:Hid ((w1.alloc (.cells #[.slice a n c] 82)).heap[b]?=some (mb vS v made)):=ju.out.pb.doc
  have q0:(w1.alloc (.cells #[.slice a n c] 82)).cell? ⟨b,0,none⟩=some vS.1:=aa sy.out rfl
  have q3:(w1.alloc (.cells #[.slice a n c] 82)).cell? ⟨b,3,none⟩=some vS.2:=aa sy.out rfl
  have qf:∀ j,(w1.alloc (.cells #[.slice a n c] 82)).frozen? ⟨b,j,none⟩=false:=fun _=>ag sy.out
  have qs:(w1.alloc (.cells #[.slice a n c] 82)).cell? ⟨w1.heap.size,0,none⟩=some (.slice a n c):=aa (heap_alloc_new w1 _) rfl
  have jI:b<w.heap.size:=HB.out.1.lt
  have iS:=cF.size
  have HE:Hid (uX w (.pointer (some ⟨b,0,none⟩)) T made M rs kl F s (.returned (.int .i64 0)) (((w1.alloc (.cells #[.slice a n c] 82)).setCell ⟨b,0,none⟩ (.slice a n c)).setCell ⟨b,3,none⟩ (.slice none 0 0))):=by
   have h1:((w1.alloc (.cells #[.slice a n c] 82)).setCell ⟨b,0,none⟩ (.slice a n c)).heap[b]?=some (mb (.slice a n c,vS.2) v made):=by rw [aq sy.out];rfl
   have h2:(((w1.alloc (.cells #[.slice a n c] 82)).setCell ⟨b,0,none⟩ (.slice a n c)).setCell ⟨b,3,none⟩ (.slice none 0 0)).heap[b]?=some (mb (.slice a n c,.slice none 0 0) v made):=by rw [aq h1];rfl
   have eV:=aj ju.out.pb.pl.row sy.out (by decide)
   have hH:Fr w (((w1.alloc (.cells #[.slice a n c] 82)).setCell ⟨b,0,none⟩ (.slice a n c)).setCell ⟨b,3,none⟩ (.slice none 0 0)) (fun k=>k=b):=((((Fr.refl w (fun k=>k=b)).below ed.out).alloc _).set (p:=⟨b,0,none⟩) (Or.inl rfl) _).set (p:=⟨b,3,none⟩) (Or.inl rfl) _
   refine ⟨0,[],rfl,HCK.out.symm,⟨b,(.slice a n c,.slice none 0 0),v,els,fun k=>w.heap.size≤k∧k<w1.heap.size,rfl,⟨⟨h2,⟨aX (aX ju.out.pb.pl.row eV _) eV _,ju.out.pb.pl.ok⟩,ju.out.pb.pt,ju.out.pb.few⟩,ju.out.tw,ju.out.mks,?_,⟨World.ownsRow_nil _ _ _ _,fun x hx=>by cases hx⟩,by simp,fun k hk=>by have:=hk.2;simp;omega,fun hk=>by have:=hk.1;omega,fun j hj hk=>?_,fun j hj=>by simp [Value.ownBlock] at hj⟩,?_,Or.inl HB.out.2.2.1,fun j hj=>Or.inl (HB.out.2.2.2.1 j hj),fun j hj=>by simp [Value.ownBlock] at hj,fun k hk=>Or.inr hk.1⟩,hH.mono (fun k hk=>hk▸HB.out.2.2.1),by rw [if_pos rfl]⟩
   ·rw [if_pos rfl]
    refine Fn.out.keep (fun k hk hl=>?_) (by simp)
    have E5:k≠b:=by have:=hk.1;omega
    exact (Below.heap_setCell _ ⟨b,3,none⟩ _ k E5).trans ((Below.heap_setCell _ ⟨b,0,none⟩ _ k E5).trans (Below.heap_alloc w1 _ k hl))
   ·have h5:=(HB.out.1.pb.pl.row.lt j hj).2
    have:=hk.1
    omega
   ·exact FD
  clear q9 hc sy ju Fn cF
  generalize (fa s).2=place
  go_wp2
  go_ret
  exact HE.out
 ·have hgt:((fa s).1 != 0)=true:=by simp [hc]
  have HE:Hid (uX w (.pointer (some ⟨b,0,none⟩)) T made M rs kl F s (.returned (.int .i64 (fa s).1)) (w1.alloc (.cells #[.slice a n c] 82))):=by
   refine ⟨(fa s).1,kl,rfl,rfl,⟨b,vS,v,els,G,rfl,?_,?_,Or.inl HB.out.2.2.1,fun j hj=>Or.inl (HB.out.2.2.2.1 j hj),fun j hj=>Or.inl (HB.out.2.2.2.2.1 j hj),fun k hk=>Or.inl (HB.out.2.2.2.2.2 k hk)⟩,(Fr.refl w F).below (cF.alloc cF.size _),by rw [if_neg hc]⟩
   ·rw [if_neg hc]
    exact HB.out.1.below (cF.alloc cF.size _)
   ·rw [if_neg hc]
    exact HB.out.2.1
  clear q9 hc cF
  generalize (fa s).2=place
  generalize (fa s).1=y at hgt HE ⊢
  go_wp2
  go_ret
  exact HE.out
end
end Go.Proofs.YtblfffbmklkhmaaGreat
