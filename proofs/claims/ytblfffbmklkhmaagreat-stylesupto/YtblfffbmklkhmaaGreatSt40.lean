import Derived.Test.YtblfffbmklkhmaaGreatSt39
import Derived.BigRegion
import Derived.Deep.RegionHeld3
import Derived.Test.YtblfffbmklkhmaaGreatSt35
import Derived.Test.YtblfffbmklkhmaaGreatSt37
namespace Go.Proofs.YtblfffbmklkhmaaGreat
open Go.RowKit
theorem Gc (s:ByteArray):s.toList.isEmpty=true↔s.size=0:=by
 constructor
 ·intro h
  rcases Nat.eq_zero_or_pos s.size with h1 | h1
  ·exact h1
  ·rw [fR s h1] at h
   cases h
 ·intro h
  rw [dX h]
  unfold ByteArray.toList
  unfold ByteArray.toList.loop
  rw [if_neg (by decide)]
  rfl
set_option maxRecDepth 100000 in
set_option maxHeartbeats 40000000 in
theorem Hp (w:World) (d:Nat) (els:List REl) (made:Nat) (hp:Option Addr) (vT:Value) (aR:Bool) (vL:Value) (h:RD w d els made hp vT aR vL) (rk:Nat→Nat) (hr:lM els rk) (kI:∀ y∈els,y.cl.size≤maxLen)
  (rs:List dx) (hs:WX w hp rs) (oE:∀ x∈rs,Db x) (MX:rs.length≤400) (mf:∀ r,kb rs r≤1000000) :
  Calls Tryz.prog 140 #[.pointer (some ⟨d,0,none⟩)] w fun e w'=>Pn w els rs e w':=by
 have bw:=h.few
 obtain ⟨i0,hi,gx,gw,gB⟩:=info_parts Tryz.infoq234
 obtain ⟨j0,hj,Tz,T7,TE⟩:=info_parts Tryz.info236
 have Ci:∀ u:World,(Instr.makeSlice 119 (.int .i64 (els.length:Int)) (.int .i64 (els.length:Int))).run Tryz.prog u=.ok (.slice (some ⟨u.heap.size,0,none⟩) els.length els.length) (u.alloc (.cells (madeCells zT (els.length*9)) 234)):=fun u=>by
  have h:=run_make (P:=Tryz.prog) u 119 234 i0 (.agg zT) Tryz.underlying119 hi gx .i64 .i64 (els.length:Int) (els.length:Int) (by omega) (Int.le_refl _) (by rw [gB];omega) (by omega)
  simpa [gw,Value.cells] using h
 have ZH:∀ u:World,(Instr.makeSlice 230 (.int .i64 (els.length:Int)) (.int .i64 (els.length:Int))).run Tryz.prog u=.ok (.slice (some ⟨u.heap.size,0,none⟩) els.length els.length) (u.alloc (.cells (madeCells zB (els.length*54)) 236)):=fun u=>by
  have h:=run_make (P:=Tryz.prog) u 230 236 j0 (.agg zB) Tryz.underlying230 hj Tz .i64 .i64 (els.length:Int) (els.length:Int) (by omega) (Int.le_refl _) (by rw [TE];omega) (by omega)
  simpa [T7,Value.cells] using h
 obtain ⟨aL,cL,sX⟩:=h.shape
 subst sX
 obtain ⟨b,a,c,xs,mn,rfl,vz,Sq,OR⟩:=hs
 have HR:Hid (RD w d els made (some ⟨b,0,none⟩) vT aR (.slice aL els.length cL)∧lM els rk∧∀ y∈els,y.cl.size≤maxLen):=⟨h,hr,kI⟩
 have HS:Hid (Sh w b (.slice a rs.length c) mn∧w.ownsRow 0 164 3 (.slice a rs.length c) rs.length xs∧(∀ r (h:r<rs.length),WD w xs r rs[r])∧(∀ x∈rs,Db x)∧∀ r,kb rs r≤1000000):=⟨vz,Sq,OR,oE,mf⟩
 have HB:Hid (w.heap[d]?=some (.cells #[.pointer (some ⟨b,0,none⟩),.slice aL els.length cL,.int .i64 made,vT,.bool aR] 121 (0,0))):=h.doc
 have d1:=h.c1
 have d1b:=(h.below ((Below.refl _ _).alloc (Nat.le_refl _) (.cells (madeCells zT (els.length*9)) 234))).c1
 clear h hr kI vz Sq OR oE mf
 have WY:Hid (TB w els.length ((w.alloc (.cells (madeCells zT (els.length*9)) 234)).alloc (.cells (madeCells zB (els.length*54)) 236)) (qh els rs 0)):=by
  refine ⟨(Gb w w.heap.size els.length (Nat.le_refl _) bw).alloc _,?_,((Below.refl _ _).alloc (Nat.le_refl _) _).alloc (by simp) _⟩
  have:=Gu (w.alloc (.cells (madeCells zT (els.length*9)) 234)) w.heap.size els.length (by simp) bw
  simpa [qh] using this
 go_enter Tryz.func140,Tryz.ntmps140
 go_upto_region 3 with fail
 generalize (w.alloc (.cells (madeCells zT (els.length*9)) 234)).alloc (.cells (madeCells zB (els.length*54)) 236)=W1 at WY ⊢
 clear d1 d1b Ci ZH hi hj gx gw gB Tz T7 TE
 go_wp2_with fail
 go_loopg [5,6] rs.length (fun gk nv rv wr=>∃ r:Nat,nv=.int .i64 (kb rs r:Nat)∧rv=.int .i64 r∧r≤rs.length∧rs.length - r≤gk∧Hid (TB w els.length wr (qh els rs r)))
 case atStart=>exact ⟨0,rfl,rfl,Nat.zero_le _,by omega,WY⟩
 case round=>
  obtain ⟨r,rfl,rfl,jC,fK,HT⟩:=hrel
  have d0:wr.cell? ⟨d,0,none⟩=some (.pointer (some ⟨b,0,none⟩)):=aa (HR.out.1.below HT.out.below).doc rfl
  have s0:wr.cell? ⟨b,0,none⟩=some (.slice a rs.length c):=(HT.out.below.cell (p:=⟨b,0,none⟩) HS.out.1.lt).trans HS.out.1.c0
  by_cases aN:r<rs.length
  ·have hd:decide ((r:Int)<(rs.length:Int))=true:=by simp;omega
   have Uo:(r:Int)<(rs.length:Int):=by omega
   obtain ⟨g,hg,db,fN⟩:=aH HS.out.2.1 (by omega)
   subst hg
   obtain ⟨aS,cS,aD,cD,ys,x1,x2,x3,x4,x5,x6⟩:=HS.out.2.2.1 r aN
   have Ng:=HS.out.2.2.2.1 _ (List.getElem_mem aN)
   have TQ:Hid (qh els rs (r+1)=mX els.length (fun i=>(br els rs[r].sels rs[r].sels.length)[i]?.getD 0) rs[r].ly rs[r].dl (kb rs r) (qh els rs r) rs[r].dl.length∧kb rs (r+1)=kb rs r+rs[r].dl.length):=by
    refine ⟨?_,?_⟩
    ·show (match rs[r]? with | none=>_ | some x=>_)=_
     rw [List.getElem?_eq_getElem aN]
    ·show kb rs r+(rs[r]?.map fun x=>x.dl.length).getD 0=_
     rw [List.getElem?_eq_getElem aN]
     rfl
   have mf:=HS.out.2.2.2.2 r
   generalize kb rs r=n0 at TQ mf ⊢
   generalize qh els rs r=S0 at HT TQ
   generalize rs[r]=x at x1 x2 x3 x4 x5 x6 Ng TQ
   have HX:Hid (Db x∧w.ownsRow 0 166 1 (.slice aS x.sels.length cS) x.sels.length ys∧SelsM w 0 ys x.sels∧w.ownsRow 0 229 3 (.slice aD x.dl.length cD) x.dl.length (jx x.dl)):=⟨Ng,x4,x5,x6⟩
   have hdf:=Ng.few
   have Ux:Hid (∀ wq,Below w.heap.size w wq→wq.cell? ⟨d,0,none⟩=some (.pointer (some ⟨b,0,none⟩))∧wq.cell? ⟨b,0,none⟩=some (.slice (some ⟨g,0,none⟩) rs.length c)∧wq.cell? ⟨g,r*3,none⟩=some (.int .i64 x.ly)∧wq.cell? ⟨g,r*3+1,none⟩=some (.slice aS x.sels.length cS)∧wq.cell? ⟨g,r*3+2,none⟩=some (.slice aD x.dl.length cD)):=fun wq hB=>
    ⟨aa (HR.out.1.below hB).doc rfl,(hB.cell (p:=⟨b,0,none⟩) HS.out.1.lt).trans HS.out.1.c0,(hB.cell (p:=⟨g,r*3,none⟩) db).trans (fN _ _ x1),(hB.cell (p:=⟨g,r*3+1,none⟩) db).trans (fN _ _ x2),(hB.cell (p:=⟨g,r*3+2,none⟩) db).trans (fN _ _ x3)⟩
   clear x1 x2 x3 x4 x5 x6 Ng fN d0 s0
   obtain ⟨d0,s0,q0,q1,q2⟩:=Ux.out wr HT.out.below
   go_wp2_with fail
   refine (IM wr d els made _ vT aR _ (HR.out.1.below HT.out.below) rk HR.out.2.1 HR.out.2.2 0 x.ly aS cS _ x.sels ys (aQ HX.out.2.1 HT.out.below) (HX.out.2.2.1.below HT.out.below) HX.out.1.sok HX.out.1.sels).mono ?_
   rintro e w2 ⟨ah,ch,rfl,TL,dp⟩
   have hl:=eN els x.sels x.sels.length
   generalize br els x.sels x.sels.length=l at TQ TL hl ⊢
   have HH0:Hid (TH w els.length w2 (mX els.length (fun i=>l[i]?.getD 0) x.ly x.dl n0 S0 0) ah ch l):=⟨HT.out.go dp,aG TL HT.out.far⟩
   have Vg:Hid (_∧_):=⟨fK,aN⟩
   clear TL dp HT d0 s0 q0 q1 q2 fK aN jC hd
   go_wp2_with fail
   go_loopg [5,8] x.dl.length (fun H7 nv dv wq=>∃ dd:Nat,nv=.int .i64 (n0+dd:Nat)∧dv=.int .i64 dd∧dd≤x.dl.length∧x.dl.length - dd≤H7∧Hid (TH w els.length wq (mX els.length (fun i=>l[i]?.getD 0) x.ly x.dl n0 S0 dd) ah ch l))
   case atStart=>exact ⟨0,rfl,rfl,Nat.zero_le _,by omega,HH0⟩
   case round=>
    obtain ⟨dd,rfl,rfl,Qy,r7,HH⟩:=hrel
    obtain ⟨d0,s0,q0,q1,q2⟩:=Ux.out wr HH.out.tb.below
    by_cases hdt:dd<x.dl.length
    ·have iL:decide ((dd:Int)<(x.dl.length:Int))=true:=by simp;omega
     have adJ:(dd:Int)<(x.dl.length:Int):=by omega
     obtain ⟨gD,Wg,Es,CO⟩:=aH HX.out.2.2.2 (by omega)
     subst Wg
     obtain ⟨f0,f1,f2⟩:=Jx hdt
     have e0:=(HH.out.tb.below.cell (p:=⟨gD,dd*3,none⟩) Es).trans (CO _ _ f0)
     have e1:=(HH.out.tb.below.cell (p:=⟨gD,dd*3+1,none⟩) Es).trans (CO _ _ f1)
     have e2:=(HH.out.tb.below.cell (p:=⟨gD,dd*3+2,none⟩) Es).trans (CO _ _ f2)
     obtain ⟨q,hq,Hf⟩:=HX.out.1.dok _ (List.getElem_mem hdt)
     have Xa:Hid (mX els.length (fun i=>l[i]?.getD 0) x.ly x.dl n0 S0 (dd+1)=fj (mX els.length (fun i=>l[i]?.getD 0) x.ly x.dl n0 S0 dd) ⟨x.dl[dd],x.ly,0,(n0:Int)+dd+1⟩ (fun i=>l[i]?.getD 0) q els.length):=by
      show (match x.dl[dd]? with | none=>_ | some x=>_)=_
      rw [List.getElem?_eq_getElem hdt]
      show fj _ _ _ (Gp _) _=_
      unfold Gp
      rw [hq,show ((n0+dd+1:Nat):Int)=(n0:Int)+dd+1 from by omega]
      rfl
     have HQ:Hid (eh x.dl[dd].pr=some q):=hq
     clear hq
     have U0:Hid (Below w.heap.size w (wr.alloc (.cells #[.int .u8 0,.string ⟨#[]⟩,.bool false,.int .i64 0,.int .i64 0,.int .i64 0] 233))):=HH.out.tb.below.alloc HH.out.tb.below.size _
     obtain ⟨d0a,s0a,q0a,q1a,q2a⟩:=Ux.out _ U0.out
     have e0a:=(U0.out.cell (p:=⟨gD,dd*3,none⟩) Es).trans (CO _ _ f0)
     have e1a:=(U0.out.cell (p:=⟨gD,dd*3+1,none⟩) Es).trans (CO _ _ f1)
     have e2a:=(U0.out.cell (p:=⟨gD,dd*3+2,none⟩) Es).trans (CO _ _ f2)
     clear f0 f1 f2 CO Es q1 q1a
     generalize x.dl[dd]=y at e0 e1 e2 e0a e1a e2a Xa HQ
     generalize mX els.length (fun i=>l[i]?.getD 0) x.ly x.dl n0 S0 dd=S1 at HH Xa
     go_upto_region 12 with fail
     go_region
     have VJ:Hid (TI w els.length ((wr.alloc (.cells #[.int .u8 y.pr,.string y.val,.bool y.must,.int .i64 x.ly,.int .i64 0,.int .i64 ((n0:Int)+dd+1)] 233)).drew) S1 ah ch l wr.heap.size ⟨y,x.ly,0,(n0:Int)+dd+1⟩):=by
      have hB:Below wr.heap.size wr ((wr.alloc (.cells #[.int .u8 y.pr,.string y.val,.bool y.must,.int .i64 x.ly,.int .i64 0,.int .i64 ((n0:Int)+dd+1)] 233)).drew):=((Below.refl _ _).alloc (Nat.le_refl _) _).drew
      exact ⟨HH.out.go hB,⟨0,heap_alloc_new wr _⟩,HH.out.tb.far,fun e=>by have:=(HH.out.hv.lt _ e).2;omega⟩
     clear HH U0 d0 s0 q0 q2 d0a s0a q0a q2a e0 e1 e2 e0a e1a e2a
     generalize (wr.alloc (.cells #[.int .u8 y.pr,.string y.val,.bool y.must,.int .i64 x.ly,.int .i64 0,.int .i64 ((n0:Int)+dd+1)] 233)).drew=W3 at VJ ⊢
     generalize wr.heap.size=b9 at VJ ⊢
     have FJ:W3.cell? ⟨b9,0,none⟩=some (.int .u8 y.pr):=by
      obtain ⟨h4,hb⟩:=VJ.out.blk
      exact aa hb rfl
     go_wp2_with fail
     refine (nL W3 y.pr).mono ?_
     rintro e w4 ⟨p,rfl,rfl,HP⟩
     obtain ⟨W3,rfl⟩:∃ W3,W3=w4:=⟨_,rfl⟩
     have lC:q=p:=by
      have h1:=HQ.out
      rcases HP.out with ⟨_,h2⟩ | ⟨_,h2⟩
      ·rw [h1] at h2;injection h2
      ·rw [h1] at h2;cases h2
     subst lC
     clear HP HQ FJ
     generalize hCe:(⟨y,x.ly,0,(n0:Int)+dd+1⟩:Cl)=C at VJ Xa
     have HCE:Hid (C.d=y∧C.ly=x.ly∧C.no=(n0:Int)+dd+1):=by rw [←hCe];exact ⟨rfl,rfl,rfl⟩
     have Ag:Hid (_∧_):=⟨r7,hdt⟩
     clear hCe r7 hdt Qy iL Uo mf
     go_wp2_with fail
     go_loopg [11] els.length (fun UG iv wq=>∃ i:Nat,iv=.int .i64 i∧i≤els.length∧els.length - i≤UG∧Hid (TI w els.length wq (fj S1 C (fun i=>l[i]?.getD 0) q i) ah ch l b9 C))
     case atStart=>exact ⟨0,rfl,Nat.zero_le _,by omega,VJ.out.tab (CW _ _ _ _).symm⟩
     case round=>as_aux_lemma=>
      obtain ⟨i,rfl,adK,LM,HI⟩:=hrel
      have d1:=(HR.out.1.below HI.out.th.tb.below).c1
      by_cases hit:i<els.length
      ·have Bi:decide ((i:Int)<(els.length:Int))=true:=by simp;omega
       have aeB:(i:Int)<(els.length:Int):=by omega
       have afF:(q:Int)<9:=by omega
       obtain ⟨gh,hgh,aeA,VU⟩:=aH HI.out.th.hv (by omega)
       subst hgh
       obtain ⟨v,hv⟩:∃ v,l[i]?=some v:=⟨_,List.getElem?_eq_getElem (by omega)⟩
       have k0:=VU i (.int .i64 v) (by rw [List.getElem?_map,hv];rfl)
       obtain ⟨h4,IP⟩:=HI.out.blk
       have c4:wr.cell? ⟨b9,4,none⟩=some (.int .i64 h4):=aa IP rfl
       have cz:∀ k,wr.frozen? ⟨b9,k,none⟩=false:=fun k=>ag IP
       have Cm:Hid (TI w els.length (wr.setCell ⟨b9,4,none⟩ (.int .i64 v)) (fj S1 C (fun i=>l[i]?.getD 0) q i) (some ⟨gh,0,none⟩) ch l b9 C∧(wr.setCell ⟨b9,4,none⟩ (.int .i64 v)).heap[b9]?=some (.cells #[.int .u8 C.d.pr,.string C.d.val,.bool C.d.must,.int .i64 C.ly,.int .i64 v,.int .i64 C.no] 233 (0,0))):=HI.out.setH v
       have k1:(wr.setCell ⟨b9,4,none⟩ (.int .i64 v)).cell? ⟨gh,i,none⟩=some (.int .i64 v):=by
        obtain ⟨g2,hJ,_,yI⟩:=aH Cm.out.1.th.hv (by omega)
        injection hJ with hJ
        injection hJ with hJ
        rw [hJ]
        exact yI i (.int .i64 v) (by rw [List.getElem?_map,hv];rfl)
       have gA:Hid (fj S1 C (fun i=>l[i]?.getD 0) q (i+1)=eR (fj S1 C (fun i=>l[i]?.getD 0) q i) i q (qO v C (fj S1 C (fun i=>l[i]?.getD 0) q i i q))):=by
        unfold Hid
        rw [Dk,JN]
        show eR _ _ _ (qO (l[i]?.getD 0) _ _)=_
        rw [hv]
        rfl
       clear VU IP hv HI
       generalize fj S1 C (fun i=>l[i]?.getD 0) q i=S2 at Cm gA
       by_cases mp:v<0
       ·have gn:decide (v<0)=true:=by simpa using mp
        have sd:Hid (TI w els.length (wr.setCell ⟨b9,4,none⟩ (.int .i64 v)) (fj S1 C (fun i=>l[i]?.getD 0) q (i+1)) (some ⟨gh,0,none⟩) ch l b9 C):=by
         refine Cm.out.1.tab ?_
         rw [gA.out]
         unfold qO
         rw [if_pos mp,rL]
        clear Cm gA mp
        go_wp2
        go_roundg (els.length - (i+1))
        case measure=>omega
        case rel=>exact ⟨i+1,by go_num,by omega,Nat.le_refl _,sd⟩
       ·have gn:decide (v<0)=false:=by simpa using mp
        have HNG:Hid (¬ v<0):=mp
        clear mp
        go_upto_region 19 with fail
        generalize wr.setCell ⟨b9,4,none⟩ (.int .i64 v)=W4 at Cm ⊢
        clear k0 k1 c4 cz d1 gn h4
        have o0:W4.cell? ⟨w.heap.size,i*9+q,none⟩=some (.string (S2 i q).1):=(Cm.out.1.th.tb.out.cellAt _ (by omega)).trans (BT hit Hf)
        have Zf:Hid (((S2 i q).1.toList.isEmpty=true↔(S2 i q).1.size=0)):=Gc _
        have Cf:Hid (∀ bb:Bool,(qO v C (S2 i q)=(if ((S2 i q).1.toList.isEmpty||bb)=true then (C.d.val,{C with hv:=v}) else S2 i q))∨bb≠t7 {C with hv:=v} (S2 i q).2):=fun bb=>by
         by_cases hb:bb=t7 {C with hv:=v} (S2 i q).2
         ·left
          unfold qO
          rw [if_neg HNG.out,hb]
          by_cases he:(S2 i q).1.toList.isEmpty=true
          ·rw [if_pos (Or.inl (Zf.out.1 he)),he,Bool.true_or,if_pos rfl]
          ·have G7:(S2 i q).1.toList.isEmpty=false:=by simpa using he
           rw [G7,Bool.false_or]
           by_cases hw:t7 {C with hv:=v} (S2 i q).2=true
           ·rw [if_pos (Or.inr hw),if_pos hw]
           ·rw [if_neg (fun h=>h.elim (fun h=>he (Zf.out.2 h)) hw),if_neg hw]
         ·exact Or.inr hb
        clear HNG Zf
        obtain ⟨eP,tg⟩:∃ eP,S2 i q=eP:=⟨_,rfl⟩
        have yx:Hid (S2 i q=eP):=tg
        rw [tg] at Cf gA o0
        clear tg
        obtain ⟨fe,FC⟩:∃ fe,eP.1.toList.isEmpty=fe:=⟨_,rfl⟩
        rw [FC] at Cf
        have Vh:Hid (eP.1.toList.isEmpty=fe):=FC
        have m0:W4.cell? ⟨b9,0,none⟩=some (.int .u8 C.d.pr):=aa Cm.out.2 rfl
        have W9:Hid (∀ wx,Below W4.heap.size W4 wx→(wx.cell? ⟨b9,0,none⟩=some (.int .u8 C.d.pr)∧wx.cell? ⟨b9,1,none⟩=some (.string C.d.val)∧wx.cell? ⟨b9,2,none⟩=some (.bool C.d.must)∧wx.cell? ⟨b9,3,none⟩=some (.int .i64 C.ly)∧wx.cell? ⟨b9,4,none⟩=some (.int .i64 v)∧wx.cell? ⟨b9,5,none⟩=some (.int .i64 C.no))∧(wx.cell? ⟨w.heap.size+1,i*54+q*6,none⟩=some (.int .u8 eP.2.d.pr)∧wx.cell? ⟨w.heap.size+1,i*54+q*6+1,none⟩=some (.string eP.2.d.val)∧wx.cell? ⟨w.heap.size+1,i*54+q*6+2,none⟩=some (.bool eP.2.d.must)∧wx.cell? ⟨w.heap.size+1,i*54+q*6+3,none⟩=some (.int .i64 eP.2.ly)∧wx.cell? ⟨w.heap.size+1,i*54+q*6+4,none⟩=some (.int .i64 eP.2.hv)∧wx.cell? ⟨w.heap.size+1,i*54+q*6+5,none⟩=some (.int .i64 eP.2.no))):=fun wx hB=>by
         have hb:=(hB.block b9 (Array.getElem?_eq_some_iff.1 Cm.out.2).1).trans Cm.out.2
         have EE:=aQ Cm.out.1.th.tb.best hB
         have e:∀ r,r<6→wx.cell? ⟨w.heap.size+1,i*54+q*6+r,none⟩=some (rl eP.2 r):=fun r hr=>by
          rw [←yx.out]
          exact (EE.cellAt _ (by omega)).trans (Bw hit Hf hr)
         exact ⟨⟨aa hb rfl,aa hb rfl,aa hb rfl,aa hb rfl,aa hb rfl,aa hb rfl⟩,e 0 (by omega),e 1 (by omega),e 2 (by omega),e 3 (by omega),e 4 (by omega),e 5 (by omega)⟩
        have H0:Hid (Below W4.heap.size W4 W4.drew):=(Below.refl _ W4).drew
        have XF:b9<W4.heap.size:=(Array.getElem?_eq_some_iff.1 Cm.out.2).1
        have Yx:w.heap.size+1<W4.heap.size:=by have:=Cm.out.1.th.tb.far;omega
        clear m0
        go_wp2_with fail
        clear FC o0
        go_cut [13] from 99 to 150 (fun bv wx=>∃ bb:Bool,bv=.bool bb∧Hid (bb=t7 {C with hv:=v} eP.2∧Below W4.heap.size W4 wx))
        case first=>
         go_region_held3 (fun w'=>(w'.cell? ⟨b9,0,none⟩=some (.int .u8 C.d.pr)∧w'.cell? ⟨b9,1,none⟩=some (.string C.d.val)∧w'.cell? ⟨b9,2,none⟩=some (.bool C.d.must)∧w'.cell? ⟨b9,3,none⟩=some (.int .i64 C.ly)∧w'.cell? ⟨b9,4,none⟩=some (.int .i64 v)∧w'.cell? ⟨b9,5,none⟩=some (.int .i64 C.no))∧(w'.cell? ⟨w.heap.size+1,i*54+q*6,none⟩=some (.int .u8 eP.2.d.pr)∧w'.cell? ⟨w.heap.size+1,i*54+q*6+1,none⟩=some (.string eP.2.d.val)∧w'.cell? ⟨w.heap.size+1,i*54+q*6+2,none⟩=some (.bool eP.2.d.must)∧w'.cell? ⟨w.heap.size+1,i*54+q*6+3,none⟩=some (.int .i64 eP.2.ly)∧w'.cell? ⟨w.heap.size+1,i*54+q*6+4,none⟩=some (.int .i64 eP.2.hv)∧w'.cell? ⟨w.heap.size+1,i*54+q*6+5,none⟩=some (.int .i64 eP.2.no))) (first | exact W9.out _ HX.out | exact W9.out _ H0.out)
          (first | (go_at_call 168;refine (Mn _ C.d.pr C.d.val C.d.must C.ly v C.no eP.2.d.pr eP.2.d.val eP.2.d.must eP.2.ly eP.2.hv eP.2.no).mono ?_;rintro e w5 ⟨rfl,ww⟩;have HX:Hid (Below W4.heap.size W4 w5):=H0.out.trans ww;clear ww))
         all_goals
          go_wp2_with fail
          go_meet
          exact ⟨_,rfl,rfl,HX.out⟩
        case rest=>
         obtain ⟨bb,rfl,rE⟩:=hcut
         obtain ⟨W5,rfl⟩:∃ W5,W5=wc:=⟨_,rfl⟩
         have HUB:Hid (qO v C eP=if (fe||bb)=true then (C.d.val,{C with hv:=v}) else eP):=(Cf.out bb).resolve_right (fun h=>h rE.out.1)
         have Ck:Hid (TI w els.length W5 S2 (some ⟨gh,0,none⟩) ch l b9 C):=Cm.out.1.go rE.out.2
         obtain ⟨⟨c0,c1,c2,c3,c4,c5⟩,k0,k1,k2,k3,k4,k5⟩:=W9.out _ rE.out.2
         have Nc:Hid (W5.heap[b9]?=some (.cells #[.int .u8 C.d.pr,.string C.d.val,.bool C.d.must,.int .i64 C.ly,.int .i64 v,.int .i64 C.no] 233 (0,0))):=(rE.out.2.block b9 (Array.getElem?_eq_some_iff.1 Cm.out.2).1).trans Cm.out.2
         have bz:∀ j,W5.frozen? ⟨w.heap.size+1,j,none⟩=false:=fun j=>Ck.out.th.tb.best.frozenAt j
         have XF:b9<W5.heap.size:=(Array.getElem?_eq_some_iff.1 Nc.out).1
         have Yx:w.heap.size+1<W5.heap.size:=by have:=Ck.out.th.tb.far;omega
         have fD:Hid (fj S1 C (fun i=>l[i]?.getD 0) q (i+1)=eR S2 i q (if (fe||bb)=true then (C.d.val,{C with hv:=v}) else eP)):=by unfold Hid;rw [gA.out,HUB.out]
         clear rE Cf W9 H0 Cm HUB gA
         by_cases hfb:(fe||bb)=true
         ·have IT:Hid (w.heap.size+2≤b9):=Ck.out.far
          have UK:¬ b9=w.heap.size+1:=by have:=IT.out;omega
          have Hb:¬ b9=w.heap.size:=by have:=IT.out;omega
          obtain ⟨oj,yI,hc3,hti⟩:=Ck.out.end1 Nc.out hit Hf
          have TX:Hid ((W5.setCells (w.heap.size+1) (i*54+q*6) [.int .u8 C.d.pr,.string C.d.val,.bool C.d.must,.int .i64 C.ly,.int .i64 v,.int .i64 C.no]).drew.cell? ⟨b9,1,none⟩=some (.string C.d.val)):=oj
          have zI:Hid ((W5.setCells (w.heap.size+1) (i*54+q*6) [.int .u8 C.d.pr,.string C.d.val,.bool C.d.must,.int .i64 C.ly,.int .i64 v,.int .i64 C.no]).drew.cell? ⟨w.heap.size,i*9+q,none⟩=some (.string (S2 i q).1)):=yI
          have XB:Hid ((W5.setCells (w.heap.size+1) (i*54+q*6) [.int .u8 C.d.pr,.string C.d.val,.bool C.d.must,.int .i64 C.ly,.int .i64 v,.int .i64 C.no]).drew.frozen? ⟨w.heap.size,i*9+q,none⟩=false):=hc3
          have Vz:Hid (fj S1 C (fun i=>l[i]?.getD 0) q (i+1)=eR S2 i q (C.d.val,{C with hv:=v})):=by
           unfold Hid
           rw [fD.out,if_pos hfb]
          have sd:Hid (TI w els.length (((W5.setCells (w.heap.size+1) (i*54+q*6) [.int .u8 C.d.pr,.string C.d.val,.bool C.d.must,.int .i64 C.ly,.int .i64 v,.int .i64 C.no]).drew.setCell ⟨w.heap.size,i*9+q,none⟩ (.string C.d.val)).drew) (fj S1 C (fun i=>l[i]?.getD 0) q (i+1)) (some ⟨gh,0,none⟩) ch l b9 C):=hti.tab Vz.out.symm
          clear oj yI hc3 hti Vz
          clear fD Vh yx IT Nc Ck
          cases fe with
          | true=>
           clear hfb
           go_upto_region 22 with fail
           refine EM W5 (w.heap.size+1) w.heap.size b9 els.length i q hit Hf C.d.pr C.ly v C.no C.d.val C.d.must _ _ _ _ _ _ c0 c1 c2 c3 c4 c5 k0 k1 k2 k3 k4 k5 bz UK _ _ _ _ _ _ _ _ _ _ _ _ _ _ _ _ _ _ _ _ _ _ _ _ _ _ _ _ _ _ _ _ _ _ _ _ _ _ _ _ _ _ _ _ _ _ _ _ _ _ _ _ _ _ _ _ _ _ _ _ _ _ _ _ _ _ _ _ _ _ _ _ _ _ _ _ _ _ _ _ _ _ _ _ _ _ _ _ _ _ _ _ _ _ _ _ _ _ _ _ _ _ _ _ _ _ _ _ _ _ _ _ _ _ _ _ _ _ _ _ _ _ _ _ _ _ _ _ _ _ _ _ _ _ _ _ _ _ _ _ _ _ _ _ _ _ _ _ ?_
           clear c0 c1 c2 c3 c4 c5 k0 k1 k2 k3 k4 k5 bz
           intro a1 a2 a3 a4 a5 a6
           go_upto_region 23 with fail
           refine FT _ (w.heap.size+1) w.heap.size b9 els.length i q hit Hf C.d.val _ TX.out zI.out XB.out Hb _ _ _ _ _ _ _ _ _ _ _ _ _ _ _ _ _ _ _ _ _ _ _ _ _ _ _ _ _ _ _ _ _ _ _ _ _ _ _ _ _ _ _ _ _ _ _ _ _ _ _ _ _ _ _ _ _ _ _ _ _ _ _ _ _ _ _ _ _ _ _ _ _ _ _ _ _ _ _ _ _ _ _ _ _ _ _ _ _ _ _ _ _ _ _ _ _ _ _ _ _ _ _ _ _ _ _ _ _ _ _ _ _ _ _ _ _ _ _ _ _ _ _ _ _ _ _ _ _ _ _ _ _ _ _ _ _ _ _ _ _ _ _ _ _ _ _ _ ?_
           intro e1 e2 e3 e4 e5 e6 e7 e8
           clear TX zI XB
           generalize ((W5.setCells (w.heap.size+1) (i*54+q*6) [.int .u8 C.d.pr,.string C.d.val,.bool C.d.must,.int .i64 C.ly,.int .i64 v,.int .i64 C.no]).drew.setCell ⟨w.heap.size,i*9+q,none⟩ (.string C.d.val)).drew=W7 at sd ⊢
           go_wp2
           go_roundg (els.length - (i+1))
           case measure=>omega
           case rel=>exact ⟨i+1,by go_num,by omega,Nat.le_refl _,sd⟩
          | false=>
           obtain rfl:bb=true:=by simpa using hfb
           clear hfb
           go_upto_region 22 with fail
           refine EM W5 (w.heap.size+1) w.heap.size b9 els.length i q hit Hf C.d.pr C.ly v C.no C.d.val C.d.must _ _ _ _ _ _ c0 c1 c2 c3 c4 c5 k0 k1 k2 k3 k4 k5 bz UK _ _ _ _ _ _ _ _ _ _ _ _ _ _ _ _ _ _ _ _ _ _ _ _ _ _ _ _ _ _ _ _ _ _ _ _ _ _ _ _ _ _ _ _ _ _ _ _ _ _ _ _ _ _ _ _ _ _ _ _ _ _ _ _ _ _ _ _ _ _ _ _ _ _ _ _ _ _ _ _ _ _ _ _ _ _ _ _ _ _ _ _ _ _ _ _ _ _ _ _ _ _ _ _ _ _ _ _ _ _ _ _ _ _ _ _ _ _ _ _ _ _ _ _ _ _ _ _ _ _ _ _ _ _ _ _ _ _ _ _ _ _ _ _ _ _ _ _ ?_
           clear c0 c1 c2 c3 c4 c5 k0 k1 k2 k3 k4 k5 bz
           intro a1 a2 a3 a4 a5 a6
           go_upto_region 23 with fail
           refine FT _ (w.heap.size+1) w.heap.size b9 els.length i q hit Hf C.d.val _ TX.out zI.out XB.out Hb _ _ _ _ _ _ _ _ _ _ _ _ _ _ _ _ _ _ _ _ _ _ _ _ _ _ _ _ _ _ _ _ _ _ _ _ _ _ _ _ _ _ _ _ _ _ _ _ _ _ _ _ _ _ _ _ _ _ _ _ _ _ _ _ _ _ _ _ _ _ _ _ _ _ _ _ _ _ _ _ _ _ _ _ _ _ _ _ _ _ _ _ _ _ _ _ _ _ _ _ _ _ _ _ _ _ _ _ _ _ _ _ _ _ _ _ _ _ _ _ _ _ _ _ _ _ _ _ _ _ _ _ _ _ _ _ _ _ _ _ _ _ _ _ _ _ _ _ ?_
           intro e1 e2 e3 e4 e5 e6 e7 e8
           clear TX zI XB
           generalize ((W5.setCells (w.heap.size+1) (i*54+q*6) [.int .u8 C.d.pr,.string C.d.val,.bool C.d.must,.int .i64 C.ly,.int .i64 v,.int .i64 C.no]).drew.setCell ⟨w.heap.size,i*9+q,none⟩ (.string C.d.val)).drew=W7 at sd ⊢
           go_wp2
           go_roundg (els.length - (i+1))
           case measure=>omega
           case rel=>exact ⟨i+1,by go_num,by omega,Nat.le_refl _,sd⟩
         ·have sk:fe=false:=by simp at hfb;exact hfb.1
          have bo:bb=false:=by simp at hfb;exact hfb.2
          have sd:Hid (TI w els.length W5 (fj S1 C (fun i=>l[i]?.getD 0) q (i+1)) (some ⟨gh,0,none⟩) ch l b9 C):=by
           refine Ck.out.tab ?_
           rw [fD.out,if_neg hfb,←yx.out,rL]
          subst sk bo
          clear fD hfb Vh yx Ck c0 c1 c2 c3 c4 c5 k0 k1 k2 k3 k4 k5 bz Nc
          go_wp2
          go_roundg (els.length - (i+1))
          case measure=>omega
          case rel=>exact ⟨i+1,by go_num,by omega,Nat.le_refl _,sd⟩
      ·have Bi:decide ((i:Int)<(els.length:Int))=false:=by simp;omega
       obtain rfl:i=els.length:=by omega
       have HF:Hid (TH w els.length wr (mX els.length (fun i=>l[i]?.getD 0) x.ly x.dl n0 S0 (dd+1)) ah ch l):=by
        unfold Hid
        rw [Xa.out]
        exact HI.out.th
       clear HI
       go_wp2
       go_roundg (x.dl.length - (dd+1))
       case measure=>
        have hm:=Ag.out
        omega
       case rel=>exact ⟨dd+1,by go_num,by go_num,Ag.out.2,Nat.le_refl _,HF⟩
    ·have iL:decide ((dd:Int)<(x.dl.length:Int))=false:=by simp;omega
     obtain rfl:dd=x.dl.length:=by omega
     have HF:Hid (TB w els.length wr (qh els rs (r+1))∧(n0+x.dl.length:Nat)=kb rs (r+1)):=⟨by rw [TQ.out.1];exact HH.out.tb,TQ.out.2.symm⟩
     clear HH
     go_wp2
     go_roundg (rs.length - (r+1))
     case measure=>
      have hm:=Vg.out
      omega
     case rel=>exact ⟨r+1,by rw [HF.out.2],by go_num,Vg.out.2,Nat.le_refl _,HF.out.1⟩
  ·have hd:decide ((r:Int)<(rs.length:Int))=false:=by simp;omega
   obtain rfl:r=rs.length:=by omega
   have HF:Hid (Pn w els rs (.returned (.slice (some ⟨w.heap.size,0,none⟩) els.length els.length)) wr):=⟨rfl,by have:=HT.out.out;rw [AT] at this;exact this,HT.out.below⟩
   clear HT
   go_wp2
   go_ret
   exact HF.out
end Go.Proofs.YtblfffbmklkhmaaGreat
namespace Go.Proofs.YtblfffbmklkhmaaGreat
open Go.RowKit
theorem Rel2.mem {α β:Type} {R:α→β→Prop} {l:List α} {m:List β} (h:Rel2 R l m) {x:α} (hx:x∈l):∃ y∈m,R x y:=by
 obtain ⟨i,hi,rfl⟩:=List.getElem_of_mem hx
 exact ⟨_,List.getElem_mem (by rw [←h.1];exact hi),h.at' hi⟩
section
variable {w w':World} {d:Nat} {els:List REl} {made:Nat} {hp:Option Addr} {vT:Value} {aR:Bool} {vL:Value} {Rr:List dx} {Gs:Nat→Prop} {M:Nat→Mk} {shn:Nat→Bool} {rs:List cQ}
theorem FF {Rr:List dx} (h:∀ x∈Rr,x.dl.length≤400):∀ r,r≤Rr.length→kb Rr r≤r*400
 | 0,_=>Nat.le_refl _
 | r+1,hr=>by
  have ih:=FF h r (by omega)
  show kb Rr r+(Rr[r]?.map fun x=>x.dl.length).getD 0≤(r+1)*400
  rw [List.getElem?_eq_getElem (by omega)]
  have:=h _ (List.getElem_mem (show r<Rr.length by omega))
  show kb Rr r+Rr[r].dl.length≤_
  omega
theorem Az {Rr:List dx} (h:∀ x∈Rr,x.dl.length≤400) (hl:Rr.length≤400):∀ r,kb Rr r≤1000000
 | 0=>Nat.zero_le _
 | r+1=>by
  by_cases hr:r+1≤Rr.length
  ·have:=FF h (r+1) hr;omega
  ·have ih:=Az h hl r
   show kb Rr r+(Rr[r]?.map fun x=>x.dl.length).getD 0≤_
   rw [List.getElem?_eq_none (by omega)]
   exact ih
theorem RX.ruok (h:RX w d els made hp vT aR vL Rr Gs M shn rs):∀ x∈Rr,Db x:=fun x hx=>by
 obtain ⟨y,_,hr⟩:=h.rel.mem hx
 refine ⟨hr.fs,fun cs jy=>?_,hr.fd,fun dc hdc=>?_⟩
 ·obtain ⟨z,_,hz⟩:=hr.sels.mem jy
  exact Su h.tw h.re.rm hz
 ·obtain ⟨z,_,hz⟩:=hr.dl.mem hdc
  exact xU hz.isp
theorem Jp {c q:Nat} (h:eh c=some q):q<9:=by
 unfold eh at h
 split at h
 ·injection h with h;omega
 ·split at h
  ·injection h with h;omega
  ·cases h
theorem qp (s:ByteArray):jW s=ir s:=by
 unfold jW ir
 split
 ·exact oW _
 ·rfl
theorem RX.depth (h:RX w d els made hp vT aR vL Rr Gs M shn rs) {y:REl} (hy:y∈els):uP els els.length y.num:=by
 refine xD _ _ (h.tw.up_end (iE hy) ?_)
 rw [pR]
 exact Nat.le_succ _
theorem RX.mem (h:RX w d els made hp vT aR vL Rr Gs M shn rs):∀ y∈els,y.cl.size≤maxLen:=fun y hy=>by
 have:=(h.re.cls y hy).few
 unfold maxLen
 omega
theorem RX.table (h:RX w d els made hp vT aR vL Rr Gs M shn rs) {w1:World} {v:Value} (hB:Below w.heap.size w w1) (ho:w1.ownsRow w.heap.size 234 9 v els.length (kn (IF els Rr) els.length)) :
  RX ((w1.setCell ⟨d,3,none⟩ v).setCell ⟨d,4,none⟩ (.bool true)) d els made hp v true vL Rr Gs M shn rs∧Fr w ((w1.setCell ⟨d,3,none⟩ v).setCell ⟨d,4,none⟩ (.bool true)) (gQ d els vL):=by
 have hR1:RD w1 d els made hp vT aR vL:=h.rd.keep (fun k _ hl=>hB.block k hl)
 have hR2:RD (w1.setCell ⟨d,3,none⟩ v) d els made hp v aR vL:=hR1.setDoc' rfl
 have hH:Fr w ((w1.setCell ⟨d,3,none⟩ v).setCell ⟨d,4,none⟩ (.bool true)) (gQ d els vL):=(((Fr.refl w _).below hB).set (p:=⟨d,3,none⟩) (Or.inl (Or.inl rfl)) _).set (p:=⟨d,4,none⟩) (Or.inl (Or.inl rfl)) _
 have ho0:=aG ho (Nat.zero_le _)
 refine ⟨⟨hR2.setDoc' rfl,h.tw,h.re,h.sh.keep (fun k hg hl=>hH.block k hl (h.ga k hg)) hH.size,h.rel,h.few,fun _=>⟨IF els Rr,?_,FY h.tw h.re.rm h.rel⟩,fun k hg=>Nat.lt_of_lt_of_le (h.gl k hg) hH.size,h.ga⟩,hH⟩
 have h2:=aX ho0 (p:=⟨d,3,none⟩) (aj ho0 hR1.doc (by decide)) v
 exact aX h2 (p:=⟨d,4,none⟩) (aj h2 hR2.doc (by decide)) _
end
section
set_option maxRecDepth 100000
set_option maxHeartbeats 8000000
variable (w:World) (d:Nat) (els:List REl) (made:Nat) (hp:Option Addr) (vT:Value) (aR:Bool) (vL:Value) (Rr:List dx) (Gs:Nat→Prop) (M:Nat→Mk) (shn:Nat→Bool) (rs:List cQ)
def m6 (n:Int) (s:ByteArray) (e:Ending) (w':World):Prop:=
 (bP (aB els) n s≠0∧e=.returned (.tuple #[.int .i64 0,.int .i64 (bP (aB els) n s)])∧w'=w)∨
 (bP (aB els) n s=0∧e=.returned (.tuple #[.int .i64 (jn (aB els) M rs n s),.int .i64 0])∧∃ oZ,RX w' d els made hp oZ true vL Rr Gs M shn rs∧((oZ=vT∧aR=true)∨∀ j,oZ.ownBlock=some j→w.heap.size≤j)∧Fr w w' (gQ d els vL))
theorem DD (n:Int) (s:ByteArray) (h:RX w d els made hp vT aR vL Rr Gs M shn rs) :
  Calls Tryz.prog 96 #[.pointer (some ⟨d,0,none⟩),.int .i64 n,.string s] w fun e w'=>m6 w d els made hp vT aR vL Rr Gs M shn rs n s e w':=by
 have HX:Hid (RX w d els made hp vT aR vL Rr Gs M shn rs):=h
 clear h
 go_enter Tryz.func96,Tryz.ntmps96
 go_wp2_with fail
 refine (eb w d els made hp vT aR vL n HX.out.rd).mono ?_
 rintro e w1 ⟨rfl,rfl⟩
 obtain ⟨w,rfl⟩:∃ w,w=w1:=⟨_,rfl⟩
 cases hf:aZ els n with
 | none=>
  have he:ey none=.pointer none:=rfl
  rw [he]
  have HE:Hid (m6 w d els made hp vT aR vL Rr Gs M shn rs n s (.returned (.tuple #[.int .i64 0,.int .i64 5])) w):=by
   have hc:bP (aB els) n s=5:=by unfold bP;rw [co hf]
   exact Or.inl ⟨by rw [hc];decide,by rw [hc],rfl⟩
  clear he hf
  go_wp2
  go_ret2
  exact HE.out
 | some y=>
  have he:ey (some y)=.pointer (some ⟨y.blk,0,none⟩):=rfl
  rw [he]
  obtain ⟨Ku,xE⟩:=cg hf
  have HF:Hid (aZ els n=some y∧y∈els∧(y.num:Int)=n):=⟨hf,Ku,xE⟩
  clear he hf Ku xE
  go_wp2_with fail
  refine (vH w s).mono ?_
  rintro e w1 ⟨rfl,rfl⟩
  obtain ⟨w,rfl⟩:∃ w,w=w1:=⟨_,rfl⟩
  cases Dv:jW s with
  | none=>
   have HE:Hid (m6 w d els made hp vT aR vL Rr Gs M shn rs n s (.returned (.tuple #[.int .i64 0,.int .i64 4])) w):=by
    have hc:bP (aB els) n s=4:=by unfold bP;rw [bT HF.out.1];show (match ir s with | none=>(4:Int) | some _=>0)=4;rw [←qp,Dv]
    exact Or.inl ⟨by rw [hc];decide,by rw [hc],rfl⟩
   have hi:wJ none=-1:=rfl
   rw [hi]
   clear hi Dv
   go_wp2
   go_ret2
   exact HE.out
  | some p=>
   have hi:wJ (some p)=(p:Int):=rfl
   rw [hi]
   have MI:p<9:=by
    unfold jW at Dv
    split at Dv
    ·exact Jp Dv
    ·cases Dv
   have HE:Hid (∀ w' oZ Tb,RX w' d els made hp oZ true vL Rr Gs M shn rs→((oZ=vT∧aR=true)∨∀ j,oZ.ownBlock=some j→w.heap.size≤j)→Fr w w' (gQ d els vL)→TabR els M rs Tb→m6 w d els made hp vT aR vL Rr Gs M shn rs n s (.returned (.tuple #[.int .i64 (jq els Tb els.length n p),.int .i64 0])) w'):=fun w' oZ Tb h1 h2 h3 h4=>by
    have hc:bP (aB els) n s=0:=by unfold bP;rw [bT HF.out.1];show (match ir s with | none=>(4:Int) | some _=>0)=0;rw [←qp,Dv]
    refine Or.inr ⟨hc,?_,oZ,h1,h2,h3⟩
    have hv:jn (aB els) M rs n s=jq els Tb els.length n p:=by
     unfold jn
     rw [if_pos hc,←HF.out.2.2,tQ HX.out.tw h4 els.length HF.out.2.1 (HX.out.depth HF.out.2.1) p MI,←qp,Dv]
     rfl
    rw [hv]
   have HD:Hid (uP els els.length n):=by unfold Hid;rw [←HF.out.2.2];exact HX.out.depth HF.out.2.1
   have gp:decide ((p:Int)<0)=false:=by simp
   have kL:(p:Int)<9:=by omega
   have FJ:(0:Int)≤(p:Int):=by omega
   have d4:w.cell? ⟨d,4,none⟩=some (.bool aR):=aa HX.out.rd.doc rfl
   clear hi Dv
   obtain ⟨rk,PZ⟩:=pL HX.out.tw
   go_upto_if 24 with fail
   go_cut [9] from 20 to 42 (fun pv wx=>pv=.int .i64 p∧Hid (∃ oZ Tb,RX wx d els made hp oZ true vL Rr Gs M shn rs∧((oZ=vT∧aR=true)∨∀ j,oZ.ownBlock=some j→w.heap.size≤j)∧Fr w wx (gQ d els vL)∧wx.ownsRow 0 234 9 oZ els.length (kn Tb els.length)∧TabR els M rs Tb))
   case first=>
    cases aR with
    | true=>
     have HG:Hid (∃ oZ Tb,RX w d els made hp oZ true vL Rr Gs M shn rs∧((oZ=vT∧true=true)∨∀ j,oZ.ownBlock=some j→w.heap.size≤j)∧Fr w w (gQ d els vL)∧w.ownsRow 0 234 9 oZ els.length (kn Tb els.length)∧TabR els M rs Tb):=by
      obtain ⟨Tb,h1,h2⟩:=HX.out.tb rfl
      exact ⟨vT,Tb,HX.out,Or.inl ⟨rfl,rfl⟩,Fr.refl _ _,h1,h2⟩
     go_wp2_with fail
     go_meet
     exact ⟨rfl,HG⟩
    | false=>
     go_wp2_with fail
     refine (Hp w d els made hp vT false vL HX.out.rd rk PZ HX.out.mem Rr HX.out.sh.here HX.out.ruok HX.out.few (Az (fun x hx=>(HX.out.ruok x hx).few) HX.out.few)).mono ?_
     rintro e w1 ⟨rfl,ho,hB⟩
     have HG:Hid (∃ oZ Tb,RX ((w1.setCell ⟨d,3,none⟩ (.slice (some ⟨w.heap.size,0,none⟩) els.length els.length)).setCell ⟨d,4,none⟩ (.bool true)) d els made hp oZ true vL Rr Gs M shn rs∧((oZ=vT∧false=true)∨∀ j,oZ.ownBlock=some j→w.heap.size≤j)∧Fr w ((w1.setCell ⟨d,3,none⟩ (.slice (some ⟨w.heap.size,0,none⟩) els.length els.length)).setCell ⟨d,4,none⟩ (.bool true)) (gQ d els vL)∧((w1.setCell ⟨d,3,none⟩ (.slice (some ⟨w.heap.size,0,none⟩) els.length els.length)).setCell ⟨d,4,none⟩ (.bool true)).ownsRow 0 234 9 oZ els.length (kn Tb els.length)∧TabR els M rs Tb):=by
      obtain ⟨h1,h2⟩:=HX.out.table hB ho
      obtain ⟨Tb,h3,h4⟩:=h1.tb rfl
      exact ⟨_,Tb,h1,Or.inr (fun j hj=>by simp [Value.ownBlock] at hj;omega),h2,h3,h4⟩
     have kM:Hid (RD w1 d els made hp vT false vL):=HX.out.rd.keep (fun k _ hl=>hB.block k hl)
     have e3:w1.cell? ⟨d,3,none⟩=some vT:=aa kM.out.doc rfl
     have e4:w1.cell? ⟨d,4,none⟩=some (.bool false):=aa kM.out.doc rfl
     have ef:∀ k,w1.frozen? ⟨d,k,none⟩=false:=fun k=>ag kM.out.doc
     have Qy:d<w1.heap.size:=(Array.getElem?_eq_some_iff.1 kM.out.doc).1
     clear ho hB
     go_wp2_with fail
     go_meet
     exact ⟨rfl,HG⟩
   case rest=>
    obtain ⟨rfl,HG⟩:=hcut
    obtain ⟨oZ,Tb,h1,h2,h3,h4,h5⟩:=HG.out
    obtain ⟨aT,cT,ZP⟩:=au h4
    subst ZP
    have HW:Hid (RX wc d els made hp (.slice aT els.length cT) true vL Rr Gs M shn rs∧TM wc (.slice aT els.length cT) els.length Tb∧TabR els M rs Tb):=⟨h1,⟨h4,h5.ok⟩,h5⟩
    have HV:Hid ((((Value.slice aT els.length cT)=vT∧aR=true)∨∀ j,(Value.slice aT els.length cT).ownBlock=some j→w.heap.size≤j)∧Fr w wc (gQ d els vL)):=⟨h2,h3⟩
    clear h1 h2 h3 h4 h5 HG d4
    have d3:wc.cell? ⟨d,3,none⟩=some (.slice aT els.length cT):=aa HW.out.1.rd.doc rfl
    go_wp2_with fail
    refine (wl els Tb d made hp _ true vL _ els.length wc n HW.out.1.rd HW.out.2.1 HD.out).mono ?_
    rintro e w2 ⟨ci,rfl,E8,dp⟩
    have CC:Hid ((Tryz.prog.info? 38).map (·.size)=some ci.toArray.size∧(9:Nat)=ci.toArray.size∧ci.toArray.all (·.oneCell')=true∧(w2.alloc (.cells d9 38)).heap[w2.heap.size]?=some (.cells d9 38 (0,0))):=⟨by simp only [List.size_toArray,E8.len];exact Tryz.sz38,by simp [E8.len],all_oneCell_toArray E8.one,heap_alloc_new w2 _⟩
    have gf:Hid ((((w2.alloc (.cells d9 38)).setRow w2.heap.size ci.toArray).cell? ⟨w2.heap.size,p,none⟩=some (.int .i64 (jq els Tb els.length n p)))∧m6 w d els made hp vT aR vL Rr Gs M shn rs n s (.returned (.tuple #[.int .i64 (jq els Tb els.length n p),.int .i64 0])) ((w2.alloc (.cells d9 38)).setRow w2.heap.size ci.toArray)):=by
     have eS:Below wc.heap.size wc ((w2.alloc (.cells d9 38)).setRow w2.heap.size ci.toArray):=(dp.alloc dp.size _).trans ⟨rfl,rfl,rfl,by simp,fun k hk=>setRow_other _ _ _ _ (by have:=dp.size;omega)⟩
     refine ⟨aa (setRow_heap _ _ _ _ _ _ CC.out.2.2.2) (by simpa using E8.at' p MI),?_⟩
     exact HE.out _ _ Tb (HW.out.1.keep (fun k _ hl=>eS.block k hl) eS.size) HV.out.1 (HV.out.2.below eS) HW.out.2.2
    clear E8 dp d3 HE HW HV HD
    generalize jq els Tb els.length n p=vv at gf
    have c5:=gf.out.1
    unfold d9 at c5
    go_wp2_with (refine wpList_store_row rfl 38 _ _ rfl w2.heap.size ci.toArray rfl rfl 38 d9 CC.out.2.2.2 CC.out.1 CC.out.2.1 CC.out.2.2.1 ?_)
    go_ret2
    exact gf.out.2
end
end Go.Proofs.YtblfffbmklkhmaaGreat
