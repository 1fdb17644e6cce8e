import Derived.Test.YtblfffbmklkhmaaGreatSt49
import Derived.Test.YtblfffbmklkhmaaGreatSt37
import Derived.Test.YtblfffbmklkhmaaGreatSt45
import Derived.Test.YtblfffbmklkhmaaGreatSt25
import Derived.Test.YtblfffbmklkhmaaGreatSt10
import Derived.JoinedCond
namespace Go.Proofs.YtblfffbmklkhmaaGreat
open Go.RowKit
section
set_option maxRecDepth 100000
set_option maxHeartbeats 4000000
variable (w:World) (b:Nat) (vS:Value × Value) (v:Value) (els:List PEl) (T:aA) (made:Nat) (M:Nat→Mk) (rs:List cQ) (kl:List (Int × List Int)) (G:Nat→Prop)
theorem yq (k:Nat) (l:List Nat) (h:DM w b vS v els T made M rs kl G) (SH:KOK T M rs kl) (hk:(k,l)∈T) :
  Calls Tryz.prog 48 #[.pointer (some ⟨b,0,none⟩),.int .i64 k] w fun e w'=>qF w b vS v els T made M rs kl G k e w':=by
 obtain ⟨a,c,hv⟩:=h.pb.pl.shape
 subst hv
 have HD:Hid (DM w b vS (.slice a els.length c) els T made M rs kl G):=h
 have Y9:Hid (KOK T M rs kl∧(k,l)∈T):=⟨SH,hk⟩
 have jI:b<w.heap.size:=h.lt
 have HAB:Hid (bp els els.length k=aW T T.length k):=by unfold Hid;rw [uH h.pb.pt h.tw,h.pb.pt.len h.tw]
 have HAL:Hid ((aW T T.length k).length≤24):=by
  have h1:=xG (T:=T) T.length k
  have h2:=h.pb.pt.len h.tw
  have h3:=h.pb.few
  unfold Hid
  omega
 have TU:Hid (∀ j,j=b∨vS.2.ownBlock=some j→j<w.heap.size):=fun j hj=>h.own_lt hj
 have ow:Hid (∀ Z:Array Value,Below w.heap.size w (w.alloc (.cells Z 103))):=fun Z=>(Below.refl _ _).alloc (Nat.le_refl _) _
 have HDR:Hid (∀ (i:Nat) (x:Int),(aW T T.length k)[i]?=some x→∃ j lj,x=((j:Nat):Int)∧(j,lj)∈T∧aW T T.length x=(aW T T.length k).drop (i+1)):=fun i x hx=>oK h.tw i hk hx
 have Zy:Hid (∀ m,KOK T M rs (mE T M rs kl ((aW T T.length k).drop m))):=fun m=>qU SH _ (fun x hx=>wX h.tw hk x (List.mem_of_mem_drop hx))
 have gA:Hid (ul T M rs kl k=jt T M rs (mE T M rs kl ((aW T T.length k).drop 0)) k):=rfl
 have HCO:Hid (fZ T M rs ((aW T T.length k).drop 0)=fZ T M rs (aW T T.length k)):=rfl
 clear h SH hk
 go_enter Tryz.func48,Tryz.ntmps48
 go_wp2_with fail
 refine (pN _).mono ?_
 rintro e w1 ⟨rfl,cF⟩
 have fO:w.heap.size+1≤w1.heap.size:=by have:=cF.size;simpa using this
 have ed:Hid (Below w.heap.size w w1):=(ow.out _).trans (cF.mono (by simp))
 have HT4:Hid (w1.there w.heap.size 0 9):=by
  refine cG cF (by simp) ?_
  exact eF w (#[.int .i64 0,.int .i64 0,.int .i64 0,.int .i64 0,.int .i64 0,.int .i64 0,.int .i64 0,.int .i64 0,.int .i64 0]:Array Value) 103 9 (by decide)
 clear cF
 have Yc:Hid ((Tryz.prog.info? 103).map (·.size)=some (ai dO).toArray.size):=Tryz.sizeS
 have HIO:Hid ((ai dO).toArray.all (·.oneCell')=true):=gP dO
 have sd:Hid (9=(ai dO).toArray.size):=rfl
 have ea:Hid (Below w1.heap.size w1 (w1.alloc (.cells (ai dO).toArray 103))):=(Below.refl _ _).alloc (Nat.le_refl _) _
 have I4:Hid ((w1.alloc (.cells (ai dO).toArray 103)).rangeAt w1.heap.size 0 (ai dO)):=dY w1 _ _
 have Ck:Hid ((w1.alloc (.cells (ai dO).toArray 103)).there w1.heap.size 0 9):=eF w1 _ _ 9 (by decide)
 have Pe:Hid ((w1.alloc (.cells (ai dO).toArray 103)).heap.size=w1.heap.size+1):=by simp [Hid]
 have n9:Hid (DM (w1.alloc (.cells (ai dO).toArray 103)) b vS (.slice a els.length c) els T made M rs kl G):=(HD.out.below ed.out).below ea.out
 have HIA:Hid ((ai dO).toArray=#[.int .i64 1,.int .i64 2,.int .i64 3,.int .i64 4,.int .i64 5,.int .i64 6,.int .i64 0,.int .i64 0,.int .i64 0]):=rfl
 rw [HIA.out] at Yc HIO sd ea I4 Ck Pe n9 ⊢
 go_wp2_with (first | (refine aw rfl 103 _ _ rfl _ #[.int .i64 1,.int .i64 2,.int .i64 3,.int .i64 4,.int .i64 5,.int .i64 6,.int .i64 0,.int .i64 0,.int .i64 0] 103 rfl rfl Yc.out sd.out HIO.out ?_))
 refine (DO _ b a c els k n9.out.trd).mono ?_
 rw [HAB.out]
 rintro e w2 ⟨al,cl,rfl,fY,dp⟩
 have nX:w1.heap.size+1≤w2.heap.size:=by have:=dp.size;rwa [Pe.out] at this
 have VZ:Hid (SOI w b vS (.slice a els.length c) els T made M rs kl G w2 w1.heap.size al (aW T T.length k) (aW T T.length k).length vS.2 w2):=by
  have WO:Below w1.heap.size w1 w2:=ea.out.trans (dp.mono ea.out.size)
  refine ⟨?_,((Fr.refl w _).below ed.out).below WO,fun j hj=>Or.inl hj,?_,cG dp (by rw [Pe.out];omega) Ck.out,cG WO (by omega) HT4.out,RowI.own fY,Nat.le_refl _⟩
  ·rw [List.drop_length]
   exact n9.out.below dp
  ·rw [List.drop_length]
   exact ba dp (by rw [Pe.out];omega) I4.out
 have HGF:Hid (∀ g,al=some ⟨g,0,none⟩→w1.heap.size<g∧g<w2.heap.size):=fun g hg=>by
  have:=fY.lt g (by rw [hg];rfl)
  rw [Pe.out] at this
  omega
 have VN:Hid ((aW T T.length k).length≤cl):=lP fY
 clear fY dp ed HT4 Yc HIO sd ea I4 Ck Pe n9 HIA HAB
 obtain ⟨xs,YH⟩:∃ xs,aW T T.length k=xs:=⟨_,rfl⟩
 have HXS:Hid (aW T T.length k=xs):=YH
 rw [YH] at HAL HDR Zy gA HCO VZ VN ⊢
 clear YH
 have SP:=HAL.out
 have LE:=VN.out
 go_wp2_with fail
 go_loopg [7] xs.length (fun gk iv wr=>∃ m:Nat,iv=.int .i64 ((m:Int) - 1)∧m≤xs.length∧m≤gk∧Hid (∃ v2,SOI w b vS (.slice a els.length c) els T made M rs kl G w2 w1.heap.size al xs m v2 wr))
 case atStart=>exact ⟨xs.length,by go_num,Nat.le_refl _,Nat.le_refl _,vS.2,VZ.out⟩
 case round=>
  obtain ⟨m,rfl,hm,fK,HI⟩:=hrel
  obtain ⟨v2,hI⟩:=HI.out
  have HS:Hid (SOI w b vS (.slice a els.length c) els T made M rs kl G w2 w1.heap.size al xs m v2 wr):=hI
  clear HI hI
  have Qj:=HS.out.far
  cases m with
  | zero=>
   have kI:=wY T M rs xs
   have HCE:Hid (fZ T M rs xs=fZ T M rs (aW T T.length k)):=by unfold Hid;rw [HXS.out]
   have rZ:Hid ((Tryz.prog.info? 103).map (·.size)=some (ai (fZ T M rs xs)).length):=sizeS kI
   have I4:Hid (wr.rangeAt w1.heap.size 0 (ai (fZ T M rs xs))):=HS.out.rng
   have mr:b<wr.heap.size:=HS.out.dm.lt
   rw [show (((0:Nat):Int) - 1)=-1 from rfl]
   go_wp2_with (refine wpList_load_mid rfl 103 _ rfl w1.heap.size 0 rfl (ai (fZ T M rs xs)) _ I4.out Tryz.underlying103 rfl rZ.out ?_)
   refine (pj wr b (vS.1,v2) _ els T made M rs _ G k l (fZ T M rs xs) HS.out.dm (Zy.out 0) Y9.out.2 HCE.out kI).mono ?_
   rintro e w3 ⟨rfl,v3,Bi,Zh,hj3⟩
   have Fj:=jO (aY T M) rs k
   have hT4:¬ (w.heap.size=b∨v2.ownBlock=some w.heap.size):=HS.out.alone TU.out (Nat.le_refl _) (by omega)
   have HX:Hid (DM w3 b (vS.1,v3) (.slice a els.length c) els T made M rs (ul T M rs kl k) G∧Fr wr w3 (fun j=>j=b∨v2.ownBlock=some j)∧(∀ j,v3.ownBlock=some j→v2.ownBlock=some j∨wr.heap.size≤j)∧w3.there w.heap.size 0 9):=⟨by rw [gA.out];exact Bi,Zh,hj3,i5 HS.out.res (Zh.block w.heap.size (by omega) hT4)⟩
   clear Bi Zh hj3 hT4 I4 rZ
   have XA:Hid (∀ (L:List Int),L=dj (aY T M) rs k→qF w b vS (.slice a els.length c) els T made M rs kl G k (.returned (.agg (ai L).toArray)) (w3.setCells w.heap.size 0 (ai L))):=fun L hL=>by
    refine ⟨by rw [hL],v3,HX.out.1.aside (fun j hj=>i7 _ _ _ _ _ (fun e=>?_)) (by rw [dW];exact Nat.le_refl _),?_,fun j hj=>?_⟩
    ·subst e
     rcases hj with h1 | h1 | h1 | h1
     ·omega
     ·have:=(HD.out.pb.pl.row.lt _ h1).2;omega
     ·rcases HX.out.2.2.1 _ h1 with h2 | h2
      ·rcases HS.out.own _ h2 with h3 | h3
       ·have:=TU.out _ (Or.inr h3);omega
       ·omega
      ·omega
     ·have:=HD.out.gl _ h1;omega
    ·refine Fr.sets (Or.inr (Nat.le_refl _)) _ _ (HS.out.fr.comp HX.out.2.1 (fun j hj=>?_))
     rcases hj with h1 | h1
     ·exact Or.inl (Or.inl h1)
     ·rcases HS.out.own _ h1 with h3 | h3
      ·exact Or.inl (Or.inr h3)
      ·exact Or.inr (by omega)
    ·rcases HX.out.2.2.1 _ hj with h2 | h2
     ·rcases HS.out.own _ h2 with h3 | h3
      ·exact Or.inl h3
      ·exact Or.inr (by omega)
     ·exact Or.inr (by omega)
   obtain ⟨L,hL⟩:∃ L,dj (aY T M) rs k=L:=⟨_,rfl⟩
   have HE:=XA.out L hL.symm
   rw [hL] at Fj ⊢
   clear hL XA
   have bR:(ai L).toArray.size=9:=List.size_toArray.trans (by rw [List.length_map];exact Fj)
   have rp:Hid (w3.there w.heap.size 0 (ai L).toArray.size):=by unfold Hid;rw [bR];exact HX.out.2.2.2
   have t8:Hid ((Tryz.prog.info? 103).map (·.size)=some (ai L).toArray.size):=by unfold Hid;rw [bR];exact Tryz.sizeS
   have xQ:Hid ((Tryz.prog.info? 103).map (·.size)=some (ai L).length):=sizeS Fj
   have ER:Hid ((ai L).toArray.all (·.oneCell')=true):=gP L
   have yn:Hid ((w3.setCells w.heap.size 0 (ai L)).rangeAt w.heap.size 0 (ai L)):=World.rangeAt_setCells_same _ _ 0 _ (by have:=rp.out;rwa [show (ai L).toArray.size=(ai L).length from List.size_toArray] at this)
   have HEE:Hid (qF w b vS (.slice a els.length c) els T made M rs kl G k (.returned (.agg (ai L).toArray)) (w3.setCells w.heap.size 0 (ai L))):=HE
   clear HE bR HX HS
   go_wp2_with (refine wpList_store_mid rfl 103 _ _ rfl w.heap.size 0 (ai L).toArray rfl rfl rp.out t8.out ER.out ?_)
   exact bodyPost_ret (fS Tryz.results48 _ rfl yn.out Tryz.underlying103 rfl xQ.out) rfl HEE.out
  | succ m=>
   have EQ:m<xs.length:=by omega
   rw [show (((m+1:Nat):Int) - 1)=(m:Int) from by omega]
   have hd:decide ((0:Int)≤(m:Int))=true:=by simp
   have jC:(m:Int)<(xs.length:Int):=by omega
   obtain ⟨x,hx⟩:∃ x,xs[m]?=some x:=⟨_,List.getElem?_eq_getElem EQ⟩
   obtain ⟨j,lj,hxj,FO,TO⟩:=HDR.out m x hx
   obtain ⟨g,hg,db,fN⟩:=HS.out.row m EQ
   rw [hx,hxj] at fN
   replace fN:wr.cell? ⟨g,m,none⟩=some (.int .i64 j):=fN
   obtain ⟨I0,hJ⟩:=HGF.out g hg
   have HDP:Hid (xs.drop m=x :: xs.drop (m+1)):=by
    unfold Hid
    rw [List.drop_eq_getElem_cons EQ]
    rw [List.getElem?_eq_getElem EQ] at hx
    injection hx with hx
    rw [hx]
   subst hxj
   subst hg
   have HJ:Hid ((j,lj)∈T∧fZ T M rs (xs.drop (m+1))=fZ T M rs (aW T T.length j)):=⟨FO,by rw [TO]⟩
   have kI:=wY T M rs (xs.drop (m+1))
   have RB:Hid (DM wr.drew b (vS.1,v2) (.slice a els.length c) els T made M rs (mE T M rs kl (xs.drop (m+1))) G):=HS.out.dm.below (Below.refl wr.heap.size wr).drew
   obtain ⟨cm,FX⟩:∃ cm,fZ T M rs (xs.drop (m+1))=cm:=⟨_,rfl⟩
   have HCM:Hid (cm=fZ T M rs (aW T T.length j)):=by unfold Hid;rw [←FX];exact HJ.out.2
   have Vt:Hid (wr.rangeAt w1.heap.size 0 (ai cm)):=by unfold Hid;rw [←FX];exact HS.out.rng
   rw [FX] at kI
   obtain ⟨L,hL⟩:∃ L,dj (aY T M) rs j=L:=⟨_,rfl⟩
   have HL:Hid (dj (aY T M) rs j=L):=hL
   have Fj:L.length=9:=by rw [←hL];exact jO _ _ _
   have Ud:(ai L).length=9:=by rw [List.length_map];exact Fj
   have Zr:(Tryz.prog.info? 103).map (·.size)=some (ai L).length:=sizeS Fj
   have hLo:∀ v∈ai L,v.oneCell'=true:=Pt L
   have hCs:(Tryz.prog.info? 103).map (·.size)=some (ai cm).length:=sizeS kI
   have hUA:=Tryz.underlying103
   have Ux:Hid (wr.cell? ⟨g,m,none⟩=some (.int .i64 j)):=fN
   have HC:Hid (∀ wx,Fr wr.drew wx (fun i=>i=b∨v2.ownBlock=some i)→wx.cell? ⟨g,m,none⟩=some (.int .i64 j)∧wx.rangeAt w1.heap.size 0 (ai cm)∧wx.there w1.heap.size 0 9):=fun wx hf=>by
    have U9:wx.heap[g]?=wr.heap[g]?:=hf.block g (by show g<wr.heap.size;omega) (HS.out.alone TU.out (by omega) hJ)
    have vR:wx.heap[w1.heap.size]?=wr.heap[w1.heap.size]?:=hf.block w1.heap.size (by show w1.heap.size<wr.heap.size;omega) (HS.out.alone TU.out (by omega) (by omega))
    refine ⟨?_,sU Vt.out vR,i5 HS.out.thr vR⟩
    have:=Ux.out
    unfold World.cell? at this ⊢
    rw [U9]
    exact this
   have H0:Hid (Fr wr.drew wr.drew (fun i=>i=b∨v2.ownBlock=some i)):=Fr.refl _ _
   have Ug:Hid (∀ wx:World,(wx.cell? ⟨g,m,none⟩=some (.int .i64 j)∧wx.rangeAt w1.heap.size 0 (ai cm)∧wx.there w1.heap.size 0 9)→(wx.setCells w1.heap.size 0 (ai L)).cell? ⟨g,m,none⟩=some (.int .i64 j)∧(wx.setCells w1.heap.size 0 (ai L)).there w1.heap.size 0 9):=fun wx ⟨h1,_,h3⟩=>⟨(World.cell?_setCells_out w1.heap.size (ai L) 0 wx ⟨g,m,none⟩ (fun e=>by replace e:g=w1.heap.size:=e;omega)).trans h1,World.there_setCells h3 _ _ _⟩
   have jl:Hid (∀ w5 v5,DM w5 b (vS.1,v5) (.slice a els.length c) els T made M rs (jt T M rs (mE T M rs kl (xs.drop (m+1))) j) G→Fr wr.drew w5 (fun i=>i=b∨v2.ownBlock=some i)→(∀ i,v5.ownBlock=some i→v2.ownBlock=some i∨wr.heap.size≤i)→SOI w b vS (.slice a els.length c) els T made M rs kl G w2 w1.heap.size (some ⟨g,0,none⟩) xs m v5 (w5.setCells w1.heap.size 0 (ai L))):=fun w5 v5 Lt CE Xu=>by
    have Xp:wr.heap.size≤w5.heap.size:=CE.size
    have bL:∀ i,v5.ownBlock=some i→vS.2.ownBlock=some i∨w2.heap.size≤i:=fun i hi=>by
     rcases Xu i hi with h1 | h1
     ·exact HS.out.own i h1
     ·exact Or.inr (by omega)
    have hH:Fr w w5 (fun i=>i=b∨vS.2.ownBlock=some i):=(HS.out.fr.drew1).comp CE (fun i hi=>by
     rcases hi with h1 | h1
     ·exact Or.inl (Or.inl h1)
     ·rcases HS.out.own _ h1 with h3 | h3
      ·exact Or.inl (Or.inr h3)
      ·exact Or.inr (by omega))
    have ET:∀ i,w.heap.size≤i→i<w2.heap.size→w5.heap[i]?=wr.heap[i]?:=fun i h1 h2=>CE.block i (by show i<wr.heap.size;omega) (HS.out.alone TU.out h1 h2)
    refine ⟨?_,Fr.sets (Or.inr (by omega)) _ _ hH,bL,?_,World.there_setCells (i5 HS.out.thr (ET w1.heap.size (by omega) (by omega))) _ _ _,World.there_setCells (i5 HS.out.res (ET w.heap.size (by omega) (by omega))) _ _ _,fun i hi=>?_,by rw [dW];omega⟩
    ·rw [HDP.out]
     refine DM.aside (w:=w5) Lt (fun i hi=>i7 _ _ _ _ _ (fun e=>?_)) (by rw [dW];exact Nat.le_refl _)
     subst e
     rcases hi with h1 | h1 | h1 | h1
     ·omega
     ·have:=(HD.out.pb.pl.row.lt _ h1).2;omega
     ·rcases bL _ h1 with h2 | h2
      ·have:=TU.out _ (Or.inr h2);omega
      ·omega
     ·have:=HD.out.gl _ h1;omega
    ·rw [HDP.out]
     show (w5.setCells w1.heap.size 0 (ai L)).rangeAt w1.heap.size 0 (ai (dj (aY T M) rs j))
     rw [HL.out]
     exact World.rangeAt_setCells_same _ _ 0 _ (by rw [Ud];exact i5 HS.out.thr (ET w1.heap.size (by omega) (by omega)))
    ·obtain ⟨g',h1,h2,h3⟩:=HS.out.row i hi
     have TV:g=g':=by injection h1 with h1;injection h1 with h1 _ _
     subst TV
     refine ⟨g,rfl,by rw [dW];omega,?_⟩
     rw [World.cell?_setCells_out w1.heap.size (ai L) 0 w5 ⟨g,i,none⟩ (fun e=>by replace e:g=w1.heap.size:=e;omega)]
     have:=h3
     unfold World.cell? at this ⊢
     rw [ET g (by omega) hJ]
     exact this
   obtain ⟨c0,c1,c2,c3,c4,c5,c6,c7,c8,Gk⟩:=x8 kI
   obtain ⟨l0,l1,l2,l3,l4,l5,l6,l7,l8,oz⟩:=x8 Fj
   subst Gk oz
   have sM:Hid (∀ wx:World,wx.rangeAt w1.heap.size 0 (ai [c0,c1,c2,c3,c4,c5,c6,c7,c8])→wx.there w1.heap.size 0 9→wx.cell? ⟨w1.heap.size,0,none⟩=some (.int .i64 c0)∧wx.cell? ⟨w1.heap.size,1,none⟩=some (.int .i64 c1)∧wx.cell? ⟨w1.heap.size,2,none⟩=some (.int .i64 c2)∧wx.cell? ⟨w1.heap.size,3,none⟩=some (.int .i64 c3)∧wx.cell? ⟨w1.heap.size,4,none⟩=some (.int .i64 c4)∧wx.cell? ⟨w1.heap.size,5,none⟩=some (.int .i64 c5)∧wx.cell? ⟨w1.heap.size,6,none⟩=some (.int .i64 c6)∧wx.cell? ⟨w1.heap.size,7,none⟩=some (.int .i64 c7)∧wx.cell? ⟨w1.heap.size,8,none⟩=some (.int .i64 c8)∧wx.frozen? ⟨w1.heap.size,0,none⟩=false∧wx.frozen? ⟨w1.heap.size,1,none⟩=false∧wx.frozen? ⟨w1.heap.size,2,none⟩=false∧wx.frozen? ⟨w1.heap.size,3,none⟩=false∧wx.frozen? ⟨w1.heap.size,4,none⟩=false∧wx.frozen? ⟨w1.heap.size,5,none⟩=false∧wx.frozen? ⟨w1.heap.size,6,none⟩=false∧wx.frozen? ⟨w1.heap.size,7,none⟩=false∧wx.frozen? ⟨w1.heap.size,8,none⟩=false):=fun wx h1 h2=>⟨by have:=h1 0 _ rfl;simpa using this,by have:=h1 1 _ rfl;simpa using this,by have:=h1 2 _ rfl;simpa using this,by have:=h1 3 _ rfl;simpa using this,by have:=h1 4 _ rfl;simpa using this,by have:=h1 5 _ rfl;simpa using this,by have:=h1 6 _ rfl;simpa using this,by have:=h1 7 _ rfl;simpa using this,by have:=h1 8 _ rfl;simpa using this,by have:=(h2 0 (by decide)).2;simpa using this,by have:=(h2 1 (by decide)).2;simpa using this,by have:=(h2 2 (by decide)).2;simpa using this,by have:=(h2 3 (by decide)).2;simpa using this,by have:=(h2 4 (by decide)).2;simpa using this,by have:=(h2 5 (by decide)).2;simpa using this,by have:=(h2 6 (by decide)).2;simpa using this,by have:=(h2 7 (by decide)).2;simpa using this,by have:=(h2 8 (by decide)).2;simpa using this⟩
   obtain ⟨k0,k1,k2,k3,k4,k5,k6,k7,k8,f0,f1,f2,f3,f4,f5,f6,f7,f8⟩:=sM.out wr Vt.out HS.out.thr
   have yl:(0:Int)≤(m:Int):=by omega
   have ht5:w1.heap.size<wr.heap.size:=by omega
   clear hx FO TO hL FX Ud Zr hLo hCs hUA
   go_upto_region 6 with fail
   go_region_with ((go_at_call 85;refine (pj _ b (vS.1,v2) (.slice a els.length c) els T made M rs (mE T M rs kl (xs.drop (m+1))) G j lj [c0,c1,c2,c3,c4,c5,c6,c7,c8] RB.out (Zy.out (m+1)) HJ.out.1 HCM.out kI).mono ?_;intro e w5 hp;obtain ⟨rfl,v5,Lt,CE,Xu⟩:=hp;rw [HL.out];obtain ⟨y0,y1,y2,y3,y4,y5,y6,y7,y8,z0,z1,z2,z3,z4,z5,z6,z7,z8⟩:=sM.out w5 (HC.out w5 CE).2.1 (HC.out w5 CE).2.2;have y5l:w1.heap.size<w5.heap.size:=Nat.lt_of_lt_of_le ht5 CE.size;have HX:Hid (SOI w b vS (.slice a els.length c) els T made M rs kl G w2 w1.heap.size (some ⟨g,0,none⟩) xs m v5 (w5.setCells w1.heap.size 0 (ai [l0,l1,l2,l3,l4,l5,l6,l7,l8]))):=jl.out w5 v5 Lt CE Xu;clear Lt CE Xu))
   all_goals
    have HI:Hid (∃ v5,SOI w b vS (.slice a els.length c) els T made M rs kl G w2 w1.heap.size (some ⟨g,0,none⟩) xs m v5 (((((((((w5.setCell ⟨w1.heap.size,0,none⟩ (.int .i64 l0)).setCell ⟨w1.heap.size,1,none⟩ (.int .i64 l1)).setCell ⟨w1.heap.size,2,none⟩ (.int .i64 l2)).setCell ⟨w1.heap.size,3,none⟩ (.int .i64 l3)).setCell ⟨w1.heap.size,4,none⟩ (.int .i64 l4)).setCell ⟨w1.heap.size,5,none⟩ (.int .i64 l5)).setCell ⟨w1.heap.size,6,none⟩ (.int .i64 l6)).setCell ⟨w1.heap.size,7,none⟩ (.int .i64 l7)).setCell ⟨w1.heap.size,8,none⟩ (.int .i64 l8))):=⟨v5,HX.out⟩
    clear jl Ug HC H0 Vt RB HS HX sM
    go_wp2
    go_roundg m
    case measure=>omega
    case rel=>exact ⟨m,by go_num,by omega,Nat.le_refl _,HI⟩
end
end Go.Proofs.YtblfffbmklkhmaaGreat
namespace Go.Proofs.YtblfffbmklkhmaaGreat
open Go.RowKit
def jM (w:World) (T:aA) (n:Int) (s:ByteArray) (e:Ending) (w':World):Prop:=e=.returned (.tuple #[.int .i64 ((if bP T n s=0 then (ir s).getD 0 else 0:Nat):Int),.int .i64 (bP T n s)])∧Below w.heap.size w w'
theorem KY {T:aA} {n:Int} {s:ByteArray} (h:bP T n s=0):∃ l p,bn T n=some l∧ir s=some p:=by
 unfold bP at h
 cases ht:bn T n with
 | none=>rw [ht] at h;cases h
 | some l=>
  rw [ht] at h
  cases hp:ir s with
  | none=>simp only [hp] at h;cases h
  | some p=>exact ⟨l,p,rfl,rfl⟩
theorem Kj {s:ByteArray} {p:Nat} (h:ir s=some p):p<9:=by
 unfold ir at h
 split at h
 ·exact kw h
 ·cases h
section
set_option maxRecDepth 100000
set_option maxHeartbeats 4000000
variable (w:World) (b:Nat) (vS:Value × Value) (v:Value) (els:List PEl) (T:aA) (made:Nat) (M:Nat→Mk) (rs:List cQ) (kl:List (Int × List Int)) (G:Nat→Prop)
theorem yC (n:Int) (s:ByteArray) (h:DM w b vS v els T made M rs kl G):Calls Tryz.prog 66 #[.pointer (some ⟨b,0,none⟩),.int .i64 n,.string s] w fun e w'=>jM w T n s e w':=by
 obtain ⟨a,c,hv⟩:=h.pb.pl.shape
 subst hv
 have HD:Hid (DM w b vS (.slice a els.length c) els T made M rs kl G):=h
 have HF:Hid ((bU els n).isSome=(bn T n).isSome):=iH h.pb.pt h.tw n
 clear h
 go_enter Tryz.func66,Tryz.ntmps66
 go_wp2_with fail
 refine (Af w b a c els n HD.out.trd).mono ?_
 rintro e w1 ⟨rfl,cF⟩
 rw [HF.out]
 cases ht:bn T n with
 | none=>
  have HE:Hid (jM w T n s (.returned (.tuple #[.int .i64 0,.int .i64 5])) w1):=by
   have:bP T n s=5:=by unfold bP;rw [ht]
   unfold jM
   rw [this]
   exact ⟨rfl,cF⟩
  clear ht cF
  simp only [Option.isSome_none]
  go_wp2
  go_ret2
  exact HE.out
 | some l=>
  simp only [Option.isSome_some]
  have ed:Hid (Below w.heap.size w w1):=cF
  have HQ:Hid ((ir s=none→bP T n s=4)∧∀ p,ir s=some p→bP T n s=0):=⟨fun hp=>by unfold bP;rw [ht];simp only [hp],fun p hp=>by unfold bP;rw [ht];simp only [hp]⟩
  clear ht cF
  go_wp2_with fail
  refine (vV w1 s).mono ?_
  rintro e w2 ⟨rfl,dp⟩
  have ea:Hid (Below w.heap.size w w2):=ed.out.trans (dp.mono ed.out.size)
  clear dp
  cases hp:ir s with
  | none=>
   have HE:Hid (jM w T n s (.returned (.tuple #[.int .i64 0,.int .i64 4])) w2):=by
    have:bP T n s=4:=HQ.out.1 hp
    unfold jM
    rw [this]
    exact ⟨rfl,ea.out⟩
   clear hp
   simp only [Option.isSome_none,Option.getD_none]
   go_wp2
   go_ret2
   exact HE.out
  | some p=>
   have HE:Hid (jM w T n s (.returned (.tuple #[.int .i64 (p:Nat),.int .i64 0])) w2):=by
    have:bP T n s=0:=HQ.out.2 p hp
    unfold jM
    rw [this,if_pos rfl,hp]
    exact ⟨rfl,ea.out⟩
   clear hp
   simp only [Option.isSome_some,Option.getD_some]
   go_wp2
   go_ret2
   exact HE.out
end
section
set_option maxRecDepth 100000
set_option maxHeartbeats 4000000
variable (w:World) (px:Value) (T:aA) (made:Nat) (M:Nat→Mk) (rs:List cQ) (kl:List (Int × List Int)) (F:Nat→Prop)
def uq (n:Int) (s:ByteArray) (e:Ending) (w':World):Prop:=
 e=.returned (.tuple #[.int .i64 (jn T M rs n s),.int .i64 (bP T n s)])∧DSk w' px T made M rs (if bP T n s=0 then ul T M rs kl n else kl) (bu F w)∧Fr w w' F
theorem KC (n:Int) (s:ByteArray) (h:DSk w px T made M rs kl F):Calls Tryz.prog 37 #[px,.int .i64 n,.string s] w fun e w'=>uq w px T made M rs kl F n s e w':=by
 obtain ⟨b,vS,v,els,G,rfl,h2,h3,h4,h5,h6,h7⟩:=h
 have HB:Hid (DM w b vS v els T made M rs kl G∧KOK T M rs kl∧F b∧(∀ j,v.ownBlock=some j→F j)∧(∀ j,vS.2.ownBlock=some j→F j)∧∀ k,G k→F k):=⟨h2,h3,h4,h5,h6,h7⟩
 clear h2 h3 h4 h5 h6 h7
 go_enter Tryz.func37,Tryz.ntmps37
 go_wp2_with fail
 refine (yC w b vS v els T made M rs kl G n s HB.out.1).mono ?_
 rintro e w1 ⟨rfl,cF⟩
 have ju:Hid (DM w1 b vS v els T made M rs kl G):=HB.out.1.below cF
 have ed:Hid (Below w.heap.size w w1):=cF
 clear cF
 by_cases hq:bP T n s=0
 ·obtain ⟨l,p,ht,hp⟩:=KY hq
  obtain ⟨yj,hn⟩:=uJ ht
  have MI:=Kj hp
  have HV:Hid (jn T M rs n s=(dj (aY T M) rs n).getD p 0):=by unfold Hid jn;rw [if_pos hq,hp];rfl
  have HQ:Hid (bP T n s=0):=hq
  rw [if_pos hq,hq,hp]
  simp only [Option.getD_some]
  obtain ⟨k,hk⟩:∃ k:Nat,n.toNat=k:=⟨_,rfl⟩
  rw [hk] at yj hn
  subst hn
  have HM:Hid ((k,l)∈T):=yj
  clear hq ht hp yj hk
  go_wp2_with fail
  refine (yq w1 b vS v els T made M rs kl G k l ju.out HB.out.2.1 HM.out).mono ?_
  rintro e w2 ⟨rfl,v2,iL,bo,TC⟩
  have Fj:=jO (aY T M) rs k
  have HE:Hid (∀ Z,uq w (.pointer (some ⟨b,0,none⟩)) T made M rs kl F k s (.returned (.tuple #[.int .i64 ((dj (aY T M) rs k).getD p 0),.int .i64 0])) (w2.alloc (.cells Z 103))):=fun Z=>by
   have hf:Fr w w2 F:=((Fr.refl w F).below ed.out).trans (bo.mono (fun j hj=>by
    rcases hj with e | e
    ·exact e▸HB.out.2.2.1
    ·exact HB.out.2.2.2.2.1 j e))
   refine ⟨by rw [HQ.out,HV.out],?_,hf.alloc _⟩
   rw [if_pos HQ.out]
   refine ⟨b,(vS.1,v2),v,els,G,rfl,iL.below ((Below.refl _ _).alloc (Nat.le_refl _) _),II HB.out.2.1 HB.out.1.tw HM.out,Or.inl HB.out.2.2.1,fun j hj=>Or.inl (HB.out.2.2.2.1 j hj),fun j hj=>?_,fun j hj=>Or.inl (HB.out.2.2.2.2.2 j hj)⟩
   rcases TC j hj with h1 | h1
   ·exact Or.inl (HB.out.2.2.2.2.1 j h1)
   ·exact Or.inr (Nat.le_trans ed.out.size h1)
  clear iL bo TC
  generalize dj (aY T M) rs k=L at Fj HE ⊢
  have bR:(ai L).toArray.size=9:=List.size_toArray.trans (by rw [List.length_map];exact Fj)
  have t8:Hid ((Tryz.prog.info? 103).map (·.size)=some (ai L).toArray.size):=by unfold Hid;rw [bR];exact Tryz.sizeS
  have X5:Hid (9=(ai L).toArray.size):=bR.symm
  have ER:Hid ((ai L).toArray.all (·.oneCell')=true):=gP L
  have q0:(w2.alloc (.cells (ai L).toArray 103)).cell? ⟨w2.heap.size,p,none⟩=some (.int .i64 (L.getD p 0)):=by
   have:=dY w2 (ai L) 103 p (.int .i64 (L.getD p 0)) (qS (by omega))
   rwa [Nat.zero_add] at this
  have Zo:(p:Int)<9:=by omega
  clear bR
  generalize L.getD p 0=val at q0 HE
  go_wp2_with (refine aw rfl 103 _ _ rfl _ (ai L).toArray 103 rfl rfl t8.out X5.out ER.out ?_)
  go_ret2
  exact HE.out _
 ·have HE:Hid (uq w (.pointer (some ⟨b,0,none⟩)) T made M rs kl F n s (.returned (.tuple #[.int .i64 0,.int .i64 (bP T n s)])) w1):=by
   refine ⟨by unfold jn;rw [if_neg hq],?_,(Fr.refl w F).below ed.out⟩
   rw [if_neg hq]
   exact ⟨b,vS,v,els,G,rfl,ju.out,HB.out.2.1,Or.inl HB.out.2.2.1,fun j hj=>Or.inl (HB.out.2.2.2.1 j hj),fun j hj=>Or.inl (HB.out.2.2.2.2.1 j hj),fun j hj=>Or.inl (HB.out.2.2.2.2.2 j hj)⟩
  have gq:(bP T n s != 0)=true:=by simp [hq]
  rw [if_neg hq]
  clear hq
  generalize bP T n s=y at HE gq ⊢
  go_wp2
  go_ret2
  exact HE.out
end
def Zi (w:World) (px:Value) (T:aA) (made:Nat) (M:Nat→Mk) (rs:List cQ) (F:Nat→Prop):Prop:=∃ kl,DSk w px T made M rs kl F
theorem j7:UQ Zi where
 ptr:=fun ⟨_,h⟩=>by
  obtain ⟨b,_,_,_,_,rfl,_⟩:=h
  exact ⟨_,rfl⟩
 tw:=fun ⟨_,h⟩=>h.tw
 mark:=fun ⟨kl,h⟩ hm=>⟨kl,h.mark hm⟩
 keep:=fun ⟨kl,h⟩ hk hz=>⟨kl,h.keep hk hz⟩
 here:=fun ⟨kl,h⟩=>⟨kl,h.here⟩
 new:=fun w s root hs=>(Jv w s root hs).mono fun e w' h=>⟨h.1,h.2.imp id (fun ⟨h1,px,h2,h3⟩=>⟨h1,px,h2,[],h3⟩)⟩
 ins:=fun w px T made M rs F par at' kind ⟨kl,h⟩ hm=>(KT w px T made M rs kl F par at' kind h hm).mono fun e w' ⟨y,T',made',n,iN,h1,h2,h3,h4,_⟩=>⟨y,T',made',n,h1,h2,⟨iN,h3⟩,h4⟩
 rem:=fun w px T made M rs F n ⟨kl,h⟩=>(Kf w px T made M rs kl F n h).mono fun e w' ⟨y,T',iN,h1,h2,h3,h4,_⟩=>⟨y,T',h1,h2,⟨iN,h3⟩,h4⟩
 mov:=fun w px T made M rs F n m at' ⟨kl,h⟩=>(Lx w px T made M rs kl F n m at' h).mono fun e w' ⟨y,T',iN,h1,h2,h3,h4,_⟩=>⟨y,T',h1,h2,⟨iN,h3⟩,h4⟩
 cls:=fun w px T made M rs F n s on ⟨kl,h⟩=>(JJ w px T made M rs kl F n s on h).mono fun e w' ⟨y,iN,h1,h2,h3,h4,_⟩=>⟨y,h1,h2,⟨iN,h3⟩,h4⟩
 nam:=fun w px T made M rs F n s ⟨kl,h⟩=>(Ld w px T made M rs kl F n s h).mono fun e w' ⟨y,iN,h1,h2,h3,h4,_⟩=>⟨y,h1,h2,⟨iN,h3⟩,h4⟩
 sht:=fun w px T made M rs F s hs ⟨kl,h⟩=>(L4 w px T made M rs kl F s hs h).mono fun e w' ⟨y,iN,h1,h2,h3,h4,_⟩=>⟨y,h1,h2,⟨iN,h3⟩,h4⟩
 qry:=fun w px T made M rs F n s ⟨kl,h⟩=>(KC w px T made M rs kl F n s h).mono fun e w' ⟨h1,h2,h3⟩=>⟨h1,⟨_,h2⟩,h3⟩
end Go.Proofs.YtblfffbmklkhmaaGreat
namespace Go.Proofs.YtblfffbmklkhmaaGreat
open Go.RowKit
def Xo (w:World) (px:Value) (X:YS) (_st:List Nat) (F:Nat→Prop):Prop:=Zi w px X.T X.made X.M X.rs F
def VW (_:ft) (_:YS) (_:List Nat) (_:YS) (_:List Nat):Prop:=True
section
set_option maxRecDepth 100000
set_option maxHeartbeats 2000000
theorem GD (w:World) (px:Value) (T:aA) (made:Nat) (M:Nat→Mk) (rs:List cQ) (F:Nat→Prop) (n:Int) (h:Zi w px T made M rs F):Calls Tryz.prog 91 #[px,.int .i64 n] w fun e w'=>A5 w T n e w':=by
 obtain ⟨kl,b,vS,v,els,G,rfl,h2,h3,h4⟩:=h
 have HB:Hid (PB3 w b vS v els T made∧TW T made):=⟨h2.pb,h2.tw⟩
 clear h2 h3 h4
 go_enter Tryz.func91,Tryz.ntmps91
 go_wp2_with fail
 refine (Hj w b v els n HB.out.1.c1 HB.out.1.pl HB.out.1.few).mono ?_
 rintro e w1 ⟨hB,fi⟩
 have Nc:Hid (Below w.heap.size w w1):=hB
 rcases fi with ⟨hf,rfl⟩ | ⟨⟨x,hx⟩,a,c,rfl,bL⟩
 ·have HN:Hid (bn T n=none):=HB.out.1.pt.find_none hf
  clear hf hB
  go_wp2
  go_ret2
  exact ⟨Nc.out,Or.inl ⟨HN.out,rfl⟩⟩
 ·have HN:Hid (bn T n=some (az els n)):=(HB.out.1.pt.find_some HB.out.2 hx).1
  have HO:Hid (w1.ownsRow w.heap.size 3 1 (.slice a (az els n).length c) (az els n).length (aK (az els n))):=bL
  clear hx hB bL
  go_wp2
  go_ret2
  exact ⟨Nc.out,Or.inr ⟨az els n,a,c,HN.out,rfl,HO.out⟩⟩
end
theorem KE:bi Xo VW where
 ptr:=fun h=>j7.ptr h
 keep:=fun h hk hz=>j7.keep h hk hz
 here:=fun h=>j7.here h
 new:=fun w s root hs=>j7.new w s root hs
 ins:=fun w px X _ F par at' kind h hm=>(j7.ins w px X.T X.made X.M X.rs F par at' kind h (by omega)).mono fun e w' ⟨y,T',made',n,h1,h2,h3,h4⟩=>⟨y,⟨T',made',_,_,X.rs⟩,[],n,h1,⟨h2,rfl,rfl,rfl⟩,trivial,h3,h4⟩
 rem:=fun w px X _ F n h=>(j7.rem w px X.T X.made X.M X.rs F n h).mono fun e w' ⟨y,T',h1,h2,h3,h4⟩=>⟨y,⟨T',X.made,X.M,X.shn,X.rs⟩,[],h1,⟨h2,rfl,rfl,rfl,rfl⟩,trivial,h3,h4⟩
 mov:=fun w px X _ F n m at' h=>(j7.mov w px X.T X.made X.M X.rs F n m at' h).mono fun e w' ⟨y,T',h1,h2,h3,h4⟩=>⟨y,⟨T',X.made,X.M,X.shn,X.rs⟩,[],h1,⟨h2,rfl,rfl,rfl,rfl⟩,trivial,h3,h4⟩
 chi:=fun w px X _ F n h=>GD w px X.T X.made X.M X.rs F n h
 cls:=fun w px X _ F n s on h=>(j7.cls w px X.T X.made X.M X.rs F n s on h).mono fun e w' ⟨y,h1,h2,h3,h4⟩=>⟨[],by rw [h1,h2],trivial,by
  unfold Xo dN
  rw [h2] at h3
  split
  ·rename_i h5;rw [if_pos h5] at h3;exact h3
  ·rename_i h5;rw [if_neg h5] at h3;exact h3,h4⟩
 nam:=fun w px X _ F n s h=>(j7.nam w px X.T X.made X.M X.rs F n s h).mono fun e w' ⟨y,h1,h2,h3,h4⟩=>⟨[],by rw [h1,h2],trivial,by
  unfold Xo dM
  rw [h2] at h3
  split
  ·rename_i h5;rw [if_pos h5] at h3;exact h3
  ·rename_i h5;rw [if_neg h5] at h3;exact h3,h4⟩
 sht:=fun w px X _ F s hs h=>(j7.sht w px X.T X.made X.M X.rs F s hs h).mono fun e w' ⟨y,h1,h2,h3,h4⟩=>⟨[],by rw [h1,h2],trivial,by
  unfold Xo gE
  rw [h2] at h3
  split
  ·rename_i h5;rw [if_pos h5] at h3;exact h3
  ·rename_i h5;rw [if_neg h5] at h3;exact h3,h4⟩
 qry:=fun w px X _ F n s h=>(j7.qry w px X.T X.made X.M X.rs F n s h).mono fun e w' ⟨h1,h2,h3⟩=>⟨[],h1,trivial,h2,h3⟩
def Io (_:YS) (_:List Nat) (K:fm):Prop:=-1≤K.cnt∧K.cnt≤24
theorem Jc (T:aA) (e:Int) (s:List Nat × List Nat × Int) (h:-1≤s.2.2∧s.2.2≤24):∀ j,-1≤(Ez T e s j).2.2∧(Ez T e s j).2.2≤24
 | 0=>h
 | j+1=>Bu (Jc T e s h j)
theorem SpoK.cnt {T:aA} {n:Int} {K K':fm} {sp:Bool} (h:SpoK T n K K' sp) (hc:-1≤K.cnt∧K.cnt≤24):-1≤K'.cnt∧K'.cnt≤24:=by
 rcases h with ⟨_,rfl⟩ | ⟨_,_,_,_,h5,_⟩
 ·exact hc
 ·rw [h5];omega
theorem ND:i8 VW Io where
 ins:=fun hi _ hr=>by
  obtain ⟨_,_,_,_,⟨_,rfl⟩ | ⟨_,_,_,_,h5,_⟩⟩:=hr
  ·exact hi
  ·unfold Io;rw [h5];omega
 rem:=fun hi _ hr=>by
  obtain ⟨_,_,_,⟨_,rfl⟩ | ⟨_,_,_,_,h5,_⟩⟩:=hr
  ·exact hi
  ·unfold Io;rw [h5];omega
 mov:=fun hi _ hr=>by
  obtain ⟨_,_,_,⟨_,rfl⟩ | ⟨_,_,_,_,h5,_⟩⟩:=hr
  ·exact hi
  ·unfold Io;rw [h5];omega
 cls:=fun hi _ hr=>by
  obtain ⟨_,_,⟨_,rfl⟩ | ⟨_,_,_,_,_,_,_,h5⟩⟩:=hr
  ·exact hi
  ·exact h5.cnt hi
 nam:=fun hi _ hr=>by
  obtain ⟨_,_,⟨_,rfl⟩ | ⟨_,_,_,_,_,_,h5⟩⟩:=hr
  ·exact hi
  ·exact h5.cnt hi
 sht:=fun hi _ hr=>by
  obtain ⟨_,_,⟨_,rfl⟩ | ⟨_,_,_,_,h5,_⟩⟩:=hr
  ·exact hi
  ·unfold Io;rw [h5];omega
 qry:=fun {X st K n s X' fQ K'} hi _ hr=>by
  obtain ⟨_,_,⟨_,rfl⟩ | ⟨_,_,_,j,_,_,h5⟩⟩:=hr
  ·exact hi
  ·have h6:=Jc X.T n (K.lm,K.ly,K.cnt) hi j
   rw [←h5] at h6
   exact h6
 cnt:=fun h=>h
theorem Nz:∀ (X:YS) (v1 v2 v3:Value),X.T=[(0,[])]→Io X [0] ⟨v1,v2,v3,1,false,[0],[0],[]⟩:=fun _ _ _ _ _=>⟨by show (-1:Int)≤1;omega,by show (1:Int)≤24;omega⟩
end Go.Proofs.YtblfffbmklkhmaaGreat
namespace Go.Proofs.YtblfffbmklkhmaaGreat
open Go.ChangeShapes Go.WideShapes Go.ChangeAt Go.RowKit
theorem AD {W:World} {a0:Option Addr} {len fL GC:Nat} {H:Type} {enc:TypeId × Value→H} {x:DataW H × List MemPlace} (h:DataW.trod enc Tryz.prog W 0 (fun _=>true) true GC 22 [.slice a0 len fL]=some x) (hb:Rows.uptoBulk x.1≤1048576) :
  Calls Tryz.prog 6 #[.slice a0 len fL] W fun e w'=>mw W e w':=by
 have bR:=yd h hb
 rcases Bm h with rfl | ⟨b,off,K,A,X,Y,Z,S,T,O,rfl,hs,_⟩
 ·exact yc W a0 fL
 ·exact Ea KE ND Nz W b off len fL K A X Y Z S T O hs bR
set_option maxRecDepth 100000 in
theorem vZ (os:Os) (yu:os.Started) (H:Type) (enc:TypeId × Value→H) (F:Stop.Interp) :
  ReturnsInHanded {} Tryz.checked os 6 .any ((Rows.OpenSpec.upto Rows.stylesSpec).pre6 enc Tryz.prog Tryz.f6 Rows.stylesUptoRow.domain false) (((Rows.OpenSpec.upto Rows.stylesSpec).at F).post enc Tryz.prog Tryz.f6 false true false false):=by
 refine returnsInHanded_of_cond (C:=Tryz.checked) (s:=Rows.OpenSpec.upto Rows.stylesSpec) (k:=Rows.uptoSmall) rfl Tryz.own yu (by kernel_rfl) Tryz.func6
  (OpenSpec.witness (enc:=enc) (C:=Tryz.checked) (s:=Rows.OpenSpec.upto Rows.stylesSpec) (k:=Rows.uptoSmall) rfl false ⟨#[],#[.slice none 0 0],[]⟩ 8 (by kernel_rfl) (by kernel_rfl) (by kernel_rfl)
   (x:=([.nil],[],[])) (by kernel_rfl) rfl (by kernel_rfl)) ?_
 intro W ae args ds gs X6 Pz hW _ hk _
 have VH:∀ (j:Nat) t v,Tryz.f6.params[j]?=some t→args[j]?=some v→Value.okWide Tryz.prog W .any ae t v:=Pz
 have Zp:=hW
 obtain ⟨p,q,hA0,hV,rfl,_,_⟩:=hW
 have hA:DataW.TrodAll enc Tryz.prog W 0 (fun _=>true) true Tryz.f6.params.toList args.toList ds p:=hA0
 rw [Tryz.params6] at hA VH
 obtain ⟨v0,d0,rfl,rfl,h0⟩:=trodAll_one hA
 obtain ⟨rfl,rfl⟩:=trodVars_none hV
 obtain ⟨a0,len,fL,rfl⟩:=okWide_slice Tryz.underlying22 (VH 0 22 v0 rfl rfl)
 have h0k:=h0
 obtain ⟨GC,hf⟩:=h0
 clear hA0 Pz
 simp only [List.append_nil] at Zp hk
 have hb:Rows.uptoBulk d0≤1048576:=by
  have h1:Rows.uptoBulkAll [d0]≤1048576:=of_decide_eq_true hk
  simp only [Rows.uptoBulkAll] at h1
  omega
 have aN:∀ x∈p,x.block<W.heap.size:=fun x hx=>by simpa using Zp.lt x hx
 have Wa:∀ (W':World),Below W.heap.size W W'→DataW.Trod enc Tryz.prog W' 0 (fun b=>decide (b<W.heap.size)) true 22 (.slice a0 len fL) d0 p:=
  fun W' hn=>Below.trod Tryz.laidOut (by kernel_rfl) (of_decide_eq_true (by kernel_rfl)) h0k hn aN
 refine (AD (by simpa [Value.cells] using hf) hb).mono fun e W' ⟨he,hn⟩=>?_
 subst he
 refine ⟨_,rfl,_,_,_,[],p,[],Zp,?_,?_,rfl,hn.frame _,fun h=>by cases h⟩
 ·exact trodAll_mk1 (shut_bool Tryz.underlying4 true)
 ·exact trodAll_mk1 (Wa _ hn)
theorem styles_holds:Rows.StylesUptoSaid:=
 OpenClaim.holds_of_cond 6 Tryz.f6 rfl rfl rfl rfl rfl rfl rfl ⟨rfl,rfl,rfl,rfl,rfl⟩ rfl rfl rfl rfl rfl (by kernel_rfl) Tryz.func6 (by kernel_rfl)
  (of_decide_eq_true (by kernel_rfl)) (by unfold Func.isWrapper;first | (rw [if_pos (by decide +kernel)];kernel_rfl) | (rw [if_neg (by decide +kernel)];exact ⟨rfl,rfl⟩))
  (fun os yu H enc _ F=>vZ os yu H enc F)
end Go.Proofs.YtblfffbmklkhmaaGreat
