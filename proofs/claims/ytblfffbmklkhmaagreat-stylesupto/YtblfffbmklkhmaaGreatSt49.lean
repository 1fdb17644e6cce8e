import Derived.Test.YtblfffbmklkhmaaGreatSt47
import Derived.Test.YtblfffbmklkhmaaGreatSt48
import Derived.Deep.RegionHeld3
import Derived.Test.YtblfffbmklkhmaaGreatSt22
namespace Go.Proofs.YtblfffbmklkhmaaGreat
open Go.RowKit
def jt (T:aA) (M:Nat→Mk) (rs:List cQ) (kl:List (Int × List Int)) (k:Int):List (Int × List Int):=if (j5 kl k).isSome then kl else kl++[(k,dj (aY T M) rs k)]
theorem KOK.fresh {T:aA} {M:Nat→Mk} {rs:List cQ} {kl:List (Int × List Int)} (h:KOK T M rs kl) {k:Nat} {l:List Nat} (hk:(k,l)∈T):KOK T M rs (jt T M rs kl k):=by
 unfold jt
 cases hf:j5 kl k with
 | none=>exact h.more hk (Ed hf)
 | some s=>exact h
theorem Pt (l:List Int):∀ v∈ai l,v.oneCell'=true:=by
 intro v hv
 obtain ⟨y,_,rfl⟩:=List.mem_map.1 hv
 rfl
section
variable {w w':World} {b:Nat} {vS:Value × Value} {v:Value} {els:List PEl} {T:aA} {made:Nat} {M:Nat→Mk} {rs:List cQ} {kl:List (Int × List Int)} {G:Nat→Prop}
theorem NF {e1 e2:TypeId} {s1 s2 n1 n2:Nat} {v1 v2:Value} {x1 x2:List Value} (h1:w.ownsRow 0 e1 s1 v1 n1 x1) (h2:w.ownsRow 0 e2 s2 v2 n2 x2) (eV:e1≠e2) {k:Nat} (hk:v1.ownBlock=some k):v2.ownBlock≠some k:=by
 rcases h1.2 with ⟨rfl,_⟩ | ⟨g,fL,eU,rfl,_,hg,_⟩
 ·cases hk
 ·have:g=k:=by simpa [Value.ownBlock] using hk
  subst this
  exact aj h2 hg eV
theorem DM.kept (h:DM w b vS v els T made M rs kl G) {iN:List (Int × List Int)} {e:Ending} (hp:qA w b vS v made iN e w') (hl:iN.length≤24):e=.returned (.tuple #[])∧∃ v2,DM w' b (vS.1,v2) v els T made M rs iN G∧Fr w w' (fun j=>j=b∨vS.2.ownBlock=some j)∧∀ j,v2.ownBlock=some j→vS.2.ownBlock=some j∨w.heap.size≤j:=by
 obtain ⟨rfl,v2,hb,hk,hf,hj⟩:=hp
 have Yy:v.ownBlock≠some b:=aj h.pb.pl.row h.pb.doc (by decide)
 refine ⟨rfl,v2,⟨⟨hb,⟨iu h.pb.pl.row (fun k iU Si=>hf.block k Si (fun e=>?_)),h.pb.pl.ok⟩,h.pb.pt,h.pb.few⟩,h.tw,h.mks,h.sh.keep (fun k hg Si=>hf.block k Si (fun e=>?_)) hf.size,hk,hl,fun k hg=>Nat.lt_of_lt_of_le (h.gl k hg) hf.size,h.gb,h.gv,fun j TC hg=>?_⟩,hf,hj⟩
 ·rcases e with e | e
  ·exact Yy (e▸iU)
  ·exact NF h.pb.pl.row h.kp.row (by decide) iU e
 ·rcases e with e | e
  ·exact h.gb (e▸hg)
  ·exact h.gk k e hg
 ·rcases hj j TC with h1 | h1
  ·exact h.gk j h1 hg
  ·have:=h.gl j hg;omega
theorem DM.aside (h:DM w b vS v els T made M rs kl G) (hk:∀ j,j=b∨v.ownBlock=some j∨vS.2.ownBlock=some j∨G j→w'.heap[j]?=w.heap[j]?) (hz:w.heap.size≤w'.heap.size):DM w' b vS v els T made M rs kl G:=
 ⟨⟨(hk b (Or.inl rfl)).trans h.pb.doc,⟨iu h.pb.pl.row (fun k iU _=>hk k (Or.inr (Or.inl iU))),h.pb.pl.ok⟩,h.pb.pt,h.pb.few⟩,h.tw,h.mks,h.sh.keep (fun k hg _=>hk k (Or.inr (Or.inr (Or.inr hg)))) hz,⟨iu h.kp.row (fun k iU _=>hk k (Or.inr (Or.inr (Or.inl iU)))),h.kp.nine⟩,h.few,fun k hg=>Nat.lt_of_lt_of_le (h.gl k hg) hz,h.gb,h.gv,h.gk⟩
theorem i5 {wx wy:World} {g o n:Nat} (h:wx.there g o n) (hk:wy.heap[g]?=wx.heap[g]?):wy.there g o n:=fun j hj=>by
 obtain ⟨h1,h2⟩:=h j hj
 unfold World.cell? at h1 ⊢
 unfold World.frozen? at h2 ⊢
 rw [hk]
 exact ⟨h1,h2⟩
theorem i7 (g:Nat):∀ (vs:List Value) (o:Nat) (wx:World) (k:Nat),k≠g→(wx.setCells g o vs).heap[k]?=wx.heap[k]?
 | [],_,_,_,_=>rfl
 | u :: vs,o,wx,k,hk=>(i7 g vs (o+1) _ k hk).trans (Below.heap_setCell wx ⟨g,o,none⟩ u k hk)
theorem Fr.sets {wa:World} {S:Nat→Prop} {g:Nat} (hg:S g∨wa.heap.size≤g):∀ (vs:List Value) (o:Nat) {wx:World},Fr wa wx S→Fr wa (wx.setCells g o vs) S
 | [],_,_,h=>h
 | u :: vs,o,_,h=>Fr.sets hg vs (o+1) (h.set (p:=⟨g,o,none⟩) hg u)
theorem DM.own_lt (h:DM w b vS v els T made M rs kl G) {k:Nat} (hk:k=b∨vS.2.ownBlock=some k):k<w.heap.size:=by
 rcases hk with rfl | hk
 ·exact h.lt
 ·exact (h.kp.row.lt k hk).2
end
section
set_option maxRecDepth 100000
set_option maxHeartbeats 4000000
variable (w:World) (b:Nat) (vS:Value × Value) (v:Value) (els:List PEl) (T:aA) (made:Nat) (M:Nat→Mk) (rs:List cQ) (kl:List (Int × List Int)) (G:Nat→Prop)
def qN (k:Nat) (e:Ending) (w':World):Prop:=
 e=.returned (.agg (ai (dj (aY T M) rs k)).toArray)∧∃ v2,DM w' b (vS.1,v2) v els T made M rs (jt T M rs kl k) G∧Fr w w' (fun j=>j=b∨vS.2.ownBlock=some j)∧∀ j,v2.ownBlock=some j→vS.2.ownBlock=some j∨w.heap.size≤j
theorem pj (k:Nat) (l:List Nat) (comes:List Int) (h:DM w b vS v els T made M rs kl G) (SH:KOK T M rs kl) (hk:(k,l)∈T) (hc:comes=fZ T M rs (aW T T.length k)) (hc9:comes.length=9) :
  Calls Tryz.prog 85 #[.pointer (some ⟨b,0,none⟩),.int .i64 k,.agg (ai comes).toArray] w fun e w'=>qN w b vS v els T made M rs kl G k e w':=by
 obtain ⟨a,c,hv⟩:=h.pb.pl.shape
 subst hv
 have HD:Hid (DM w b vS (.slice a els.length c) els T made M rs kl G):=h
 have Y9:Hid (KOK T M rs kl):=SH
 have jI:b<w.heap.size:=h.lt
 have bw:=h.few
 have Om:Hid (Eu els rs k comes=dj (aY T M) rs k):=by
  unfold Hid
  rw [M3,Ov h.pb.pt h.tw h.mks.1,ue h.tw hk,hc]
 have Zu:Hid ((jt T M rs kl k).length≤24):=by
  unfold Hid
  have h1:=(SH.fresh hk).len
  have h2:=h.pb.pt.len h.tw
  have h3:=h.pb.few
  omega
 have HC9:Hid (comes.length=9):=hc9
 have Wq:Hid ((Tryz.prog.info? 103).map (·.size)=some (ai comes).length):=sizeS hc9
 have ow:Hid (∀ Z:Array Value,Below w.heap.size w ((w.alloc (.cells (ai comes).toArray 103)).alloc (.cells Z 103))):=fun Z=>((Below.refl _ _).alloc (Nat.le_refl _) _).alloc (by simp) _
 clear h SH hk hc
 go_enter Tryz.func85,Tryz.ntmps85
 go_wp2_with fail
 refine (Cp _ b vS.2 kl k (aa (HD.out.below (ow.out _)).pb.doc rfl) (HD.out.below (ow.out _)).kp bw).mono ?_
 rintro e w1 ⟨rfl,cF⟩
 have fO:w.heap.size+2≤w1.heap.size:=by have:=cF.size;simpa using this
 have ed:Hid (Below w.heap.size w w1):=(ow.out _).trans (cF.mono (by simp;omega))
 have I4:Hid (w1.rangeAt w.heap.size 0 (ai comes)):=ba cF (by simp;omega) (World.rangeAt_alloc (dY w (ai comes) 103) _)
 have rD:Hid (w1.there (w.heap.size+1) 0 9):=by
  refine cG cF (by simp) ?_
  have:=eF (w.alloc (.cells (ai comes).toArray 103)) (#[.int .i64 0,.int .i64 0,.int .i64 0,.int .i64 0,.int .i64 0,.int .i64 0,.int .i64 0,.int .i64 0,.int .i64 0]:Array Value) 103 9 (by decide)
  simpa using this
 have ju:Hid (DM w1 b vS (.slice a els.length c) els T made M rs kl G):=HD.out.below ed.out
 clear cF
 cases hf:j5 kl k with
 | some s=>
  have hs:=Y9.out.right _ (Dw hf)
  replace hs:s=dj (aY T M) rs k:=hs
  have hs9:s.length=9:=by rw [hs,jO]
  have Xv:Hid (jt T M rs kl k=kl):=by unfold Hid jt;rw [hf];rfl
  have HS:Hid (s=dj (aY T M) rs k):=hs
  clear hf hs
  show _
  simp only [Option.getD_some,Option.isSome_some]
  have Vz:Hid ((Tryz.prog.info? 103).map (·.size)=some (ai s).length):=sizeS hs9
  have bR:(ai s).toArray.size=9:=List.size_toArray.trans (by rw [List.length_map];exact hs9)
  have t8:Hid ((Tryz.prog.info? 103).map (·.size)=some (ai s).toArray.size):=by unfold Hid;rw [bR];exact Tryz.sizeS
  have X5:Hid (9=(ai s).toArray.size):=bR.symm
  have ER:Hid ((ai s).toArray.all (·.oneCell')=true):=gP s
  have Xj:Hid ((w1.alloc (.cells (ai s).toArray 103)).rangeAt w1.heap.size 0 (ai s)):=dY w1 _ _
  have rp:Hid ((w1.alloc (.cells (ai s).toArray 103)).there (w.heap.size+1) 0 (ai s).toArray.size):=by unfold Hid;rw [bR];exact World.there_alloc rD.out _
  have yn:Hid (((w1.alloc (.cells (ai s).toArray 103)).setCells (w.heap.size+1) 0 (ai s)).rangeAt (w.heap.size+1) 0 (ai s)):=World.rangeAt_setCells_same _ _ 0 _ (by have:=rp.out;rwa [show (ai s).toArray.size=(ai s).length from List.size_toArray] at this)
  have r8:Hid (Below w.heap.size w ((w1.alloc (.cells (ai s).toArray 103)).setCells (w.heap.size+1) 0 (ai s))):=cq (by omega) _ _ _ (ed.out.alloc ed.out.size _)
  have HE:Hid (qN w b vS (.slice a els.length c) els T made M rs kl G k (.returned (.agg (ai s).toArray)) ((w1.alloc (.cells (ai s).toArray 103)).setCells (w.heap.size+1) 0 (ai s))):=by
   refine ⟨by rw [HS.out],vS.2,?_,(Fr.refl w _).below r8.out,fun j hj=>Or.inl hj⟩
   rw [Xv.out]
   exact HD.out.below r8.out
  clear bR ju ed rD I4
  go_wp2_with (first | (refine aw rfl 103 _ _ rfl _ (ai s).toArray 103 rfl rfl t8.out X5.out ER.out ?_) | (refine wpList_load_mid rfl 103 _ rfl w1.heap.size 0 rfl (ai s) _ Xj.out Tryz.underlying103 rfl Vz.out ?_) | (refine wpList_store_mid rfl 103 _ _ rfl (w.heap.size+1) 0 (ai s).toArray rfl rfl rp.out t8.out ER.out ?_))
  exact bodyPost_ret (fS Tryz.results85 _ rfl yn.out Tryz.underlying103 rfl Vz.out) rfl HE.out
 | none=>
  have Xv:Hid (jt T M rs kl k=kl++[((k:Int),dj (aY T M) rs k)]):=by unfold Hid jt;rw [hf];rfl
  clear hf
  simp only [Option.getD_none,Option.isSome_none]
  obtain ⟨ar,cr,xs,EB,fY⟩:=ju.out.sh.row
  have ED:Hid (w1.cell? ⟨b,0,none⟩=some (.slice ar rs.length cr)):=by
   have:w1.cell? ⟨b,0,none⟩=some vS.1:=aa ju.out.pb.doc rfl
   unfold Hid
   rw [this,EB]
  have Ht:Hid (RsRow w1 ar cr xs rs):=fY
  clear fY EB
  have Pe:Hid ((Tryz.prog.info? 103).map (·.size)=some (ai jL).toArray.size):=Tryz.sizeS
  have HZO:Hid ((ai jL).toArray.all (·.oneCell')=true):=gP jL
  have HZ9:Hid (9=(ai jL).toArray.size):=rfl
  go_upto_region 4 with (first | (refine aw rfl 103 _ _ rfl _ (ai jL).toArray 103 rfl rfl Pe.out HZ9.out HZO.out ?_))
  have ea:Hid (Below w1.heap.size w1 (w1.alloc (.cells #[.int .i64 0,.int .i64 0,.int .i64 0,.int .i64 0,.int .i64 0,.int .i64 0,.int .i64 0,.int .i64 0,.int .i64 0] 103))):=(Below.refl _ _).alloc (Nat.le_refl _) _
  have ZZ:Hid ((w1.alloc (.cells #[.int .i64 0,.int .i64 0,.int .i64 0,.int .i64 0,.int .i64 0,.int .i64 0,.int .i64 0,.int .i64 0,.int .i64 0] 103)).there w1.heap.size 0 9):=eF w1 _ _ 9 (by decide)
  have HZ3:Hid ((w1.alloc (.cells #[.int .i64 0,.int .i64 0,.int .i64 0,.int .i64 0,.int .i64 0,.int .i64 0,.int .i64 0,.int .i64 0,.int .i64 0] 103)).heap.size=w1.heap.size+1):=by simp [Hid]
  obtain ⟨W2,EC⟩:∃ W2,W2=w1.alloc (.cells #[.int .i64 0,.int .i64 0,.int .i64 0,.int .i64 0,.int .i64 0,.int .i64 0,.int .i64 0,.int .i64 0,.int .i64 0] 103):=⟨_,rfl⟩
  rw [←EC] at ea ZZ HZ3 ⊢
  clear EC
  have nX:=HZ3.out
  obtain ⟨L,hL⟩:∃ L,Eu els rs k comes=L:=⟨_,rfl⟩
  have HL:Hid (L=dj (aY T M) rs k):=by unfold Hid;rw [←hL];exact Om.out
  have Fj:L.length=9:=by rw [←hL];exact EG _ _ _ _
  have Pg:Hid (Eu els rs k comes=L):=hL
  clear hL
  have Ud:(ai L).length=9:=by rw [List.length_map];exact Fj
  have Zr:(Tryz.prog.info? 103).map (·.size)=some (ai L).length:=sizeS Fj
  have hLo:∀ v∈ai L,v.oneCell'=true:=Pt L
  have afP:=Wq.out
  have hUA:=Tryz.underlying103
  have HC:Hid (∀ wx,Below W2.heap.size W2 wx→wx.cell? ⟨b,0,none⟩=some (.slice ar rs.length cr)∧wx.rangeAt w.heap.size 0 (ai comes)∧wx.there w1.heap.size 0 9):=fun wx hb=>⟨(hb.cell (p:=⟨b,0,none⟩) (by show b<_;omega)).trans ((ea.out.cell (p:=⟨b,0,none⟩) (by show b<_;omega)).trans ED.out),ba hb (by omega) (ba ea.out (by omega) I4.out),cG hb (by omega) ZZ.out⟩
  have H0:Hid (Below W2.heap.size W2 W2.drew):=(Below.refl _ _).drew
  have Ug:Hid (∀ wx:World,(wx.cell? ⟨b,0,none⟩=some (.slice ar rs.length cr)∧wx.rangeAt w.heap.size 0 (ai comes)∧wx.there w1.heap.size 0 9)→(wx.setCells w1.heap.size 0 (ai L)).cell? ⟨b,0,none⟩=some (.slice ar rs.length cr)∧(wx.setCells w1.heap.size 0 (ai L)).rangeAt w.heap.size 0 (ai comes)∧(wx.setCells w1.heap.size 0 (ai L)).there w1.heap.size 0 9):=fun wx ⟨h1,h2,h3⟩=>⟨(World.cell?_setCells_out w1.heap.size (ai L) 0 wx ⟨b,0,none⟩ (fun e=>by replace e:b=w1.heap.size:=e;omega)).trans h1,World.rangeAt_setCells_apart h2 _ _ _ (Or.inl (by omega)),World.there_setCells h3 _ _ _⟩
  go_cut [7] (fun v7 wx=>v7=.pointer (some ⟨w1.heap.size,0,none⟩)∧Hid (Below w1.heap.size w1 wx∧wx.rangeAt w1.heap.size 0 (ai L)∧w1.heap.size<wx.heap.size))
  case first=>
   go_region_held3 (fun w'=>w'.cell? ⟨b,0,none⟩=some (.slice ar rs.length cr)∧w'.rangeAt w.heap.size 0 (ai comes)∧w'.there w1.heap.size 0 9) (first | exact HC.out _ H0.out | exact HC.out _ HX.out | exact Ug.out _ (HC.out _ HX.out))
    (first | (go_at_call 127;refine (Nw _ b a c els k ar cr xs rs comes HC9.out ((ju.out.below ea.out).below (H0.out)).trd ((Ht.out.below ea.out).below H0.out)).mono ?_;rw [Pg.out];rintro e w5 ⟨rfl,ww⟩;have HX:Hid (Below W2.heap.size W2 w5):=H0.out.trans ww;clear ww))
   all_goals
    go_wp2_with fail
    go_meet
    refine ⟨rfl,cq (Nat.le_refl _) _ _ _ (ea.out.trans (HX.out.mono ea.out.size)),World.rangeAt_setCells_same _ _ 0 _ (by rw [Ud];exact (HC.out _ HX.out).2.2),?_⟩
    rw [dW]
    have:=HX.out.size
    omega
  case rest=>
   obtain ⟨rfl,HX⟩:=hcut
   obtain ⟨W4,rfl⟩:∃ W4,W4=wc:=⟨_,rfl⟩
   have SN:Hid (DM W4 b vS (.slice a els.length c) els T made M rs kl G):=ju.out.below HX.out.1
   have U1:Hid (W4.there (w.heap.size+1) 0 9):=cG HX.out.1 (by omega) rD.out
   have X2:=HX.out.2.2
   have Xj:Hid (W4.rangeAt w1.heap.size 0 (ai L)):=HX.out.2.1
   have HF4:Hid (Fr w W4 (fun j=>j=b∨vS.2.ownBlock=some j)):=((Fr.refl w _).below ed.out).below HX.out.1
   have TS:Hid (W4.drew.rangeAt w1.heap.size 0 (ai L)):=Xj.out
   have hLt:=Ud
   clear HX HC Ug H0 ZZ ea HZ3 nX Ht ED
   have sI:Hid ((kl++[((k:Int),L)]).length≤24):=by have:=Zu.out;rw [Xv.out] at this;simpa [Hid] using this
   have OW:Hid (∀ j,j=b∨vS.2.ownBlock=some j→j<w.heap.size):=fun j hj=>HD.out.own_lt hj
   have Qx:Hid (∀ w6,Fr W4.drew w6 (fun j=>j=b∨vS.2.ownBlock=some j)→w6.rangeAt w1.heap.size 0 (ai L)):=fun w6 hf=>sU TS.out (hf.block w1.heap.size X2 (fun e=>by have:=OW.out _ e;omega))
   have RB:Hid (DM W4.drew b vS (.slice a els.length c) els T made M rs kl G):=SN.out.below (Below.refl W4.heap.size W4).drew
   go_upto_region 5 with fail
   go_cut [7] (fun v7 wx=>v7=.pointer (some ⟨w1.heap.size,0,none⟩)∧Hid (∃ v2,DM wx b (vS.1,v2) (.slice a els.length c) els T made M rs (kl++[((k:Int),L)]) G∧Fr W4.drew wx (fun j=>j=b∨vS.2.ownBlock=some j)∧∀ j,v2.ownBlock=some j→vS.2.ownBlock=some j∨W4.heap.size≤j))
   case first=>
    go_region_held3 (fun w'=>w'.rangeAt w1.heap.size 0 (ai L)) (first | exact TS.out | exact Qx.out _ HY.out.2.1)
     (first | (go_at_call 128;refine (G2 _ b vS (.slice a els.length c) made kl k L RB.out.pb.doc RB.out.kp bw Fj).mono ?_;intro e w6 hp;obtain ⟨rfl,v2,hd6,ME,hj6⟩:=RB.out.kept hp sI.out;have HY:Hid (DM w6 b (vS.1,v2) (.slice a els.length c) els T made M rs (kl++[((k:Int),L)]) G∧Fr W4.drew w6 (fun j=>j=b∨vS.2.ownBlock=some j)∧∀ j,v2.ownBlock=some j→vS.2.ownBlock=some j∨W4.heap.size≤j):=⟨hd6,ME,hj6⟩;clear hp hd6 ME hj6))
    all_goals
     go_wp2_with fail
     go_meet
     exact ⟨rfl,v2,HY.out⟩
   case rest=>
    obtain ⟨rfl,HY⟩:=hcut
    obtain ⟨W6,rfl⟩:∃ W6,W6=wc:=⟨_,rfl⟩
    obtain ⟨v2,hY⟩:=HY.out
    have PF:Hid (DM W6 b (vS.1,v2) (.slice a els.length c) els T made M rs (kl++[((k:Int),L)]) G∧Fr W4.drew W6 (fun j=>j=b∨vS.2.ownBlock=some j)∧∀ j,v2.ownBlock=some j→vS.2.ownBlock=some j∨W4.heap.size≤j):=hY
    have NH:Hid (W6.rangeAt w1.heap.size 0 (ai L)):=Qx.out W6 PF.out.2.1
    have bR:(ai L).toArray.size=9:=List.size_toArray.trans Ud
    have hz6:W4.heap.size≤W6.heap.size:=PF.out.2.1.size
    have rp:Hid (W6.there (w.heap.size+1) 0 (ai L).toArray.size):=by
     unfold Hid
     rw [bR]
     exact i5 (U1.out:W4.drew.there _ _ _) (PF.out.2.1.block (w.heap.size+1) (by show w.heap.size+1<W4.heap.size;omega) (fun e=>by have:=OW.out _ e;omega))
    have t8:Hid ((Tryz.prog.info? 103).map (·.size)=some (ai L).toArray.size):=by unfold Hid;rw [bR];exact Tryz.sizeS
    have xQ:Hid ((Tryz.prog.info? 103).map (·.size)=some (ai L).length):=Zr
    have ER:Hid ((ai L).toArray.all (·.oneCell')=true):=gP L
    have yn:Hid ((W6.setCells (w.heap.size+1) 0 (ai L)).rangeAt (w.heap.size+1) 0 (ai L)):=World.rangeAt_setCells_same _ _ 0 _ (by have:=rp.out;rwa [show (ai L).toArray.size=(ai L).length from List.size_toArray] at this)
    have HE:Hid (qN w b vS (.slice a els.length c) els T made M rs kl G k (.returned (.agg (ai L).toArray)) (W6.setCells (w.heap.size+1) 0 (ai L))):=by
     refine ⟨by rw [HL.out],v2,?_,?_,fun j hj=>(PF.out.2.2 j hj).imp id (fun h=>by omega)⟩
     ·rw [Xv.out,←HL.out]
      refine PF.out.1.aside (fun j hj=>i7 _ _ _ _ _ (fun e=>?_)) (by rw [dW];exact Nat.le_refl _)
      subst e
      rcases hj with h1 | h1 | h1 | h1
      ·omega
      ·have:=(HD.out.pb.pl.row.lt _ h1).2;omega
      ·rcases PF.out.2.2 _ h1 with h2 | h2
       ·have:=OW.out _ (Or.inr h2);omega
       ·omega
      ·have:=HD.out.gl _ h1;omega
     ·have hF6:Fr w W6 (fun j=>j=b∨vS.2.ownBlock=some j):=(HF4.out.drew1).trans PF.out.2.1
      exact Fr.sets (Or.inr (by omega)) _ _ hF6
    clear HY PF hY bR Qx TS U1 HF4 Xj RB SN ed I4 rD ju
    go_wp2_with (first | (refine wpList_load_mid rfl 103 _ rfl w1.heap.size 0 rfl (ai L) _ NH.out Tryz.underlying103 rfl xQ.out ?_) | (refine wpList_store_mid rfl 103 _ _ rfl (w.heap.size+1) 0 (ai L).toArray rfl rfl rp.out t8.out ER.out ?_))
    exact bodyPost_ret (fS Tryz.results85 _ rfl yn.out Tryz.underlying103 rfl xQ.out) rfl HE.out
end
end Go.Proofs.YtblfffbmklkhmaaGreat
namespace Go.Proofs.YtblfffbmklkhmaaGreat
open Go.RowKit
section
set_option maxRecDepth 100000
set_option maxHeartbeats 4000000
variable (w:World) (b:Nat) (a:Option Addr) (c:Nat) (els:List PEl) (n:Int)
theorem DO (h:TRd w b a c els):Calls Tryz.prog 84 #[.pointer (some ⟨b,1,none⟩),.int .i64 n] w fun e w'=>Aw w (bp els els.length n) e w':=by
 obtain ⟨i0,hi,gx,gw,gB⟩:=info_parts Tryz.info3
 have HT:Hid (TRd w b a c els):=h
 have bw:=h.few
 have q0:=h.cell
 clear h
 go_enter Tryz.func84,Tryz.ntmps84
 go_wp2_with fail
 go_loopg [1,5,11] els.length (fun gk nv v iv wr=>∃ (i:Nat) (m:Int) (L:List Int),iv=.int .i64 i∧nv=.int .i64 m∧i≤els.length∧els.length - i≤gk∧L.length≤i∧Hid (wr.ownsRow w.heap.size 3 1 v L.length (ai L)∧Below w.heap.size w wr∧bp els els.length n=L++bp els (els.length - i) m))
 case atStart=>exact ⟨0,n,[],rfl,rfl,Nat.zero_le _,by omega,by simp,World.ownsRow_nil _ _ _ _,Below.refl _ _,by simp⟩
 case round=>
  obtain ⟨i,m,L,rfl,rfl,jC,fK,hL,HN⟩:=hrel
  obtain ⟨a2,c2,jr⟩:=au HN.out.1
  subst jr
  have iS:=HN.out.2.1.size
  by_cases aN:i<els.length
  ·have hd:decide ((i:Int)<(els.length:Int))=true:=by simp;omega
   have I2:Hid (TRd wr b a c els):=HT.out.below HN.out.2.1
   clear q0
   go_wp2_with fail
   refine (gI wr b _ els m I2.out.cell I2.out.pl bw).mono ?_
   rintro e w1 ⟨rfl,cF⟩
   have dp:Below w.heap.size w w1:=HN.out.2.1.trans (cF.mono iS)
   have HO:Hid (w1.ownsRow w.heap.size 3 1 (.slice a2 L.length c2) L.length (ai L)):=aQ HN.out.1 (cF.mono (Nat.le_refl _))
   have OA:=dp.size
   have ea:Hid (Below w.heap.size w w1):=dp
   clear cF dp
   by_cases hp:parP els m=-1
   ·have gp:(parP els m==-1)=true:=by simp [hp]
    have HE:Hid (Aw w (bp els els.length n) (.returned (.slice a2 L.length c2)) w1):=by
     have e1:bp els els.length n=L:=by rw [HN.out.2.2,ta hp,List.append_nil]
     unfold Hid
     rw [e1]
     exact ⟨a2,c2,rfl,HO.out,ea.out⟩
    clear hp
    generalize parP els m=p at gp ⊢
    go_wp2
    go_ret
    exact HE.out
   ·have gp:(parP els m==-1)=false:=by simp [hp]
    have HA:Hid (bp els els.length n=(L++[parP els m])++bp els (els.length - (i+1)) (parP els m)):=by
     unfold Hid
     rw [HN.out.2.2,show els.length - i=els.length - (i+1)+1 from by omega,BF hp]
     simp
    clear hp HN
    generalize parP els m=p at gp HA ⊢
    go_wp2_with (at_builtin;refine wpList_append_own _ rfl (.tmp 19) (.tmp 21) 40 rfl w.heap.size 3 i0 (.int .i64 0) 1 8 Tryz.underlying40 hi gx gw gB rfl (by decide) _ _ _ rfl (HO.out.alloc _) ⟨w1.heap.size,0,none⟩ 1 1 [.int .i64 p] rfl rfl ?c1 ?c2 ?c3 ?c4 ?c5 ?_)
    case c1=>exact aO w1 _ rfl _ _ _ rfl
    case c2=>exact Fm p
    case c3=>unfold maxLen;omega
    case c4=>omega
    case c5=>simp;omega
    intro v5 w5 cX kG _
    have vn:Hid (w5.ownsRow w.heap.size 3 1 v5 (L++[p]).length (ai (L++[p]))∧Below w.heap.size w w5∧bp els els.length n=(L++[p])++bp els (els.length - (i+1)) p):=
     ⟨by simpa using cX,(ea.out.alloc OA _).grown kG (by simp;omega) (fun k hk=>(HO.out.lt k hk).1),HA.out⟩
    have O9:(L++[p]).length≤i+1:=by simp;omega
    clear cX kG HO ea HA I2
    generalize L++[p]=L2 at vn O9
    go_wp2
    go_roundg (els.length - (i+1))
    case measure=>omega
    case rel=>exact ⟨i+1,p,L2,by go_num,rfl,by omega,Nat.le_refl _,O9,vn⟩
  ·have hd:decide ((i:Int)<(els.length:Int))=false:=by simp;omega
   obtain rfl:i=els.length:=by omega
   have HE:Hid (Aw w (bp els els.length n) (.returned (.slice a2 L.length c2)) wr):=by
    have e1:bp els els.length n=L:=by rw [HN.out.2.2,Nat.sub_self];exact List.append_nil _
    unfold Hid
    rw [e1]
    exact ⟨a2,c2,rfl,HN.out.1,HN.out.2.1⟩
   go_wp2
   go_ret
   exact HE.out
end
end Go.Proofs.YtblfffbmklkhmaaGreat
namespace Go.Proofs.YtblfffbmklkhmaaGreat
open Go.RowKit
def mE (T:aA) (M:Nat→Mk) (rs:List cQ) (kl:List (Int × List Int)) (xs:List Int):List (Int × List Int):=xs.foldr (fun x kl=>jt T M rs kl x) kl
def ul (T:aA) (M:Nat→Mk) (rs:List cQ) (kl:List (Int × List Int)) (k:Int):List (Int × List Int):=jt T M rs (mE T M rs kl (aW T T.length k)) k
theorem wY (T:aA) (M:Nat→Mk) (rs:List cQ) (xs:List Int):(fZ T M rs xs).length=9:=by
 cases xs with
 | nil=>rfl
 | cons x xs=>exact jO _ _ _
theorem qU {T:aA} {M:Nat→Mk} {rs:List cQ} {kl:List (Int × List Int)} (h:KOK T M rs kl):∀ (xs:List Int),(∀ x∈xs,∃ k l,x=((k:Nat):Int)∧(k,l)∈T)→KOK T M rs (mE T M rs kl xs)
 | [],_=>h
 | x :: xs,hx=>by
  obtain ⟨k,l,rfl,hk⟩:=hx x List.mem_cons_self
  exact (qU h xs (fun y hy=>hx y (List.mem_cons_of_mem _ hy))).fresh hk
theorem wX {T:aA} {made:Nat} (h:TW T made) {k:Nat} {l:List Nat} (hk:(k,l)∈T):∀ x∈aW T T.length k,∃ j lj,x=((j:Nat):Int)∧(j,lj)∈T:=fun x hx=>by
 obtain ⟨i,hi,rfl⟩:=List.getElem_of_mem hx
 obtain ⟨j,lj,h1,h2,_⟩:=oK h i hk (List.getElem?_eq_getElem hi)
 exact ⟨j,lj,h1,h2⟩
theorem II {T:aA} {made:Nat} {M:Nat→Mk} {rs:List cQ} {kl:List (Int × List Int)} (h:KOK T M rs kl) (hw:TW T made) {k:Nat} {l:List Nat} (hk:(k,l)∈T):KOK T M rs (ul T M rs kl k):=(qU h _ (wX hw hk)).fresh hk
theorem xG {T:aA}:∀ (n:Nat) (e:Int),(aW T n e).length≤n
 | 0,_=>by simp [aW]
 | n+1,e=>by
  show (if aU T e=-1 then [] else aU T e :: aW T n (aU T e)).length≤n+1
  split
  ·simp
  ·have:=xG (T:=T) n (aU T e)
   simp only [List.length_cons]
   omega
section
set_option maxRecDepth 100000
set_option maxHeartbeats 4000000
variable (w:World) (b:Nat) (vS:Value × Value) (v:Value) (els:List PEl) (T:aA) (made:Nat) (M:Nat→Mk) (rs:List cQ) (kl:List (Int × List Int)) (G:Nat→Prop)
def qF (k:Nat) (e:Ending) (w':World):Prop:=
 e=.returned (.agg (ai (dj (aY T M) rs k)).toArray)∧∃ v2,DM w' b (vS.1,v2) v els T made M rs (ul T M rs kl k) G∧Fr w w' (fun j=>j=b∨vS.2.ownBlock=some j)∧∀ j,v2.ownBlock=some j→vS.2.ownBlock=some j∨w.heap.size≤j
structure SOI (w2:World) (t5:Nat) (al:Option Addr) (xs:List Int) (m:Nat) (v2:Value) (wr:World):Prop where
 dm:DM wr b (vS.1,v2) v els T made M rs (mE T M rs kl (xs.drop m)) G
 fr:Fr w wr (fun j=>j=b∨vS.2.ownBlock=some j)
 own:∀ j,v2.ownBlock=some j→vS.2.ownBlock=some j∨w2.heap.size≤j
 rng:wr.rangeAt t5 0 (ai (fZ T M rs (xs.drop m)))
 thr:wr.there t5 0 9
 res:wr.there w.heap.size 0 9
 row:RowI wr al xs
 far:w2.heap.size≤wr.heap.size
end
section
variable {w:World} {b:Nat} {vS:Value × Value} {v:Value} {els:List PEl} {T:aA} {made:Nat} {M:Nat→Mk} {rs:List cQ} {kl:List (Int × List Int)} {G:Nat→Prop}
variable {w2:World} {t5:Nat} {al:Option Addr} {xs:List Int} {m:Nat} {v2:Value} {wr:World}
theorem SOI.alone (h:SOI w b vS v els T made M rs kl G w2 t5 al xs m v2 wr) (h0:∀ j,j=b∨vS.2.ownBlock=some j→j<w.heap.size) {j:Nat} (h1:w.heap.size≤j) (h2:j<w2.heap.size):¬ (j=b∨v2.ownBlock=some j):=by
 rintro (e | e)
 ·have:=h0 j (Or.inl e);omega
 ·rcases h.own j e with e | e
  ·have:=h0 j (Or.inr e);omega
  ·omega
end
end Go.Proofs.YtblfffbmklkhmaaGreat
