/- Own work. -/
import Derived.Test.YtblfffbmklkhmabGreatAl19
set_option maxRecDepth 100000
set_option maxHeartbeats 40000000
namespace Go.Proofs.YtblfffbmklkhmabGreat
open Go.RowKit Go.Proofs.Tryz
section
variable (w:World)(b:Nat)(vS:Value × Value)(v:Value)(aa:List PEl)(T:aU)(ae:Nat)(M:Nat->Mk)(rs:List dx)(kl:List (Int × List Int))(G:Nat->Prop)
theorem sN (k:Nat)(l:List Nat)(h:DM w b vS v aa T ae M rs kl G)(Wx:KOK T M rs kl)(hk:(k,l)∈T):
  Calls prog 63 #[.pointer (some ⟨b,0,none⟩),.int .i64 k] w λe w'=>tu w b vS v aa T ae M rs kl G k e w':=by
 obtain⟨a,c,hv⟩:=h.pb.pl.shape;subst hv;have HD:Hid (DM w b vS (.slice a aa.length c) aa T ae M rs kl G):=h;have HKO:Hid (KOK T M rs kl/\(k,l)∈T):=⟨Wx,hk⟩;have jM:b<w.heap.size:=h.lt;have HAB:Hid (bY aa aa.length k=bh T T.length k):=by unfold Hid;rw[wK h.pb.pt h.tw,h.pb.pt.len h.tw]
 have HAL:Hid ((bh T T.length k).length<=24):=by
  have h1:=zO (T:=T) T.length k;have h2:=h.pb.pt.len h.tw;have h3:=h.pb.few;unfold Hid;omega
 have Rx:Hid (∀j,j=b∨vS.2.ownBlock=some j->j<w.heap.size):=λj hj=>h.own_lt hj;have oE:Hid (∀Z:Array Value,Below w.heap.size w (w.alloc (.cells Z 132))):=λZ=>bo.alloc aF _;have HDR:Hid (∀(i:Nat) (x:Int),(bh T T.length k)[i]?=some x->∃j lj,x=((j:Nat):Int)/\(j,lj)∈T/\bh T T.length x=(bh T T.length k).drop (i+1)):=λi x hx=>qO h.tw i hk hx;have HKC:Hid (∀m,KOK T M rs (lE T M rs kl ((bh T T.length k).drop m))):=λm=>tE Wx _ (λx hx=>tA h.tw hk x (List.mem_of_mem_drop hx));have fI:Hid (mR T M rs kl k=js T M rs (lE T M rs kl ((bh T T.length k).drop 0)) k):=rfl;have HCO:Hid (iX T M rs ((bh T T.length k).drop 0)=iX T M rs (bh T T.length k)):=rfl;clear h Wx hk;go_enter func63,ntmps63;go_wp2_with fail;refine(sK _).mono ?_;rintro e w1 ⟨rfl,cH⟩;have gA:w.heap.size+1<=w1.heap.size:=by have:=cH.size;simpa using this
 have eu:Hid (Below w.heap.size w w1):=(oE.out _).trans (cH.mono (by simp))
 have HT4:Hid (w1.there w.heap.size 0 9):=by
  refine dH cH (by simp) ?_;exact f9 w (#[.int .i64 0,.int .i64 0,.int .i64 0,.int .i64 0,.int .i64 0,.int .i64 0,.int .i64 0,.int .i64 0,.int .i64 0]:Array Value) 132 9 (by decide)
 clear cH;have HI9:Hid ((prog.info? 132).map (·.size)=some (aJ eL).toArray.size):=Tryz.sizeS;have HIO:Hid ((aJ eL).toArray.all (·.oneCell')=true):=gW eL;have qp:Hid (9=(aJ eL).toArray.size):=rfl;have eM:Hid (Below w1.heap.size w1 (w1.alloc (.cells (aJ eL).toArray 132))):=bo.alloc aF _;have MD:Hid ((w1.alloc (.cells (aJ eL).toArray 132)).rangeAt w1.heap.size 0 (aJ eL)):=eA w1 _ _;have FL:Hid ((w1.alloc (.cells (aJ eL).toArray 132)).there w1.heap.size 0 9):=f9 w1 _ _ 9 (by decide);have Uq:Hid ((w1.alloc (.cells (aJ eL).toArray 132)).heap.size=w1.heap.size+1):=by simp[Hid]
 have oZ:Hid (DM (w1.alloc (.cells (aJ eL).toArray 132)) b vS (.slice a aa.length c) aa T ae M rs kl G):=(HD.out.below eu.out).below eM.out;have HIA:Hid ((aJ eL).toArray=#[.int .i64 1,.int .i64 2,.int .i64 3,.int .i64 4,.int .i64 5,.int .i64 6,.int .i64 0,.int .i64 0,.int .i64 0]):=rfl;rw[HIA.out] at HI9 HIO qp eM MD FL Uq oZ ⊢;go_wp2_with (first | (refine aO rfl 132 _ _ rfl _ #[.int .i64 1,.int .i64 2,.int .i64 3,.int .i64 4,.int .i64 5,.int .i64 6,.int .i64 0,.int .i64 0,.int .i64 0] 132 rfl rfl HI9.out qp.out HIO.out ?_));refine(Hf _ b a c aa k oZ.out.trd).mono ?_;rw[HAB.out];rintro e w2 ⟨al,cl,rfl,eo,dk⟩;have nX:w1.heap.size+1<=w2.heap.size:=by have:=dk.size;rwa[Uq.out] at this
 have Yr:Hid (SOI w b vS (.slice a aa.length c) aa T ae M rs kl G w2 w1.heap.size al (bh T T.length k) (bh T T.length k).length vS.2 w2):=by
  have hbb:Below w1.heap.size w1 w2:=eM.out.trans (dk.mono eM.out.size);refine⟨?_,((Fr.refl w _).below eu.out).below hbb,λj hj=>ax hj,?_,dH dk (by rw[Uq.out];omega) FL.out,dH hbb (by omega) HT4.out,RowI.own eo,aF⟩
  ·rw[List.drop_length];exact oZ.out.below dk
  ·rw[List.drop_length];exact bB dk (by rw[Uq.out];omega) MD.out
 have HGF:Hid (∀g,al=some ⟨g,0,none⟩->w1.heap.size<g/\g<w2.heap.size):=λg hg=>by
  have:=eo.lt g (by rw[hg];rfl);rw[Uq.out] at this;omega
 have XX:Hid ((bh T T.length k).length<=cl):=mp eo;clear eo dk eu HT4 HI9 HIO qp eM MD FL Uq oZ HIA HAB;obtain⟨xs,hxs⟩:∃xs,bh T T.length k=xs:=⟨_,rfl⟩;have HXS:Hid (bh T T.length k=xs):=hxs;rw[hxs] at HAL HDR HKC fI HCO Yr XX ⊢;clear hxs;have WM:=HAL.out;have KK:=XX.out;go_wp2_with fail
 go_loopg [7] xs.length (λgk iv wr=>∃m:Nat,iv=.int .i64 ((m:Int) - 1)/\m<=xs.length/\m<=gk/\Hid (∃v2,SOI w b vS (.slice a aa.length c) aa T ae M rs kl G w2 w1.heap.size al xs m v2 wr))
 case atStart=>exact⟨xs.length,by go_num,aF,aF,vS.2,Yr.out⟩
 case round=>
  obtain⟨m,rfl,hm,fT,HI⟩:=hrel;obtain⟨v2,hI⟩:=HI.out;have HS:Hid (SOI w b vS (.slice a aa.length c) aa T ae M rs kl G w2 w1.heap.size al xs m v2 wr):=hI;clear HI hI;have KP:=HS.out.far;cases m with
  | zero=>
   have lX:=zV T M rs xs;have XY:Hid (iX T M rs xs=iX T M rs (bh T T.length k)):=by unfold Hid;rw[HXS.out]
   have vc:Hid ((prog.info? 132).map (·.size)=some (aJ (iX T M rs xs)).length):=sizeS lX;have MD:Hid (wr.rangeAt w1.heap.size 0 (aJ (iX T M rs xs))):=HS.out.rng;have lW:b<wr.heap.size:=HS.out.dm.lt;rw[show(((0:Nat):Int) - 1)=-1 from rfl];go_wp2_with (refine wpList_load_mid rfl 132 _ rfl w1.heap.size 0 rfl (aJ (iX T M rs xs)) _ MD.out underlying132 rfl vc.out ?_);refine(sI wr b (vS.1,v2) _ aa T ae M rs _ G k l (iX T M rs xs) HS.out.dm (HKC.out 0) HKO.out.2 XY.out lX).mono ?_;rintro e w3 ⟨rfl,v3,uA,O0,SX⟩;have IP:=lS (bp T M) rs k;have hT4:¬(w.heap.size=b∨v2.ownBlock=some w.heap.size):=HS.out.alone Rx.out aF (by omega);have HX:Hid (DM w3 b (vS.1,v3) (.slice a aa.length c) aa T ae M rs (mR T M rs kl k) G/\Fr wr w3 (λj=>j=b∨v2.ownBlock=some j)/\(∀j,v3.ownBlock=some j->v2.ownBlock=some j∨wr.heap.size<=j)/\w3.there w.heap.size 0 9):=⟨by rw[fI.out];exact uA,O0,SX,kn HS.out.res (O0.block w.heap.size (by omega) hT4)⟩;clear uA O0 SX hT4 MD vc
   have HLE:Hid (∀(L:List Int),L=dU (bp T M) rs k->tu w b vS (.slice a aa.length c) aa T ae M rs kl G k (.returned (.agg (aJ L).toArray)) (w3.setCells w.heap.size 0 (aJ L))):=λL hL=>by
    refine⟨by rw[hL],v3,HX.out.1.aside (λj hj=>kt _ _ _ _ _ (λe=>?_)) (by rw[eU];exact aF),?_,λj hj=>?_⟩
    ·subst e;rcases hj with h1 | h1 | h1 | h1
     ·omega
     ·have:=(HD.out.pb.pl.row.lt _ h1).2;omega
     ·rcases HX.out.2.2.1 _ h1 with h2 | h2
      ·rcases HS.out.own _ h2 with h3 | h3
       ·have:=Rx.out _ (az h3);omega
       ·omega
      ·omega
     ·have:=HD.out.gl _ h1;omega
    ·refine Fr.sets (az aF) _ _ (HS.out.fr.comp HX.out.2.1 (λj hj=>?_));rcases hj with h1 | h1
     ·exact ax (ax h1)
     ·rcases HS.out.own _ h1 with h3 | h3
      ·exact ax (az h3)
      ·exact az (by omega)
    ·rcases HX.out.2.2.1 _ hj with h2 | h2
     ·rcases HS.out.own _ h2 with h3 | h3
      ·exact ax h3
      ·exact az (by omega)
     ·exact az (by omega)
   obtain⟨L,hL⟩:∃L,dU (bp T M) rs k=L:=⟨_,rfl⟩;have HE:=HLE.out L hL.symm;rw[hL] at IP ⊢;clear hL HLE;have bT:(aJ L).toArray.size=9:=List.size_toArray.trans (by rw[List.length_map];exact IP);have ur:Hid (w3.there w.heap.size 0 (aJ L).toArray.size):=by unfold Hid;rw[bT];exact HX.out.2.2.2
   have qK:Hid ((prog.info? 132).map (·.size)=some (aJ L).toArray.size):=by unfold Hid;rw[bT];exact Tryz.sizeS
   have rz:Hid ((prog.info? 132).map (·.size)=some (aJ L).length):=sizeS IP;have Bp:Hid ((aJ L).toArray.all (·.oneCell')=true):=gW L;have Bs:Hid ((w3.setCells w.heap.size 0 (aJ L)).rangeAt w.heap.size 0 (aJ L)):=World.rangeAt_setCells_same _ _ 0 _ (by have:=ur.out;rwa[show(aJ L).toArray.size=(aJ L).length from List.size_toArray] at this);have HEE:Hid (tu w b vS (.slice a aa.length c) aa T ae M rs kl G k (.returned (.agg (aJ L).toArray)) (w3.setCells w.heap.size 0 (aJ L))):=HE;clear HE bT HX HS;go_wp2_with (refine wpList_store_mid rfl 132 _ _ rfl w.heap.size 0 (aJ L).toArray rfl rfl ur.out qK.out Bp.out ?_);exact bodyPost_ret (iO Tryz.results63 _ rfl Bs.out underlying132 rfl rz.out) rfl HEE.out
  | succ m=>
   have Al:m<xs.length:=by omega
   rw[show(((m+1:Nat):Int) - 1)=(m:Int) from by omega];have hd:decide ((0:Int)<=(m:Int))=true:=by simp
   have jQ:(m:Int)<(xs.length:Int):=by omega
   obtain⟨x,hx⟩:∃x,xs[m]?=some x:=⟨_,bW Al⟩;obtain⟨j,lj,hxj,FQ,XK⟩:=HDR.out m x hx;obtain⟨g,hg,di,gM⟩:=HS.out.row m Al;rw[hx,hxj] at gM;replace gM:wr.cell? ⟨g,m,none⟩=some (.int .i64 j):=gM;obtain⟨D2,iD⟩:=HGF.out g hg
   have HDP:Hid (xs.drop m=x :: xs.drop (m+1)):=by
    unfold Hid;rw[List.drop_eq_getElem_cons Al];rw[bW Al] at hx;injection hx with hx
    rw[hx]
   subst hxj;subst hg;have HJ:Hid ((j,lj)∈T/\iX T M rs (xs.drop (m+1))=iX T M rs (bh T T.length j)):=⟨FQ,by rw[XK]⟩;have lX:=zV T M rs (xs.drop (m+1));have Vr:Hid (DM wr.drew b (vS.1,v2) (.slice a aa.length c) aa T ae M rs (lE T M rs kl (xs.drop (m+1))) G):=HS.out.dm.below (Below.refl wr.heap.size wr).drew;obtain⟨cm,IS⟩:∃cm,iX T M rs (xs.drop (m+1))=cm:=⟨_,rfl⟩;have HCM:Hid (cm=iX T M rs (bh T T.length j)):=by unfold Hid;rw[<-IS];exact HJ.out.2
   have Ym:Hid (wr.rangeAt w1.heap.size 0 (aJ cm)):=by unfold Hid;rw[<-IS];exact HS.out.rng
   rw[IS] at lX;obtain⟨L,hL⟩:∃L,dU (bp T M) rs j=L:=⟨_,rfl⟩;have HL:Hid (dU (bp T M) rs j=L):=hL;have IP:L.length=9:=by rw[<-hL];exact lS _ _ _
   have KG:(aJ L).length=9:=by rw[List.length_map];exact IP
   have XD:(prog.info? 132).map (·.size)=some (aJ L).length:=sizeS IP;have UA:∀v∈aJ L,v.oneCell'=true:=PZ L;have hCs:(prog.info? 132).map (·.size)=some (aJ cm).length:=sizeS lX;have hUA:=underlying132;have X5:Hid (wr.cell? ⟨g,m,none⟩=some (.int .i64 j)):=gM
   have HC:Hid (∀wx,Fr wr.drew wx (λi=>i=b∨v2.ownBlock=some i)->wx.cell? ⟨g,m,none⟩=some (.int .i64 j)/\wx.rangeAt w1.heap.size 0 (aJ cm)/\wx.there w1.heap.size 0 9):=λwx hf=>by
    have hbg:wx.heap[g]?=wr.heap[g]?:=hf.block g (by show g<wr.heap.size;omega) (HS.out.alone Rx.out (by omega) iD);have zd:wx.heap[w1.heap.size]?=wr.heap[w1.heap.size]?:=hf.block w1.heap.size (by show w1.heap.size<wr.heap.size;omega) (HS.out.alone Rx.out (by omega) (by omega));refine⟨?_,yb Ym.out zd,kn HS.out.thr zd⟩;have:=X5.out;unfold World.cell? at this ⊢;rw[hbg];exact this
   have H0:Hid (Fr wr.drew wr.drew (λi=>i=b∨v2.ownBlock=some i)):=Fr.refl _ _;have Xg:Hid (∀wx:World,(wx.cell? ⟨g,m,none⟩=some (.int .i64 j)/\wx.rangeAt w1.heap.size 0 (aJ cm)/\wx.there w1.heap.size 0 9)->(wx.setCells w1.heap.size 0 (aJ L)).cell? ⟨g,m,none⟩=some (.int .i64 j)/\(wx.setCells w1.heap.size 0 (aJ L)).there w1.heap.size 0 9):=λwx ⟨h1,_,h3⟩=>⟨(World.cell?_setCells_out w1.heap.size (aJ L) 0 wx ⟨g,m,none⟩ (λe=>by replace e:g=w1.heap.size:=e;omega)).trans h1,World.there_setCells h3 _ _ _⟩
   have iQ:Hid (∀w5 v5,DM w5 b (vS.1,v5) (.slice a aa.length c) aa T ae M rs (js T M rs (lE T M rs kl (xs.drop (m+1))) j) G->Fr wr.drew w5 (λi=>i=b∨v2.ownBlock=some i)->(∀i,v5.ownBlock=some i->v2.ownBlock=some i∨wr.heap.size<=i)->SOI w b vS (.slice a aa.length c) aa T ae M rs kl G w2 w1.heap.size (some ⟨g,0,none⟩) xs m v5 (w5.setCells w1.heap.size 0 (aJ L))):=λw5 v5 GO GQ hj5=>by
    have hz5:wr.heap.size<=w5.heap.size:=GQ.size
    have bS:∀i,v5.ownBlock=some i->vS.2.ownBlock=some i∨w2.heap.size<=i:=λi hi=>by
     rcases hj5 i hi with h1 | h1
     ·exact HS.out.own i h1
     ·exact az (by omega)
    have fF:Fr w w5 (λi=>i=b∨vS.2.ownBlock=some i):=(HS.out.fr.drew1).comp GQ (λi hi=>by
     rcases hi with h1 | h1
     ·exact ax (ax h1)
     ·rcases HS.out.own _ h1 with h3 | h3
      ·exact ax (az h3)
      ·exact az (by omega))
    have IV:∀i,w.heap.size<=i->i<w2.heap.size->w5.heap[i]?=wr.heap[i]?:=λi h1 h2=>GQ.block i (by show i<wr.heap.size;omega) (HS.out.alone Rx.out h1 h2);refine⟨?_,Fr.sets (az (by omega)) _ _ fF,bS,?_,World.there_setCells (kn HS.out.thr (IV w1.heap.size (by omega) (by omega))) _ _ _,World.there_setCells (kn HS.out.res (IV w.heap.size (by omega) (by omega))) _ _ _,λi hi=>?_,by rw[eU];omega⟩
    ·rw[HDP.out];refine DM.aside (w:=w5) GO (λi hi=>kt _ _ _ _ _ (λe=>?_)) (by rw[eU];exact aF);subst e;rcases hi with h1 | h1 | h1 | h1
     ·omega
     ·have:=(HD.out.pb.pl.row.lt _ h1).2;omega
     ·rcases bS _ h1 with h2 | h2
      ·have:=Rx.out _ (az h2);omega
      ·omega
     ·have:=HD.out.gl _ h1;omega
    ·rw[HDP.out];show(w5.setCells w1.heap.size 0 (aJ L)).rangeAt w1.heap.size 0 (aJ (dU (bp T M) rs j));rw[HL.out];exact World.rangeAt_setCells_same _ _ 0 _ (by rw[KG];exact kn HS.out.thr (IV w1.heap.size (by omega) (by omega)))
    ·obtain⟨g',h1,h2,h3⟩:=HS.out.row i hi;have FP:g=g':=by injection h1 with h1;injection h1 with h1 _ _
     subst FP;refine⟨g,rfl,by rw[eU];omega,?_⟩;rw[World.cell?_setCells_out w1.heap.size (aJ L) 0 w5 ⟨g,i,none⟩ (λe=>by replace e:g=w1.heap.size:=e;omega)];have:=h3;unfold World.cell? at this ⊢;rw[IV g (by omega) iD];exact this
   obtain⟨c0,c1,c2,c3,c4,c5,c6,c7,c8,KM⟩:=Ce lX;obtain⟨l0,l1,l2,l3,l4,l5,l6,l7,l8,qU⟩:=Ce IP;subst KM qU;have wj:Hid (∀wx:World,wx.rangeAt w1.heap.size 0 (aJ [c0,c1,c2,c3,c4,c5,c6,c7,c8])->wx.there w1.heap.size 0 9->wx.cell? ⟨w1.heap.size,0,none⟩=some (.int .i64 c0)/\wx.cell? ⟨w1.heap.size,1,none⟩=some (.int .i64 c1)/\wx.cell? ⟨w1.heap.size,2,none⟩=some (.int .i64 c2)/\wx.cell? ⟨w1.heap.size,3,none⟩=some (.int .i64 c3)/\wx.cell? ⟨w1.heap.size,4,none⟩=some (.int .i64 c4)/\wx.cell? ⟨w1.heap.size,5,none⟩=some (.int .i64 c5)/\wx.cell? ⟨w1.heap.size,6,none⟩=some (.int .i64 c6)/\wx.cell? ⟨w1.heap.size,7,none⟩=some (.int .i64 c7)/\wx.cell? ⟨w1.heap.size,8,none⟩=some (.int .i64 c8)/\wx.frozen? ⟨w1.heap.size,0,none⟩=false/\wx.frozen? ⟨w1.heap.size,1,none⟩=false/\wx.frozen? ⟨w1.heap.size,2,none⟩=false/\wx.frozen? ⟨w1.heap.size,3,none⟩=false/\wx.frozen? ⟨w1.heap.size,4,none⟩=false/\wx.frozen? ⟨w1.heap.size,5,none⟩=false/\wx.frozen? ⟨w1.heap.size,6,none⟩=false/\wx.frozen? ⟨w1.heap.size,7,none⟩=false/\wx.frozen? ⟨w1.heap.size,8,none⟩=false):=λwx h1 h2=>⟨by have:=h1 0 _ rfl;simpa using this,by have:=h1 1 _ rfl;simpa using this,by have:=h1 2 _ rfl;simpa using this,by have:=h1 3 _ rfl;simpa using this,by have:=h1 4 _ rfl;simpa using this,by have:=h1 5 _ rfl;simpa using this,by have:=h1 6 _ rfl;simpa using this,by have:=h1 7 _ rfl;simpa using this,by have:=h1 8 _ rfl;simpa using this,by have:=(h2 0 (by decide)).2;simpa using this,by have:=(h2 1 (by decide)).2;simpa using this,by have:=(h2 2 (by decide)).2;simpa using this,by have:=(h2 3 (by decide)).2;simpa using this,by have:=(h2 4 (by decide)).2;simpa using this,by have:=(h2 5 (by decide)).2;simpa using this,by have:=(h2 6 (by decide)).2;simpa using this,by have:=(h2 7 (by decide)).2;simpa using this,by have:=(h2 8 (by decide)).2;simpa using this⟩;obtain⟨k0,k1,k2,k3,k4,k5,k6,k7,k8,f0,f1,f2,f3,f4,f5,f6,f7,f8⟩:=wj.out wr Ym.out HS.out.thr;have CM:(0:Int)<=(m:Int):=by omega
   have ht5:w1.heap.size<wr.heap.size:=by omega
   clear hx FQ XK hL IS KG XD UA hCs hUA;go_upto_region 6 with fail
   go_region_with ((go_at_call 100;refine(sI _ b (vS.1,v2) (.slice a aa.length c) aa T ae M rs (lE T M rs kl (xs.drop (m+1))) G j lj [c0,c1,c2,c3,c4,c5,c6,c7,c8] Vr.out (HKC.out (m+1)) HJ.out.1 HCM.out lX).mono ?_;intro e w5 hp;obtain⟨rfl,v5,GO,GQ,hj5⟩:=hp;rw[HL.out];obtain⟨y0,y1,y2,y3,y4,y5,y6,y7,y8,z0,z1,z2,z3,z4,z5,z6,z7,z8⟩:=wj.out w5 (HC.out w5 GQ).2.1 (HC.out w5 GQ).2.2;have y5l:w1.heap.size<w5.heap.size:=Nat.lt_of_lt_of_le ht5 GQ.size;have HX:Hid (SOI w b vS (.slice a aa.length c) aa T ae M rs kl G w2 w1.heap.size (some ⟨g,0,none⟩) xs m v5 (w5.setCells w1.heap.size 0 (aJ [l0,l1,l2,l3,l4,l5,l6,l7,l8]))):=iQ.out w5 v5 GO GQ hj5;clear GO GQ hj5))
   all_goals
    have HI:Hid (∃v5,SOI w b vS (.slice a aa.length c) aa T ae M rs kl G w2 w1.heap.size (some ⟨g,0,none⟩) xs m v5 (((((((((w5.setCell ⟨w1.heap.size,0,none⟩ (.int .i64 l0)).setCell ⟨w1.heap.size,1,none⟩ (.int .i64 l1)).setCell ⟨w1.heap.size,2,none⟩ (.int .i64 l2)).setCell ⟨w1.heap.size,3,none⟩ (.int .i64 l3)).setCell ⟨w1.heap.size,4,none⟩ (.int .i64 l4)).setCell ⟨w1.heap.size,5,none⟩ (.int .i64 l5)).setCell ⟨w1.heap.size,6,none⟩ (.int .i64 l6)).setCell ⟨w1.heap.size,7,none⟩ (.int .i64 l7)).setCell ⟨w1.heap.size,8,none⟩ (.int .i64 l8))):=⟨v5,HX.out⟩;clear iQ Xg HC H0 Ym Vr HS HX wj;go_wp2;go_roundg m
    case measure=>omega
    case rel=>exact⟨m,by go_num,by omega,aF,HI⟩
end
section
variable {s:ByteArray}
def lB (w:World)(T:aU)(n:Int)(s:ByteArray)(e:Ending)(w':World):Prop:=e=.returned (.tuple #[.int .i64 ((if bD T n s=0 then(ji s).getD 0 else 0:Nat):Int),.int .i64 (bD T n s)])/\Below w.heap.size w w'
theorem nL {T:aU}{n:Int}(h:bD T n s=0):∃l p,bF T n=some l/\ji s=some p:=by
 unfold bD at h;cases ht:bF T n with
 | none=>rw[ht] at h;cases h
 | some l=>
  rw[ht] at h;cases hp:ji s with
  | none=>simp only[hp] at h;cases h
  | some p=>exact⟨l,p,rfl,rfl⟩
theorem xZ {p:Nat}(h:ji s=some p):p<9:=by
 unfold ji at h;split at h
 ·exact ms h
 ·cases h
section
variable (w:World)(b:Nat)(vS:Value × Value)(v:Value)(aa:List PEl)(T:aU)(ae:Nat)(M:Nat->Mk)(rs:List dx)(kl:List (Int × List Int))(G:Nat->Prop)
theorem rW (n:Int)(s:ByteArray)(h:DM w b vS v aa T ae M rs kl G):Calls prog 62 #[.pointer (some ⟨b,0,none⟩),.int .i64 n,.string s] w λe w'=>lB w T n s e w':=by
 obtain⟨a,c,hv⟩:=h.pb.pl.shape;subst hv;have HD:=aw h;have HF:=aw (jO h.pb.pt h.tw n);clear h;go_enter func62,ntmps62;go_wp2_with fail;refine(EC w b a c aa n HD.out.trd).mono ?_;rintro e w1 ⟨rfl,cH⟩;rw[HF.out];cases ht:bF T n with
 | none=>
  have HE:Hid (lB w T n s (.returned (.tuple #[.int .i64 0,.int .i64 5])) w1):=by
   have:bD T n s=5:=by unfold bD;rw[ht]
   unfold lB;rw[this];exact⟨rfl,cH⟩
  clear ht cH;simp only[Option.isSome_none];go_wp2;go_ret2;exact HE.out
 | some l=>
  simp only[Option.isSome_some];have eu:=aw cH;have HQ:Hid ((ji s=none->bD T n s=4)/\∀p,ji s=some p->bD T n s=0):=⟨λhp=>by unfold bD;rw[ht];simp only[hp],λp hp=>by unfold bD;rw[ht];simp only[hp]⟩;clear ht cH;go_wp2_with fail;refine(zw w1 s).mono ?_;rintro e w2 ⟨rfl,dk⟩;have eM:=aw (eu.out.trans (dk.mono eu.out.size));clear dk;cases hp:ji s with
  | none=>
   have HE:Hid (lB w T n s (.returned (.tuple #[.int .i64 0,.int .i64 4])) w2):=by
    have:bD T n s=4:=HQ.out.1 hp;unfold lB;rw[this];exact⟨rfl,eM.out⟩
   clear hp;simp only[Option.isSome_none,Option.getD_none];go_wp2;go_ret2;exact HE.out
  | some p=>
   have HE:Hid (lB w T n s (.returned (.tuple #[.int .i64 (p:Nat),.int .i64 0])) w2):=by
    have:bD T n s=0:=HQ.out.2 p hp;unfold lB;rw[this,aE rfl,hp];exact⟨rfl,eM.out⟩
   clear hp;simp only[Option.isSome_some,Option.getD_some];go_wp2;go_ret2;exact HE.out
end
section
variable (w:World)(px:Value)(T:aU)(ae:Nat)(M:Nat->Mk)(rs:List dx)(kl:List (Int × List Int))(F:Nat->Prop)
def vY (n:Int)(s:ByteArray)(e:Ending)(w':World):Prop:=
 e=.returned (.tuple #[.int .i64 (eD T M rs n s),.int .i64 (bD T n s)])/\DSk w' px T ae M rs (if bD T n s=0 then mR T M rs kl n else kl) (cV F w)/\Fr w w' F
theorem DE (n:Int)(s:ByteArray)(h:DSk w px T ae M rs kl F):Calls prog 32 #[px,.int .i64 n,.string s] w λe w'=>vY w px T ae M rs kl F n s e w':=by
 obtain⟨b,vS,v,aa,G,rfl,h2,h3,h4,h5,h6,h7⟩:=h;have HB:Hid (DM w b vS v aa T ae M rs kl G/\KOK T M rs kl/\F b/\(∀j,v.ownBlock=some j->F j)/\(∀j,vS.2.ownBlock=some j->F j)/\∀k,G k->F k):=⟨h2,h3,h4,h5,h6,h7⟩;clear h2 h3 h4 h5 h6 h7;go_enter func32,ntmps32;go_wp2_with fail;refine(rW w b vS v aa T ae M rs kl G n s HB.out.1).mono ?_;rintro e w1 ⟨rfl,cH⟩;have jK:=aw (HB.out.1.below cH);have eu:=aw cH;clear cH
 by_cases hq:bD T n s=0
 ·obtain⟨l,p,ht,hp⟩:=nL hq;obtain⟨pu,hn⟩:=nh ht;have Pe:=xZ hp;have HV:Hid (eD T M rs n s=(dU (bp T M) rs n).getD p 0):=by unfold Hid eD;rw[aE hq,hp];rfl
  have HQ:=aw hq;rw[aE hq,hq,hp];simp only[Option.getD_some];obtain⟨k,hk⟩:∃k:Nat,n.toNat=k:=⟨_,rfl⟩;rw[hk] at pu hn;subst hn;have HM:=aw pu;clear hq ht hp pu hk;go_wp2_with fail;refine(sN w1 b vS v aa T ae M rs kl G k l jK.out HB.out.2.1 HM.out).mono ?_;rintro e w2 ⟨rfl,v2,iC,bM,MJ⟩;have IP:=lS (bp T M) rs k
  have HE:Hid (∀Z,vY w (.pointer (some ⟨b,0,none⟩)) T ae M rs kl F k s (.returned (.tuple #[.int .i64 ((dU (bp T M) rs k).getD p 0),.int .i64 0])) (w2.alloc (.cells Z 132))):=λZ=>by
   have hf:Fr w w2 F:=((Fr.refl w F).below eu.out).trans (bM.mono (λj hj=>by
    rcases hj with e | e
    ·exact e▸HB.out.2.2.1
    ·exact HB.out.2.2.2.2.1 j e))
   refine⟨by rw[HQ.out,HV.out],?_,hf.alloc _⟩;rw[aE HQ.out];refine⟨b,(vS.1,v2),v,aa,G,rfl,iC.below (bo.alloc aF _),Be HB.out.2.1 HB.out.1.tw HM.out,ax HB.out.2.2.1,λj hj=>ax (HB.out.2.2.2.1 j hj),λj hj=>?_,λj hj=>ax (HB.out.2.2.2.2.2 j hj)⟩;rcases MJ j hj with h1 | h1
   ·exact ax (HB.out.2.2.2.2.1 j h1)
   ·exact az (Nat.le_trans eu.out.size h1)
  clear iC bM MJ;generalize dU (bp T M) rs k=L at IP HE ⊢;have bT:(aJ L).toArray.size=9:=List.size_toArray.trans (by rw[List.length_map];exact IP);have qK:Hid ((prog.info? 132).map (·.size)=some (aJ L).toArray.size):=by unfold Hid;rw[bT];exact Tryz.sizeS
  have Uj:=aw bT.symm;have Bp:=aw (gW L)
  have q0:(w2.alloc (.cells (aJ L).toArray 132)).cell? ⟨w2.heap.size,p,none⟩=some (.int .i64 (L.getD p 0)):=by
   have:=eA w2 (aJ L) 132 p (.int .i64 (L.getD p 0)) (ro (by omega));rwa[Nat.zero_add] at this
  have hpi:(p:Int)<9:=by omega
  clear bT;generalize L.getD p 0=val at q0 HE;go_wp2_with (refine aO rfl 132 _ _ rfl _ (aJ L).toArray 132 rfl rfl qK.out Uj.out Bp.out ?_);go_ret2;exact HE.out _
 ·have HE:Hid (vY w (.pointer (some ⟨b,0,none⟩)) T ae M rs kl F n s (.returned (.tuple #[.int .i64 0,.int .i64 (bD T n s)])) w1):=by
   refine⟨by unfold eD;rw[aA hq],?_,(Fr.refl w F).below eu.out⟩;rw[aA hq];exact⟨b,vS,v,aa,G,rfl,jK.out,HB.out.2.1,ax HB.out.2.2.1,λj hj=>ax (HB.out.2.2.2.1 j hj),λj hj=>ax (HB.out.2.2.2.2.1 j hj),λj hj=>ax (HB.out.2.2.2.2.2 j hj)⟩
  have gq:(bD T n s != 0)=true:=by simp[hq]
  rw[aA hq];clear hq;generalize bD T n s=y at HE gq ⊢;go_wp2;go_ret2;exact HE.out
end
def DSd (w:World)(px:Value)(T:aU)(ae:Nat)(M:Nat->Mk)(rs:List dx)(F:Nat->Prop):Prop:=∃kl,DSk w px T ae M rs kl F
theorem V2:XT DSd where
 ptr:=λ⟨_,h⟩=>by
  obtain⟨b,_,_,_,_,rfl,_⟩:=h;exact⟨_,rfl⟩
 tw:=λ⟨_,h⟩=>h.tw
 mark:=λ⟨kl,h⟩ hm=>⟨kl,h.mark hm⟩
 keep:=λ⟨kl,h⟩ hk hz=>⟨kl,h.keep hk hz⟩
 here:=λ⟨kl,h⟩=>⟨kl,h.here⟩
 new:=λw s aq hs=>(DD w s aq hs).mono λe w' h=>⟨h.1,h.2.imp id (λ⟨h1,px,h2,h3⟩=>⟨h1,px,h2,[],h3⟩)⟩
 ins:=λw px T ae M rs F an af aj ⟨kl,h⟩ hm=>(DA w px T ae M rs kl F an af aj h hm).mono λe w' ⟨y,T',made',n,dw,h1,h2,h3,h4,_⟩=>⟨y,T',made',n,h1,h2,⟨dw,h3⟩,h4⟩
 rem:=λw px T ae M rs F n ⟨kl,h⟩=>(DF w px T ae M rs kl F n h).mono λe w' ⟨y,T',dw,h1,h2,h3,h4,_⟩=>⟨y,T',h1,h2,⟨dw,h3⟩,h4⟩
 mov:=λw px T ae M rs F n m af ⟨kl,h⟩=>(DB w px T ae M rs kl F n m af h).mono λe w' ⟨y,T',dw,h1,h2,h3,h4,_⟩=>⟨y,T',h1,h2,⟨dw,h3⟩,h4⟩
 cls:=λw px T ae M rs F n s on ⟨kl,h⟩=>(Dw w px T ae M rs kl F n s on h).mono λe w' ⟨y,dw,h1,h2,h3,h4,_⟩=>⟨y,h1,h2,⟨dw,h3⟩,h4⟩
 nam:=λw px T ae M rs F n s ⟨kl,h⟩=>(DC w px T ae M rs kl F n s h).mono λe w' ⟨y,dw,h1,h2,h3,h4,_⟩=>⟨y,h1,h2,⟨dw,h3⟩,h4⟩
 sht:=λw px T ae M rs F s hs ⟨kl,h⟩=>(DG w px T ae M rs kl F s hs h).mono λe w' ⟨y,dw,h1,h2,h3,h4,_⟩=>⟨y,h1,h2,⟨dw,h3⟩,h4⟩
 qry:=λw px T ae M rs F n s ⟨kl,h⟩=>(DE w px T ae M rs kl F n s h).mono λe w' ⟨h1,h2,h3⟩=>⟨h1,⟨_,h2⟩,h3⟩
end
def wA (w:World)(b:Nat)(vS:Value × Value)(v:Value)(aa:List PEl)(T:aU)(ae:Nat)(n:Int)(on:Bool)(e:Ending)(w':World):Prop:=
 ∃(bX:List PEl),e=.returned (.int .i64 (if(bF T n).isSome then 0 else 5))/\PB3 w' b vS v bX T ae/\Fr w w' (λk=>v.ownBlock=some k)/\∀M,MkO aa M->MkO bX (if(bF T n).isSome then bU M n.toNat (iG (M n.toNat) on) else M)
section
variable (w:World)(b:Nat)(vS:Value × Value)(v:Value)(aa:List PEl)(T:aU)(ae:Nat)(n:Int)
theorem Qq (on:Bool)(h:PB3 w b vS v aa T ae)(hw:TW T ae)(oS:∀x∈aa,Shp x):Calls prog 81 #[.pointer (some ⟨b,1,none⟩),.int .i64 n,.bool on] w λe w'=>wA w b vS v aa T ae n on e w':=by
 have HB:Hid (PB3 w b vS v aa T ae/\TW T ae/\∀x∈aa,Shp x):=⟨h,hw,oS⟩;have bJ:=h.few;clear h hw oS;go_enter func81,ntmps81;go_wp2_with fail;refine(dX w b v aa n HB.out.1.c1 HB.out.1.pl bJ).mono ?_;rintro e w1 ⟨cH,⟨hf,rfl⟩ | ⟨ip,xp,oN,hf,rfl⟩⟩
 ·have HE:Hid (wA w b vS v aa T ae n on (.returned (.int .i64 5)) w1):=⟨aa,by rw[HB.out.1.pt.find_none hf];rfl,HB.out.1.below cH,(Fr.refl w _).below cH,λM hM=>by rw[HB.out.1.pt.find_none hf];exact hM⟩;clear hf;go_wp2;go_ret;exact HE.out
 ·have HF:=aw ((HB.out.1.pt.find_some HB.out.2.1 hf).1);have MW:=aw ((HB.out.1.pt.find_some HB.out.2.1 hf).2.2);have JX:=aw oN;have nW:=(ee.1 oN).1;obtain⟨av,cv,K3⟩:=HB.out.1.pl.shape;subst K3;have eM:=aw (HB.out.1.below cH);obtain⟨g,hg,di,hr⟩:=eM.out.pl.at' nW;subst hg;have q2:w1.cell? ⟨g,ip*31+30,none⟩=some (.bool (fZ aa[ip])):=hr 30 _ (HB.out.2.2 _ (bN nW)).sh;have q0:=eM.out.c1;obtain⟨gu,vj,_⟩:=vG eM.out.pl.row;have qf:∀j,w1.frozen? ⟨g,j,none⟩=false:=λ_=>aH vj;have jQ:(ip:Int)<(aa.length:Int):=by omega
  have qJ:Hid (PB3 (w1.setCell ⟨g,ip*31+30,none⟩ (.bool on)) b vS (.slice (some ⟨g,0,none⟩) aa.length cv) (aa.set ip (aa[ip].put 28 (.bool on))) T ae):=eM.out.put nW (by omega) rfl
  have HE:Hid (wA w b vS (.slice (some ⟨g,0,none⟩) aa.length cv) aa T ae n on (.returned (.int .i64 0)) (w1.setCell ⟨g,ip*31+30,none⟩ (.bool on))):=by
   refine⟨_,by rw[HF.out];rfl,qJ.out,((Fr.refl w (λk=>(Value.slice (some ⟨g,0,none⟩) aa.length cv).ownBlock=some k)).below cH).set (p:=⟨g,ip*31+30,none⟩) (ax rfl) _,λM hM=>?_⟩;have hx:=bN nW;have Al:=hM.1 _ hx;obtain⟨p1,p2,p3,p4,p5⟩:=TJ (HB.out.1.pl.ok _ hx) (hM.2 _ hx) on
   have uC:n.toNat=aa[ip].num:=by
    have h1:=MW.out;rw[(ee.1 JX.out).2];omega
   rw[HF.out];show MkO _ (bU M n.toNat (iG (M n.toNat) on));rw[uC];exact hM.put HB.out.1.pt.nums nW (z:=aa[ip].put 28 (.bool on)) rfl p1 ⟨by rw[p2];exact Al.1,λi hi=>by rw[p3 i hi];show _=if i=26 then on else _;rw[aA (by omega)];exact Al.2.1 i hi,by rw[p4];exact Al.2.2.1,p5⟩
  clear hr vj qJ hf oN;generalize fZ aa[ip]=gB at q2;go_wp2;go_ret;exact HE.out
end
section
variable (w:World)(b:Nat)(a:Option Addr)(c:Nat)(aa:List PEl)
def oB (aa:List PEl)(n:Int)(i:Nat):Bool:=match aa[i]? with | some e=>fZ e&&ky aa e.num n | none=>false
def fc (aa:List PEl)(n:Int):Bool:=(List.range aa.length).any (oB aa n)
theorem FA {aa:List PEl}{n:Int}:fc aa n=true↔∃e∈aa,fZ e=true/\ky aa e.num n=true:=by
 unfold fc;rw[List.any_eq_true];constructor
 ·rintro⟨i,hi,h⟩;have hi:=List.mem_range.1 hi;unfold oB at h;rw[bW hi] at h;exact⟨aa[i],bN hi,by simpa using h⟩
 ·rintro⟨e,he,h⟩;obtain⟨i,hi,rfl⟩:=List.getElem_of_mem he;refine⟨i,List.mem_range.2 hi,?_⟩;unfold oB;rw[bW hi];simpa using h
theorem T9 {aa:List PEl}{n:Int}(h:∀j,j<aa.length->oB aa n j=false):fc aa n=false:=by
 unfold fc;rw[List.any_eq_false];intro j hj;rw[h j (List.mem_range.1 hj)];decide
theorem EH (n:Int)(h:TRd w b a c aa):Calls prog 140 #[.pointer (some ⟨b,1,none⟩),.int .i64 n] w λe w'=>bK w (fc aa n) e w':=by
 have HT:=aw h;have bJ:=h.few;have q0:=h.cell;clear h;go_enter func140,ntmps140;go_wp2_with fail
 go_loopg [12] aa.length (λgk iv wr=>∃i:Nat,iv=.int .i64 i/\i<=aa.length/\aa.length - i<=gk/\Hid (Below w.heap.size w wr/\∀j,j<i->oB aa n j=false))
 case atStart=>exact⟨0,rfl,bm,by omega,bo,λj hj=>absurd hj (Nat.not_lt_zero _)⟩
 case round=>
  obtain⟨i,rfl,hi,fT,Xn⟩:=hrel;have HN:=aw Xn.out.1;have Bo:=aw Xn.out.2;clear Xn;have i8:=HN.out.size
  by_cases bc:i<aa.length
  ·have hd:decide ((i:Int)<(aa.length:Int))=true:=by simp;omega
   obtain⟨g,hg,di,he⟩:=HT.out.pl.el bc;subst hg;have HE:=aw (he.below HN.out di);have oS:=(HT.out.shp _ (bN bc)).sh
   have RQ:Hid (fZ aa[i]=false->∀j,j<i+1->oB aa n j=false):=λh j hj=>by
    by_cases e:j=i
    ·subst e;unfold oB;rw[bW bc];show(fZ aa[j]&&_)=false;rw[h];rfl
    ·exact Bo.out j (by omega)
   have HW:Hid (fZ aa[i]=true->∀r:Bool,(r=true↔∃k,k<aa.length/\upP aa k (aa[i].num:Int)=n)->(r=true->fc aa n=true)/\(r=false->∀j,j<i+1->oB aa n j=false)):=λh r hr=>by
    have hq:ky aa aa[i].num n=r:=by
     cases r with
     | true=>exact iK.2 (hr.1 rfl)
     | false=>
      cases hb:ky aa aa[i].num n with
      | false=>rfl
      | true=>exact absurd (hr.2 (iK.1 hb)) (by decide)
    refine⟨λh1=>FA.2 ⟨aa[i],bN bc,h,by rw[hq,h1]⟩,λh1 j hj=>?_⟩
    by_cases e:j=i
    ·subst e;unfold oB;rw[bW bc];show(fZ aa[j]&&_)=false;rw[hq,h1,Bool.and_false]
    ·exact Bo.out j (by omega)
   generalize fZ aa[i]=sh at oS RQ HW;generalize aa[i].num=ny at HE HW;generalize aa[i].par=py at HE;generalize aa[i].cells=cs at HE oS;have c0:cs[0]?=some (.int .i64 ny):=HE.out.c0;have jI:Hid (TRd (wr.alloc (.cells cs.toArray 156)) b (some ⟨g,0,none⟩) c aa):=HT.out.below (HN.out.alloc i8 _);have iP:Hid (Below w.heap.size w (wr.alloc (.cells cs.toArray 156))):=HN.out.alloc i8 _;clear he q0;cases sh with
   | false=>
    go_wp2_with (first | (refine wpList_load_mid rfl 156 _ rfl g (i*31) rfl cs _ HE.out.rng underlying156 rfl HE.out.size ?_) | (refine aO rfl 156 _ _ rfl _ cs.toArray 156 rfl rfl HE.out.size' HE.out.same HE.out.all ?_));go_roundg (aa.length - (i+1))
    case measure=>omega
    case rel=>exact⟨i+1,by go_num,by omega,aF,iP.out,RQ.out (by trivial)⟩
   | true=>
    go_wp2_with (first | (refine wpList_load_mid rfl 156 _ rfl g (i*31) rfl cs _ HE.out.rng underlying156 rfl HE.out.size ?_) | (refine aO rfl 156 _ _ rfl _ cs.toArray 156 rfl rfl HE.out.size' HE.out.same HE.out.all ?_) | (go_at_call 135;refine(mu (wr.alloc (.cells cs.toArray 156)) b _ aa ny n jI.out.cell jI.out.pl bJ).mono ?_;rintro e w3 ⟨fA,r,rfl,hrr⟩;have zI:Hid (Below w.heap.size w w3):=iP.out.trans (fA.mono iP.out.size);have oG:=HW.out rfl r hrr;clear fA hrr;cases r))
    ·go_roundg (aa.length - (i+1))
     case measure=>omega
     case rel=>exact⟨i+1,by go_num,by omega,aF,zI.out,oG.2 (by trivial)⟩
    ·go_ret;rw[oG.1 (by trivial)];exact⟨rfl,zI.out⟩
  ·have hd:decide ((i:Int)<(aa.length:Int))=false:=by simp;omega
   go_wp2;go_ret;rw[T9 (λj hj=>Bo.out j (by omega))];exact⟨rfl,HN.out⟩
end
section
variable {aa:List PEl}{i:Nat}
def cK (l:List PEl)(x:Int):List Int:=(l.filter λe=>decide (e.par=x)).map λe=>(e.num:Int)
def i6 (aa:List PEl):Nat->List Int
 | 0=>[0]
 | i+1=>match (i6 aa i)[i]? with | some x=>i6 aa i++cK aa x | none=>i6 aa i
theorem Gv (l:List PEl)(x:Int):cK l x=(aZ l x).map λ(k:Nat)=>(k:Int):=by
 unfold cK aZ;rw[List.map_map];rfl
theorem BQ {l:List PEl}(h:i<l.length)(x:Int):cK (l.take (i+1)) x=if l[i].par=x then cK (l.take i) x++[(l[i].num:Int)] else cK (l.take i) x:=by
 unfold cK;rw[gj h,List.filter_append]
 by_cases hp:l[i].par=x<;>simp[hp]
theorem ux (l:List PEl)(x:Int):(cK l x).length<=l.length:=by
 unfold cK;rw[List.length_map];exact List.length_filter_le _ _
theorem Gw {x:Int}(h:(i6 aa i)[i]?=some x):i6 aa (i+1)=i6 aa i++cK aa x:=by
 show(match (i6 aa i)[i]? with | some x=>i6 aa i++cK aa x | none=>i6 aa i)=_;rw[h]
theorem w9 (h:(i6 aa i).length<=i):∀k,i6 aa (i+k)=i6 aa i
 | 0=>rfl
 | k+1=>by
  have ih:=w9 h k;have e:(i6 aa (i+k))[i+k]?=none:=by rw[ih];exact List.getElem?_eq_none (by omega)
  show(match (i6 aa (i+k))[i+k]? with | some x=>i6 aa (i+k)++cK aa x | none=>i6 aa (i+k))=_;rw[e];exact ih
theorem IM (aa:List PEl):∀i,(i6 aa i).length<=1+i*aa.length
 | 0=>by simp[i6]
 | i+1=>by
  have ih:=IM aa i;have e:(i+1)*aa.length=i*aa.length+aa.length:=Nat.succ_mul _ _;cases h:(i6 aa i)[i]? with
  | none=>
   show(match (i6 aa i)[i]? with | some x=>i6 aa i++cK aa x | none=>i6 aa i).length<=_;rw[h];show(i6 aa i).length<=_;omega
  | some x=>
   rw[Gw h,List.length_append];have:=ux aa x;omega
section
variable {aa:List PEl}{T:aU}{ae:Nat}
structure DwI (T:aU)(N:List Int)(i:Nat):Prop where
 nodup:N.Nodup
 root:(0:Int)∈N
 els:∀x∈N,∃k l,x=((k:Nat):Int)/\(k,l)∈T
 up:∀x∈N,x=0∨bi T x∈N.take i
 down:∀q∈T,(q.1:Int)∈N.take i->∀k∈q.2,(k:Int)∈N
theorem wR {l:List Nat}(h:l.Nodup):(l.map λ(k:Nat)=>(k:Int)).Nodup:=by
 induction l with
 | nil=>simp
 | cons x l ih=>
  rw[List.nodup_cons] at h;rw[List.map_cons,List.nodup_cons];refine⟨λhm=>h.1 ?_,ih h.2⟩;obtain⟨y,hy,he⟩:=bx.1 hm;have:y=x:=by omega
  exact this▸hy
theorem IL (h:PT aa T)(hw:TW T ae):∀i,DwI T (i6 aa i) i
 | 0=>by
  refine⟨by simp[i6],by simp[i6],λx hx=>?_,λx hx=>?_,λq _ hq=>by simp at hq⟩
  ·have:x=0:=by simpa[i6] using hx
   obtain⟨l,hl⟩:=hw.root;exact⟨0,l,this,hl⟩
  ·have:x=0:=by simpa[i6] using hx
   exact ax this
 | i+1=>by
  have ih:=IL h hw i;cases hx:(i6 aa i)[i]? with
  | none=>
   have hl:=List.getElem?_eq_none_iff.1 hx;have e:=w9 hl 1;have t1:=List.take_of_length_le hl;have t2:(i6 aa i).take (i+1)=i6 aa i:=List.take_of_length_le (by omega);rw[e];have hu:=ih.up;have hd:=ih.down;rw[t1] at hu hd;exact⟨ih.nodup,ih.root,ih.els,λx hx=>by rw[t2];exact hu x hx,λq hq hm=>by rw[t2] at hm;exact hd q hq hm⟩
  | some x=>
   have jQ:=(ee.1 hx).1;have oM:=(ee.1 hx).2;have FY:=List.mem_of_getElem? hx;obtain⟨kx,lx,rfl,Wy⟩:=ih.els x FY;have aaR:=(h.kids kx lx Wy).symm;have e:i6 aa (i+1)=i6 aa i++lx.map λ(k:Nat)=>(k:Int):=by rw[Gw hx,Gv,aaR]
   have tk:(i6 aa (i+1)).take (i+1)=(i6 aa i).take i++[(kx:Int)]:=by
    rw[e,List.take_append_of_le_length (by omega),gj jQ,oM]
   have S7:∀k∈lx,(k:Int) ∉ i6 aa i:=λk hk hm=>by
    have hp:=hw.parent (e:=(kx,lx)) Wy hk;rcases ih.up k hm with h0 | h0
    ·have:k=0:=by omega
     subst this;exact hw.top _ Wy hk
    ·rw[hp] at h0;have h1:(kx:Int)∈(i6 aa i).take i:=h0;have UN:=ih.nodup;rw[<-List.take_append_drop i (i6 aa i),List.nodup_append] at UN;refine UN.2.2 _ h1 _ ?_ rfl;rw[List.drop_eq_getElem_cons jQ,oM];exact List.mem_cons_self
   rw[e];refine⟨?_,List.mem_append_left _ ih.root,λy hy=>?_,λy hy=>?_,λq hq hm k hk=>?_⟩
   ·rw[List.nodup_append];refine⟨ih.nodup,wR (hw.kdup _ Wy),λy hy z hz e=>?_⟩;obtain⟨k,hk,rfl⟩:=bx.1 hz;exact S7 k hk (e▸hy)
   ·rcases List.mem_append.1 hy with hy | hy
    ·exact ih.els y hy
    ·obtain⟨k,hk,rfl⟩:=bx.1 hy;obtain⟨l,hl⟩:=hw.kin _ Wy k hk;exact⟨k,l,rfl,hl⟩
   ·rw[<-e,tk];rcases List.mem_append.1 hy with hy | hy
    ·exact(ih.up y hy).imp id (λh0=>List.mem_append_left _ h0)
    ·obtain⟨k,hk,rfl⟩:=bx.1 hy;refine az (List.mem_append_right _ ?_);rw[hw.parent (e:=(kx,lx)) Wy hk];exact ft.2 rfl
   ·rw[<-e,tk] at hm;rcases List.mem_append.1 hm with hm | hm
    ·exact List.mem_append_left _ (ih.down q hq hm k hk)
    ·have h1:q.1=kx:=by have:=ft.1 hm;omega
     have h2:=qe hw.nums hq Wy h1;subst h2;exact List.mem_append_right _ (bx.2 ⟨k,hk,rfl⟩)
theorem BR (h:PT aa T)(hw:TW T ae):∀(i q:Nat) (x:Int),(i6 aa i)[q]?=some x->x=0∨bi T x∈(i6 aa i).take q
 | 0,q,x,hq=>by
  cases q with
  | zero=>exact ax (Option.some.inj hq).symm
  | succ q=>cases hq
 | i+1,q,x,hq=>by
  unfold i6 at hq ⊢;cases hz:(i6 aa i)[i]? with
  | none=>
   rw[hz] at hq;exact BR h hw i q x hq
  | some z=>
   rw[hz] at hq;have jQ:=(ee.1 hz).1;replace hq:(i6 aa i++cK aa z)[q]?=some x:=hq;show x=0∨bi T x∈(i6 aa i++cK aa z).take q
   by_cases hl:q<(i6 aa i).length
   ·rw[List.getElem?_append_left hl] at hq;rw[List.take_append_of_le_length (by omega)];exact BR h hw i q x hq
   ·rw[List.getElem?_append_right (by omega)] at hq;refine az ?_;unfold cK at hq;obtain⟨e,he,rfl⟩:=bx.1 (List.mem_of_getElem? hq);obtain⟨he,hp⟩:=dJ.1 he;rw[<-h.par hw he,show e.par=z from by simpa using hp,List.take_append,List.take_of_length_le (by omega)];exact List.mem_append_left _ (List.mem_of_getElem? hz)
def kZ (aa:List PEl):List Int:=i6 aa aa.length
theorem qF {T:aU}{N:List Int}(hn:N.Nodup)(he:∀x∈N,∃k l,x=((k:Nat):Int)/\(k,l)∈T):N.length<=T.length:=by
 have h1:(N.map Int.toNat).Nodup:=by
  induction N with
  | nil=>simp
  | cons x l ih=>
   rw[List.nodup_cons] at hn;rw[List.map_cons,List.nodup_cons];refine⟨λhm=>hn.1 ?_,ih hn.2 (λy hy=>he y (List.mem_cons_of_mem _ hy))⟩;obtain⟨y,hy,hye⟩:=bx.1 hm;obtain⟨k,_,hk,_⟩:=he x List.mem_cons_self;obtain⟨j,_,hj,_⟩:=he y (List.mem_cons_of_mem _ hy);have:y=x:=by omega
   exact this▸hy
 have:=dG h1 (m:=T.map Prod.fst) (λk hk=>by
  obtain⟨x,hx,rfl⟩:=bx.1 hk;obtain⟨j,l,hj,hl⟩:=he x hx;exact bx.2 ⟨_,hl,by show j=_;omega⟩)
 simpa using this
theorem IK (h:PT aa T)(hw:TW T ae):(kZ aa).Nodup/\(∀x∈kZ aa,∃k l,x=((k:Nat):Int)/\(k,l)∈T)/\∀k l,(k,l)∈T->(k:Int)∈kZ aa:=by
 have hi:=IL h hw aa.length;have bT:=qF hi.nodup hi.els;have OZ:=h.len hw;have ht:(i6 aa aa.length).take aa.length=i6 aa aa.length:=List.take_of_length_le (by omega);refine⟨hi.nodup,hi.els,?_⟩;obtain⟨rk,hr⟩:=hw.rank
 have nY:∀(n:Nat) (k:Nat) (l:List Nat),(k,l)∈T->rk k<=n->(k:Int)∈i6 aa aa.length:=by
  intro n
  induction n with
  | zero=>
   intro k l hk hn
   by_cases h0:k=0
   ·subst h0;exact hi.root
   ·obtain⟨q,hq,hm,_⟩:=hw.up hk h0;have:=hr q hq k hm;omega
  | succ n ih=>
   intro k l hk hn
   by_cases h0:k=0
   ·subst h0;exact hi.root
   ·obtain⟨q,hq,hm,_⟩:=hw.up hk h0;have h1:=hr q hq k hm;have h2:=ih q.1 q.2 hq (by omega);exact hi.down q hq (by rw[ht];exact h2) k hm
 exact λk l hk=>nY (rk k) k l hk aF
end
end
section
variable (w:World)(b:Nat)(a:Option Addr)(c:Nat)(aa:List PEl)
theorem Qc (h:TRd w b a c aa):Calls prog 139 #[.pointer (some ⟨b,1,none⟩)] w λe w'=>oI w (kZ aa) e w':=by
 obtain⟨i0,GV,gP,gQ,gR⟩:=info_parts Tryz.info3;have HT:=aw h;have bJ:=h.few;have q0:=h.cell;have jM:=h.lt
 have HO0:Hid ((w.alloc (.cells #[.int .i64 0] 3)).ownsRow w.heap.size 3 1 (.slice (some ⟨w.heap.size,0,none⟩) 1 1) (i6 aa 0).length (aJ (i6 aa 0))/\Below w.heap.size w (w.alloc (.cells #[.int .i64 0] 3))):=by
  refine⟨⟨rfl,az ⟨w.heap.size,1,#[.int .i64 0],rfl,aF,heap_alloc_new w _,aF,by decide,rfl,rfl⟩⟩,bo.alloc aF _⟩
 clear h;go_enter func139,ntmps139;go_wp2_with fail
 go_loopg [3,13] aa.length (λgk v iv wr=>∃i:Nat,iv=.int .i64 i/\i<=aa.length/\aa.length - i<=gk/\Hid (wr.ownsRow w.heap.size 3 1 v (i6 aa i).length (aJ (i6 aa i))/\Below w.heap.size w wr))
 case atStart=>exact⟨0,rfl,bm,by omega,HO0⟩
 case round=>
  obtain⟨i,rfl,hi,fT,HN⟩:=hrel;obtain⟨wo,rfl⟩:∃wo,wo=wr:=⟨_,rfl⟩;obtain⟨a2,c2,jJ⟩:=aK HN.out.1;subst jJ;have i8:=HN.out.2.size
  have hNL:(i6 aa i).length<=600:=by
   have h1:=IM aa i;have h2:i*aa.length<=24*24:=Nat.mul_le_mul (by omega) bJ;omega
  by_cases bc:i<aa.length
  ·have hd:decide ((i:Int)<(aa.length:Int))=true:=by simp;omega
   by_cases jZ:i<(i6 aa i).length
   ·have D2:decide ((i6 aa i).length<=i)=false:=by simp;omega
    obtain⟨x,hx⟩:∃x,(i6 aa i)[i]?=some x:=⟨_,bW jZ⟩;have MX:=aw (Gw hx);have HX:=aw hx;clear hx;generalize i6 aa i=R at HN MX HX hNL jZ D2 ⊢;have q0:wo.cell? ⟨b,1,none⟩=some (.slice a aa.length c):=(HN.out.2.cell (p:=⟨b,1,none⟩) jM).trans HT.out.cell;have Wp:b<wo.heap.size:=by omega
    have kU:Hid (wo.ownsRow w.heap.size 3 1 (.slice a2 R.length c2) (R++cK (aa.take 0) x).length (aJ (R++cK (aa.take 0) x))/\Below w.heap.size w wo):=by
     have:R++cK (aa.take 0) x=R:=by simp[cK]
     rw[this];exact HN.out
    clear HN;go_wp2_with fail
    go_loopg [3,26] aa.length (λgk v kv wr=>∃k:Nat,kv=.int .i64 k/\k<=aa.length/\aa.length - k<=gk/\Hid (wr.ownsRow w.heap.size 3 1 v (R++cK (aa.take k) x).length (aJ (R++cK (aa.take k) x))/\Below w.heap.size w wr))
    case atStart=>exact⟨0,rfl,bm,by omega,kU⟩
    case round=>
     obtain⟨k,rfl,hk,r9,HJ⟩:=hrel;obtain⟨a3,c3,zm⟩:=aK HJ.out.1;subst zm
     have Wh:(R++cK (aa.take k) x).length<=640:=by
      have h1:=ux (aa.take k) x;have h2:(aa.take k).length<=aa.length:=List.length_take_le' _ _;rw[List.length_append];omega
     have Um:Hid ((R++cK (aa.take k) x)[i]?=some x):=by unfold Hid;rw[List.getElem?_append_left jZ];exact HX.out
     have SZ:=HJ.out.2.size;obtain⟨L,Wg⟩:∃L,R++cK (aa.take k) x=L:=⟨_,rfl⟩;have Vx:=aw Wg;rw[Wg] at HJ Wh Um ⊢;clear Wg;have hiL:=(ee.1 Um.out).1
     by_cases lH:k<aa.length
     ·have iC:decide ((k:Int)<(aa.length:Int))=true:=by simp;omega
      obtain⟨g,hg,di,he⟩:=HT.out.pl.el lH;subst hg;have HE:=aw (he.below HJ.out.2 di);have fI:=aw (BQ lH x);clear he;generalize aa[k].num=nk at HE fI;generalize aa[k].par=pk at HE fI;generalize aa[k].cells=cs at HE;have c0:cs[0]?=some (.int .i64 nk):=HE.out.c0;have c1:cs[1]?=some (.int .i64 pk):=HE.out.c1;obtain⟨g3,fB,aaN,Wr⟩:=aX HJ.out.1 (by omega);subst fB;have qx:wr.cell? ⟨g3,i,none⟩=some (.int .i64 x):=Wr i _ (by rw[List.getElem?_map,Um.out];rfl);have hii:(i:Int)<(L.length:Int):=by omega
      have aiW:(0:Int)<=(i:Int):=by omega
      have agr:b<wr.heap.size:=by omega
      clear Wr
      by_cases hp:pk=x
      ·have gp:(pk==x)=true:=by simp[hp]
       have gE:Hid (R++cK (aa.take (k+1)) x=L++[(nk:Int)]):=by unfold Hid;rw[fI.out,aE hp,<-List.append_assoc,Vx.out]
       have HOD:Hid (∀m (o:Obj),(((wr.alloc (.cells cs.toArray 156)).drewN m).alloc o).ownsRow w.heap.size 3 1 (.slice (some ⟨g3,0,none⟩) L.length c3) L.length (aJ L)):=λm o=>(lw (HJ.out.1.alloc _) m).alloc o;clear hp fI;go_upto_region 10 with(first | (refine wpList_load_mid rfl 156 _ rfl g (k*31) rfl cs _ HE.out.rng underlying156 rfl HE.out.size ?_) | (refine aO rfl 156 _ _ rfl _ cs.toArray 156 rfl rfl HE.out.size' HE.out.same HE.out.all ?_))
       go_quiet (fail);go_wp2_with (first | (at_builtin;refine wpList_append_own _ rfl (.tmp 37) (.tmp 40) 28 rfl w.heap.size 3 i0 (.int .i64 0) 1 8 underlying28 GV gP gQ gR rfl (by decide) _ _ _ rfl (HOD.out _ _) ⟨wr.heap.size+1,0,none⟩ 1 1 [.int .i64 (nk:Int)] rfl rfl ?c1 ?c2 ?c3 ?c4 ?c5 ?_))
       case c1=>exact bg _ _ (by simp[World.drewN]) _ _ _ rfl
       case c2=>exact sF nk
       case c3=>unfold maxLen;omega
       case c4=>omega
       case c5=>simp;omega
       intro v5 w5 cf jn _
       have Vu:Hid (w5.ownsRow w.heap.size 3 1 v5 (R++cK (aa.take (k+1)) x).length (aJ (R++cK (aa.take (k+1)) x))/\Below w.heap.size w w5):=by
        rw[gE.out];exact⟨by simpa[aJ] using cf,((dE (HJ.out.2.alloc SZ _) _).alloc (by simp[World.drewN];omega) _).grown jn (by simp[World.drewN];omega) (λk hk=>(HJ.out.1.lt k hk).1)⟩
       clear cf jn HJ HOD;go_wp2;go_roundg (aa.length - (k+1))
       case measure=>omega
       case rel=>exact⟨k+1,by go_num,by omega,aF,Vu⟩
      ·have gp:(pk==x)=false:=by simp[hp]
       have Vu:Hid (∀m,((wr.alloc (.cells cs.toArray 156)).drewN m).ownsRow w.heap.size 3 1 (.slice (some ⟨g3,0,none⟩) L.length c3) (R++cK (aa.take (k+1)) x).length (aJ (R++cK (aa.take (k+1)) x))/\Below w.heap.size w ((wr.alloc (.cells cs.toArray 156)).drewN m)):=λm=>by
        rw[fI.out,aA hp,Vx.out];exact⟨lw (HJ.out.1.alloc _) m,dE (HJ.out.2.alloc SZ _) m⟩
       clear hp fI;go_upto_region 10 with(first | (refine wpList_load_mid rfl 156 _ rfl g (k*31) rfl cs _ HE.out.rng underlying156 rfl HE.out.size ?_) | (refine aO rfl 156 _ _ rfl _ cs.toArray 156 rfl rfl HE.out.size' HE.out.same HE.out.all ?_))
       go_quiet (fail);go_wp2;go_roundg (aa.length - (k+1))
       case measure=>omega
       case rel=>exact⟨k+1,by go_num,by omega,aF,Vu.out _⟩
     ·have iC:decide ((k:Int)<(aa.length:Int))=false:=by simp;omega
      obtain rfl:k=aa.length:=by omega
      have uo:Hid (wr.ownsRow w.heap.size 3 1 (.slice a3 L.length c3) (i6 aa (i+1)).length (aJ (i6 aa (i+1)))/\Below w.heap.size w wr):=by
       have h1:=Vx.out;rw[List.take_length] at h1;rw[MX.out,h1];exact HJ.out
      clear HJ;go_wp2;go_roundg (aa.length - (i+1))
      case measure=>omega
      case rel=>exact⟨i+1,by go_num,by omega,aF,uo⟩
   ·have D2:decide ((i6 aa i).length<=i)=true:=by simp;omega
    have HE:Hid (oI w (kZ aa) (.returned (.slice a2 (i6 aa i).length c2)) wo):=by
     have e1:kZ aa=i6 aa i:=by
      have:=w9 (aa:=aa) (i:=i) (by omega) (aa.length - i);rw[show i+(aa.length - i)=aa.length from by omega] at this;exact this
     rw[e1];exact⟨a2,c2,rfl,HN.out.1,HN.out.2⟩
    clear jZ HN;generalize (i6 aa i).length=nn at D2 HE hNL ⊢;go_wp2;go_ret;exact HE.out
  ·have hd:decide ((i:Int)<(aa.length:Int))=false:=by simp;omega
   obtain rfl:i=aa.length:=by omega
   go_wp2;go_ret;exact⟨a2,c2,rfl,HN.out.1,HN.out.2⟩
end
section
variable {L:List Int}{j:Nat}
def Srt (L:List Int):Prop:=∀p q,p<q->q<L.length->L.getD p 0<=L.getD q 0
def SrtE (L:List Int)(j:Nat):Prop:=(∀p q,p<q->q<L.length->p≠j->q≠j->L.getD p 0<=L.getD q 0)/\∀q,j<q->q<L.length->L.getD j 0<=L.getD q 0
theorem SrtE.zero (h:SrtE L 0):Srt L:=λp q h1 h2=>by
 by_cases e:p=0
 ·subst e;exact h.2 q h1 h2
 ·exact h.1 p q h1 h2 e (by omega)
theorem SrtE.stop (h:SrtE L (j+1))(hl:L.getD j 0<=L.getD (j+1) 0):Srt L:=λp q h1 h2=>by
 by_cases e:p=j+1
 ·subst e;exact h.2 q h1 h2
 ·by_cases e2:q=j+1
  ·subst e2
   by_cases e3:p=j
   ·subst e3;exact hl
   ·exact Int.le_trans (h.1 p j (by omega) (by omega) e (by omega)) hl
  ·exact h.1 p q h1 h2 e e2
theorem DO (L:List Int)(i k:Nat)(x:Int):(L.set i x).getD k 0=if i=k/\k<L.length then x else L.getD k 0:=by
 rw[List.getD_eq_getElem?_getD,List.getD_eq_getElem?_getD,List.getElem?_set]
 by_cases e:i=k
 ·subst e
  by_cases hl:i<L.length
  ·simp[hl]
  ·simp[hl]
 ·simp[e]
theorem SrtE.swap {x y:Int}(h:SrtE L (j+1))(hl:j+1<L.length)(hx:L.getD j 0=x)(hy:L.getD (j+1) 0=y)(bc:y<x):SrtE ((L.set j y).set (j+1) x) j:=by
 have e:∀k,k<L.length->((L.set j y).set (j+1) x).getD k 0=if k=j+1 then x else if k=j then y else L.getD k 0:=λk hk=>by
  rw[DO,DO,List.length_set]
  by_cases e1:k=j+1
  ·rw[aE ⟨e1.symm,hk⟩,aE e1]
  ·rw[aA (λh=>e1 h.1.symm),aA e1]
   by_cases e2:k=j
   ·rw[aE ⟨e2.symm,hk⟩,aE e2]
   ·rw[aA (λh=>e2 h.1.symm),aA e2]
 refine⟨λp q h1 h2 h3 h4=>?_,λq h1 h2=>?_⟩<;>rw[List.length_set,List.length_set] at h2
 ·rw[e p (by omega),e q h2,aA h3,aA h4]
  by_cases e1:p=j+1
  ·rw[aE e1,aA (by omega),<-hx];exact h.1 j q (by omega) h2 (by omega) (by omega)
  ·rw[aA e1]
   by_cases e2:q=j+1
   ·rw[aE e2,<-hx];exact h.1 p j (by omega) (by omega) e1 (by omega)
   ·rw[aA e2];exact h.1 p q h1 h2 e1 e2
 ·rw[e j (by omega),e q h2,aA (by omega),aE rfl]
  by_cases e2:q=j+1
  ·rw[aE e2];omega
  ·rw[aA e2,aA (by omega),<-hy];exact h.2 q (by omega) h2
theorem Srt.snoc (h:Srt L)(x:Int):SrtE (L++[x]) L.length:=by
 refine⟨λp q h1 h2 h3 h4=>?_,λq h1 h2=>?_⟩<;>rw[List.length_append,List.length_singleton] at h2
 ·rw[List.getD_eq_getElem?_getD,List.getD_eq_getElem?_getD,List.getElem?_append_left (by omega),List.getElem?_append_left (by omega),<-List.getD_eq_getElem?_getD,<-List.getD_eq_getElem?_getD];exact h p q h1 (by omega)
 ·omega
theorem AQ:∀(L:List Int) (j:Nat) (x y:Int),L[j]?=some x->L[j+1]?=some y->((L.set j y).set (j+1) x).Perm L
 | [],_,_,_,h,_=>by cases h
 | a :: [],0,_,_,_,h=>by cases h
 | a :: b :: l,0,x,y,h1,h2=>by
  have e1:=Option.some.inj h1;have e2:=Option.some.inj h2;subst e1 e2;exact List.Perm.swap _ _ _
 | a :: l,j+1,x,y,h1,h2=>List.Perm.cons a (AQ l j x y h1 h2)
theorem Srt.strict (h:Srt L)(hn:L.Nodup):L.Pairwise (·<·):=by
 rw[List.pairwise_iff_getElem];intro i j hi hj Wu;have h1:=h i j Wu hj;rw[List.getD_eq_getElem?_getD,List.getD_eq_getElem?_getD,bW hi,bW hj] at h1
 have h2:L[i]≠L[j]:=λe=>by
  have:=(List.getElem_inj hn).1 e;omega
 have tc:L[i]<=L[j]:=h1;omega
abbrev uL (aa:List PEl):List Int:=aa.map λe=>(e.num:Int)
theorem PP {aa:List PEl}(h:(aa.map PEl.num).Nodup):(uL aa).Nodup:=by
 have:=wR h;rwa[List.map_map] at this
def M9 (aa:List PEl)(i:Nat)(L:List Int):Prop:=L.Perm (uL (aa.take i))/\Srt L
def Iu (aa:List PEl)(i j:Nat)(L:List Int):Prop:=L.Perm (uL (aa.take i))/\SrtE L j
def YB (w:World)(aa:List PEl)(e:Ending)(w':World):Prop:=∃L:List Int,L.Perm (uL aa)/\Srt L/\oI w L e w'
theorem Av (L:List Int)(i:Nat)(x:Int):(aJ L).set i (.int .i64 x)=aJ (L.set i x):=by
 show(L.map (Value.int .i64)).set i (.int .i64 x)=(L.set i x).map (Value.int .i64);rw[List.map_set]
section
variable (w:World)(b:Nat)(a:Option Addr)(c:Nat)(aa:List PEl)
theorem Ly (h:TRd w b a c aa):Calls prog 85 #[.pointer (some ⟨b,1,none⟩)] w λe w'=>YB w aa e w':=by
 obtain⟨i0,GV,gP,gQ,gR⟩:=info_parts Tryz.info3;have HT:=aw h;have bJ:=h.few;have q0:=h.cell;clear h;go_enter func85,ntmps85;go_wp2_with fail
 go_loopg [3,13] aa.length (λgk v iv wr=>∃i:Nat,iv=.int .i64 i/\i<=aa.length/\aa.length - i<=gk/\Hid (∃L:List Int,L.length=i/\M9 aa i L/\wr.ownsRow w.heap.size 3 1 v L.length (aJ L)/\Below w.heap.size w wr))
 case atStart=>exact⟨0,rfl,bm,by omega,[],rfl,⟨List.Perm.refl _,λ_ _ _ h=>absurd h (Nat.not_lt_zero _)⟩,eB,bo⟩
 case round=>
  obtain⟨i,rfl,hi,fT,HI⟩:=hrel;obtain⟨R,hRl,hRn,hRo,hRb⟩:=HI.out;obtain⟨wo,rfl⟩:∃wo,wo=wr:=⟨_,rfl⟩;obtain⟨a2,c2,jJ⟩:=aK hRo;subst jJ;have HN:=uz hRl hRn hRo hRb;have i8:=hRb.size;have XE:R.length<=24:=by omega
  clear HI hRn hRo hRb
  by_cases bc:i<aa.length
  ·have hd:decide ((i:Int)<(aa.length:Int))=true:=by simp;omega
   obtain⟨g,hg,di,he⟩:=HT.out.pl.el bc;subst hg;have HE:=aw (he.below HN.out.2.2.2 di);have HNE:Hid (uL (aa.take (i+1))=uL (aa.take i)++[(aa[i].num:Int)]):=by unfold Hid uL;rw[gj bc,List.map_append];rfl
   clear he;generalize aa[i].num=nk at HE HNE;generalize aa[i].par=pk at HE;generalize aa[i].cells=cs at HE;have c0:cs[0]?=some (.int .i64 nk):=HE.out.c0;clear q0 hRl;go_wp2_with (first | (refine wpList_load_mid rfl 156 _ rfl g (i*31) rfl cs _ HE.out.rng underlying156 rfl HE.out.size ?_) | (refine aO rfl 156 _ _ rfl _ cs.toArray 156 rfl rfl HE.out.size' HE.out.same HE.out.all ?_) | (at_builtin;refine wpList_append_own _ rfl (.tmp 17) (.tmp 20) 28 rfl w.heap.size 3 i0 (.int .i64 0) 1 8 underlying28 GV gP gQ gR rfl (by decide) _ _ _ rfl ((HN.out.2.2.1.alloc _).alloc _) ⟨wo.heap.size+1,0,none⟩ 1 1 [.int .i64 (nk:Int)] rfl rfl ?c1 ?c2 ?c3 ?c4 ?c5 ?_))
   case c1=>exact bg (wo.alloc _) _ (by simp) _ _ _ rfl
   case c2=>exact sF nk
   case c3=>unfold maxLen;omega
   case c4=>omega
   case c5=>simp;omega
   intro v5 w5 cf jn _;have qJ:Hid (Below w.heap.size w w5):=((HN.out.2.2.2.alloc i8 _).alloc (by simp;omega) _).grown jn (by simp;omega) (λk hk=>(HN.out.2.2.1.lt k hk).1);have bS:w5.ownsRow w.heap.size 3 1 v5 (R++[(nk:Int)]).length (aJ (R++[(nk:Int)])):=by simpa[aJ] using cf
   have Am:Iu aa (i+1) i (R++[(nk:Int)]):=by
    have h1:=HN.out.2.1.2.snoc (nk:Int);rw[HN.out.1] at h1;refine⟨?_,h1⟩;rw[HNE.out];exact HN.out.2.1.1.append_right _
   have IW:(R++[(nk:Int)]).length=i+1:=by simp[HN.out.1]
   obtain⟨a5,c5,G3⟩:=aK bS;subst G3;obtain⟨g5,hg5e,hgl5,_⟩:=aX bS (by omega);subst hg5e;have X9:Hid (Iu aa (i+1) i (R++[(nk:Int)])/\w5.ownsRow w.heap.size 3 1 (.slice (some ⟨g5,0,none⟩) (i+1) c5) (i+1) (aJ (R++[(nk:Int)]))/\(R++[(nk:Int)]).length=i+1):=⟨Am,by rw[IW] at bS;exact bS,IW⟩;have aaK:w.heap.size<=g5:=(bS.lt g5 rfl).1;rw[IW];clear cf jn bS Am IW HN HE;generalize R++[(nk:Int)]=L0 at X9;have KK:=mp X9.out.2.1;go_wp2_with fail
   go_loopg [6] (i+1) (λgk jv wr=>∃j:Nat,jv=.int .i64 j/\j<=i/\j<=gk/\Hid (∃L:List Int,L.length=i+1/\Iu aa (i+1) j L/\wr.ownsRow w.heap.size 3 1 (.slice (some ⟨g5,0,none⟩) (i+1) c5) (i+1) (aJ L)/\Below w.heap.size w wr))
   case atStart=>exact⟨i,by go_num,aF,by omega,L0,X9.out.2.2,X9.out.1,X9.out.2.1,qJ.out⟩
   case round=>
    obtain⟨j,rfl,hj,r9,HJ⟩:=hrel;cases j with
    | zero=>
     have ry:Hid (∀m,∃L:List Int,L.length=i+1/\M9 aa (i+1) L/\(wr.drewN m).ownsRow w.heap.size 3 1 (.slice (some ⟨g5,0,none⟩) (i+1) c5) L.length (aJ L)/\Below w.heap.size w (wr.drewN m)):=λm=>by
      obtain⟨L,h1,h2,h3,h4⟩:=HJ.out;exact⟨L,h1,⟨h2.1,h2.2.zero⟩,by rw[h1];exact lw h3 m,dE h4 m⟩
     clear HJ;go_upto_region 7 with fail;go_quiet (fail);go_wp2;go_roundg (aa.length - (i+1))
     case measure=>omega
     case rel=>exact⟨i+1,by go_num,by omega,aF,ry.out _⟩
    | succ j=>
     obtain⟨L,KG,hLn,UA,hLb⟩:=HJ.out;have HL:=uz KG hLn UA hLb;obtain⟨g6,O5,hgl6,hc6⟩:=aX UA (by omega);have FP:g5=g6:=by injection O5 with h1;injection h1 with h1 _ _
     subst FP;obtain⟨gu,vj,_⟩:=vG UA;have FR:j+1<L.length:=by omega
     obtain⟨x,hx⟩:∃x,L[j]?=some x:=⟨_,bW (by omega)⟩;obtain⟨y,hy⟩:∃y,L[j+1]?=some y:=⟨_,bW FR⟩;have qx:wr.cell? ⟨g5,j,none⟩=some (.int .i64 x):=hc6 j _ (by rw[List.getElem?_map,hx];rfl);have qy:wr.cell? ⟨g5,j+1,none⟩=some (.int .i64 y):=hc6 (j+1) _ (by rw[List.getElem?_map,hy];rfl);have qf:∀k,wr.frozen? ⟨g5,k,none⟩=false:=λ_=>aH vj;have XJ:((j:Int)+1 - 1)=(j:Int):=by omega
     have MJ:(0:Int)<(j:Int)+1:=by omega
     have SX:(j:Int)+1<(i:Int)+1:=by omega
     have hj4:(j:Int)<(i:Int)+1:=by omega
     have aiX:(i:Int)<=24:=by omega
     by_cases UX:y<x
     ·have gxy:decide (y<x)=true:=by simpa using UX
      have C2:Hid (∀m,∃L:List Int,L.length=i+1/\Iu aa (i+1) j L/\(((wr.drewN m).setCell ⟨g5,j,none⟩ (.int .i64 y)).setCell ⟨g5,j+1,none⟩ (.int .i64 x)).ownsRow w.heap.size 3 1 (.slice (some ⟨g5,0,none⟩) (i+1) c5) (i+1) (aJ L)/\Below w.heap.size w (((wr.drewN m).setCell ⟨g5,j,none⟩ (.int .i64 y)).setCell ⟨g5,j+1,none⟩ (.int .i64 x))):=λm=>by
       have hxg:L.getD j 0=x:=by rw[List.getD_eq_getElem?_getD,hx];rfl
       have hyg:L.getD (j+1) 0=y:=by rw[List.getD_eq_getElem?_getD,hy];rfl
       refine⟨(L.set j y).set (j+1) x,by rw[List.length_set,List.length_set];exact HL.out.1,⟨(AQ L j x y hx hy).trans HL.out.2.1.1,HL.out.2.1.2.swap FR hxg hyg UX⟩,?_,((dE HL.out.2.2.2 m).setCell aaK _).setCell aaK _⟩
       ·have h1:=Cm (lw HL.out.2.2.1 m) (i:=j) (by rw[List.length_map];omega) (.int .i64 y);have h2:=Cm h1 (i:=j+1) (by rw[List.length_set,List.length_map];omega) (.int .i64 x);rw[Av,Av] at h2;exact h2
      clear HJ KG hLn UA hLb hc6 vj hx hy UX HL;go_upto_region 7 with fail;go_quiet (fail);go_wp2;go_roundg j
      case measure=>omega
      case rel=>exact⟨j,by go_num,by omega,aF,C2.out _⟩
     ·have gxy:decide (y<x)=false:=by simpa using UX
      have ry:Hid (∀m,∃L:List Int,L.length=i+1/\M9 aa (i+1) L/\(wr.drewN m).ownsRow w.heap.size 3 1 (.slice (some ⟨g5,0,none⟩) (i+1) c5) L.length (aJ L)/\Below w.heap.size w (wr.drewN m)):=λm=>⟨L,HL.out.1,⟨HL.out.2.1.1,HL.out.2.1.2.stop (by rw[List.getD_eq_getElem?_getD,List.getD_eq_getElem?_getD,hx,hy];exact Int.not_lt.1 UX)⟩,by rw[HL.out.1];exact lw HL.out.2.2.1 m,dE HL.out.2.2.2 m⟩;clear HJ KG hLn UA hLb hc6 vj hx hy UX HL;go_upto_region 7 with fail;go_quiet (fail);go_wp2;go_roundg (aa.length - (i+1))
      case measure=>omega
      case rel=>exact⟨i+1,by go_num,by omega,aF,ry.out _⟩
  ·have hd:decide ((i:Int)<(aa.length:Int))=false:=by simp;omega
   obtain rfl:i=aa.length:=by omega
   go_wp2;go_ret;exact⟨R,by have:=HN.out.2.1.1;rwa[List.take_length] at this,HN.out.2.1.2,a2,c2,rfl,HN.out.2.2.1,HN.out.2.2.2⟩
end
end
section
variable {M M':Nat->Mk}{T:aU}{kl:List (Int × List Int)}{rs:List dx}
def Rw (m m':Mk):Prop:=m.kd=m'.kd/\(∀i,i<26->m.cl i=m'.cl i)/\m.nm=m'.nm
theorem JG (h:∀k,Rw (M k) (M' k)):bp T M=bp T M':=by
 have e1:fS T M=fS T M':=by
  funext e l;unfold fS;rw[(h e.toNat).1]
 have e2:eV T M=eV T M':=by
  funext e l;unfold eV
  by_cases hl:97<=l/\l<=122
  ·rw[(h e.toNat).2.1 _ (by omega)]
  ·rw[decide_eq_false hl];rfl
 have e3:fR T M=fR T M':=by
  funext e l;unfold fR;rw[(h e.toNat).2.2]
 unfold bp;rw[e1,e2,e3]
theorem KOK.ag (h:KOK T M rs kl)(hm:∀k,Rw (M k) (M' k)):KOK T M' rs kl:=⟨h.nums,h.els,λx hx=>by rw[<-JG hm];exact h.right x hx⟩
theorem WZ (M:Nat->Mk)(n:Nat)(on:Bool)(k:Nat):Rw (M k) (bU M n (iG (M n) on) k):=by
 unfold bU;split
 ·rename_i e;subst e;exact⟨rfl,λi hi=>by show _=if i=26 then on else _;rw[aA (by omega)],rfl⟩
 ·exact⟨rfl,λ_ _=>rfl,rfl⟩
def cG (kl:List (Int × List Int))(L:List Int):List Int:=L.filter λx=>(bA kl x).isNone
theorem Fm {L:List Int}{i:Nat}(h:i<L.length):cG kl (L.take (i+1))=if(bA kl L[i]).isNone=true then cG kl (L.take i)++[L[i]] else cG kl (L.take i):=by
 unfold cG;rw[gj h,List.filter_append];cases hu:(bA kl L[i]).isNone<;>simp[hu]
theorem rn (kl:List (Int × List Int))(L:List Int):(cG kl L).length<=L.length:=List.length_filter_le _ _
theorem xe (h:∀x∈kl,x.2.length=9)(n:Int):((bA kl n).getD j3).length=9:=by
 cases hf:bA kl n with
 | none=>rfl
 | some s=>exact h _ (oh hf)
section
variable (w:World)(b:Nat)(vS:Value × Value)(v:Value)(aa:List PEl)(T:aU)(ae:Nat)(M:Nat->Mk)(rs:List dx)(kl:List (Int × List Int))(G:Nat->Prop)
theorem x7 (al:Option Addr)(cl:Nat)(L:List Int)(h:DM w b vS v aa T ae M rs kl G)(hI:RowI w al L)(hL:L.length<=1000):Calls prog 86 #[.pointer (some ⟨b,0,none⟩),.slice al L.length cl] w λe w'=>oI w (cG kl L) e w':=by
 obtain⟨i0,GV,gP,gQ,gR⟩:=info_parts Tryz.info3;have HD:=aw h;have HI:=aw hI;have bJ:=h.few;have jM:=h.lt;clear h hI;go_enter func86,ntmps86;go_wp2_with fail
 go_loopg [5,12] L.length (λgk v iv wr=>∃i:Nat,iv=.int .i64 i/\i<=L.length/\L.length - i<=gk/\Hid (wr.ownsRow w.heap.size 3 1 v (cG kl (L.take i)).length (aJ (cG kl (L.take i)))/\Below w.heap.size w wr))
 case atStart=>exact⟨0,rfl,bm,by omega,eB,bo⟩
 case round=>
  obtain⟨i,rfl,hi,fT,HN⟩:=hrel;obtain⟨a2,c2,jJ⟩:=aK HN.out.1;subst jJ;have i8:=HN.out.2.size
  have XE:(cG kl (L.take i)).length<=1000:=by
   have h1:=rn kl (L.take i);have h2:(L.take i).length<=L.length:=List.length_take_le' _ _;omega
  by_cases bc:i<L.length
  ·have hd:decide ((i:Int)<(L.length:Int))=true:=by simp;omega
   obtain⟨g2,iD,l9,zj⟩:=HI.out i bc;subst iD;have q1:=(HN.out.2.cell (p:=⟨g2,i,none⟩) l9).trans zj;rw[bW bc] at q1;replace q1:wr.cell? ⟨g2,i,none⟩=some (.int .i64 L[i]):=q1;have fI:Hid (cG kl (L.take (i+1))=if(bA kl L[i]).isNone=true then cG kl (L.take i)++[L[i]] else cG kl (L.take i)):=Fm bc;have Q8:=aw (HD.out.below HN.out.2);clear zj;generalize L[i]=o at q1 fI;have h9:=xe HD.out.kp.nine o;go_wp2_with fail;refine(rh wr b vS.2 kl o (au Q8.out.pb.doc rfl) Q8.out.kp bJ).mono ?_;rintro e w1 ⟨rfl,cH⟩;have kU:=bZ (aY HN.out.1 cH) (HN.out.2.trans (cH.mono i8));have GM:=kU.out.2.size;clear cH HN Q8 q1;obtain⟨fo,hfo⟩:∃fo,bA kl o=fo:=⟨_,rfl⟩;rw[hfo] at fI h9 ⊢;clear hfo;generalize fo.getD j3=S at h9 ⊢;have bT:(aJ S).toArray.size=9:=List.size_toArray.trans (by rw[List.length_map];exact h9);have qK:Hid ((prog.info? 132).map (·.size)=some (aJ S).toArray.size):=by unfold Hid;rw[bT];exact Tryz.sizeS
   have Uj:=aw bT.symm;have Bp:=aw (gW S);clear bT h9;generalize cG kl (L.take i)=R at kU fI XE ⊢;cases fo with
   | some s=>
    have fj:Hid ((w1.alloc (.cells (aJ S).toArray 132)).ownsRow w.heap.size 3 1 (.slice a2 R.length c2) (cG kl (L.take (i+1))).length (aJ (cG kl (L.take (i+1))))/\Below w.heap.size w (w1.alloc (.cells (aJ S).toArray 132))):=by
     rw[fI.out,aA (by simp)];exact⟨kU.out.1.alloc _,kU.out.2.alloc GM _⟩
    clear fI kU;simp only[Option.isSome_some];go_wp2_with (refine aO rfl 132 _ _ rfl _ (aJ S).toArray 132 rfl rfl qK.out Uj.out Bp.out ?_);go_roundg (L.length - (i+1))
    case measure=>omega
    case rel=>exact⟨i+1,by go_num,by omega,aF,fj⟩
   | none=>
    have gE:Hid (cG kl (L.take (i+1))=R++[o]):=by unfold Hid;rw[fI.out,aE (by simp)]
    clear fI;simp only[Option.isSome_none];go_wp2_with (first | (refine aO rfl 132 _ _ rfl _ (aJ S).toArray 132 rfl rfl qK.out Uj.out Bp.out ?_) | (at_builtin;refine wpList_append_own _ rfl (.tmp 26) (.tmp 28) 28 rfl w.heap.size 3 i0 (.int .i64 0) 1 8 underlying28 GV gP gQ gR rfl (by decide) _ _ _ rfl ((kU.out.1.alloc _).alloc _) ⟨w1.heap.size+1,0,none⟩ 1 1 [.int .i64 o] rfl rfl ?c1 ?c2 ?c3 ?c4 ?c5 ?_))
    case c1=>exact bg (w1.alloc _) _ (by simp) _ _ _ rfl
    case c2=>exact sF o
    case c3=>unfold maxLen;omega
    case c4=>omega
    case c5=>simp;omega
    intro v5 w5 cf jn _
    have uo:Hid (w5.ownsRow w.heap.size 3 1 v5 (cG kl (L.take (i+1))).length (aJ (cG kl (L.take (i+1))))/\Below w.heap.size w w5):=by
     rw[gE.out];exact⟨by simpa[aJ] using cf,((kU.out.2.alloc GM _).alloc (by simp;omega) _).grown jn (by simp;omega) (λk hk=>(kU.out.1.lt k hk).1)⟩
    clear cf jn kU;go_wp2;go_roundg (L.length - (i+1))
    case measure=>omega
    case rel=>exact⟨i+1,by go_num,by omega,aF,uo⟩
  ·have hd:decide ((i:Int)<(L.length:Int))=false:=by simp;omega
   obtain rfl:i=L.length:=by omega
   rw[List.take_length] at HN XE ⊢;go_wp2;go_ret;exact⟨a2,c2,rfl,HN.out.1,HN.out.2⟩
end
section
variable (w:World)(px:Value)(T:aU)(ae:Nat)(M:Nat->Mk)(rs:List dx)(kl:List (Int × List Int))(F:Nat->Prop)
def CX (n:Int)(on:Bool)(e:Ending)(w':World):Prop:=e=.returned (.int .i64 (if(bF T n).isSome then 0 else 5))/\DSk w' px T ae (if(bF T n).isSome then bU M n.toNat (iG (M n.toNat) on) else M) rs kl (cV F w)/\Fr w w' F
theorem Ox (n:Int)(on:Bool)(h:DSk w px T ae M rs kl F):Calls prog 44 #[px,.int .i64 n,.bool on] w λe w'=>
  CX w px T ae M rs kl F n on e w':=by
 obtain⟨b,vS,v,aa,G,rfl,h2,h3,h4,h5,h6,h7⟩:=h;have HB:Hid (DM w b vS v aa T ae M rs kl G/\KOK T M rs kl/\F b/\(∀j,v.ownBlock=some j->F j)/\(∀j,vS.2.ownBlock=some j->F j)/\∀k,G k->F k):=⟨h2,h3,h4,h5,h6,h7⟩;clear h2 h3 h4 h5 h6 h7;go_enter func44,ntmps44;go_wp2_with fail;refine(Qq w b vS v aa T ae n on HB.out.1.pb HB.out.1.tw HB.out.1.mks.2).mono ?_;rintro e w1 ⟨bX,rfl,hp,hf,hm⟩
 have HE:Hid (CX w (.pointer (some ⟨b,0,none⟩)) T ae M rs kl F n on (.returned (.int .i64 (if(bF T n).isSome then 0 else 5))) w1):=⟨rfl,⟨b,vS,v,bX,G,rfl,HB.out.1.inpl hp (hm M HB.out.1.mks) hf,by
  split
  ·exact HB.out.2.1.ag (WZ M _ on)
  ·exact HB.out.2.1,ax HB.out.2.2.1,λj hj=>ax (HB.out.2.2.2.1 j hj),λj hj=>ax (HB.out.2.2.2.2.1 j hj),λk hk=>ax (HB.out.2.2.2.2.2 k hk)⟩,hf.mono (λk hk=>HB.out.2.2.2.1 k hk)⟩
 clear hp hf hm;generalize (if(bF T n).isSome then(0:Int) else 5)=y at HE ⊢;go_wp2;go_ret;exact HE.out
def CZ (e:Ending)(w':World):Prop:=
 ∃(l:List Int) (a:Option Addr) (c:Nat),e=.returned (.slice a l.length c)/\l.length<=T.length/\((∀x,x∈l↔(bA kl x).isNone=true/\∃k lk,x=((k:Nat):Int)/\(k,lk)∈T)/\l.Pairwise (·<·))/\DSk w' px T ae M rs kl (λk=>F k/\k<w.heap.size)/\Below w.heap.size w w'/\w'.ownsRow w.heap.size 3 1 (.slice a l.length c) l.length (aJ l)
theorem Oz (h:DSk w px T ae M rs kl F):Calls prog 48 #[px] w λe w'=>CZ w px T ae M rs kl F e w':=by
 have HS:=aw h.here;obtain⟨b,vS,v,aa,G,rfl,h2,h3,h4⟩:=h;obtain⟨a,c,hv⟩:=h2.pb.pl.shape;subst hv;have HD:=aw h2;clear h2 h3 h4;go_enter func48,ntmps48;go_wp2_with fail;refine(Ly w b a c aa HD.out.trd).mono ?_;rintro e w1 ⟨L,hLp,XD,al,cl,rfl,eo,cH⟩;have KG:L.length=aa.length:=by rw[hLp.length_eq,List.length_map]
 have jK:=aw (HD.out.below cH);have HL:Hid (L.length=aa.length/\(L.Perm (uL aa)/\Srt L)/\RowI w1 al L/\Below w.heap.size w w1):=⟨KG,⟨hLp,XD⟩,RowI.own eo,cH⟩;have B5:L.length<=1000:=by have:=HD.out.pb.few;omega
 clear eo cH KG hLp XD;go_wp2_with fail;refine(x7 w1 b vS _ aa T ae M rs kl G al cl L jK.out HL.out.2.2.1 B5).mono ?_;rintro e w2 ⟨a2,c2,rfl,Eb,dk⟩;have hBB:=HL.out.2.2.2.trans (dk.mono HL.out.2.2.2.size)
 have HE:Hid (CZ w (.pointer (some ⟨b,0,none⟩)) T ae M rs kl F (.returned (.slice a2 (cG kl L).length c2)) w2):=by
  refine⟨cG kl L,a2,c2,rfl,?_,⟨λx=>⟨λhx=>?_,λhx=>?_⟩,?_⟩,HS.out.keep (λk hk _=>hBB.block k hk.2) hBB.size,hBB,ba Eb HL.out.2.2.2.size⟩
  ·have h1:=rn kl L;have h2:=HD.out.pb.pt.len HD.out.tw;have h3:=HL.out.1;omega
  ·obtain⟨h1,h2⟩:=dJ.1 hx;obtain⟨e,he,rfl⟩:=bx.1 (HL.out.2.1.1.mem_iff.1 h1);obtain⟨l,hl⟩:=HD.out.pb.pt.to' e he;exact⟨h2,e.num,l,rfl,hl⟩
  ·obtain⟨h1,k,lk,rfl,hk⟩:=hx;obtain⟨e,he,h3⟩:=HD.out.pb.pt.of' k lk hk;exact dJ.2 ⟨HL.out.2.1.1.mem_iff.2 (bx.2 ⟨e,he,by rw[h3]⟩),h1⟩
  ·refine(HL.out.2.1.2.strict ?_).filter _;exact HL.out.2.1.1.nodup_iff.2 (PP HD.out.pb.pt.nums)
 clear Eb dk hBB;generalize (cG kl L).length=nn at HE ⊢;go_wp2;go_ret;exact HE.out
def oz (n:Int)(s:ByteArray):Int:=if bD T n s=0 then((bA kl n).getD j3).getD ((ji s).getD 0) 0 else 0
def wf (n:Int)(s:ByteArray)(e:Ending)(w':World):Prop:=
 e=.returned (.tuple #[.int .i64 (oz T kl n s),.bool (decide (bD T n s=0)&&(bA kl n).isSome),.int .i64 (bD T n s)])/\DSk w' px T ae M rs kl (λk=>F k/\k<w.heap.size)/\Below w.heap.size w w'
theorem OA (n:Int)(s:ByteArray)(h:DSk w px T ae M rs kl F):Calls prog 82 #[px,.int .i64 n,.string s] w λe w'=>wf w px T ae M rs kl F n s e w':=by
 have HS:=aw h.here;obtain⟨b,vS,v,aa,G,rfl,h2,h3,h4⟩:=h;have HD:=aw h2;have bJ:=h2.few;clear h2 h3 h4;go_enter func82,ntmps82;go_wp2_with fail;refine(rW w b vS v aa T ae M rs kl G n s HD.out).mono ?_;rintro e w1 ⟨rfl,cH⟩;have jK:=aw (HD.out.below cH);have eu:=aw cH;clear cH
 by_cases hq:bD T n s=0
 ·obtain⟨l,p,ht,hp⟩:=nL hq;have Pe:=xZ hp;have HV:Hid (oz T kl n s=((bA kl n).getD j3).getD p 0):=by unfold Hid oz;rw[aE hq,hp];rfl
  have HQ:=aw hq;rw[aE hq,hq,hp];simp only[Option.getD_some];clear hq ht hp;have h9:=xe HD.out.kp.nine n;go_wp2_with fail;refine(rh w1 b vS.2 kl n (au jK.out.pb.doc rfl) jK.out.kp bJ).mono ?_;rintro e w2 ⟨rfl,dk⟩;have Mw:=aw (eu.out.trans (dk.mono eu.out.size))
  have HE:Hid (∀Z,wf w (.pointer (some ⟨b,0,none⟩)) T ae M rs kl F n s (.returned (.tuple #[.int .i64 (((bA kl n).getD j3).getD p 0),.bool (bA kl n).isSome,.int .i64 0])) (w2.alloc (.cells Z 132))):=λZ=>by
   have hb:=Mw.out.alloc Mw.out.size (.cells Z 132);exact⟨by rw[HV.out,HQ.out];rfl,HS.out.keep (λk hk _=>hb.block k hk.2) hb.size,hb⟩
  clear dk;generalize (bA kl n).isSome=fr at HE ⊢;generalize (bA kl n).getD j3=S at h9 HE ⊢;have bT:(aJ S).toArray.size=9:=List.size_toArray.trans (by rw[List.length_map];exact h9);have qK:Hid ((prog.info? 132).map (·.size)=some (aJ S).toArray.size):=by unfold Hid;rw[bT];exact Tryz.sizeS
  have Uj:=aw bT.symm;have Bp:=aw (gW S)
  have q0:(w2.alloc (.cells (aJ S).toArray 132)).cell? ⟨w2.heap.size,p,none⟩=some (.int .i64 (S.getD p 0)):=by
   have:=eA w2 (aJ S) 132 p (.int .i64 (S.getD p 0)) (ro (by omega));rwa[Nat.zero_add] at this
  have hpi:(p:Int)<9:=by omega
  clear bT;generalize S.getD p 0=val at q0 HE;go_wp2_with (refine aO rfl 132 _ _ rfl _ (aJ S).toArray 132 rfl rfl qK.out Uj.out Bp.out ?_);go_ret3;exact HE.out _
 ·have HE:Hid (wf w (.pointer (some ⟨b,0,none⟩)) T ae M rs kl F n s (.returned (.tuple #[.int .i64 0,.bool false,.int .i64 (bD T n s)])) w1):=by
   refine⟨?_,HS.out.keep (λk hk _=>eu.out.block k hk.2) eu.out.size,eu.out⟩;unfold oz;rw[aA hq,decide_eq_false hq];rfl
  have gq:(bD T n s != 0)=true:=by simp[hq]
  rw[aA hq];clear hq;generalize bD T n s=y at HE gq ⊢;go_wp2;go_ret3;exact HE.out
end
theorem Mc (h:KOK T M rs kl){n:Int}{s:ByteArray}(hf:(bA kl n).isSome=true):oz T kl n s=eD T M rs n s:=by
 unfold oz eD;cases hk:bA kl n with
 | none=>rw[hk] at hf;cases hf
 | some l=>
  have h1:=h.right _ (oh hk);have h2:l=dU (bp T M) rs n:=h1;rw[h2];rfl
end
end Go.Proofs.YtblfffbmklkhmabGreat
