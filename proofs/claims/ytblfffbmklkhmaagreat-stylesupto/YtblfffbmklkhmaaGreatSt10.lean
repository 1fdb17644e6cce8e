import Derived.Test.YtblfffbmklkhmaaGreatSt9
import Derived.Deep.DeepCutAuto
import Derived.ProofKit
import Derived.Deep.Slices
import Derived.OpenShut
import Derived.Test.YtblfffbmklkhmaaGreatSt8
namespace Go.Proofs.YtblfffbmklkhmaaGreat
open Go.RowKit
def wS (w:World) (s:ByteArray) (e:Ending) (w':World):Prop:=
 ∃ pa:Option Addr,e=.returned (.tuple #[.pointer pa,.int .i64 (fa s).1,.int .i64 (fa s).2])∧Below w.heap.size w w'∧
  ((fa s).1=0→∃ (b:Nat) (a:Option Addr) (c:Nat) (rs:List (List (List (Nat × Nat)))) (xs:List Value) (mn:Int),pa=some ⟨b,0,none⟩∧Sh w' b (.slice a rs.length c) mn∧w'.ownsRow w.heap.size 164 3 (.slice a rs.length c) rs.length xs∧RRuls w' s w.heap.size xs rs∧RRulsAt s 0 s.size rs∧RInfo w' s w.heap.size s.size xs∧w.heap.size≤b)
structure RN (w:World) (b:Nat) (s:ByteArray) (M:Int) (f:Nat) (wr:World) (hm:Int) (vL:Value) (rs:List (List (List (Nat × Nat)))) (xs:List Value):Prop where
 sh:Sh wr b vL hm
 bel:Below w.heap.size w wr
 own:wr.ownsRow (w.heap.size+1) 164 3 vL rs.length xs
 ruls:RRuls wr s (w.heap.size+1) xs rs
 info:RInfo wr s (w.heap.size+1) f xs
 noted:fV hm f
 acc:Acc s 18 ⟨rs.length+1,1,hm⟩ f M
structure RP (w:World) (b:Nat) (s:ByteArray) (M:Int) (f p:Nat) (w0 wr:World) (hm:Int) (vL:Value) (rs:List (List (List (Nat × Nat)))) (lv:Int):Prop where
 inn:In w0 wr b vL hm lv (.slice none 0 0) (.slice none 0 0) 0 []
 layer:kt s f p
 lay:lv=sO s f
 noted:fV hm p
 acc:Acc s 2 ⟨rs.length+1,1,hm⟩ p M
theorem wP {s:ByteArray} {M:Int} {nr:Nat} {hm:Int} {f:Nat} (h:Acc s 18 ⟨nr,1,hm⟩ f M):(bt s f=64→f+1<s.size∧Acc s 2 ⟨nr,1,hm⟩ (f+2) M∧48≤bt s (f+1)∧bt s (f+1)≤57)∧(bt s f≠64→Acc s 2 ⟨nr,1,hm⟩ f M):=by
 have hl:=h.lt (by omega)
 constructor
 ·intro e
  have h1:=h.step hl
  rw [show bC 18 (bt s f)=1 from by simp [bC,e]] at h1
  have Ee:=h1.lt (by omega)
  refine ⟨Ee,?_⟩
  have h2:=h1.step Ee
  have ho:=h1.ok Ee
  have hd:fk (bt s (f+1))=true:=by
   cases hd:fk (bt s (f+1)) with
   | true=>rfl
   | false=>exfalso;apply ho;simp [bC,wh,hd]
  rw [show bC 1 (bt s (f+1))=2 from by simp [bC,wh,hd]] at h2
  refine ⟨by simpa [cnt] using h2,?_⟩
  simpa [fk] using hd
 ·intro e
  unfold Acc at h ⊢
  rw [←h]
  exact ((na (s:=s) (i:=f) (by omega)).1 nr 1 hm).symm
theorem CN {w:World} {ae:Nat} {e:TypeId} {size:Nat} {v:Value} {n:Nat} {xs:List Value} (h:w.ownsRow ae e size v n xs) {b:Nat} (hb:b<ae):v.ownBlock=none∨v.ownBlock≠some b:=by
 cases hv:v.ownBlock with
 | none=>exact Or.inl rfl
 | some g=>right;intro e;injection e with e;have:=(h.lt g hv).1;omega
theorem NP {w w0 W5 w6:World} {s:ByteArray} {M:Int} {f p q r:Nat} {vt hm lv:Int} {a a' a4:Option Addr} {c c' c4:Nat} {dl:List dg} {rs:List (List (List (Nat × Nat)))} {xs:List Value} {ss:List (List (Nat × Nat))} {ys:List Value} {v':Value} {nc:Nat}
  (N:RN w w.heap.size s M f w0 vt (.slice a rs.length c) rs xs) (bw:rs.length≤f) (o7:kt s f p) (ht:RRulsAt s 0 f rs)
  (h5:In w0 W5 w.heap.size (.slice a rs.length c) hm lv (.slice a' ss.length c') (.slice a4 dl.length c4) ss.length ys) (hs5:RSels W5 s (w0.heap.size+1) ys ss)
  (lC:p<q) (Ox:q+1≤r) (C4:r<s.size) (hb:bt s q=123) (WK:∀ k,p≤k→k<q→bt s k≠123) (hr:bt s r=125) (hrn:∀ k,q≤k→k<r→bt s k≠125)
  (PU:lv=sO s f) (hdo:W5.ownsRow (w.heap.size+1) 229 3 (.slice a4 dl.length c4) dl.length (jx dl)) (hda:pV (s.extract (q+1) r) dl) (Ma:nH s p q ss) (mm:fV hm q) (yW:Acc s 9 ⟨rs.length+1,nc,hm⟩ (q+1) M)
  (ho:w6.ownsRow (w.heap.size+1) 164 3 v' (rs.length+1) (xs++[.int .i64 lv,.slice a' ss.length c',.slice a4 dl.length c4]))
  (hg:((W5.alloc (.cells #[.int .i64 lv,.slice a' ss.length c',.slice a4 dl.length c4] 164)).drew).grownBy w6 (Value.ownBlock (.slice a rs.length c))) :
  Sh w6 w.heap.size (.slice a rs.length c) hm∧RO w w.heap.size s M (r+1) (w6.setCell ⟨w.heap.size,0,none⟩ v') hm v' (rs++[ss]) (xs++[.int .i64 lv,.slice a' ss.length c',.slice a4 dl.length c4]):=by
 have hl:=h5.lt
 have hz:=h5.blt
 have No:=N.own.kept h5.gb (CN N.own (by omega))
 have eV:∀ k,k≤w.heap.size→some k≠Value.ownBlock (.slice a rs.length c):=by
  intro k hk e
  have:=(N.own.lt k e.symm).1
  omega
 have fT:=h5.gb.size
 have Un:Sh w6 w.heap.size (.slice a rs.length c) hm:=
  (hg.block _ (by show _<(W5.alloc _).heap.size;simp;omega) (eV _ (Nat.le_refl _))).trans ((Below.heap_alloc W5 _ _ h5.sh.lt).trans h5.sh)
 have hk:∀ e,e≠164→Keeps W5 (w6.setCell ⟨w.heap.size,0,none⟩ v') (w.heap.size+1) e:=fun e he=>
  ((bX _ _ _ _).trans (iY (w:=(W5.alloc (.cells #[.int .i64 lv,.slice a' ss.length c',.slice a4 dl.length c4] 164)).drew) he ((No.alloc _).drew) hg)).trans (dZ _ (by simp) _ _)
 have IU:∀ e,Keeps w0 W5 (w.heap.size+1) e:=fun e=>nl h5.gb (by omega) e
 have ad6:f≤p:=by rcases o7 with h | h<;>omega
 refine ⟨Un,Un.set0 _,?_,by simpa using ownsRow_setCell_below ho (by simp) _,?_,?_,by simp;omega,by unfold fV at *;omega,by omega,?_,nc,?_⟩
 ·refine Below.setCell (Below.grown (Below.drew ((N.bel.grown h5.gb N.bel.size (fun k e=>by injection e with e;omega)).alloc ?_ _)) hg ?_ ?_) (by simp) _
  ·have:=N.bel.size;omega
  ·have:=N.bel.size;show _≤(W5.alloc _).heap.size;simp;omega
  ·intro k hk
   have:=(N.own.lt k hk).1
   omega
 ·exact RRuls.snoc lv a' c' (.slice a4 dl.length c4) ss ys ((hk 166 (by decide)).owns (aG h5.own (by omega))) ((hs5.mono (by omega)).keep (hk 206 (by decide))) (N.ruls.keep ((IU 206).trans (hk 206 (by decide))) ((IU 166).trans (hk 166 (by decide))))
 ·obtain ⟨is,i1,i2⟩:=N.info
  exact ⟨is++[(lv,dl)],RDecs.snoc lv _ a4 c4 dl ((hk 229 (by decide)).owns hdo) (i1.keep ((IU 229).trans (hk 229 (by decide)))),RInfsAt.snoc ⟨p,q,o7,hb,WK,lC,by omega,by simpa using hr,fun k k1 k2=>hrn k k1 (by omega),PU,by simpa using hda⟩ (by omega) i2⟩
 ·refine RRulsAt.snoc (j:=f) ⟨p,q,o7,Ma,hb,WK,by omega,by simpa using hr,fun k k1 k2=>hrn k k1 (by omega)⟩ (by omega) ht
 ·obtain ⟨m,m1,m2,_,_⟩:=tL yW (fun j j1 j2=>hrn j (by omega) j2) (by omega) (r - (q+1)) (by omega)
  rw [show q+1+(r - (q+1))=r from by omega] at m2
  have h2:=m2.step C4
  rw [(nP m1 (m2.ok C4)).1 hr,nf m1] at h2
  simpa using h2
set_option maxRecDepth 100000 in
set_option maxHeartbeats 8000000 in
theorem rr (w:World) (s:ByteArray) (hs:s.size≤maxLen) :
  Calls Tryz.prog 87 #[.string s] w fun e w'=>wS w s e w':=by
 unfold maxLen at hs
 by_cases h400:400<s.size
 ·have HC:Hid (fa s=(1,0)):=by unfold Hid fa;rw [if_pos h400]
  have hd:decide ((400:Int)<(s.size:Int))=true:=by simp;omega
  go_enter Tryz.func87,Tryz.ntmps87
  go_wp2
  go_ret3
  exact ⟨none,by rw [HC.out];rfl,Below.refl _ _,fun h=>by rw [HC.out] at h;simp at h⟩
 have hd:decide ((400:Int)<(s.size:Int))=false:=by simp;omega
 have ht:s.size≤400:=by omega
 by_cases hv:0≤(V s 0 K0 0).1
 ·have HC:Hid (fa s=(2,(V s 0 K0 0).1)):=by unfold Hid fa;rw [if_neg h400,if_pos hv]
  clear h400
  go_enter Tryz.func87,Tryz.ntmps87
  go_wp2_with fail
  refine (xf _ s ht).mono ?_
  rintro e w1 ⟨rfl,rfl⟩
  generalize (V s 0 K0 0).1=x at hv HC
  have iL:decide ((0:Int)≤x)=true:=by simpa using hv
  go_wp2
  go_ret3
  exact ⟨none,by rw [HC.out];rfl,Below.refl _ _,fun h=>by rw [HC.out] at h;simp at h⟩
 obtain ⟨M,hM⟩:∃ M,Acc s 0 K0 0 M:=⟨(V s 0 K0 0).2,by have:=Mh s 0 K0 0;unfold Acc;exact Prod.ext (by show _=(-1:Int);omega) rfl⟩
 have HM:Hid (Acc s 0 K0 0 M):=hM
 have HV:Hid ((V s 0 K0 0).1=-1):=by have:=Mh s 0 K0 0;unfold Hid;omega
 have HC:Hid (fa s=if M=-1 then (0,0) else (3,M)):=by unfold Hid fa;rw [if_neg h400,if_neg hv];unfold Acc at hM;rw [hM]
 clear hM h400 hv
 obtain ⟨i0,hi,gx,gw,gB⟩:=info_parts Tryz.info166
 obtain ⟨i1,T8,Tz,T7,TE⟩:=info_parts Tryz.info164
 go_enter Tryz.func87,Tryz.ntmps87
 go_wp2_with fail
 refine (xf _ s ht).mono ?_
 rintro e w1 ⟨rfl,rfl⟩
 obtain ⟨w,rfl⟩:∃ w,w=w1:=⟨_,rfl⟩
 rw [HV.out]
 go_wp2_with fail
 go_loopg [7] s.size (fun gk fv wr=>∃ (f:Nat) (hm:Int) (vL:Value) (rs:List (List (List (Nat × Nat)))) (xs:List Value),fv=.int .i64 f∧s.size - f≤gk∧RO w w.heap.size s M f wr hm vL rs xs)
 case atStart=>
  exact ⟨0,-1,.slice none 0 0,[],[],rfl,by omega,heap_alloc_new w _,(Below.refl _ _).alloc (Nat.le_refl _) _,World.ownsRow_nil _ _ _ _,rfl,⟨[],rfl,rfl⟩,Nat.le_refl _,Or.inl rfl,Nat.zero_le _,rfl,0,HM.out⟩
 case round=>
  obtain ⟨f,hm,vL,rs,xs,rfl,fK,R⟩:=hrel
  have R_le:=R.le
  have R_few:=R.few
  obtain ⟨a,c,sX⟩:=au R.own
  subst sX
  have c0:=R.sh.c0
  have c1:=R.sh.c1
  have fz:=R.sh.fr
  have blt:=R.sh.lt
  by_cases aN:f<s.size
  ·have Bi:decide ((f:Int)<(s.size:Int))=true:=by simp;omega
   go_upto_if 32 with fail
   go_cut [] (fun wc=>∃ vt,RN w w.heap.size s M f wc vt (.slice a rs.length c) rs xs)
   case first=>
    obtain ⟨nc,yW⟩:=R.acc
    by_cases h4:rs.length=20
    ·have g4:((rs.length:Int)==20)=true:=by simp [h4]
     have HA:Hid (Acc s 18 ⟨rs.length+1,1,j9 hm f⟩ f M∧fV (j9 hm f) f):=by
      refine ⟨?_,?_⟩
      ·unfold Acc at yW ⊢;rw [←yW,uO aN];simp [bY,h4]
      ·simpa [bY] using jX R.noted true (Nat.le_refl _)
     clear h4 yW
     go_wp2_with fail
     refine (qR _ w.heap.size (.slice a rs.length c) hm f (by exact R.sh) R.noted).mono ?_
     rintro e w2 ⟨rfl,vz,hg⟩
     have N:RN w w.heap.size s M f w2 (j9 hm f) (.slice a rs.length c) rs xs:=
      ⟨vz,R.bel.grown hg R.bel.size (fun k hk=>by injection hk with hk;omega),R.own.kept hg (CN R.own (by omega)),R.ruls.keep (nl hg (by omega) _) (nl hg (by omega) _),R.info.keep (nl hg (by omega) _),HA.out.2,HA.out.1⟩
     clear R
     go_wp2
     go_meet
     case rel=>exact ⟨_,N⟩
    ·have g4:((rs.length:Int)==20)=false:=by simp;omega
     have HA:Hid (Acc s 18 ⟨rs.length+1,1,hm⟩ f M):=by unfold Hid Acc at *;rw [←yW,uO aN];simp [bY,h4]
     clear h4 yW
     have N:RN w w.heap.size s M f wr hm (.slice a rs.length c) rs xs:=⟨R.sh,R.bel,R.own,R.ruls,R.info,R.noted,HA.out⟩
     clear R
     go_wp2
     go_meet
     case rel=>exact ⟨_,N⟩
   case rest=>
    obtain ⟨vt,N⟩:=hcut
    have R_text:=R.text
    have RT:Hid (RRulsAt s 0 f rs):=R_text
    clear R R_text c0 c1 fz blt
    obtain ⟨w0,rfl⟩:∃ w0,w0=wc:=⟨_,rfl⟩
    have Nlt:=N.sh.lt
    have Ms:∀ lv,In w0 (w0.alloc (.cells #[.int .i64 lv,.slice none 0 0,.slice none 0 0] 164)) w.heap.size (.slice a rs.length c) vt lv (.slice none 0 0) (.slice none 0 0) 0 []:=fun lv=>
     ⟨(Below.heap_alloc w0 _ _ Nlt).trans N.sh,World.grownBy_alloc _ _ _,heap_alloc_new w0 _,World.ownsRow_nil _ _ _ _,Nlt⟩
    go_upto_if 40 with fail
    go_cut [7] (fun fv wq=>∃ (p:Nat) (lv:Int),fv=.int .i64 p∧RP w w.heap.size s M f p w0 wq vt (.slice a rs.length c) rs lv)
    case first=>
     by_cases h64:bt s f=64
     ·have g64:((s[f].toNat:Int)==64)=true:=by rw [←bq s f aN,h64];rfl
      obtain ⟨l1,l2,l3,l4⟩:=(wP N.acc).1 h64
      rw [bq s (f+1) l1] at l3 l4
      have HLY:Hid (sO s f=(s[f+1].toNat:Int) - 48):=by unfold Hid sO;rw [if_pos h64,bq s (f+1) l1]
      have HRP:Hid (∀ lv,lv=sO s f→RP w w.heap.size s M f (f+2) w0 (w0.alloc (.cells #[.int .i64 lv,.slice none 0 0,.slice none 0 0] 164)) vt (.slice a rs.length c) rs lv):=fun lv PU=>
       ⟨Ms lv,Or.inl ⟨h64,rfl⟩,PU,by have:=N.noted;unfold fV at *;omega,l2⟩
      clear l2 Ms h64
      go_wp2
      go_meet
      case rel=>exact ⟨f+2,_,by go_num,HRP.out _ (by rw [HLY.out])⟩
     ·have g64:((s[f].toNat:Int)==64)=false:=by rw [←bq s f aN];simp;omega
      have RPp:RP w w.heap.size s M f f w0 (w0.alloc (.cells #[.int .i64 10,.slice none 0 0,.slice none 0 0] 164)) vt (.slice a rs.length c) rs 10:=
       ⟨Ms 10,Or.inr ⟨h64,rfl⟩,by unfold sO;rw [if_neg h64],N.noted,(wP N.acc).2 h64⟩
      clear Ms h64
      go_wp2
      go_meet
      case rel=>exact ⟨f,10,rfl,RPp⟩
    case rest=>
     obtain ⟨p,lv,rfl,P⟩:=hcut
     clear Ms
     have sQ:p<s.size:=P.acc.lt (by omega)
     have o7:f≤p:=by rcases P.layer with h | h<;>omega
     go_wp2_with fail
     refine (kP _ s p 123 ht (by omega)).mono ?_
     rintro e w2 ⟨q,rfl,rfl,HU⟩
     obtain ⟨lC,hqs,HB⟩:p<q∧q<s.size∧Hid (bt s q=123∧∀ k,p≤k→k<q→bt s k≠123):=by
      obtain ⟨u1,u2,u3,u4⟩:=HU.out
      obtain ⟨x,x1,x2,x3⟩:=Iu (s.size - p) (Nat.le_refl _) (Or.inl rfl) P.acc
      have hq:q<s.size:=by
       apply Nat.lt_of_not_le
       intro oz
       exact u3 x x1 (by omega) x3
      have B5:=u4 hq
      refine ⟨?_,hq,B5,u3⟩
      apply Nat.lt_of_not_le
      intro oz
      obtain rfl:q=p:=by omega
      exact P.acc.ok sQ (by rw [B5];decide)
     go_wp2_with fail
     go_loopg [7] (q+1 - p) (fun gk fv wq=>∃ (f':Nat) (o8:Int) (vS:Value) (ss:List (List (Nat × Nat))) (ys:List Value),fv=.int .i64 f'∧q+1 - f'≤gk∧RI w0 w.heap.size s p q (rs.length+1) M f' wq o8 (.slice a rs.length c) lv vS ss ys)
     case atStart=>
      exact ⟨p,vt,.slice none 0 0,[],[],rfl,Nat.le_refl _,P.inn,rfl,by simp,Nat.le_refl _,by omega,fun _=>⟨rfl,P.noted,P.acc⟩,fun e=>absurd lC e⟩
     case round=>
      obtain ⟨f',o8,vS,ss,ys,rfl,UI,I⟩:=hrel
      have I_lo:=I.lo
      have I_hi:=I.hi
      have I_few:=I.few
      obtain ⟨a',c',hvS⟩:=au I.inn.own
      subst hvS
      by_cases BJ:f'<q
      ·have NW:decide ((f':Int)<(q:Int))=true:=by simp;omega
       go_wp2_with fail
       refine (kP _ s f' 44 ht (by omega)).mono ?_
       rintro e w3 ⟨r1,rfl,rfl,WH⟩
       go_upto_if 61 with fail
       go_cut [10] (fun ev wc=>∃ en:Nat,ev=.int .i64 en∧wc=w3∧f'≤en∧en≤q∧Hid ((∀ k,f'≤k→k<en→bt s k≠44)∧(en<q→bt s en=44)))
       case first=>
        by_cases hrq:q<r1
        ·have Lt:decide ((q:Int)<(r1:Int))=true:=by simp;omega
         go_wp2
         go_meet
         case rel=>exact ⟨q,rfl,rfl,by omega,Nat.le_refl _,fun k k1 k2=>WH.out.2.2.1 k k1 (by omega),fun e=>by omega⟩
        ·have Lt:decide ((q:Int)<(r1:Int))=false:=by simp;omega
         go_wp2
         go_meet
         case rel=>exact ⟨r1,rfl,rfl,WH.out.1,by omega,WH.out.2.2.1,fun e=>WH.out.2.2.2 (by omega)⟩
       case rest=>
        obtain ⟨en,rfl,hwc,FC,Xf,HE⟩:=hcut
        obtain rfl:=hwc
        obtain ⟨w3,rfl⟩:∃ w3,w3=wc:=⟨_,rfl⟩
        have O6:en=q∨en<q:=by omega
        have HP:Hid (FQ s f' en (rs.length+1) M o8):=by
         obtain ⟨g1,g2,g3⟩:=I.go BJ
         refine ⟨FC,by omega,ht,fun k k1 k2=>⟨HE.out.1 k k1 k2,HB.out.2 k (by omega) (by omega)⟩,?_,g2,g3⟩
         rcases O6 with e | e
         ·right;rw [e];exact HB.out.1
         ·left;exact HE.out.2 e
        have HI:Hid (RSelsPre s p f' ss):=(I.go BJ).1
        clear O6
        go_wp2_with fail
        refine (Hm _ w.heap.size (.slice a rs.length c) o8 s f' en (rs.length+1) M (by exact I.inn.sh) HP.out).mono ?_
        rintro e w4 ⟨a2,c2,aE,ps,zG,rfl,sh4,g4,Kh,gY⟩
        have IW:=I.inn.call sh4 g4
        have AF:=I.sels.keep (nl g4 (by have:=I.inn.lt;omega) 206)
        have X2:=IW.blt
        have EK:=I.inn.blt
        have Pf:w4.ownsRow (w0.heap.size+1) 206 2 (.slice a2 aE.length c2) aE.length ps:=aG Kh (by omega)
        obtain ⟨WA,Xd,Xm,Xi⟩:=IW.cells
        clear I sh4 Kh
        go_wp2_with (at_builtin;refine wpList_append_own _ rfl (.tmp 69) (.tmp 71) 161 rfl (w0.heap.size+1) 166 i0 (.slice none 0 0) 1 24 Tryz.underlying161 hi gx gw gB rfl (by decide) _ _ _ rfl (IW.own.alloc _) ⟨w4.heap.size,0,none⟩ 1 1 [.slice a2 aE.length c2] rfl rfl ?c1 ?c2 ?c3 ?c4 ?c5 ?_)
        case c1=>exact aO w4 _ rfl _ _ _ rfl
        case c2=>exact Wp _ _ _
        case c3=>unfold maxLen;omega
        case c4=>omega
        case c5=>simp;omega
        ·intro v' w5 OY kG _
         have cX:w5.ownsRow (w0.heap.size+1) 166 1 v' (ss++[aE]).length (ys++[.slice a2 aE.length c2]):=by simpa using OY
         have F0:=(IW.alloc (.cells #[.slice a2 aE.length c2] 166)).app kG cX
         have YD:=(IW.alloc (.cells #[.slice a2 aE.length c2] 166)).appBlk kG
         have k5:Keeps w4 (w5.setCell ⟨w0.heap.size,1,none⟩ v') (w0.heap.size+1) 206:=((bX _ _ _ _).trans (iY (by decide) (IW.own.alloc _) kG)).trans (dZ _ (by simp) _ _)
         have I5:RI w0 w.heap.size s p q (rs.length+1) M (en+1) (w5.setCell ⟨w0.heap.size,1,none⟩ v') zG (.slice a rs.length c) lv v' (ss++[aE]) (ys++[.slice a2 aE.length c2]):=by
          obtain ⟨t1,t2,t3,nc,t4⟩:=gY.out
          refine ⟨F0,RSels.snoc a2 c2 aE ps (k5.owns Pf) t1 (AF.keep k5),by simp;omega,by omega,by omega,fun e=>?_,fun e=>?_⟩
          ·have FG:=HE.out.2 (by omega)
           refine ⟨RSelsPre.snoc t2 FC FG HE.out.1 HI.out,by unfold fV at *;omega,?_⟩
           unfold Acc at t4 ⊢
           rw [←t4,ui FG (by omega)]
          ·have Yv:en=q:=by
            apply Nat.le_antisymm Xf
            apply Nat.le_of_not_lt
            intro hl
            have FG:=HE.out.2 hl
            obtain rfl:q=en+1:=by omega
            have t5:Acc s 2 ⟨rs.length+1,1,zG⟩ (en+1) M:=by unfold Acc at t4 ⊢;rw [←t4,ui FG (by omega)]
            exact t5.ok hqs (by rw [HB.out.1];decide)
           subst Yv
           exact ⟨rfl,⟨ss,f',aE,rfl,HI.out,t2,FC,HE.out.1⟩,t3,nc,t4⟩
         have cc1:w5.cell? ⟨w0.heap.size,1,none⟩=some (.slice a' ss.length c'):=aa YD rfl
         have cz:∀ j,w5.frozen? ⟨w0.heap.size,j,none⟩=false:=fun _=>ag YD
         obtain ⟨a5,c5,OM⟩:=au cX
         rw [OM] at I5 ⊢
         rw [show (ss++[aE]).length=ss.length+1 from by simp] at I5
         simp only [List.length_append,List.length_cons,List.length_nil,Nat.zero_add]
         clear OM F0 cX OY kG k5 YD WA Xd Xm Xi IW AF Pf
         go_wp2
         go_roundg (q+1 - (en+1))
         case measure=>omega
         case rel=>exact ⟨en+1,zG,_,_,_,by go_num,Nat.le_refl _,I5⟩
      ·have NW:decide ((f':Int)<(q:Int))=false:=by simp;omega
       obtain ⟨d1,d2,d3,nc,d4⟩:=I.done BJ
       have U6:Acc s 9 ⟨rs.length+1,nc,o8⟩ (q+1) M:=by
        have:=d4.step hqs
        rw [HB.out.1] at this
        simpa [bC,gH,fM,cnt] using this
       have HD:Hid (nH s p q ss∧fV o8 q∧Acc s 9 ⟨rs.length+1,nc,o8⟩ (q+1) M):=⟨d2,d3,U6⟩
       subst d1
       clear d2 d3 d4 U6
       obtain ⟨wq,rfl⟩:∃ wq,wq=wr:=⟨_,rfl⟩
       go_wp2_with fail
       refine (kP _ s q 125 ht (by omega)).mono ?_
       rintro e w3 ⟨r2,rfl,rfl,HU2⟩
       obtain ⟨hr1,zZ,HR⟩:q+1≤r2∧r2<s.size∧Hid (bt s r2=125∧∀ k,q≤k→k<r2→bt s k≠125):=by
        obtain ⟨u1,u2,u3,u4⟩:=HU2.out
        obtain ⟨x,x1,x2,x3⟩:=En (s.size - (q+1)) (Nat.le_refl _) ⟨by omega,by omega⟩ HD.out.2.2
        have hr:r2<s.size:=by
         apply Nat.lt_of_not_le
         intro oz
         exact u3 x (by omega) (by omega) x3
        refine ⟨?_,hr,u4 hr,u3⟩
        apply Nat.lt_of_not_le
        intro oz
        obtain rfl:r2=q:=by omega
        have:=u4 hr
        rw [HB.out.1] at this
        omega
       have Wt:Uy (s.extract (q+1) r2):=SQ HD.out.2.2 (fun j j1 j2=>HR.out.2 j (by omega) j2) (by omega) hr1 (fun _=>HR.out.1)
       have Pp:(s.extract (q+1) r2).size≤400:=by rw [ByteArray.size_extract];omega
       go_wp2_with fail
       refine (GW _ (s.extract (q+1) r2) Pp Wt).mono ?_
       rintro e w4 ⟨a4,c4,dl,rfl,IP,Um,HDA⟩
       have IW:=I.inn.below IP
       have AF:=I.sels.keep (fI IP _ _)
       obtain ⟨WA,Xd,Xm,Xi⟩:=IW.cells
       have F0:=IW.setO 2 (.slice a4 dl.length c4) rfl IW.own
       have hzq:=I.inn.blt
       have Sr:Hid ((w4.setCell ⟨w0.heap.size,2,none⟩ (.slice a4 dl.length c4)).ownsRow (w0.heap.size+1) 229 3 (.slice a4 dl.length c4) dl.length (jx dl)):=(dZ w4 (p:=⟨w0.heap.size,2,none⟩) (by simp) (.slice a4 dl.length c4) _).owns (aG Um (by omega))
       have Ks:=AF.keep (dZ w4 (p:=⟨w0.heap.size,2,none⟩) (by simp) (.slice a4 dl.length c4) _)
       clear I Wt Pp IW AF Um hzq
       go_upto_region 25 with fail
       obtain ⟨W5,hW5⟩:∃ W5,W5=w4.setCell ⟨w0.heap.size,2,none⟩ (.slice a4 dl.length c4):=⟨_,rfl⟩
       rw [←hW5] at F0 Ks Sr ⊢
       clear hW5 WA Xd Xm Xi IP
       obtain ⟨WA,Xd,Xm,Xi⟩:=F0.cells
       have h0:=F0.sh.c0
       have Y8:=F0.sh.fr
       have hl5:=F0.sh.lt
       have Xp:=F0.blt
       have IX:=F0.lt
       have No:=N.own.kept F0.gb (CN N.own (by omega))
       go_region_law (refine qY rfl (.tmp 90) (.tmp 92) 158 rfl (w.heap.size+1) 164 i1 (.agg #[.int .i64 0,.slice none 0 0,.slice none 0 0]) 3 56 Tryz.underlying158 T8 Tz T7 TE rfl (by decide) (.slice a rs.length c) rs.length xs (by simp [Act.eval]) ((No.alloc _).drew) ⟨W5.heap.size,0,none⟩ 1 1 [.int .i64 lv,.slice a' ss.length c',.slice a4 dl.length c4] (by simp [Act.eval]) rfl (aO W5 _ rfl _ _ _ rfl) (Ka _ _ _ _ _ _ _) (by unfold maxLen;omega) (by omega) (by simp;omega) ?_;intro v' w6 rJ T5;obtain ⟨Un,R6⟩:=NP N R_few P.layer RT.out F0 Ks lC hr1 zZ HB.out.1 HB.out.2 HR.out.1 HR.out.2 P.lay (aG Sr.out (by omega)) HDA.out HD.out.1 HD.out.2.1 HD.out.2.2 rJ T5;have s60:=Un.c0;have s6z:=Un.fr;obtain ⟨a6,c6,Wx⟩:=au rJ;rw [Wx] at R6 ⊢;clear Wx rJ T5)
       all_goals
        clear No Ks F0 P N
        go_wp2
        go_roundg (s.size - (r2+1))
        case measure=>omega
        case rel=>exact ⟨r2+1,o8,_,_,_,by go_num,Nat.le_refl _,R6⟩
  ·obtain rfl:f=s.size:=by omega
   have Bi:decide ((s.size:Int)<(s.size:Int))=false:=by simp
   have hMm:M=hm:=by
    obtain ⟨nc,h⟩:=R.acc
    unfold Acc at h
    rw [tK (Nat.le_refl _),if_pos rfl] at h
    injection h with _ h2
    exact h2.symm
   subst hMm
   by_cases mp:M=-1
   ·subst mp
    have zI:Hid (fa s=(0,0)):=by unfold Hid;rw [HC.out];rfl
    have NW:decide ((0:Int)≤-1)=false:=by decide
    have R2:=R
    clear R
    go_wp2
    go_ret3
    exact ⟨_,by rw [zI.out];rfl,R2.bel,fun _=>⟨_,a,c,rs,xs,-1,rfl,R2.sh,aG R2.own (by omega),R2.ruls.mono (by omega),R2.text,R2.info.mono (by omega),Nat.le_refl _⟩⟩
   ·have Fd:=R.noted
    have j8:0≤M:=by unfold fV at Fd;omega
    have zI:Hid (fa s=(3,M)):=by unfold Hid;rw [HC.out,if_neg mp]
    have NW:decide ((0:Int)≤M)=true:=by simpa using j8
    have R2:=R
    clear R Fd mp HC
    go_wp2
    go_quiet (fail)
    go_wp2
    go_ret3
    exact ⟨none,by rw [zI.out];rfl,⟨R2.bel.os,R2.bel.tape,R2.bel.output,R2.bel.size,R2.bel.block⟩,fun h=>by rw [zI.out] at h;simp at h⟩
end Go.Proofs.YtblfffbmklkhmaaGreat
namespace Go.Proofs.YtblfffbmklkhmaaGreat
open Go.RowKit
set_option maxHeartbeats 400000 in
theorem nU (w:World) (n:Int):Calls Tryz.prog 54 #[.int .i64 n] w fun e w'=>e=.returned (.int .i64 n)∧w'=w:=by
 go_enter Tryz.func54,Tryz.ntmps54
 go_wp2
 go_ret
 exact ⟨rfl,rfl⟩
def mw (w:World) (e:Ending) (w':World):Prop:=e=.returned (.bool true)∧Below w.heap.size w w'
def Wd (w:World) (b:Nat):Prop:=w.heap[b]?=some (.cells #[.slice none 0 0,.slice none 0 0,.slice none 0 0,.int .i64 0] 67 (0,0))
set_option maxHeartbeats 1000000 in
theorem Jf (w:World) (b:Nat) (hi:Int) (h:Wd w b) :
  Calls Tryz.prog 34 #[.pointer (some ⟨b,0,none⟩),.int .i64 hi] w fun e w'=>e=.returned (.bool true)∧w'=w:=by
 have c0:w.cell? ⟨b,0,none⟩=some (.slice none 0 0):=aa h rfl
 go_enter Tryz.func34,Tryz.ntmps34
 go_wp2
 refine wp_loop_rounds 1 ?_
 rw [rounds_succ]
 go_wp2
 go_ret
 exact ⟨rfl,rfl⟩
set_option maxHeartbeats 1000000 in
theorem Gm (w:World) (b:Nat) (h:Wd w b) :
  Calls Tryz.prog 35 #[.pointer (some ⟨b,0,none⟩)] w fun e w'=>e=.returned (.bool true)∧w'=w:=by
 have c1:w.cell? ⟨b,1,none⟩=some (.slice none 0 0):=aa h rfl
 go_enter Tryz.func35,Tryz.ntmps35
 go_wp2
 refine wp_loop_rounds 1 ?_
 rw [rounds_succ]
 go_wp2
 go_ret
 exact ⟨rfl,rfl⟩
end Go.Proofs.YtblfffbmklkhmaaGreat
namespace Go.Proofs.YtblfffbmklkhmaaGreat
open Go.RowKit
structure UT (w:World) (b off len:Nat) (K A X Y Z:Nat→Int) (S T:Nat→ByteArray) (O:Nat→Bool):Prop where
 c0:∀ i,i<len→w.cell? ⟨b,off+i*8,none⟩=some (.int .i64 (K i))
 c1:∀ i,i<len→w.cell? ⟨b,off+i*8+1,none⟩=some (.int .i64 (A i))
 c2:∀ i,i<len→w.cell? ⟨b,off+i*8+2,none⟩=some (.int .i64 (X i))
 c3:∀ i,i<len→w.cell? ⟨b,off+i*8+3,none⟩=some (.int .i64 (Y i))
 c4:∀ i,i<len→w.cell? ⟨b,off+i*8+4,none⟩=some (.int .i64 (Z i))
 c5:∀ i,i<len→w.cell? ⟨b,off+i*8+5,none⟩=some (.string (S i))
 c6:∀ i,i<len→w.cell? ⟨b,off+i*8+6,none⟩=some (.string (T i))
 c7:∀ i,i<len→w.cell? ⟨b,off+i*8+7,none⟩=some (.bool (O i))
 small:∀ i,i<len→(S i).size≤maxLen
 lt:b<w.heap.size
set_option maxRecDepth 100000 in
set_option maxHeartbeats 2000000 in
theorem AL (w:World) (ao:Option Addr) (fL:Nat) (lo hi:Int) :
  Calls Tryz.prog 15 #[.slice ao 0 fL,.int .i64 lo,.int .i64 hi] w fun e w'=>mw w e w':=by
 go_enter Tryz.func15,Tryz.ntmps15
 go_wp2_with fail
 refine wp_loop_rounds 1 ?_
 rw [rounds_succ]
 go_wp2_with fail
 have hW:Wd (w.alloc (.cells #[.slice none 0 0,.slice none 0 0,.slice none 0 0,.int .i64 0] 67)) w.heap.size:=heap_alloc_new w _
 refine (Jf _ w.heap.size hi hW).mono ?_
 rintro e w2 ⟨rfl,rfl⟩
 go_wp2_with fail
 refine (Gm _ w.heap.size hW).mono ?_
 rintro e w3 ⟨rfl,rfl⟩
 go_wp2_with fail
 go_ret
 exact ⟨rfl,(Below.refl _ _).alloc (Nat.le_refl _) _⟩
end Go.Proofs.YtblfffbmklkhmaaGreat
namespace Go.Proofs.YtblfffbmklkhmaaGreat
open Go.ChangeShapes Go.WideShapes Go.ChangeAt Go.RowKit
theorem Tryz.own:ownKnob Tryz.prog.godebug=none:=by kernel_rfl
theorem Tryz.laidOut:laidOutB Tryz.prog=true:=by kernel_rfl
theorem Tryz.cells69:Tryz.prog.cellsOf 69=8:=by kernel_rfl
theorem Tryz.cells3:Tryz.prog.cellsOf 3=1:=by kernel_rfl
theorem Tryz.cells9:Tryz.prog.cellsOf 9=1:=by kernel_rfl
theorem Tryz.cells4:Tryz.prog.cellsOf 4=1:=by kernel_rfl
theorem Pa {α:Type} (l:List α) (h:l.length=8):∃ a b c d e f g i,l=[a,b,c,d,e,f,g,i]:=by
 match l,h with
 | [a,b,c,d,e,f,g,i],_=>exact ⟨a,b,c,d,e,f,g,i,rfl⟩
theorem Bm {H:Type} {enc:TypeId × Value→H} {W:World} {a0:Option Addr} {len fL GC:Nat} {x:DataW H × List MemPlace} (h:DataW.trod enc Tryz.prog W 0 (fun _=>true) true GC 22 [.slice a0 len fL]=some x) :
  len=0∨∃ b off K A X Y Z S T O,a0=some ⟨b,off,none⟩∧UT W b off len K A X Y Z S T O∧len≤maxLen:=by
 rcases Go.Deep.open_slice Tryz.underlying22 h with ⟨jy,_⟩ | ⟨a,ZY,Zl,m,n,D,Pl,jy,_,hl,hm,KG,_,hx⟩
 ·left
  simp only [List.cons.injEq,Value.slice.injEq,and_true] at jy
  exact jy.2.1
 ·simp only [List.cons.injEq,Value.slice.injEq,and_true] at jy
  obtain ⟨rfl,rfl,rfl⟩:=jy
  by_cases h0:len=0
  ·exact Or.inl h0
  right
  simp only [if_true] at KG
  rw [Tryz.cells69] at hx
  have X9:∀ i,i<len→∃ q:(Int × Int × Int × Int × Int) × ByteArray × ByteArray × Bool,
    W.cell? (a.add (i*8))=some (.int .i64 q.1.1)∧W.cell? (a.add (i*8+1))=some (.int .i64 q.1.2.1)∧W.cell? (a.add (i*8+2))=some (.int .i64 q.1.2.2.1)∧W.cell? (a.add (i*8+3))=some (.int .i64 q.1.2.2.2.1)∧
    W.cell? (a.add (i*8+4))=some (.int .i64 q.1.2.2.2.2)∧W.cell? (a.add (i*8+5))=some (.string q.2.1)∧W.cell? (a.add (i*8+6))=some (.string q.2.2.1)∧W.cell? (a.add (i*8+7))=some (.bool q.2.2.2)∧q.2.1.size≤maxLen:=by
   intro i hi
   obtain ⟨SZ,h1,h2⟩:=hx i (by omega)
   obtain ⟨_,bR,ry⟩:=World.cells?_some h1
   obtain ⟨xs,k,_,_,_,SP,hf⟩:=DataW.trod_struct Tryz.underlying69 h2
   obtain ⟨v0,v1,v2,v3,v4,v5,v6,v7,rfl⟩:=Pa SZ bR
   obtain ⟨y0,y1,y2,y3,y4,y5,y6,y7,rfl⟩:=Pa xs (by rw [SP];rfl)
   have g0:=hf 0 _ rfl
   have g1:=hf 1 _ rfl
   have g2:=hf 2 _ rfl
   have g3:=hf 3 _ rfl
   have g4:=hf 4 _ rfl
   have g5:=hf 5 _ rfl
   have g6:=hf 6 _ rfl
   have g7:=hf 7 _ rfl
   simp [Tryz.cells3,Tryz.cells9,Tryz.cells4] at g0 g1 g2 g3 g4 g5 g6 g7
   obtain ⟨n0,e0,_,_⟩:=DataW.trod_int Tryz.underlying3 g0
   obtain ⟨n1,e1,_,_⟩:=DataW.trod_int Tryz.underlying3 g1
   obtain ⟨n2,e2,_,_⟩:=DataW.trod_int Tryz.underlying3 g2
   obtain ⟨n3,e3,_,_⟩:=DataW.trod_int Tryz.underlying3 g3
   obtain ⟨n4,e4,_,_⟩:=DataW.trod_int Tryz.underlying3 g4
   obtain ⟨s5,e5,_,z5⟩:=DataW.trod_string Tryz.underlying9 g5
   obtain ⟨s6,e6,_,_⟩:=DataW.trod_string Tryz.underlying9 g6
   obtain ⟨b7,e7,_⟩:=DataW.trod_bool Tryz.underlying4 g7
   simp only [List.cons.injEq,and_true] at e0 e1 e2 e3 e4 e5 e6 e7
   subst e0 e1 e2 e3 e4 e5 e6 e7
   have c0:=ry 0 (by omega)
   have c1:=ry 1 (by omega)
   have c2:=ry 2 (by omega)
   have c3:=ry 3 (by omega)
   have c4:=ry 4 (by omega)
   have c5:=ry 5 (by omega)
   have c6:=ry 6 (by omega)
   have c7:=ry 7 (by omega)
   rw [Go.Deep.add_add] at c0 c1 c2 c3 c4 c5 c6 c7
   exact ⟨((n0,n1,n2,n3,n4),s5,s6,b7),by simpa using c0,by simpa using c1,by simpa using c2,by simpa using c3,by simpa using c4,by simpa using c5,by simpa using c6,by simpa using c7,z5⟩
  obtain ⟨q,hq⟩:=Go.Deep.choose_lt X9
  obtain ⟨b,off,spot⟩:=a
  have LH:spot=none:=by simpa [Addr.add] using World.cell?_spot (hq 0 (by omega)).1
  subst LH
  have aN:b<W.heap.size:=by simpa [Addr.add] using World.block_lt_of_cell? W _ (hq 0 (by omega)).1
  refine ⟨b,off,fun i=>(q i).1.1,fun i=>(q i).1.2.1,fun i=>(q i).1.2.2.1,fun i=>(q i).1.2.2.2.1,fun i=>(q i).1.2.2.2.2,fun i=>(q i).2.1,fun i=>(q i).2.2.1,fun i=>(q i).2.2.2,rfl,⟨?_,?_,?_,?_,?_,?_,?_,?_,fun i hi=>(hq i hi).2.2.2.2.2.2.2.2,aN⟩,by omega⟩
  all_goals intro i hi
  ·have:=(hq i hi).1;rw [Go.WideShapes.add_plain] at this;exact this
  ·have:=(hq i hi).2.1;rw [Go.WideShapes.add_plain,←Nat.add_assoc] at this;exact this
  ·have:=(hq i hi).2.2.1;rw [Go.WideShapes.add_plain,←Nat.add_assoc] at this;exact this
  ·have:=(hq i hi).2.2.2.1;rw [Go.WideShapes.add_plain,←Nat.add_assoc] at this;exact this
  ·have:=(hq i hi).2.2.2.2.1;rw [Go.WideShapes.add_plain,←Nat.add_assoc] at this;exact this
  ·have:=(hq i hi).2.2.2.2.2.1;rw [Go.WideShapes.add_plain,←Nat.add_assoc] at this;exact this
  ·have:=(hq i hi).2.2.2.2.2.2.1;rw [Go.WideShapes.add_plain,←Nat.add_assoc] at this;exact this
  ·have:=(hq i hi).2.2.2.2.2.2.2.1;rw [Go.WideShapes.add_plain,←Nat.add_assoc] at this;exact this
end Go.Proofs.YtblfffbmklkhmaaGreat
namespace Go.Proofs.YtblfffbmklkhmaaGreat
open Go.RowKit
def Pr (p:PPt):Nat:=pw p.kd
def zE (ks:List PPt):Nat:=(ks.map Pr).sum
def cw (ty:Nat) (ks:List PPt):Nat:=(if ty=0 then 0 else 1)+zE ks
def vq (cs:List cO):Nat:=(cs.map fun x=>cw x.ty x.ps).sum
theorem Li (k:Int):pw k≤1000000:=by unfold pw;(repeat' split)<;>omega
theorem LP (ks:List PPt):zE ks≤1000000*ks.length:=by
 induction ks with
 | nil=>simp [zE]
 | cons k ks ih=>simp only [zE,List.map_cons,List.sum_cons,List.length_cons] at *;have:=Li k.kd;unfold Pr at *;omega
theorem KD {ks:List PPt} {i:Nat} (h:i<ks.length):zE (ks.take (i+1))=zE (ks.take i)+pw ks[i].kd:=by
 unfold zE
 rw [List.take_succ_eq_append_getElem h,List.map_append,List.sum_append]
 simp [Pr]
theorem BA (ks:List PPt) (i:Nat):zE (ks.take i)≤1000000*ks.length:=by
 have:=LP (ks.take i)
 have:(ks.take i).length≤ks.length:=List.length_take_le' _ _
 omega
theorem PQ (ty:Nat) (ks:List PPt):cw ty ks≤1+1000000*ks.length:=by
 have:=LP ks
 unfold cw;split<;>omega
theorem Jj {cs:List cO} {i:Nat} (h:i<cs.length):vq (cs.take (i+1))=vq (cs.take i)+cw cs[i].ty cs[i].ps:=by
 unfold vq
 rw [List.take_succ_eq_append_getElem h,List.map_append,List.sum_append]
 simp
def nD (cs:List cO):Prop:=cs.length≤400∧∀ x∈cs,x.ps.length≤400
theorem QW {cs:List cO} (h:∀ x∈cs,x.ps.length≤400):vq cs≤400000001*cs.length:=by
 induction cs with
 | nil=>simp [vq]
 | cons x cs ih=>
  have h1:=ih (fun y hy=>h y (List.mem_cons_of_mem _ hy))
  have h2:=h x List.mem_cons_self
  have h3:=PQ x.ty x.ps
  simp only [vq,List.map_cons,List.sum_cons,List.length_cons] at *
  omega
theorem m7 {cs:List cO} (h:nD cs) (i:Nat):vq (cs.take i)≤160000000400:=by
 have h1:=QW (cs:=cs.take i) (fun x hx=>h.2 x (List.mem_of_mem_take hx))
 have:(cs.take i).length≤cs.length:=List.length_take_le' _ _
 have:=h.1
 omega
theorem mA:∀ {xs:List Value} {ks:List PPt} {i:Nat},Kinds xs ks→(h:i<ks.length)→xs[i*5]?=some (.bool ks[i].nt)∧xs[i*5+1]?=some (.int .i64 ks[i].kd)∧xs[i*5+2]?=some (.int .u8 ks[i].lt)∧xs[i*5+3]?=some (.int .i64 ks[i].st)∧xs[i*5+4]?=some (.int .i64 ks[i].sr)
 | _,k :: ks,0,⟨ys,h1,_⟩,_=>by subst h1;exact ⟨rfl,rfl,rfl,rfl,rfl⟩
 | _,k :: ks,i+1,⟨ys,h1,h2⟩,h=>by
  obtain ⟨e1,e2,e3,e4,e5⟩:=mA (i:=i) h2 (by simpa using h)
  subst h1
  rw [show (i+1)*5=i*5+5 from by omega]
  exact ⟨by simpa using e1,by simpa using e2,by simpa using e3,by simpa using e4,by simpa using e5⟩
theorem aH {w:World} {ae:Nat} {e:TypeId} {size:Nat} {a:Option Addr} {n c:Nat} {xs:List Value} (h:w.ownsRow ae e size (.slice a n c) n xs) (hn:0<n) :
  ∃ g,a=some ⟨g,0,none⟩∧g<w.heap.size∧∀ j u,xs[j]?=some u→w.cell? ⟨g,j,none⟩=some u:=by
 rcases h.2 with ⟨h1,h2⟩ | ⟨g,fL,eU,hv,_,hh,_,_,_,ht⟩
 ·omega
 ·injection hv with h1 h2 h3
  refine ⟨g,h1,(Array.getElem?_eq_some_iff.1 hh).1,fun j u hu=>?_⟩
  have:=h.cells (g:=g) (by rw [h1];rfl) j u hu
  rw [Go.WideShapes.add_plain] at this
  simpa using this
set_option maxHeartbeats 400000 in
theorem Im (w:World) (nt:Bool) (kd lt st sr:Int) :
  Calls Tryz.prog 166 #[.agg #[.bool nt,.int .i64 kd,.int .u8 lt,.int .i64 st,.int .i64 sr]] w fun e w'=>e=.returned (.int .i64 (pw kd))∧Below w.heap.size w w':=by
 by_cases h3:kd=3
 ·have g3:(kd==3)=true:=by simp [h3]
  have HR:Hid (pw kd=1000000):=by unfold Hid pw;rw [if_pos h3]
  clear h3
  go_enter Tryz.func166,Tryz.ntmps166
  go_wp2
  go_ret
  rw [HR.out]
  exact ⟨rfl,(Below.refl _ _).alloc (Nat.le_refl _) _⟩
 have g3:(kd==3)=false:=by simp [h3]
 by_cases h1:kd=1
 ·have g1:(kd==1)=true:=by simp [h1]
  have HR:Hid (pw kd=1):=by unfold Hid pw;rw [if_neg h3,if_pos h1]
  clear h1 h3
  go_enter Tryz.func166,Tryz.ntmps166
  go_wp2
  go_ret
  rw [HR.out]
  exact ⟨rfl,(Below.refl _ _).alloc (Nat.le_refl _) _⟩
 ·have g1:(kd==1)=false:=by simp [h1]
  have HR:Hid (pw kd=1000):=by unfold Hid pw;rw [if_neg h3,if_neg h1]
  clear h1 h3
  go_enter Tryz.func166,Tryz.ntmps166
  go_wp2
  go_ret
  rw [HR.out]
  exact ⟨rfl,(Below.refl _ _).alloc (Nat.le_refl _) _⟩
def Ul (w:World) (n:Nat) (e:Ending) (w':World):Prop:=e=.returned (.int .i64 n)∧Below w.heap.size w w'
set_option maxRecDepth 100000 in
set_option maxHeartbeats 2000000 in
theorem GJ (w:World) (ae:Nat) (sg:Int) (ty:Nat) (a:Option Addr) (c:Nat) (ks:List PPt) (ps:List Value) (ho:w.ownsRow ae 192 5 (.slice a ks.length c) ks.length ps) (hk:Kinds ps ks) (hl:ks.length≤400) :
  Calls Tryz.prog 134 #[.agg #[.int .u8 sg,.int .u8 ty,.slice a ks.length c]] w fun e w'=>Ul w (cw ty ks) e w':=by
 have HO:Hid (w.ownsRow ae 192 5 (.slice a ks.length c) ks.length ps∧Kinds ps ks):=⟨ho,hk⟩
 clear ho hk
 go_enter Tryz.func134,Tryz.ntmps134
 go_upto_if 8 with fail
 go_cut [3] (fun sv wc=>sv=.int .i64 ((if ty=0 then 0 else 1:Nat):Int)∧wc=w.alloc (.cells #[.int .u8 sg,.int .u8 ty,.slice a ks.length c] 190))
 case first=>
  by_cases h0:ty=0
  ·have g0:((ty:Int) != 0)=false:=by simp [h0]
   have H0:Hid (ty=0):=h0
   clear h0
   go_wp2
   go_meet
   case rel=>exact ⟨by rw [if_pos H0.out];rfl,rfl⟩
  ·have g0:((ty:Int) != 0)=true:=by simp;omega
   have H0:Hid (¬ ty=0):=h0
   clear h0
   go_wp2
   go_meet
   case rel=>exact ⟨by rw [if_neg H0.out];rfl,rfl⟩
 case rest=>
  obtain ⟨rfl,rfl⟩:=hcut
  have XY:(if ty=0 then 0 else 1:Nat)≤1:=by split<;>omega
  have HT:Hid (∀ n,cw ty ks=n↔(if ty=0 then 0 else 1:Nat)+zE ks=n):=fun n=>Iff.rfl
  generalize (if ty=0 then 0 else 1:Nat)=t0 at XY HT
  go_wp2_with fail
  go_loopg [3,12] ks.length (fun gk sv iv wr=>∃ i:Nat,iv=.int .i64 i∧i≤ks.length∧ks.length - i≤gk∧sv=.int .i64 ((t0+zE (ks.take i):Nat):Int)∧Below w.heap.size w wr)
  case atStart=>exact ⟨0,rfl,Nat.zero_le _,by omega,by simp [zE],(Below.refl _ _).alloc (Nat.le_refl _) _⟩
  case round=>
   obtain ⟨i,rfl,hi,fK,rfl,hB⟩:=hrel
   by_cases aN:i<ks.length
   ·have hd:decide ((i:Int)<(ks.length:Int))=true:=by simp;omega
    obtain ⟨g,hg,db,hc⟩:=aH HO.out.1 (by omega)
    subst hg
    obtain ⟨e0,e1,e2,e3,e4⟩:=mA HO.out.2 aN
    have c0:=(hB.cell (p:=⟨g,i*5,none⟩) db).trans (hc _ _ e0)
    have c1:=(hB.cell (p:=⟨g,i*5+1,none⟩) db).trans (hc _ _ e1)
    have c2:=(hB.cell (p:=⟨g,i*5+2,none⟩) db).trans (hc _ _ e2)
    have c3:=(hB.cell (p:=⟨g,i*5+3,none⟩) db).trans (hc _ _ e3)
    have c4:=(hB.cell (p:=⟨g,i*5+4,none⟩) db).trans (hc _ _ e4)
    have HP:Hid (zE (ks.take (i+1))=zE (ks.take i)+pw ks[i].kd):=KD aN
    have oF:=BA ks i
    have BY:=Li ks[i].kd
    clear e0 e1 e2 e3 e4 hc
    generalize ks[i].kd=kd at c1 HP BY
    generalize ks[i].nt=nt at c0
    generalize ks[i].lt=lt at c2
    generalize ks[i].st=st at c3
    generalize ks[i].sr=sr at c4
    generalize zE (ks.take i)=p0 at HP oF
    go_wp2_with fail
    refine (Im _ nt kd lt st sr).mono ?_
    rintro e w2 ⟨rfl,hb⟩
    generalize pw kd=p1 at HP BY
    have dp:Below w.heap.size w w2:=(hB.alloc hB.size _).trans (hb.mono (by have:=hB.size;simp;omega))
    clear c0 c1 c2 c3 c4 hb
    go_wp2
    go_roundg (ks.length - (i+1))
    case measure=>omega
    case rel=>exact ⟨i+1,by go_num,by omega,Nat.le_refl _,by rw [HP.out];congr 1;omega,dp⟩
   ·have hd:decide ((i:Int)<(ks.length:Int))=false:=by simp;omega
    obtain rfl:i=ks.length:=by omega
    go_wp2
    go_ret
    refine ⟨?_,hB⟩
    rw [(HT.out (t0+zE ks)).2 rfl,List.take_length]
    rfl
end Go.Proofs.YtblfffbmklkhmaaGreat
