/- Own work. -/
import Derived.Test.YtblfffbmklkhmabGreatAl3
import Derived.Deep.DeepCutAuto
import Derived.ProofKit
import Derived.Deep.Slices
import Derived.OpenShut
import Derived.Laws.AppendOwnNone
set_option maxRecDepth 100000
set_option maxHeartbeats 40000000
namespace Go.Proofs.YtblfffbmklkhmabGreat
open Go.RowKit Go.Proofs.Tryz
section
variable {M hm:Int}{f:Nat}{s:ByteArray}{w:World}{xs:List Value}
def zM (w:World)(s:ByteArray)(e:Ending)(w':World):Prop:=
 ∃pa:Option Addr,e=.returned (.tuple #[.pointer pa,.int .i64 (eH s).1,.int .i64 (eH s).2])/\Below w.heap.size w w'/\
  ((eH s).1=0->∃(b:Nat) (a:Option Addr) (c:Nat) (rs:List (List (List (Nat × Nat)))) (xs:List Value) (mn:Int),pa=some ⟨b,0,none⟩/\Sh w' b (.slice a rs.length c) mn/\w'.ownsRow w.heap.size 79 3 (.slice a rs.length c) rs.length xs/\RRuls w' s w.heap.size xs rs/\RRulsAt s 0 s.size rs/\RInfo w' s w.heap.size s.size xs/\w.heap.size<=b)
structure RN (w:World)(b:Nat)(s:ByteArray)(M:Int)(f:Nat)(wr:World)(hm:Int)(vL:Value)(rs:List (List (List (Nat × Nat))))(xs:List Value):Prop where
 sh:Sh wr b vL hm
 bel:Below w.heap.size w wr
 own:wr.ownsRow (w.heap.size+1) 79 3 vL rs.length xs
 ruls:RRuls wr s (w.heap.size+1) xs rs
 info:RInfo wr s (w.heap.size+1) f xs
 noted:i9 hm f
 acc:Acc s 18 ⟨rs.length+1,1,hm⟩ f M
structure RP (w:World)(b:Nat)(s:ByteArray)(M:Int)(f p:Nat)(w0 wr:World)(hm:Int)(vL:Value)(rs:List (List (List (Nat × Nat))))(lv:Int):Prop where
 inn:In w0 wr b vL hm lv (.slice none 0 0) (.slice none 0 0) 0 []
 layer:mc s f p
 lay:lv=xH s f
 noted:i9 hm p
 acc:Acc s 2 ⟨rs.length+1,1,hm⟩ p M
theorem AA {nr:Nat}(h:Acc s 18 ⟨nr,1,hm⟩ f M):(bt s f=64->f+1<s.size/\Acc s 2 ⟨nr,1,hm⟩ (f+2) M/\48<=bt s (f+1)/\bt s (f+1)<=57)/\(bt s f≠64->Acc s 2 ⟨nr,1,hm⟩ f M):=by
 have hl:=h.lt (by omega);constructor
 ·intro e;have h1:=h.step hl;rw[show ct 18 (bt s f)=1 from by simp[ct,e]] at h1;have B5:=h1.lt (by omega);refine⟨B5,?_⟩;have h2:=h1.step B5;have ho:=h1.ok B5
  have hd:iS (bt s (f+1))=true:=by
   cases hd:iS (bt s (f+1)) with
   | true=>rfl
   | false=>exfalso;apply ho;simp[ct,wh,hd]
  rw[show ct 1 (bt s (f+1))=2 from by simp[ct,wh,hd]] at h2;refine⟨by simpa[cnt] using h2,?_⟩;simpa[iS] using hd
 ·intro e;unfold Acc at h ⊢;rw[<-h];exact((pG (s:=s) (i:=f) (by omega)).1 nr 1 hm).symm
theorem He {aB:Nat}{e:TypeId}{size:Nat}{v:Value}{n:Nat}(h:w.ownsRow aB e size v n xs){b:Nat}(hb:b<aB):v.ownBlock=none∨v.ownBlock≠some b:=by
 cases hv:v.ownBlock with
 | none=>exact ax rfl
 | some g=>right;intro e;injection e with e;have:=(h.lt g hv).1;omega
theorem TN {w0 W5 w6:World}{p q r:Nat}{yT lv:Int}{a a' a4:Option Addr}{c c' c4:Nat}{dl:List ei}{rs:List (List (List (Nat × Nat)))}{ss:List (List (Nat × Nat))}{ys:List Value}{v':Value}{nc:Nat}
  (N:RN w w.heap.size s M f w0 yT (.slice a rs.length c) rs xs) (bJ:rs.length<=f) (rC:mc s f p) (ht:RRulsAt s 0 f rs)
  (h5:In w0 W5 w.heap.size (.slice a rs.length c) hm lv (.slice a' ss.length c') (.slice a4 dl.length c4) ss.length ys) (hs5:RSels W5 s (w0.heap.size+1) ys ss)
  (kK:p<q) (Tc:q+1<=r) (CR:r<s.size) (hb:bt s q=123) (hbn:∀k,p<=k->k<q->bt s k≠123) (hr:bt s r=125) (hrn:∀k,q<=k->k<r->bt s k≠125)
  (UK:lv=xH s f) (hdo:W5.ownsRow (w.heap.size+1) 149 3 (.slice a4 dl.length c4) dl.length (kW dl)) (hda:rE (s.extract (q+1) r) dl) (Pj:rL s p q ss) (ol:i9 hm q) (B0:Acc s 9 ⟨rs.length+1,nc,hm⟩ (q+1) M)
  (ho:w6.ownsRow (w.heap.size+1) 79 3 v' (rs.length+1) (xs++[.int .i64 lv,.slice a' ss.length c',.slice a4 dl.length c4]))
  (hg:((W5.alloc (.cells #[.int .i64 lv,.slice a' ss.length c',.slice a4 dl.length c4] 79)).drew).grownBy w6 (Value.ownBlock (.slice a rs.length c))) :
  Sh w6 w.heap.size (.slice a rs.length c) hm/\RO w w.heap.size s M (r+1) (w6.setCell ⟨w.heap.size,0,none⟩ v') hm v' (rs++[ss]) (xs++[.int .i64 lv,.slice a' ss.length c',.slice a4 dl.length c4]):=by
 have hl:=h5.lt;have hz:=h5.blt;have Tq:=N.own.kept h5.gb (He N.own (by omega))
 have fG:∀k,k<=w.heap.size->some k≠Value.ownBlock (.slice a rs.length c):=by
  intro k hk e;have:=(N.own.lt k e.symm).1;omega
 have il:=h5.gb.size
 have sh6:Sh w6 w.heap.size (.slice a rs.length c) hm:=
  (hg.block _ (by show _<(W5.alloc _).heap.size;simp;omega) (fG _ aF)).trans ((Below.heap_alloc W5 _ _ h5.sh.lt).trans h5.sh)
 have hk:∀e,e≠79->Keeps W5 (w6.setCell ⟨w.heap.size,0,none⟩ v') (w.heap.size+1) e:=λe he=>
  ((cX _ _ _ _).trans (j8 (w:=(W5.alloc (.cells #[.int .i64 lv,.slice a' ss.length c',.slice a4 dl.length c4] 79)).drew) he ((Tq.alloc _).drew) hg)).trans (eW _ (by simp) _ _)
 have D3:∀e,Keeps w0 W5 (w.heap.size+1) e:=λe=>pE h5.gb (by omega) e;have ajb:f<=p:=by rcases rC with h | h<;>omega
 refine⟨sh6,sh6.set0 _,?_,by simpa using ownsRow_setCell_below ho (by simp) _,?_,?_,by simp;omega,by unfold i9 at *;omega,by omega,?_,nc,?_⟩
 ·refine Below.setCell (Below.grown (Below.drew ((N.bel.grown h5.gb N.bel.size (λk e=>by injection e with e;omega)).alloc ?_ _)) hg ?_ ?_) (by simp) _
  ·have:=N.bel.size;omega
  ·have:=N.bel.size;show _<=(W5.alloc _).heap.size;simp;omega
  ·intro k hk;have:=(N.own.lt k hk).1;omega
 ·exact RRuls.snoc lv a' c' (.slice a4 dl.length c4) ss ys ((hk 81 (by decide)).owns (ba h5.own (by omega))) ((hs5.mono (by omega)).keep (hk 117 (by decide))) (N.ruls.keep ((D3 117).trans (hk 117 (by decide))) ((D3 81).trans (hk 81 (by decide))))
 ·obtain⟨is,i1,i2⟩:=N.info;exact⟨is++[(lv,dl)],RDecs.snoc lv _ a4 c4 dl ((hk 149 (by decide)).owns hdo) (i1.keep ((D3 149).trans (hk 149 (by decide)))),RInfsAt.snoc ⟨p,q,rC,hb,hbn,kK,by omega,by simpa using hr,λk k1 k2=>hrn k k1 (by omega),UK,by simpa using hda⟩ (by omega) i2⟩
 ·refine RRulsAt.snoc (j:=f) ⟨p,q,rC,Pj,hb,hbn,by omega,by simpa using hr,λk k1 k2=>hrn k k1 (by omega)⟩ (by omega) ht
 ·obtain⟨m,m1,m2,_,_⟩:=wX B0 (λj j1 j2=>hrn j (by omega) j2) (by omega) (r - (q+1)) (by omega);rw[show q+1+(r - (q+1))=r from by omega] at m2;have h2:=m2.step CR;rw[(p8 m1 (m2.ok CR)).1 hr,pe m1] at h2;simpa using h2
theorem mw (w:World)(s:ByteArray)(hs:s.size<=maxLen):
  Calls prog 22 #[.string s] w λe w'=>zM w s e w':=by
 unfold maxLen at hs
 by_cases h400:400<s.size
 ·have HC:Hid (eH s=(1,0)):=by unfold Hid eH;rw[aE h400]
  have hd:decide ((400:Int)<(s.size:Int))=true:=by simp;omega
  go_enter func22,ntmps22;go_wp2;go_ret3;exact⟨none,by rw[HC.out];rfl,bo,λh=>by rw[HC.out] at h;simp at h⟩
 have hd:decide ((400:Int)<(s.size:Int))=false:=by simp;omega
 have ht:s.size<=400:=by omega
 by_cases hv:0<=(V s 0 K0 0).1
 ·have HC:Hid (eH s=(2,(V s 0 K0 0).1)):=by unfold Hid eH;rw[aA h400,aE hv]
  clear h400;go_enter func22,ntmps22;go_wp2_with fail;refine(AR _ s ht).mono ?_;rintro e w1 ⟨rfl,rfl⟩;generalize (V s 0 K0 0).1=x at hv HC;have iC:decide ((0:Int)<=x)=true:=by simpa using hv
  go_wp2;go_ret3;exact⟨none,by rw[HC.out];rfl,bo,λh=>by rw[HC.out] at h;simp at h⟩
 obtain⟨M,hM⟩:∃M,Acc s 0 K0 0 M:=⟨(V s 0 K0 0).2,by have:=Nj s 0 K0 0;unfold Acc;exact Prod.ext (by show _=(-1:Int);omega) rfl⟩;have HM:=aw hM;have HV:Hid ((V s 0 K0 0).1=-1):=by have:=Nj s 0 K0 0;unfold Hid;omega
 have HC:Hid (eH s=if M=-1 then(0,0) else(3,M)):=by unfold Hid eH;rw[aA h400,aA hv];unfold Acc at hM;rw[hM]
 clear hM h400 hv;obtain⟨i0,hi,gP,gQ,gR⟩:=info_parts Tryz.info81;obtain⟨i1,Rs,jz0,jz1,jz2⟩:=info_parts Tryz.info79;go_enter func22,ntmps22;go_wp2_with fail;refine(AR _ s ht).mono ?_;rintro e w1 ⟨rfl,rfl⟩;obtain⟨w,rfl⟩:∃w,w=w1:=⟨_,rfl⟩;rw[HV.out];go_wp2_with fail
 go_loopg [7] s.size (λgk fv wr=>∃(f:Nat) (hm:Int) (vL:Value) (rs:List (List (List (Nat × Nat)))) (xs:List Value),fv=.int .i64 f/\s.size - f<=gk/\RO w w.heap.size s M f wr hm vL rs xs)
 case atStart=>
  exact⟨0,-1,.slice none 0 0,[],[],rfl,by omega,heap_alloc_new w _,bo.alloc aF _,eB,rfl,⟨[],rfl,rfl⟩,aF,ax rfl,bm,rfl,0,HM.out⟩
 case round=>
  obtain⟨f,hm,vL,rs,xs,rfl,fT,R⟩:=hrel;have R_le:=R.le;have R_few:=R.few;obtain⟨a,c,vq⟩:=aK R.own;subst vq;have c0:=R.sh.c0;have c1:=R.sh.c1;have fz:=R.sh.fr;have blt:=R.sh.lt
  by_cases bc:f<s.size
  ·have uA:decide ((f:Int)<(s.size:Int))=true:=by simp;omega
   go_upto_if 32 with fail
   go_cut [] (λwc=>∃yT,RN w w.heap.size s M f wc yT (.slice a rs.length c) rs xs)
   case first=>
    obtain⟨nc,B0⟩:=R.acc
    by_cases h4:rs.length=20
    ·have g4:((rs.length:Int)==20)=true:=by simp[h4]
     have HA:Hid (Acc s 18 ⟨rs.length+1,1,mM hm f⟩ f M/\i9 (mM hm f) f):=by
      refine⟨?_,?_⟩
      ·unfold Acc at B0 ⊢;rw[<-B0,wI bc];simp[dq,h4]
      ·simpa[dq] using lM R.noted true aF
     clear h4 B0;go_wp2_with fail;refine(tW _ w.heap.size (.slice a rs.length c) hm f (by exact R.sh) R.noted).mono ?_;rintro e w2 ⟨rfl,oS,hg⟩
     have N:RN w w.heap.size s M f w2 (mM hm f) (.slice a rs.length c) rs xs:=
      ⟨oS,R.bel.grown hg R.bel.size (λk hk=>by injection hk with hk;omega),R.own.kept hg (He R.own (by omega)),R.ruls.keep (pE hg (by omega) _) (pE hg (by omega) _),R.info.keep (pE hg (by omega) _),HA.out.2,HA.out.1⟩
     clear R;go_wp2;go_meet
     case rel=>exact⟨_,N⟩
    ·have g4:((rs.length:Int)==20)=false:=by simp;omega
     have HA:Hid (Acc s 18 ⟨rs.length+1,1,hm⟩ f M):=by unfold Hid Acc at *;rw[<-B0,wI bc];simp[dq,h4]
     clear h4 B0;have N:RN w w.heap.size s M f wr hm (.slice a rs.length c) rs xs:=⟨R.sh,R.bel,R.own,R.ruls,R.info,R.noted,HA.out⟩;clear R;go_wp2;go_meet
     case rel=>exact⟨_,N⟩
   case rest=>
    obtain⟨yT,N⟩:=hcut;have R_text:=R.text;have RT:=aw R_text;clear R R_text c0 c1 fz blt;obtain⟨w0,rfl⟩:∃w0,w0=wc:=⟨_,rfl⟩;have Nlt:=N.sh.lt
    have O8:∀lv,In w0 (w0.alloc (.cells #[.int .i64 lv,.slice none 0 0,.slice none 0 0] 79)) w.heap.size (.slice a rs.length c) yT lv (.slice none 0 0) (.slice none 0 0) 0 []:=λlv=>
     ⟨(Below.heap_alloc w0 _ _ Nlt).trans N.sh,World.grownBy_alloc _ _ _,heap_alloc_new w0 _,eB,Nlt⟩
    go_upto_if 40 with fail
    go_cut [7] (λfv wq=>∃(p:Nat) (lv:Int),fv=.int .i64 p/\RP w w.heap.size s M f p w0 wq yT (.slice a rs.length c) rs lv)
    case first=>
     by_cases h64:bt s f=64
     ·have g64:((s[f].toNat:Int)==64)=true:=by rw[<-bV s f bc,h64];rfl
      obtain⟨l1,l2,l3,l4⟩:=(AA N.acc).1 h64;rw[bV s (f+1) l1] at l3 l4;have HLY:Hid (xH s f=(s[f+1].toNat:Int) - 48):=by unfold Hid xH;rw[aE h64,bV s (f+1) l1]
      have HRP:Hid (∀lv,lv=xH s f->RP w w.heap.size s M f (f+2) w0 (w0.alloc (.cells #[.int .i64 lv,.slice none 0 0,.slice none 0 0] 79)) yT (.slice a rs.length c) rs lv):=λlv UK=>
       ⟨O8 lv,ax ⟨h64,rfl⟩,UK,by have:=N.noted;unfold i9 at *;omega,l2⟩
      clear l2 O8 h64;go_wp2;go_meet
      case rel=>exact⟨f+2,_,by go_num,HRP.out _ (by rw[HLY.out])⟩
     ·have g64:((s[f].toNat:Int)==64)=false:=by rw[<-bV s f bc];simp;omega
      have RPp:RP w w.heap.size s M f f w0 (w0.alloc (.cells #[.int .i64 10,.slice none 0 0,.slice none 0 0] 79)) yT (.slice a rs.length c) rs 10:=
       ⟨O8 10,az ⟨h64,rfl⟩,by unfold xH;rw[aA h64],N.noted,(AA N.acc).2 h64⟩
      clear O8 h64;go_wp2;go_meet
      case rel=>exact⟨f,10,rfl,RPp⟩
    case rest=>
     obtain⟨p,lv,rfl,P⟩:=hcut;clear O8;have qD:p<s.size:=P.acc.lt (by omega);have rC:f<=p:=by rcases P.layer with h | h<;>omega
     go_wp2_with fail;refine(nS _ s p 123 ht (by omega)).mono ?_;rintro e w2 ⟨q,rfl,rfl,HU⟩
     obtain⟨kK,hqs,HB⟩:p<q/\q<s.size/\Hid (bt s q=123/\∀k,p<=k->k<q->bt s k≠123):=by
      obtain⟨u1,u2,u3,u4⟩:=HU.out;obtain⟨x,x1,x2,x3⟩:=LU (s.size - p) aF (ax rfl) P.acc
      have hq:q<s.size:=by
       apply Nat.lt_of_not_le;intro qU;exact u3 x x1 (by omega) x3
      have DT:=u4 hq;refine⟨?_,hq,DT,u3⟩;apply Nat.lt_of_not_le;intro qU;obtain rfl:q=p:=by omega
      exact P.acc.ok qD (by rw[DT];decide)
     go_wp2_with fail
     go_loopg [7] (q+1 - p) (λgk fv wq=>∃(f':Nat) (qv:Int) (vS:Value) (ss:List (List (Nat × Nat))) (ys:List Value),fv=.int .i64 f'/\q+1 - f'<=gk/\RI w0 w.heap.size s p q (rs.length+1) M f' wq qv (.slice a rs.length c) lv vS ss ys)
     case atStart=>
      exact⟨p,yT,.slice none 0 0,[],[],rfl,aF,P.inn,rfl,by simp,aF,by omega,λ_=>⟨rfl,P.noted,P.acc⟩,λe=>absurd kK e⟩
     case round=>
      obtain⟨f',qv,vS,ss,ys,rfl,SW,I⟩:=hrel;have I_lo:=I.lo;have I_hi:=I.hi;have I_few:=I.few;obtain⟨a',c',hvS⟩:=aK I.inn.own;subst hvS
      by_cases D4:f'<q
      ·have SU:decide ((f':Int)<(q:Int))=true:=by simp;omega
       go_wp2_with fail;refine(nS _ s f' 44 ht (by omega)).mono ?_;rintro e w3 ⟨r1,rfl,rfl,HU1⟩;go_upto_if 61 with fail
       go_cut [10] (λev wc=>∃en:Nat,ev=.int .i64 en/\wc=w3/\f'<=en/\en<=q/\Hid ((∀k,f'<=k->k<en->bt s k≠44)/\(en<q->bt s en=44)))
       case first=>
        by_cases hrq:q<r1
        ·have GO:decide ((q:Int)<(r1:Int))=true:=by simp;omega
         go_wp2;go_meet
         case rel=>exact⟨q,rfl,rfl,by omega,aF,λk k1 k2=>HU1.out.2.2.1 k k1 (by omega),λe=>by omega⟩
        ·have GO:decide ((q:Int)<(r1:Int))=false:=by simp;omega
         go_wp2;go_meet
         case rel=>exact⟨r1,rfl,rfl,HU1.out.1,by omega,HU1.out.2.2.1,λe=>HU1.out.2.2.2 (by omega)⟩
       case rest=>
        obtain⟨en,rfl,hwc,D1,heq,HE⟩:=hcut;obtain rfl:=hwc;obtain⟨w3,rfl⟩:∃w3,w3=wc:=⟨_,rfl⟩;have UL:en=q∨en<q:=by omega
        have HP:Hid (MR s f' en (rs.length+1) M qv):=by
         obtain⟨g1,g2,g3⟩:=I.go D4;refine⟨D1,by omega,ht,λk k1 k2=>⟨HE.out.1 k k1 k2,HB.out.2 k (by omega) (by omega)⟩,?_,g2,g3⟩;rcases UL with e | e
         ·right;rw[e];exact HB.out.1
         ·left;exact HE.out.2 e
        have HI:=aw ((I.go D4).1);clear UL;go_wp2_with fail;refine(Kj _ w.heap.size (.slice a rs.length c) qv s f' en (rs.length+1) M (by exact I.inn.sh) HP.out).mono ?_;rintro e w4 ⟨a2,c2,aV,ps,CN,rfl,sh4,g4,P3,ju⟩;have MO:=I.inn.call sh4 g4;have E9:=I.sels.keep (pE g4 (by have:=I.inn.lt;omega) 117);have hz4:=MO.blt;have G4:=I.inn.blt;have U6:w4.ownsRow (w0.heap.size+1) 117 2 (.slice a2 aV.length c2) aV.length ps:=ba P3 (by omega);obtain⟨rc0,rc1,rc2,rfz⟩:=MO.cells;clear I sh4 P3;go_wp2_with (at_builtin;refine wpList_append_own _ rfl (.tmp 69) (.tmp 71) 76 rfl (w0.heap.size+1) 81 i0 (.slice none 0 0) 1 24 underlying76 hi gP gQ gR rfl (by decide) _ _ _ rfl (MO.own.alloc _) ⟨w4.heap.size,0,none⟩ 1 1 [.slice a2 aV.length c2] rfl rfl ?c1 ?c2 ?c3 ?c4 ?c5 ?_)
        case c1=>exact bg w4 _ rfl _ _ _ rfl
        case c2=>exact abc _ _ _
        case c3=>unfold maxLen;omega
        case c4=>omega
        case c5=>simp;omega
        ·intro v' w5 D9 jn _;have cf:w5.ownsRow (w0.heap.size+1) 81 1 v' (ss++[aV]).length (ys++[.slice a2 aV.length c2]):=by simpa using D9
         have K5:=(MO.alloc (.cells #[.slice a2 aV.length c2] 81)).app jn cf;have rb5:=(MO.alloc (.cells #[.slice a2 aV.length c2] 81)).appBlk jn;have k5:Keeps w4 (w5.setCell ⟨w0.heap.size,1,none⟩ v') (w0.heap.size+1) 117:=((cX _ _ _ _).trans (j8 (by decide) (MO.own.alloc _) jn)).trans (eW _ (by simp) _ _)
         have I5:RI w0 w.heap.size s p q (rs.length+1) M (en+1) (w5.setCell ⟨w0.heap.size,1,none⟩ v') CN (.slice a rs.length c) lv v' (ss++[aV]) (ys++[.slice a2 aV.length c2]):=by
          obtain⟨t1,t2,t3,nc,t4⟩:=ju.out;refine⟨K5,RSels.snoc a2 c2 aV ps (k5.owns U6) t1 (E9.keep k5),by simp;omega,by omega,by omega,λe=>?_,λe=>?_⟩
          ·have IN:=HE.out.2 (by omega);refine⟨RSelsPre.snoc t2 D1 IN HE.out.1 HI.out,by unfold i9 at *;omega,?_⟩;unfold Acc at t4 ⊢;rw[<-t4,wV IN (by omega)]
          ·have adV:en=q:=by
            apply Nat.le_antisymm heq;apply Nat.le_of_not_lt;intro hl;have IN:=HE.out.2 hl;obtain rfl:q=en+1:=by omega
            have t5:Acc s 2 ⟨rs.length+1,1,CN⟩ (en+1) M:=by unfold Acc at t4 ⊢;rw[<-t4,wV IN (by omega)]
            exact t5.ok hqs (by rw[HB.out.1];decide)
           subst adV;exact⟨rfl,⟨ss,f',aV,rfl,HI.out,t2,D1,HE.out.1⟩,t3,nc,t4⟩
         have cc1:w5.cell? ⟨w0.heap.size,1,none⟩=some (.slice a' ss.length c'):=au rb5 rfl;have cz:∀j,w5.frozen? ⟨w0.heap.size,j,none⟩=false:=λ_=>aH rb5;obtain⟨a5,c5,G3⟩:=aK cf;rw[G3] at I5 ⊢;rw[show(ss++[aV]).length=ss.length+1 from by simp] at I5;simp only[List.length_append,List.length_cons,List.length_nil,Nat.zero_add];clear G3 K5 cf D9 jn k5 rb5 rc0 rc1 rc2 rfz MO E9 U6;go_wp2;go_roundg (q+1 - (en+1))
         case measure=>omega
         case rel=>exact⟨en+1,CN,_,_,_,by go_num,aF,I5⟩
      ·have SU:decide ((f':Int)<(q:Int))=false:=by simp;omega
       obtain⟨d1,d2,d3,nc,d4⟩:=I.done D4
       have YM:Acc s 9 ⟨rs.length+1,nc,qv⟩ (q+1) M:=by
        have:=d4.step hqs;rw[HB.out.1] at this;simpa[ct,jg,jf,cnt] using this
       have HD:=kC d2 d3 YM;subst d1;clear d2 d3 d4 YM;obtain⟨wq,rfl⟩:∃wq,wq=wr:=⟨_,rfl⟩;go_wp2_with fail;refine(nS _ s q 125 ht (by omega)).mono ?_;rintro e w3 ⟨r2,rfl,rfl,Xu⟩
       obtain⟨IZ,Ea,HR⟩:q+1<=r2/\r2<s.size/\Hid (bt s r2=125/\∀k,q<=k->k<r2->bt s k≠125):=by
        obtain⟨u1,u2,u3,u4⟩:=Xu.out;obtain⟨x,x1,x2,x3⟩:=Gr (s.size - (q+1)) aF ⟨by omega,by omega⟩ HD.out.2.2
        have hr:r2<s.size:=by
         apply Nat.lt_of_not_le;intro qU;exact u3 x (by omega) (by omega) x3
        refine⟨?_,hr,u4 hr,u3⟩;apply Nat.lt_of_not_le;intro qU;obtain rfl:r2=q:=by omega
        have:=u4 hr;rw[HB.out.1] at this;omega
       have aaB:DOK (s.extract (q+1) r2):=V3 HD.out.2.2 (λj j1 j2=>HR.out.2 j (by omega) j2) (by omega) IZ (λ_=>HR.out.1);have Pp:(s.extract (q+1) r2).size<=400:=by rw[ByteArray.size_extract];omega
       go_wp2_with fail;refine(Kq _ (s.extract (q+1) r2) Pp aaB).mono ?_;rintro e w4 ⟨a4,c4,dl,rfl,MI,aaA,HDA⟩;have MO:=I.inn.below MI;have E9:=I.sels.keep (iE MI _ _);obtain⟨rc0,rc1,rc2,rfz⟩:=MO.cells;have K5:=MO.setO 2 (.slice a4 dl.length c4) rfl MO.own;have hzq:=I.inn.blt;have Vq:Hid ((w4.setCell ⟨w0.heap.size,2,none⟩ (.slice a4 dl.length c4)).ownsRow (w0.heap.size+1) 149 3 (.slice a4 dl.length c4) dl.length (kW dl)):=(eW w4 (p:=⟨w0.heap.size,2,none⟩) (by simp) (.slice a4 dl.length c4) _).owns (ba aaA (by omega));have QH:=E9.keep (eW w4 (p:=⟨w0.heap.size,2,none⟩) (by simp) (.slice a4 dl.length c4) _);clear I aaB Pp MO E9 aaA hzq;go_upto_region 25 with fail;obtain⟨W5,hW5⟩:∃W5,W5=w4.setCell ⟨w0.heap.size,2,none⟩ (.slice a4 dl.length c4):=⟨_,rfl⟩;rw[<-hW5] at K5 QH Vq ⊢;clear hW5 rc0 rc1 rc2 rfz MI;obtain⟨rc0,rc1,rc2,rfz⟩:=K5.cells;have h0:=K5.sh.c0;have hfz:=K5.sh.fr;have hl5:=K5.sh.lt;have hz5:=K5.blt;have zg:=K5.lt;have Tq:=N.own.kept K5.gb (He N.own (by omega))
       go_region_law (refine uh rfl (.tmp 90) (.tmp 92) 73 rfl (w.heap.size+1) 79 i1 (.agg #[.int .i64 0,.slice none 0 0,.slice none 0 0]) 3 56 underlying73 Rs jz0 jz1 jz2 rfl (by decide) (.slice a rs.length c) rs.length xs (by simp[Act.eval]) ((Tq.alloc _).drew) ⟨W5.heap.size,0,none⟩ 1 1 [.int .i64 lv,.slice a' ss.length c',.slice a4 dl.length c4] (by simp[Act.eval]) rfl (bg W5 _ rfl _ _ _ rfl) (PY _ _ _ _ _ _ _) (by unfold maxLen;omega) (by omega) (by simp;omega) ?_;intro v' w6 uE O5;obtain⟨sh6,R6⟩:=TN N R_few P.layer RT.out K5 QH kK IZ Ea HB.out.1 HB.out.2 HR.out.1 HR.out.2 P.lay (ba Vq.out (by omega)) HDA.out HD.out.1 HD.out.2.1 HD.out.2.2 uE O5;have s60:=sh6.c0;have s6z:=sh6.fr;obtain⟨a6,c6,hv6⟩:=aK uE;rw[hv6] at R6 ⊢;clear hv6 uE O5)
       all_goals
        clear Tq QH K5 P N;go_wp2;go_roundg (s.size - (r2+1))
        case measure=>omega
        case rel=>exact⟨r2+1,qv,_,_,_,by go_num,aF,R6⟩
  ·obtain rfl:f=s.size:=by omega
   have uA:decide ((s.size:Int)<(s.size:Int))=false:=by simp
   have hMm:M=hm:=by
    obtain⟨nc,h⟩:=R.acc;unfold Acc at h;rw[wG aF,aE rfl] at h;injection h with _ h2
    exact h2.symm
   subst hMm
   by_cases hneg:M=-1
   ·subst hneg;have CK:Hid (eH s=(0,0)):=by unfold Hid;rw[HC.out];rfl
    have SU:decide ((0:Int)<=-1)=false:=by decide
    have R2:=R;clear R;go_wp2;go_ret3;exact⟨_,by rw[CK.out];rfl,R2.bel,λ_=>⟨_,a,c,rs,xs,-1,rfl,R2.sh,ba R2.own (by omega),R2.ruls.mono (by omega),R2.text,R2.info.mono (by omega),aF⟩⟩
   ·have FV:=R.noted;have mb:0<=M:=by unfold i9 at FV;omega
    have CK:Hid (eH s=(3,M)):=by unfold Hid;rw[HC.out,aA hneg]
    have SU:decide ((0:Int)<=M)=true:=by simpa using mb
    have R2:=R;clear R FV hneg HC;go_wp2;go_quiet (fail);go_wp2;go_ret3;exact⟨none,by rw[CK.out];rfl,⟨R2.bel.os,R2.bel.tape,R2.bel.output,R2.bel.size,R2.bel.block⟩,λh=>by rw[CK.out] at h;simp at h⟩
theorem Cy (w:World)(s:ByteArray)(hs:s.size<=maxLen):
  Calls prog 9 #[.string s] w λe w'=>zH w s e w':=by
 go_enter func9,ntmps9;go_wp2_with fail;refine(mw _ s hs).mono ?_;rintro e w1 ⟨pa,rfl,hb,_⟩;go_wp2_with fail;go_ret2;exact⟨rfl,hb⟩
end
theorem kw (w:World)(n:Int):Calls prog 10 #[.int .i64 n] w λe w'=>e=.returned (.int .i64 n)/\w'=w:=by
 go_enter func10,ntmps10;go_wp2;go_ret;exact⟨rfl,rfl⟩
theorem Uu {W w1:World}(hb:Below W.heap.size W w1)(B:Nat)(h:B<W.heap.size):(∀o,w1.cell? ⟨B,o,none⟩=W.cell? ⟨B,o,none⟩)/\(∀o,w1.frozen? ⟨B,o,none⟩=W.frozen? ⟨B,o,none⟩):=
 ⟨λo=>hb.cell (p:=⟨B,o,none⟩) h,λo=>hb.frozen (p:=⟨B,o,none⟩) h⟩
def kz (w:World)(e:Ending)(w':World):Prop:=e=.returned (.bool true)/\Below w.heap.size w w'
theorem H7 (w:World)(p:Option Addr)(k1 k2 k3 k4:Int)(s t:ByteArray)(o:Bool)(hs:s.size<=maxLen):
  Calls prog 5 #[.pointer p,.agg #[.int .i64 1,.int .i64 k1,.int .i64 k2,.int .i64 k3,.int .i64 k4,.string s,.string t,.bool o]] w λe w'=>kz w e w':=by
 go_enter func5,ntmps5;go_wp2_with fail;refine(Kk _ s hs).mono ?_;rintro e w1 ⟨rfl,mS⟩;obtain⟨hc,hf⟩:=Uu mS w.heap.size (by simp);have gA:=mS.size;go_wp2_with fail;refine(Cy _ s hs).mono ?_;rintro e w2 ⟨rfl,oW⟩;have lu:Below w.heap.size w w2:=((bo.alloc aF _).trans (mS.mono (by simp))).trans (oW.mono (by simp at gA;omega));generalize (eH s).1=x;generalize (eH s).2=y;have hx:(x==x)=true:=by simp
 have hy:(y==y)=true:=by simp
 clear hc hf mS oW;go_wp2_with fail;refine(kw _ x).mono ?_;rintro e w3 ⟨rfl,rfl⟩;go_wp2_with fail;refine(kw _ x).mono ?_;rintro e w4 ⟨rfl,rfl⟩;go_wp2_with fail;go_ret;exact⟨by simp,lu⟩
def Wd (w:World)(b:Nat):Prop:=w.heap[b]?=some (.cells #[.slice none 0 0,.slice none 0 0,.slice none 0 0,.int .i64 0] 30 (0,0))
theorem OD (w:World)(b:Nat)(hi:Int)(h:Wd w b):
  Calls prog 6 #[.pointer (some ⟨b,0,none⟩),.int .i64 hi] w λe w'=>e=.returned (.bool true)/\w'=w:=by
 have c0:w.cell? ⟨b,0,none⟩=some (.slice none 0 0):=au h rfl;go_enter func6,ntmps6;go_wp2;refine wp_loop_rounds 1 ?_;rw[rounds_succ];go_wp2;go_ret;exact⟨rfl,rfl⟩
theorem La (w:World)(b:Nat)(h:Wd w b):
  Calls prog 7 #[.pointer (some ⟨b,0,none⟩)] w λe w'=>e=.returned (.bool true)/\w'=w:=by
 have c1:w.cell? ⟨b,1,none⟩=some (.slice none 0 0):=au h rfl;go_enter func7,ntmps7;go_wp2;refine wp_loop_rounds 1 ?_;rw[rounds_succ];go_wp2;go_ret;exact⟨rfl,rfl⟩
structure Scr (w:World)(b off len:Nat)(K A X Y Z:Nat->Int)(S T:Nat->ByteArray)(O:Nat->Bool):Prop where
 c0:∀i,i<len->w.cell? ⟨b,off+i*8,none⟩=some (.int .i64 (K i))
 c1:∀i,i<len->w.cell? ⟨b,off+i*8+1,none⟩=some (.int .i64 (A i))
 c2:∀i,i<len->w.cell? ⟨b,off+i*8+2,none⟩=some (.int .i64 (X i))
 c3:∀i,i<len->w.cell? ⟨b,off+i*8+3,none⟩=some (.int .i64 (Y i))
 c4:∀i,i<len->w.cell? ⟨b,off+i*8+4,none⟩=some (.int .i64 (Z i))
 c5:∀i,i<len->w.cell? ⟨b,off+i*8+5,none⟩=some (.string (S i))
 c6:∀i,i<len->w.cell? ⟨b,off+i*8+6,none⟩=some (.string (T i))
 c7:∀i,i<len->w.cell? ⟨b,off+i*8+7,none⟩=some (.bool (O i))
 small:∀i,i<len->(S i).size<=maxLen
 lt:b<w.heap.size
theorem EE (w:World)(ao:Option Addr)(ij:Nat)(lo hi:Int):
  Calls prog 4 #[.slice ao 0 ij,.int .i64 lo,.int .i64 hi] w λe w'=>kz w e w':=by
 go_enter func4,ntmps4;go_wp2_with fail;refine wp_loop_rounds 1 ?_;rw[rounds_succ];go_wp2_with fail;have hW:Wd (w.alloc (.cells #[.slice none 0 0,.slice none 0 0,.slice none 0 0,.int .i64 0] 30)) w.heap.size:=heap_alloc_new w _;refine(OD _ w.heap.size hi hW).mono ?_;rintro e w2 ⟨rfl,rfl⟩;go_wp2_with fail;refine(La _ w.heap.size hW).mono ?_;rintro e w3 ⟨rfl,rfl⟩;go_wp2_with fail;go_ret;exact⟨rfl,bo.alloc aF _⟩
section
open Go.ChangeShapes Go.WideShapes Go.ChangeAt Go.RowKit
theorem Tryz.own:ownKnob Tryz.prog.godebug=none:=by kernel_rfl
theorem Tryz.laidOut:laidOutB Tryz.prog=true:=by kernel_rfl
theorem Tryz.cells32:Tryz.prog.cellsOf 32=8:=by kernel_rfl
theorem Tryz.cells3:Tryz.prog.cellsOf 3=1:=by kernel_rfl
theorem Tryz.cells9:Tryz.prog.cellsOf 9=1:=by kernel_rfl
theorem Tryz.cells4:Tryz.prog.cellsOf 4=1:=by kernel_rfl
theorem Ux {α:Type}(l:List α)(h:l.length=8):∃a b c d e f g i,l=[a,b,c,d,e,f,g,i]:=by
 match l,h with
 | [a,b,c,d,e,f,g,i],_=>exact⟨a,b,c,d,e,f,g,i,rfl⟩
theorem Ev {H:Type}{enc:TypeId × Value->H}{W:World}{a0:Option Addr}{len ij KB:Nat}{x:DataW H × List MemPlace}(h:DataW.trod enc prog W 0 (λ_=>true) true KB 22 [.slice a0 len ij]=some x):
  len=0∨∃b off K A X Y Z S T O,a0=some ⟨b,off,none⟩/\Scr W b off len K A X Y Z S T O/\len<=maxLen:=by
 rcases Go.Deep.open_slice underlying22 h with⟨kr,_⟩ | ⟨a,len',cap',m,n,D,Pl,kr,_,hl,hm,Pb,_,hx⟩
 ·left;simp only[List.cons.injEq,Value.slice.injEq,and_true] at kr;exact kr.2.1
 ·simp only[List.cons.injEq,Value.slice.injEq,and_true] at kr;obtain⟨rfl,rfl,rfl⟩:=kr
  by_cases h0:len=0
  ·exact ax h0
  right;simp only[if_true] at Pb;rw[Tryz.cells32] at hx
  have adn:∀i,i<len->∃q:(Int × Int × Int × Int × Int) × ByteArray × ByteArray × Bool,
    W.cell? (a.add (i*8))=some (.int .i64 q.1.1)/\W.cell? (a.add (i*8+1))=some (.int .i64 q.1.2.1)/\W.cell? (a.add (i*8+2))=some (.int .i64 q.1.2.2.1)/\W.cell? (a.add (i*8+3))=some (.int .i64 q.1.2.2.2.1)/\
    W.cell? (a.add (i*8+4))=some (.int .i64 q.1.2.2.2.2)/\W.cell? (a.add (i*8+5))=some (.string q.2.1)/\W.cell? (a.add (i*8+6))=some (.string q.2.2.1)/\W.cell? (a.add (i*8+7))=some (.bool q.2.2.2)/\q.2.1.size<=maxLen:=by
   intro i hi;obtain⟨V0,h1,h2⟩:=hx i (by omega);obtain⟨_,bT,hcell⟩:=World.cells?_some h1;obtain⟨xs,k,_,_,_,WM,hf⟩:=DataW.trod_struct underlying32 h2;obtain⟨v0,v1,v2,v3,v4,v5,v6,v7,rfl⟩:=Ux V0 bT;obtain⟨y0,y1,y2,y3,y4,y5,y6,y7,rfl⟩:=Ux xs (by rw[WM];rfl);have g0:=hf 0 _ rfl;have g1:=hf 1 _ rfl;have g2:=hf 2 _ rfl;have g3:=hf 3 _ rfl;have g4:=hf 4 _ rfl;have g5:=hf 5 _ rfl;have g6:=hf 6 _ rfl;have g7:=hf 7 _ rfl;simp[Tryz.cells3,Tryz.cells9,Tryz.cells4] at g0 g1 g2 g3 g4 g5 g6 g7;obtain⟨n0,e0,_,_⟩:=DataW.trod_int underlying3 g0;obtain⟨n1,e1,_,_⟩:=DataW.trod_int underlying3 g1;obtain⟨n2,e2,_,_⟩:=DataW.trod_int underlying3 g2;obtain⟨n3,e3,_,_⟩:=DataW.trod_int underlying3 g3;obtain⟨n4,e4,_,_⟩:=DataW.trod_int underlying3 g4;obtain⟨s5,e5,_,z5⟩:=DataW.trod_string underlying9 g5;obtain⟨s6,e6,_,_⟩:=DataW.trod_string underlying9 g6;obtain⟨b7,e7,_⟩:=DataW.trod_bool underlying4 g7;simp only[List.cons.injEq,and_true] at e0 e1 e2 e3 e4 e5 e6 e7;subst e0 e1 e2 e3 e4 e5 e6 e7;have c0:=hcell 0 (by omega);have c1:=hcell 1 (by omega);have c2:=hcell 2 (by omega);have c3:=hcell 3 (by omega);have c4:=hcell 4 (by omega);have c5:=hcell 5 (by omega);have c6:=hcell 6 (by omega);have c7:=hcell 7 (by omega);rw[Go.Deep.add_add] at c0 c1 c2 c3 c4 c5 c6 c7;exact⟨((n0,n1,n2,n3,n4),s5,s6,b7),by simpa using c0,by simpa using c1,by simpa using c2,by simpa using c3,by simpa using c4,by simpa using c5,by simpa using c6,by simpa using c7,z5⟩
  obtain⟨q,hq⟩:=Go.Deep.choose_lt adn;obtain⟨b,off,spot⟩:=a;have Po:spot=none:=by simpa[Addr.add] using World.cell?_spot (hq 0 (by omega)).1
  subst Po;have bc:b<W.heap.size:=by simpa[Addr.add] using World.block_lt_of_cell? W _ (hq 0 (by omega)).1
  refine⟨b,off,λi=>(q i).1.1,λi=>(q i).1.2.1,λi=>(q i).1.2.2.1,λi=>(q i).1.2.2.2.1,λi=>(q i).1.2.2.2.2,λi=>(q i).2.1,λi=>(q i).2.2.1,λi=>(q i).2.2.2,rfl,⟨?_,?_,?_,?_,?_,?_,?_,?_,λi hi=>(hq i hi).2.2.2.2.2.2.2.2,bc⟩,by omega⟩
  all_goals intro i hi
  ·have:=(hq i hi).1;rw[Go.WideShapes.add_plain] at this;exact this
  ·have:=(hq i hi).2.1;rw[Go.WideShapes.add_plain,<-Nat.add_assoc] at this;exact this
  ·have:=(hq i hi).2.2.1;rw[Go.WideShapes.add_plain,<-Nat.add_assoc] at this;exact this
  ·have:=(hq i hi).2.2.2.1;rw[Go.WideShapes.add_plain,<-Nat.add_assoc] at this;exact this
  ·have:=(hq i hi).2.2.2.2.1;rw[Go.WideShapes.add_plain,<-Nat.add_assoc] at this;exact this
  ·have:=(hq i hi).2.2.2.2.2.1;rw[Go.WideShapes.add_plain,<-Nat.add_assoc] at this;exact this
  ·have:=(hq i hi).2.2.2.2.2.2.1;rw[Go.WideShapes.add_plain,<-Nat.add_assoc] at this;exact this
  ·have:=(hq i hi).2.2.2.2.2.2.2.1;rw[Go.WideShapes.add_plain,<-Nat.add_assoc] at this;exact this
end
section
variable {cs:List eb}{i:Nat}
def U9 (p:PPt):Nat:=pw p.kd
def F0 (ks:List PPt):Nat:=(ks.map U9).sum
def cw (ty:Nat)(ks:List PPt):Nat:=(if ty=0 then 0 else 1)+F0 ks
def qS (cs:List eb):Nat:=(cs.map λx=>cw x.ty x.ps).sum
theorem Qr (k:Int):pw k<=1000000:=by unfold pw;(repeat' split)<;>omega
theorem Qs (ks:List PPt):F0 ks<=1000000*ks.length:=by
 induction ks with
 | nil=>simp[F0]
 | cons k ks ih=>simp only[F0,List.map_cons,List.sum_cons,List.length_cons] at *;have:=Qr k.kd;unfold U9 at *;omega
theorem Qt {ks:List PPt}(h:i<ks.length):F0 (ks.take (i+1))=F0 (ks.take i)+pw ks[i].kd:=by
 unfold F0;rw[gj h,List.map_append,List.sum_append];simp[U9]
theorem EI (ks:List PPt)(i:Nat):F0 (ks.take i)<=1000000*ks.length:=by
 have:=Qs (ks.take i);have:(ks.take i).length<=ks.length:=List.length_take_le' _ _;omega
theorem Uw (ty:Nat)(ks:List PPt):cw ty ks<=1+1000000*ks.length:=by
 have:=Qs ks;unfold cw;split<;>omega
theorem Dv (h:i<cs.length):qS (cs.take (i+1))=qS (cs.take i)+cw cs[i].ty cs[i].ps:=by
 unfold qS;rw[gj h,List.map_append,List.sum_append];simp
def o9 (cs:List eb):Prop:=cs.length<=400/\∀x∈cs,x.ps.length<=400
theorem V1 (h:∀x∈cs,x.ps.length<=400):qS cs<=400000001*cs.length:=by
 induction cs with
 | nil=>simp[qS]
 | cons x cs ih=>
  have h1:=ih (λy hy=>h y (List.mem_cons_of_mem _ hy));have h2:=h x List.mem_cons_self;have h3:=Uw x.ty x.ps;simp only[qS,List.map_cons,List.sum_cons,List.length_cons] at *;omega
theorem mf (h:o9 cs)(i:Nat):qS (cs.take i)<=160000000400:=by
 have h1:=V1 (cs:=cs.take i) (λx hx=>h.2 x (List.mem_of_mem_take hx));have:(cs.take i).length<=cs.length:=List.length_take_le' _ _;have:=h.1;omega
theorem pF:∀{xs:List Value} {ks:List PPt} {i:Nat},Kinds xs ks->(h:i<ks.length)->xs[i*5]?=some (.bool ks[i].nt)/\xs[i*5+1]?=some (.int .i64 ks[i].kd)/\xs[i*5+2]?=some (.int .u8 ks[i].lt)/\xs[i*5+3]?=some (.int .i64 ks[i].st)/\xs[i*5+4]?=some (.int .i64 ks[i].sr)
 | _,k :: ks,0,⟨ys,h1,_⟩,_=>by subst h1;exact⟨rfl,rfl,rfl,rfl,rfl⟩
 | _,k :: ks,i+1,⟨ys,h1,h2⟩,h=>by
  obtain⟨e1,e2,e3,e4,e5⟩:=pF (i:=i) h2 (by simpa using h);subst h1;rw[show(i+1)*5=i*5+5 from by omega];exact⟨by simpa using e1,by simpa using e2,by simpa using e3,by simpa using e4,by simpa using e5⟩
theorem aX {w:World}{aB:Nat}{e:TypeId}{size:Nat}{a:Option Addr}{n c:Nat}{xs:List Value}(h:w.ownsRow aB e size (.slice a n c) n xs)(hn:0<n):
  ∃g,a=some ⟨g,0,none⟩/\g<w.heap.size/\∀j u,xs[j]?=some u->w.cell? ⟨g,j,none⟩=some u:=by
 rcases h.2 with⟨h1,h2⟩ | ⟨g,ij,gu,hv,_,hh,_,_,_,ht⟩
 ·omega
 ·injection hv with h1 h2 h3
  refine⟨g,h1,(bG.1 hh).1,λj u hu=>?_⟩;have:=h.cells (g:=g) (by rw[h1];rfl) j u hu;rw[Go.WideShapes.add_plain] at this;simpa using this
theorem Lp (w:World)(nt:Bool)(kd lt st sr:Int):
  Calls prog 93 #[.agg #[.bool nt,.int .i64 kd,.int .u8 lt,.int .i64 st,.int .i64 sr]] w λe w'=>e=.returned (.int .i64 (pw kd))/\Below w.heap.size w w':=by
 by_cases h3:kd=3
 ·have g3:(kd==3)=true:=by simp[h3]
  have HR:Hid (pw kd=1000000):=by unfold Hid pw;rw[aE h3]
  clear h3;go_enter func93,ntmps93;go_wp2;go_ret;rw[HR.out];exact⟨rfl,bo.alloc aF _⟩
 have g3:(kd==3)=false:=by simp[h3]
 by_cases h1:kd=1
 ·have g1:(kd==1)=true:=by simp[h1]
  have HR:Hid (pw kd=1):=by unfold Hid pw;rw[aA h3,aE h1]
  clear h1 h3;go_enter func93,ntmps93;go_wp2;go_ret;rw[HR.out];exact⟨rfl,bo.alloc aF _⟩
 ·have g1:(kd==1)=false:=by simp[h1]
  have HR:Hid (pw kd=1000):=by unfold Hid pw;rw[aA h3,aA h1]
  clear h1 h3;go_enter func93,ntmps93;go_wp2;go_ret;rw[HR.out];exact⟨rfl,bo.alloc aF _⟩
def VW (w:World)(n:Nat)(e:Ending)(w':World):Prop:=e=.returned (.int .i64 n)/\Below w.heap.size w w'
theorem Kn (w:World)(aB:Nat)(sg:Int)(ty:Nat)(a:Option Addr)(c:Nat)(ks:List PPt)(ps:List Value)(ho:w.ownsRow aB 151 5 (.slice a ks.length c) ks.length ps)(hk:Kinds ps ks)(hl:ks.length<=400):
  Calls prog 56 #[.agg #[.int .u8 sg,.int .u8 ty,.slice a ks.length c]] w λe w'=>VW w (cw ty ks) e w':=by
 have HO:=bZ ho hk;clear ho hk;go_enter func56,ntmps56;go_upto_if 8 with fail
 go_cut [3] (λsv wc=>sv=.int .i64 ((if ty=0 then 0 else 1:Nat):Int)/\wc=w.alloc (.cells #[.int .u8 sg,.int .u8 ty,.slice a ks.length c] 115))
 case first=>
  by_cases h0:ty=0
  ·have g0:((ty:Int) != 0)=false:=by simp[h0]
   have H0:=aw h0;clear h0;go_wp2;go_meet
   case rel=>exact⟨by rw[aE H0.out];rfl,rfl⟩
  ·have g0:((ty:Int) != 0)=true:=by simp;omega
   have H0:=aw h0;clear h0;go_wp2;go_meet
   case rel=>exact⟨by rw[aA H0.out];rfl,rfl⟩
 case rest=>
  obtain⟨rfl,rfl⟩:=hcut;have adN:(if ty=0 then 0 else 1:Nat)<=1:=by split<;>omega
  have HT:Hid (∀n,cw ty ks=n↔(if ty=0 then 0 else 1:Nat)+F0 ks=n):=λn=>Iff.rfl;generalize (if ty=0 then 0 else 1:Nat)=t0 at adN HT;go_wp2_with fail
  go_loopg [3,12] ks.length (λgk sv iv wr=>∃i:Nat,iv=.int .i64 i/\i<=ks.length/\ks.length - i<=gk/\sv=.int .i64 ((t0+F0 (ks.take i):Nat):Int)/\Below w.heap.size w wr)
  case atStart=>exact⟨0,rfl,bm,by omega,by simp[F0],bo.alloc aF _⟩
  case round=>
   obtain⟨i,rfl,hi,fT,rfl,hB⟩:=hrel
   by_cases bc:i<ks.length
   ·have hd:decide ((i:Int)<(ks.length:Int))=true:=by simp;omega
    obtain⟨g,hg,di,hc⟩:=aX HO.out.1 (by omega);subst hg;obtain⟨e0,e1,e2,e3,e4⟩:=pF HO.out.2 bc;have c0:=(hB.cell (p:=⟨g,i*5,none⟩) di).trans (hc _ _ e0);have c1:=(hB.cell (p:=⟨g,i*5+1,none⟩) di).trans (hc _ _ e1);have c2:=(hB.cell (p:=⟨g,i*5+2,none⟩) di).trans (hc _ _ e2);have c3:=(hB.cell (p:=⟨g,i*5+3,none⟩) di).trans (hc _ _ e3);have c4:=(hB.cell (p:=⟨g,i*5+4,none⟩) di).trans (hc _ _ e4);have HP:=aw (Qt bc);have mS:=EI ks i;have oW:=Qr ks[i].kd;clear e0 e1 e2 e3 e4 hc;generalize ks[i].kd=kd at c1 HP oW;generalize ks[i].nt=nt at c0;generalize ks[i].lt=lt at c2;generalize ks[i].st=st at c3;generalize ks[i].sr=sr at c4;generalize F0 (ks.take i)=p0 at HP mS;go_wp2_with fail;refine(Lp _ nt kd lt st sr).mono ?_;rintro e w2 ⟨rfl,hb⟩;generalize pw kd=p1 at HP oW;have dk:Below w.heap.size w w2:=(hB.alloc hB.size _).trans (hb.mono (by have:=hB.size;simp;omega));clear c0 c1 c2 c3 c4 hb;go_wp2;go_roundg (ks.length - (i+1))
    case measure=>omega
    case rel=>exact⟨i+1,by go_num,by omega,aF,by rw[HP.out];congr 1;omega,dk⟩
   ·have hd:decide ((i:Int)<(ks.length:Int))=false:=by simp;omega
    obtain rfl:i=ks.length:=by omega
    go_wp2;go_ret;refine⟨?_,hB⟩;rw[(HT.out (t0+F0 ks)).2 rfl,List.take_length];rfl
end
section
variable {d i ae:Nat}{br:Bool}{hp:Option Addr}{n:Int}{vL vT:Value}{w:World}
structure REl where
 blk:Nat
 num:Nat
 kids:List Nat
 kd:ByteArray
 cl:ByteArray
 nm:ByteArray
 ks:Value
 sh:Bool
def REl.cells (e:REl):Array Value:=#[.int .i64 e.num,.string e.kd,.string e.cl,.string e.nm,e.ks,.bool e.sh]
structure RD (w:World)(d:Nat)(els:List REl)(made:Nat)(hp:Option Addr)(vT:Value)(br:Bool)(vL:Value):Prop where
 doc:w.heap[d]?=some (.cells #[.pointer hp,vL,.int .i64 made,vT,.bool br] 52 (0,0))
 row:w.ownsRow 0 88 1 vL els.length (els.map λe=>.pointer (some ⟨e.blk,0,none⟩))
 el:∀e∈els,w.heap[e.blk]?=some (.cells e.cells 93 (0,0))
 kid:∀e∈els,w.ownsRow 0 3 1 e.ks e.kids.length (e.kids.map λk:Nat=>.int .i64 (k:Int))
 few:els.length<=24
 kfew:∀e∈els,e.kids.length<=24
theorem RD.c1 {aa:List REl}(h:RD w d aa ae hp vT br vL):w.cell? ⟨d,1,none⟩=some vL:=au h.doc rfl
theorem RD.shape {aa:List REl}(h:RD w d aa ae hp vT br vL):∃a c,vL=.slice a aa.length c:=aK h.row
theorem RD.at' {aa:List REl}{a:Option Addr}{c:Nat}(h:RD w d aa ae hp vT br (.slice a aa.length c))(hi:i<aa.length):
  ∃g,a=some ⟨g,0,none⟩/\w.cell? ⟨g,i,none⟩=some (.pointer (some ⟨aa[i].blk,0,none⟩)):=by
 obtain⟨g,hg,_,hc⟩:=aX h.row (by omega);exact⟨g,hg,hc i _ (by simp[hi])⟩
theorem eZ {e:REl}(h:w.heap[e.blk]?=some (.cells e.cells 93 (0,0))):w.cell? ⟨e.blk,0,none⟩=some (.int .i64 e.num)/\w.cell? ⟨e.blk,4,none⟩=some e.ks:=⟨au h rfl,au h rfl⟩
def bR (aa:List REl)(n:Int):Option REl:=aa.find? λe=>decide ((e.num:Int)=n)
def fk (o:Option REl):Value:=.pointer (o.map λe=>⟨e.blk,0,none⟩)
theorem Ku {aa:List REl}(hi:i<aa.length)(ol:∀j (hj:j<aa.length),j<i->((aa[j].num:Int)=n)->False)(h:(aa[i].num:Int)=n):bR aa n=some aa[i]:=by
 unfold bR;rw[List.find?_eq_some_iff_getElem];refine⟨by simpa using h,i,hi,rfl,λj hj=>?_⟩;have:=ol j (by omega) hj;simpa using this
theorem find_none {aa:List REl}(ol:∀j (hj:j<aa.length),((aa[j].num:Int)=n)->False):bR aa n=none:=by
 unfold bR;rw[List.find?_eq_none];intro e he;obtain⟨j,hj,rfl⟩:=List.getElem_of_mem he;simpa using ol j hj
theorem eJ (w:World)(d:Nat)(aa:List REl)(ae:Nat)(hp:Option Addr)(vT:Value)(br:Bool)(vL:Value)(n:Int)(h:RD w d aa ae hp vT br vL):
  Calls prog 28 #[.pointer (some ⟨d,0,none⟩),.int .i64 n] w λe w'=>e=.returned (fk (bR aa n))/\w'=w:=by
 obtain⟨a,c,hv⟩:=h.shape;subst hv;have d1:=h.c1;have bJ:=h.few;have HR:=aw h;clear h;go_enter func28,ntmps28;go_wp2
 go_loop [5] (λiv=>∃i:Nat,iv=.int .i64 i/\i<=aa.length/\Hid (∀j (hj:j<aa.length),j<i->((aa[j].num:Int)=n)->False)) (λiv=>aa.length - (intOf iv).toNat)
 case atStart=>exact⟨0,rfl,bm,λj hj h=>by omega⟩
 case round=>
  obtain⟨i,rfl,hi,HN⟩:=hrel
  by_cases bc:i<aa.length
  ·have hd:decide ((i:Int)<(aa.length:Int))=true:=by simp;omega
   obtain⟨g,hg,q1⟩:=HR.out.at' bc;subst hg;obtain⟨q2,_⟩:=eZ (HR.out.el aa[i] (bN bc));have HF:=aw (Ku bc HN.out);have HG:Hid (∀x,aa[i]=x->aa[i]=x):=λ_ h=>h;obtain⟨x,hx⟩:∃x,aa[i]=x:=⟨_,rfl⟩;have HX:=aw hx;rw[hx] at q1 q2;have tj:Hid ((x.num:Int)=n->bR aa n=some x):=by rw[<-hx];exact HF.out
   clear hx HG HF
   by_cases hn:(x.num:Int)=n
   ·have gn:((x.num:Int)==n)=true:=by simp[hn]
    have HE:=tj.out hn;have C2:=aw HE;clear hn HE tj;go_wp2;go_ret;rw[C2.out];exact⟨rfl,rfl⟩
   ·have gn:((x.num:Int)==n)=false:=by simp[hn]
    have fj:Hid (∀j (hj:j<aa.length),j<i+1->((aa[j].num:Int)=n)->False):=λj hj h1 h2=>by
     by_cases e:j=i
     ·subst e;rw[HX.out] at h2;exact hn h2
     ·exact HN.out j hj (by omega) h2
    clear hn tj;go_wp2
    go_round
    case rel=>exact⟨i+1,by go_num,by omega,fj⟩
    case measure=>simp[intOf];omega
  ·have hd:decide ((i:Int)<(aa.length:Int))=false:=by simp;omega
   have C2:Hid (bR aa n=none):=find_none (λj hj h=>HN.out j hj (by omega) h);go_wp2;go_ret;rw[C2.out];exact⟨rfl,rfl⟩
end
section
variable {e:REl}{aa:List REl}{n:Int}
def jt (e:REl)(n:Int):Bool:=e.kids.any λk=>decide ((k:Int)=n)
def Hh (aa:List REl)(n:Int):Option REl:=aa.find? λe=>jt e n
def bn (aa:List REl)(n:Int):Int:=match Hh aa n with | some e=>e.num | none=>-1
theorem lG:jt e n=true↔∃k∈e.kids,(k:Int)=n:=by simp[jt]
theorem WP {j:Nat}(hj:j<e.kids.length)(h:((e.kids[j]:Nat):Int)=n):jt e n=true:=lG.2 ⟨_,bN hj,h⟩
theorem WQ (h:∀j (hj:j<e.kids.length),((e.kids[j]:Nat):Int)=n->False):jt e n=false:=by
 cases hk:jt e n with
 | false=>rfl
 | true=>
  obtain⟨k,qa,gg⟩:=lG.1 hk;obtain⟨j,hj,rfl⟩:=List.getElem_of_mem qa;exact(h j hj gg).elim
theorem P8 {i:Nat}(hi:i<aa.length)(ol:∀j (hj:j<aa.length),j<i->jt aa[j] n=false)(h:jt aa[i] n=true):bn aa n=aa[i].num:=by
 have:Hh aa n=some aa[i]:=by
  unfold Hh;rw[List.find?_eq_some_iff_getElem];exact⟨h,i,hi,rfl,λj hj=>by simpa using ol j (by omega) hj⟩
 unfold bn;rw[this]
theorem P7 (ol:∀j (hj:j<aa.length),jt aa[j] n=false):bn aa n=-1:=by
 have:Hh aa n=none:=by
  unfold Hh;rw[List.find?_eq_none];intro e he;obtain⟨j,hj,rfl⟩:=List.getElem_of_mem he;simpa using ol j hj
 unfold bn;rw[this]
theorem gG (w:World)(d:Nat)(aa:List REl)(ae:Nat)(hp:Option Addr)(vT:Value)(br:Bool)(vL:Value)(n:Int)(h:RD w d aa ae hp vT br vL):
  Calls prog 34 #[.pointer (some ⟨d,0,none⟩),.int .i64 n] w λe w'=>e=.returned (.int .i64 (bn aa n))/\w'=w:=by
 obtain⟨a,c,hv⟩:=h.shape;subst hv;have d1:=h.c1;have bJ:=h.few;have HR:=aw h;clear h;go_enter func34,ntmps34;go_wp2
 go_loop [5] (λiv=>∃i:Nat,iv=.int .i64 i/\i<=aa.length/\Hid (∀j (hj:j<aa.length),j<i->jt aa[j] n=false)) (λiv=>aa.length - (intOf iv).toNat)
 case atStart=>exact⟨0,rfl,bm,λj hj h=>by omega⟩
 case round=>
  obtain⟨i,rfl,hi,HN⟩:=hrel
  by_cases bc:i<aa.length
  ·have hd:decide ((i:Int)<(aa.length:Int))=true:=by simp;omega
   obtain⟨g,hg,q1⟩:=HR.out.at' bc;subst hg;obtain⟨q2,q3⟩:=eZ (HR.out.el aa[i] (bN bc));have hk:=HR.out.kid aa[i] (bN bc);have hkf:=HR.out.kfew aa[i] (bN bc);obtain⟨x,hx⟩:∃x,aa[i]=x:=⟨_,rfl⟩;have HX:=aw hx;rw[hx] at q1 q2 q3 hk hkf;obtain⟨ka,kc,te⟩:=aK hk;rw[te] at q3 hk;have HK:=aw hk;clear hx hk te;go_wp2
   go_loop [6] (λjv=>∃j:Nat,jv=.int .i64 j/\j<=x.kids.length/\Hid (∀t (ht:t<x.kids.length),t<j->((x.kids[t]:Nat):Int)=n->False)) (λjv=>x.kids.length - (intOf jv).toNat)
   case atStart=>exact⟨0,rfl,bm,λt ht h=>by omega⟩
   case round=>
    obtain⟨j,rfl,hj,HJ⟩:=hrel
    by_cases FR:j<x.kids.length
    ·have iC:decide ((j:Int)<(x.kids.length:Int))=true:=by simp;omega
     obtain⟨g2,iD,_,zf⟩:=aX HK.out (by omega);subst iD;have q4:=zf j (.int .i64 ((x.kids[j]:Nat):Int)) (by simp[FR])
     by_cases hn:((x.kids[j]:Nat):Int)=n
     ·have HE:Hid (bn aa n=x.num):=by
       unfold Hid;rw[<-HX.out];exact P8 bc HN.out (by rw[HX.out];exact WP FR hn)
      have gn:(((x.kids[j]:Nat):Int)==n)=true:=by simp[hn]
      clear hn zf;go_wp2;go_ret;rw[HE.out];exact⟨rfl,rfl⟩
     ·have gn:(((x.kids[j]:Nat):Int)==n)=false:=by simp[hn]
      have ry:Hid (∀t (ht:t<x.kids.length),t<j+1->((x.kids[t]:Nat):Int)=n->False):=λt ht h1 h2=>by
       by_cases e:t=j
       ·subst e;exact hn h2
       ·exact HJ.out t ht (by omega) h2
      clear hn zf;go_wp2
      go_round
      case rel=>exact⟨j+1,by go_num,by omega,ry⟩
      case measure=>simp[intOf];omega
    ·have iC:decide ((j:Int)<(x.kids.length:Int))=false:=by simp;omega
     have fj:Hid (∀t (ht:t<aa.length),t<i+1->jt aa[t] n=false):=λt ht h1=>by
      by_cases e:t=i
      ·subst e;rw[HX.out];exact WQ (λu hu h=>HJ.out u hu (by omega) h)
      ·exact HN.out t ht (by omega)
     go_wp2
     go_round
     case rel=>exact⟨i+1,by go_num,by omega,fj⟩
     case measure=>simp[intOf];omega
  ·have hd:decide ((i:Int)<(aa.length:Int))=false:=by simp;omega
   have HE:Hid (bn aa n=-1):=P7 (λj hj=>HN.out j hj (by omega));go_wp2;go_ret;rw[HE.out];exact⟨rfl,rfl⟩
def up (aa:List REl):Nat->Int->Int
 | 0,n=>n
 | k+1,n=>up aa k (bn aa n)
def rN (aa:List REl)(rk:Nat->Nat):Prop:=∀e∈aa,∀k∈e.kids,rk e.num<rk k
def oJ (aa:List REl)(a n:Int):Prop:=0<=a/\∃k,up aa k n=a
theorem Ib (aa:List REl)(n:Int):∀(t k:Nat),up aa (t+k) n=up aa k (up aa t n)
 | 0,k=>by rw[Nat.zero_add];rfl
 | t+1,k=>by
  rw[show t+1+k=(t+k)+1 from by omega];exact Ib aa (bn aa n) t k
theorem T0 {t:Nat}:up aa (t+1) n=bn aa (up aa t n):=by rw[Ib];rfl
def Kb (aa:List REl)(a n:Int)(w:World)(e:Ending)(w':World):Prop:=∃b:Bool,e=.returned (.bool b)/\w'=w/\Hid (b=true↔oJ aa a n)
theorem qh (aa:List REl)(n:Int):bn aa n=-1∨∃e∈aa,jt e n=true/\bn aa n=e.num:=by
 unfold bn;cases h:Hh aa n with
 | none=>exact ax rfl
 | some e=>exact az ⟨e,List.mem_of_find?_eq_some h,List.find?_some (p:=λe=>jt e n) h,rfl⟩
theorem Xa (hn:n<0):∀k,up aa k n<0:=by
 have hp:bn aa n=-1:=by
  rcases qh aa n with h | ⟨e,_,h,_⟩
  ·exact h
  ·obtain⟨k,_,hk⟩:=lG.1 h;omega
 intro k;cases k with
 | zero=>exact hn
 | succ k=>
  show up aa k (bn aa n)<0;rw[hp];clear hp
  have hp1:bn aa (-1)=-1:=by
   rcases qh aa (-1) with h | ⟨e,_,h,_⟩
   ·exact h
   ·obtain⟨k,_,hk⟩:=lG.1 h;omega
  induction k with
  | zero=>show(-1:Int)<0;omega
  | succ k ih=>show up aa k (bn aa (-1))<0;rw[hp1];exact ih
theorem nR (w:World)(d:Nat)(aa:List REl)(ae:Nat)(hp:Option Addr)(vT:Value)(br:Bool)(vL:Value)(a n:Int)(h:RD w d aa ae hp vT br vL)(rk:Nat->Nat)(hr:rN aa rk):
  Calls prog 113 #[.pointer (some ⟨d,0,none⟩),.int .i64 a,.int .i64 n] w λe w'=>Kb aa a n w e w':=by
 have HR:=aw h;have HK:=aw hr;clear h hr;go_enter func113,ntmps113;go_wp2_with fail
 go_loopg [7] (rk n.toNat+1) (λgk nv wr=>∃m:Int,nv=.int .i64 m/\wr=w/\(0<=m->rk m.toNat<gk)/\Hid (∃t,up aa t n=m/\∀j,j<t->up aa j n≠a))
 case atStart=>exact⟨n,rfl,rfl,λ_=>by omega,⟨0,rfl,λj hj=>by omega⟩⟩
 case round=>
  obtain⟨m,rfl,rfl,fT,HT⟩:=hrel
  by_cases hm:0<=m
  ·have hd:decide (0<=m)=true:=by simpa using hm
   have SW:=fT hm;clear fT
   by_cases he:m=a
   ·have ge:(m==a)=true:=by simp[he]
    have HU:Hid (oJ aa a n):=by
     obtain⟨t,h1,_⟩:=HT.out;exact⟨by omega,t,by omega⟩
    clear he;go_wp2;go_ret;exact⟨true,rfl,rfl,λ_=>HU.out,λ_=>rfl⟩
   ·have ge:(m==a)=false:=by simp[he]
    have oR:Hid (∃t,up aa t n=bn aa m/\∀j,j<t->up aa j n≠a):=by
     obtain⟨t,h1,h2⟩:=HT.out;refine⟨t+1,by rw[T0,h1],λj hj=>?_⟩
     by_cases e:j=t
     ·subst e;rw[h1];exact he
     ·exact h2 j (by omega)
    have fJ:0<=bn aa m->rk (bn aa m).toNat<rk m.toNat:=by
     intro h0;rcases qh aa m with h | ⟨e,h1,h2,h3⟩
     ·omega
     ·obtain⟨k,qa,gg⟩:=lG.1 h2;rw[h3];have:=HK.out e h1 k qa;have e1:((e.num:Int)).toNat=e.num:=by omega
      have e2:m.toNat=k:=by omega
      rw[e1,e2];exact this
    have tl:=aw fJ;clear he fJ;go_wp2_with fail;refine(gG _ d aa ae hp vT br vL m HR.out).mono ?_;rintro e w2 ⟨rfl,rfl⟩;generalize bn aa m=m2 at oR tl;go_wp2;go_roundg (rk m.toNat)
    case measure=>omega
    case rel=>exact⟨m2,rfl,rfl,tl.out,oR⟩
  ·have hd:decide (0<=m)=false:=by simpa using hm
   have HU:Hid (¬oJ aa a n):=by
    obtain⟨t,h1,h2⟩:=HT.out;rintro⟨ha,k,hk⟩
    by_cases e:k<t
    ·exact h2 k e hk
    ·have:up aa k n=up aa (k - t) m:=by rw[<-h1,<-Ib,show t+(k - t)=k from by omega]
     rw[this] at hk;have:=Xa (aa:=aa) (n:=m) (by omega) (k - t);omega
   go_wp2;go_ret;exact⟨false,rfl,rfl,λh=>(by cases h),λh=>(HU.out h).elim⟩
end
theorem Tryz.info3:(Tryz.prog.info? 3).map (λi=>(i.zero,i.size,i.bytes))=some (some (.int .i64 0),1,8):=by kernel_rfl
def aQ (s:ByteArray):Bool:=decide (s.size=1)&&gN (bt s 0)
theorem om (w:World)(s:ByteArray):Calls prog 60 #[.string s] w λe w'=>e=.returned (.bool (aQ s))/\w'=w:=by
 by_cases h1:s.size=1
 ·have g1:((s.size:Int)==1)=true:=by simp[h1]
  have h0:0<s.size:=by omega
  have hb:(bt s 0:Int)=(s[0].toNat:Int):=by rw[bV s 0 h0]
  by_cases h2:(97:Int)<=bt s 0
  ·by_cases h3:(bt s 0:Int)<=122
   ·have HR:Hid (aQ s=true):=by unfold Hid aQ gN;simp only[h1,decide_true,Bool.true_and,bO];omega
    rw[hb] at h2 h3;clear hb h1;go_enter func60,ntmps60;go_wp2;go_ret;rw[HR.out];exact⟨by simp,rfl⟩
   ·have HR:Hid (aQ s=false):=by unfold Hid aQ gN;simp only[h1,decide_true,Bool.true_and,ii];omega
    rw[hb] at h2 h3;have hd:decide ((s[0].toNat:Int)<=122)=false:=by simpa using h3
    clear hb h1;go_enter func60,ntmps60;go_wp2;go_ret;rw[HR.out];exact⟨by simp,rfl⟩
  ·have HR:Hid (aQ s=false):=by unfold Hid aQ gN;simp only[h1,decide_true,Bool.true_and,ii];omega
   rw[hb] at h2;have hd:decide ((97:Int)<=(s[0].toNat:Int))=false:=by simpa using h2
   clear hb h1;go_enter func60,ntmps60;go_wp2;go_ret;rw[HR.out];exact⟨by simp,rfl⟩
 ·have g1:((s.size:Int)==1)=false:=by simp;omega
  have HR:Hid (aQ s=false):=by unfold Hid aQ;simp only[h1,decide_false,Bool.false_and]
  clear h1;go_enter func60,ntmps60;go_wp2;go_ret;rw[HR.out];exact⟨by simp,rfl⟩
abbrev bq (l:List Nat):List Value:=l.map λk:Nat=>.int .i64 (k:Int)
theorem sj (l:List Nat):∀u∈bq l,u.oneCell'=true:=by
 intro u hu;obtain⟨k,_,rfl⟩:=bx.1 hu;rfl
def wl (w:World)(l:List Nat)(e:Ending)(w':World):Prop:=∃(a:Option Addr) (c:Nat),e=.returned (.slice a l.length c)/\w'.ownsRow w.heap.size 3 1 (.slice a l.length c) l.length (bq l)/\Below w.heap.size w w'
def aG (n:Int)(l:List Nat):List Nat:=l.filter λk:Nat=>decide ((k:Int)≠n)
theorem uK {l:List Nat}{i:Nat}(h:i<l.length)(n:Int):aG n (l.take (i+1))=aG n (l.take i)++if((l[i]:Nat):Int)=n then[] else[l[i]]:=by
 unfold aG;rw[gj h,List.filter_append]
 congr 1
 by_cases e:((l[i]:Nat):Int)=n<;>simp[e]
theorem lL (n:Int)(l:List Nat):(aG n l).length<=l.length:=List.length_filter_le _ _
theorem xI (w:World)(a:Option Addr)(c:Nat)(l:List Nat)(n:Int)(aB:Nat)(ho:w.ownsRow aB 3 1 (.slice a l.length c) l.length (bq l))(hl:l.length<=24):
  Calls prog 114 #[.slice a l.length c,.int .i64 n] w λe w'=>wl w (aG n l) e w':=by
 obtain⟨i0,hi,gP,gQ,gR⟩:=info_parts Tryz.info3;have HO:=aw ho;clear ho;go_enter func114,ntmps114;go_wp2_with fail
 go_loopg [5,6] l.length (λgk v iv wr=>∃i:Nat,iv=.int .i64 i/\i<=l.length/\l.length - i<=gk/\wr.ownsRow w.heap.size 3 1 v (aG n (l.take i)).length (bq (aG n (l.take i)))/\Below w.heap.size w wr)
 case atStart=>exact⟨0,rfl,bm,by omega,eB,bo⟩
 case round=>
  obtain⟨i,rfl,jQ,fT,bS,hB⟩:=hrel;obtain⟨a2,c2,hv⟩:=aK bS;subst hv
  by_cases bc:i<l.length
  ·have hd:decide ((i:Int)<(l.length:Int))=true:=by simp;omega
   obtain⟨g,hg,di,hc⟩:=aX HO.out (by omega);subst hg;have q:=(hB.cell (p:=⟨g,i,none⟩) di).trans (hc i (.int .i64 ((l[i]:Nat):Int)) (by simp[bc]))
   have uB:(aG n (l.take i)).length<=24:=by
    have:=lL n (l.take i);have:(l.take i).length<=l.length:=List.length_take_le' _ _;omega
   have HT:=aw (uK bc n);clear hc;generalize aG n (l.take i)=f at bS uB HT;generalize l[i]=y at q HT
   by_cases hn:(y:Int)=n
   ·have gn:((y:Int) != n)=false:=by simp[hn]
    have oR:Hid (aG n (l.take (i+1))=f):=by unfold Hid;rw[HT.out,aE hn];simp
    have HW:=aw bS;clear hn HT bS;go_wp2;go_roundg (l.length - (i+1))
    case measure=>omega
    case rel=>exact⟨i+1,by go_num,by omega,aF,by rw[oR.out];exact HW.out,hB⟩
   ·have gn:((y:Int) != n)=true:=by simp[hn]
    have oR:Hid (aG n (l.take (i+1))=f++[y]):=by unfold Hid;rw[HT.out,aA hn]
    have hz:=hB.size;clear hn HT;go_wp2_with (at_builtin;refine wpList_append_own _ rfl (.tmp 19) (.tmp 24) 28 rfl w.heap.size 3 i0 (.int .i64 0) 1 8 underlying28 hi gP gQ gR rfl (by decide) _ _ _ rfl (bS.alloc _) ⟨wr.heap.size,0,none⟩ 1 1 [.int .i64 (y:Int)] rfl rfl ?c1 ?c2 ?c3 ?c4 ?c5 ?_)
    case c1=>exact bg wr _ rfl _ _ _ rfl
    case c2=>intro u hu;simp at hu;subst hu;rfl
    case c3=>unfold maxLen;omega
    case c4=>omega
    case c5=>simp;omega
    ·intro v' w3 cj fB _;have bH:w3.ownsRow w.heap.size 3 1 v' (f++[y]).length (bq (f++[y])):=by simpa[bq] using cj
     have fA:Below w.heap.size w w3:=(hB.alloc hz _).grown fB (by simp;omega) (λk hk=>(bS.lt k hk).1);clear cj fB bS q;go_wp2;go_roundg (l.length - (i+1))
     case measure=>omega
     case rel=>exact⟨i+1,by go_num,by omega,aF,by rw[oR.out];exact bH,fA⟩
  ·have hd:decide ((i:Int)<(l.length:Int))=false:=by simp;omega
   obtain rfl:i=l.length:=by omega
   rw[List.take_length] at bS;have HW:=aw bS;rw[List.take_length];clear bS;go_wp2;go_ret;exact⟨a2,c2,rfl,HW.out,hB⟩
def dp (l:List Nat)(k v:Nat):List Nat:=l.take k++[v]++l.drop k
theorem zo (w:World)(g c:Nat)(l1 l2:List Nat)(v:Nat)(aB:Nat)(ho:w.ownsRow aB 3 1 (.slice (some ⟨g,0,none⟩) (l1.length+l2.length) c) (l1.length+l2.length) (bq (l1++l2)))(hl:l1.length+l2.length<=24):
  Calls prog 107 #[.slice (some ⟨g,0,none⟩) (l1.length+l2.length) c,.int .i64 l1.length,.int .i64 v] w λe w'=>wl w (l1++[v]++l2) e w':=by
 obtain⟨i0,hi,gP,gQ,gR⟩:=info_parts Tryz.info3
 have KK:l1.length+l2.length<=c:=by
  rcases ho.2 with⟨h,_⟩ | ⟨_,_,_,h,_,_,h2,_⟩
  ·injection h with h;cases h
  ·injection h with _ _ h3;omega
 have lX:c<=maxLen:=by
  rcases ho.2 with⟨h,_⟩ | ⟨_,_,_,h,_,_,_,h2,_⟩
  ·injection h with h;cases h
  ·injection h with _ _ h3;rw[h3];exact h2
 unfold maxLen at lX;have di:g<w.heap.size:=(ho.lt g rfl).2
 have HS:Hid (∀(w2:World),Below w.heap.size w w2->(∀j u,(bq l1)[j]?=some u->w2.cell? ((⟨g,0,none⟩:Addr).add j)=some u)/\(∀j u,(bq l2)[j]?=some u->w2.cell? ((⟨g,l1.length,none⟩:Addr).add j)=some u)):=λw2 hb=>by
  have aa4:∀j u,(bq (l1++l2))[j]?=some u->w2.cell? ⟨g,j,none⟩=some u:=λj u hu=>by
   have h1:=ho.cells (g:=g) rfl j u hu;rw[Go.WideShapes.add_plain,Nat.zero_add] at h1;exact(hb.cell (p:=⟨g,j,none⟩) di).trans h1
  constructor
  ·intro j u hu;rw[Go.WideShapes.add_plain,Nat.zero_add];refine aa4 j u ?_;have hj:=(ee.1 hu).1;rw[show bq (l1++l2)=bq l1++bq l2 from by simp[bq],List.getElem?_append_left hj];exact hu
  ·intro j u hu;rw[Go.WideShapes.add_plain];refine aa4 _ u ?_;rw[show bq (l1++l2)=bq l1++bq l2 from by simp[bq],List.getElem?_append_right (by simp[bq])];simpa[bq] using hu
 clear ho;go_enter func107,ntmps107;go_wp2_with (at_builtin;refine wpList_append_own _ rfl (.tmp 8) (.tmp 11) 28 rfl w.heap.size 3 i0 (.int .i64 0) 1 8 underlying28 hi gP gQ gR rfl (by decide) _ _ _ rfl eB ⟨g,0,none⟩ l1.length c (bq l1) rfl (by simp[bq]) (HS.out w bo).1 (sj _) ?c3 ?c4 ?c5 ?_)
 case c3=>unfold maxLen;omega
 case c4=>omega
 case c5=>exact aF
 ·intro v1 w1 D8 D2 _;have pJ:w1.ownsRow w.heap.size 3 1 v1 l1.length (bq l1):=by simpa using D8
  have cH:Below w.heap.size w w1:=bo.grown D2 aF (λk hk=>by simp[Value.ownBlock] at hk);obtain⟨a1,c1,I1⟩:=aK pJ;subst I1;clear D8 D2;have gA:=cH.size;go_wp2_with (at_builtin;refine wpList_append_own _ rfl (.tmp 13) (.tmp 15) 28 rfl w.heap.size 3 i0 (.int .i64 0) 1 8 underlying28 hi gP gQ gR rfl (by decide) _ _ _ rfl (pJ.alloc _) ⟨w1.heap.size,0,none⟩ 1 1 [.int .i64 (v:Int)] rfl rfl ?d1 ?d2 ?d3 ?d4 ?d5 ?_)
  case d1=>exact bg w1 _ rfl _ _ _ rfl
  case d2=>intro u hu;simp at hu;subst hu;rfl
  case d3=>unfold maxLen;omega
  case d4=>omega
  case d5=>simp;omega
  ·intro v2 w2 pA iD _;have dy:w2.ownsRow w.heap.size 3 1 v2 (l1.length+1) (bq (l1++[v])):=by simpa[bq] using pA
   have dk:Below w.heap.size w w2:=(cH.alloc gA _).grown iD (by simp;omega) (λk hk=>(pJ.lt k hk).1);obtain⟨a2,c2,jJ⟩:=aK dy;subst jJ;have oS:=dk.size;clear pA iD
   by_cases Ro:c=l1.length
   ·have aef:l2=[]:=List.eq_nil_of_length_eq_zero (by omega);subst aef;obtain rfl:=Ro;go_wp2_with (at_builtin;refine wpList_append_own _ rfl (.tmp 17) (.tmp 20) 28 rfl w.heap.size 3 i0 (.int .i64 0) 1 8 underlying28 hi gP gQ gR rfl (by decide) _ _ _ rfl dy ⟨g,0,none⟩ 0 0 [] rfl rfl (λj u hu=>by simp at hu) (λu hu=>by cases hu) ?e3 ?e4 ?e5 ?_)
    case e3=>unfold maxLen;omega
    case e4=>omega
    case e5=>omega
    ·intro v3 w3 cj fB _;have bH:w3.ownsRow w.heap.size 3 1 v3 (l1++[v]++[]).length (bq (l1++[v]++[])):=by simpa[bq] using cj
     have fA:Below w.heap.size w w3:=dk.grown fB (by omega) (λk hk=>(dy.lt k hk).1);obtain⟨a3,c3,zm⟩:=aK bH;subst zm;have MB:=aw bH;clear cj fB bH;go_wp2;go_ret;exact⟨a3,c3,rfl,MB.out,fA⟩
   ·go_wp2_with (at_builtin;refine wpList_append_own _ rfl (.tmp 17) (.tmp 20) 28 rfl w.heap.size 3 i0 (.int .i64 0) 1 8 underlying28 hi gP gQ gR rfl (by decide) _ _ _ rfl dy ⟨g,l1.length,none⟩ l2.length (c - l1.length) (bq l2) ?f1 (by simp[bq]) (HS.out w2 dk).2 (sj _) ?f3 ?f4 ?f5 ?_)
    case f1=>simp[Act.eval]
    case f3=>unfold maxLen;omega
    case f4=>omega
    case f5=>omega
    ·intro v3 w3 cj fB _;have bH:w3.ownsRow w.heap.size 3 1 v3 (l1++[v]++l2).length (bq (l1++[v]++l2)):=by simpa[bq,Nat.add_assoc,Nat.add_comm,Nat.add_left_comm] using cj
     have fA:Below w.heap.size w w3:=dk.grown fB (by omega) (λk hk=>(dy.lt k hk).1);obtain⟨a3,c3,zm⟩:=aK bH;subst zm;have MB:=aw bH;clear cj fB bH;go_wp2;go_ret;exact⟨a3,c3,rfl,MB.out,fA⟩
theorem sE (v:Nat):∀u∈[Value.int .i64 (v:Int)],u.oneCell'=true:=by
 intro u hu;simp at hu;subst hu;rfl
theorem B7 (w:World)(v:Nat):
  Calls prog 107 #[.slice none 0 0,.int .i64 0,.int .i64 v] w λe w'=>wl w [v] e w':=by
 obtain⟨i0,hi,gP,gQ,gR⟩:=info_parts Tryz.info3;go_enter func107,ntmps107;go_wp2_with (first | (at_builtin;refine wpList_append_own_none rfl (.tmp 8) (.tmp 11) 28 rfl w.heap.size 3 i0 1 underlying28 hi _ _ _ rfl eB rfl ?_) | (at_builtin;refine wpList_append_own _ rfl (.tmp 13) (.tmp 15) 28 rfl w.heap.size 3 i0 (.int .i64 0) 1 8 underlying28 hi gP gQ gR rfl (by decide) _ _ _ rfl eB ⟨w.heap.size,0,none⟩ 1 1 [.int .i64 (v:Int)] rfl rfl (bg w _ rfl _ _ _ rfl) (sE v) (by unfold maxLen;omega) (by omega) (by simp) ?_))
 ·intro v2 w2 pA iD _;have dy:w2.ownsRow w.heap.size 3 1 v2 1 (bq [v]):=by simpa[bq] using pA
  have dk:Below w.heap.size w w2:=(bo.alloc aF _).grown iD (by simp) (λk hk=>by simp[Value.ownBlock] at hk);obtain⟨a2,c2,jJ⟩:=aK dy;subst jJ;have Rc:=aw dy;clear pA iD;go_wp2_with (at_builtin;refine wpList_append_own_none rfl (.tmp 17) (.tmp 20) 28 rfl w.heap.size 3 i0 1 underlying28 hi _ _ _ rfl dy rfl ?_);go_wp2;go_ret;exact⟨a2,c2,rfl,Rc.out,dk⟩
theorem si (w:World)(a:Option Addr)(c:Nat)(l:List Nat)(k v:Nat)(aB:Nat)(ho:w.ownsRow aB 3 1 (.slice a l.length c) l.length (bq l))(hl:l.length<=24)(hk:k<=l.length):
  Calls prog 107 #[.slice a l.length c,.int .i64 k,.int .i64 v] w λe w'=>wl w (dp l k v) e w':=by
 by_cases h0:a=none
 ·subst h0
  have hn:l=[]/\c=0:=by
   rcases ho.2 with⟨h,h2⟩ | ⟨_,_,_,h,_⟩
   ·injection h with _ h3 h4;exact⟨List.eq_nil_of_length_eq_zero h2,h4⟩
   ·injection h with h;cases h
  obtain⟨rfl,rfl⟩:=hn;obtain rfl:k=0:=by simpa using hk
  exact B7 w v
 ·obtain⟨g,rfl⟩:∃g,a=some ⟨g,0,none⟩:=by
   rcases ho.2 with⟨h,_⟩ | ⟨g,_,_,h,_⟩
   ·injection h with h;exact absurd h h0
   ·injection h with h;exact⟨g,h⟩
  have e1:(l.take k).length=k:=by simp;omega
  have e2:(l.take k).length+(l.drop k).length=l.length:=by rw[<-List.length_append,List.take_append_drop]
  have:=zo w g c (l.take k) (l.drop k) v aB (by rw[e2,List.take_append_drop];exact ho) (by omega);rw[e2,e1] at this;exact this
section
variable {P:Program}
theorem kP (w:World)(aB:Nat)(t ty e:TypeId)(i:TypeInfo)(z:Value)(size bytes:Nat)(ht:P.underlying t=some (.slice e))(hi:P.info? e=some i)(hz:i.zero=some z)
  (mm:i.size=size) (Rm:i.bytes=bytes) (UZ:z.cells.size=size) (il:0<size) (v:Value) (n:Nat) (xs:List Value) (bS:w.ownsRow aB e size v n xs)
  (a:Addr) (m c:Nat) (kb:List Value) (hl:kb.length=m*size) (qC:∀j u,kb[j]?=some u->w.cell? (a.add j)=some u) (h1:∀u∈kb,u.oneCell'=true)
  (Rl:n+m<=maxLen) (mJ:(n+m)*bytes<=140737488355328) (xt:aB<=w.heap.size) :
  ∃v' w',(Builtin.append_ #[t,t] ty #[v,.slice (some a) m c]).run P w=.ok v' w'/\w'.ownsRow aB e size v' (n+m) (xs++kb)/\w.grownBy w' v.ownBlock/\∀j,v'.ownBlock=some j->v.ownBlock=some j∨w.heap.size<=j:=by
 obtain⟨v',w',hr,h2,h3,_⟩:=run_append_own (P:=P) w aB t ty e i z size bytes ht hi hz mm Rm UZ il v n xs bS a m c kb hl qC h1 Rl mJ xt;refine⟨v',w',hr,h2,h3,?_⟩;rcases bS.2 with⟨rfl,rfl⟩ | ⟨g,ij,gu,rfl,hbg,hg,hnc,IS,kr,htake⟩
 ·have hx:xs=[]:=List.eq_nil_of_length_eq_zero (by simpa using bS.1);subst hx;obtain⟨v2,w2,Ea,h22,_,_⟩:=run_append_own (P:=P) w w.heap.size t ty e i z size bytes ht hi hz mm Rm UZ il (.slice none 0 0) 0 [] eB a m c kb hl qC h1 Rl mJ aF;rw[hr] at Ea;injection Ea with e1 e2
  subst e1 e2;exact λj hj=>az (h22.lt j hj).1
 ·subst mm Rm
  by_cases hroom:n+m<=ij
  ·have O1:n*i.size+kb.length<=gu.size:=by rw[hl,kr,<-Nat.add_mul];exact Nat.mul_le_mul_right _ hroom
   have Ea:=run_append_room (P:=P) w t ty e i ht hi g n ij gu hg a m c kb hl qC h1 hroom O1;rw[hr] at Ea;injection Ea with e1 _
   subst e1;exact λj hj=>ax (by simpa[Value.ownBlock] using hj)
  ·have Pc:∀j u,xs[j]?=some u->w.cell? ((⟨g,0,none⟩:Addr).add j)=some u:=bS.cells (g:=g) rfl;have Wb:((n+m:Nat):Int)<=9223372036854775807:=by unfold maxLen at Rl;omega
   have Ea:=run_append_grow (P:=P) w t ty e i z ht hi hz ⟨g,0,none⟩ n ij xs bS.1 Pc a m c kb hl qC (by omega) Wb (growslice_fits (by omega) mJ);rw[hr] at Ea;injection Ea with e1 _
   subst e1;refine λj hj=>az ?_;simp[Value.ownBlock] at hj;omega
theorem ff (w:World){Cj:Array Oper}{rest:List Oper}{o:Oper}{a:Act}{Q:Exit->Act->World->Prop}(hgd:o.guard=none)(s x:Operand)(t:TypeId)
  (ho:o.op=.call {callee:=.builtin .append,args:=#[s,x],argTypes:=#[t,t]})
  (aB:Nat) (e:TypeId) (i:TypeInfo) (z:Value) (size bytes:Nat) (ht:P.underlying t=some (.slice e)) (hi:P.info? e=some i) (hz:i.zero=some z)
  (mm:i.size=size) (Rm:i.bytes=bytes) (UZ:z.cells.size=size) (il:0<size)
  (v:Value) (n:Nat) (xs:List Value) (hs:a.eval s=v) (bS:w.ownsRow aB e size v n xs)
  (ad:Addr) (m c:Nat) (kb:List Value) (hx:a.eval x=.slice (some ad) m c) (hl:kb.length=m*size) (qC:∀j u,kb[j]?=some u->w.cell? (ad.add j)=some u) (h1:∀u∈kb,u.oneCell'=true)
  (Rl:n+m<=maxLen) (mJ:(n+m)*bytes<=140737488355328) (xt:aB<=w.heap.size)
  (h:∀v' w',w'.ownsRow aB e size v' (n+m) (xs++kb)->w.grownBy w' v.ownBlock->Hid (∀j,v'.ownBlock=some j->v.ownBlock=some j∨w.heap.size<=j)->wpList P Cj Q rest (a.put o.dst v') w'):wpList P Cj Q (o :: rest) a w:=by
 refine wpList_plain hgd λK hK=>?_;obtain⟨v',w',G1,r1,r2,r3⟩:=kP (P:=P) w aB t o.type e i z size bytes ht hi hz mm Rm UZ il v n xs bS ad m c kb hl qC h1 Rl mJ xt;unfold Oper.wp;simp only[execOp,ho,resolve,invoke,builtin,Sem.run_bind,Sem.run_pure,Result.andThen_ok,List.map_toArray,List.map_cons,List.map_nil,hs,hx,G1];exact hK _ _ (h v' w' r1 r2 r3)
end
end Go.Proofs.YtblfffbmklkhmabGreat
