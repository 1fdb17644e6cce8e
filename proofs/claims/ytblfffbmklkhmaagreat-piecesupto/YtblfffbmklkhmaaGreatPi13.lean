/- Own work. -/
import Derived.Test.YtblfffbmklkhmaaGreatPi1
import Derived.Test.YtblfffbmklkhmaaGreatPi7
import Derived.Test.YtblfffbmklkhmaaGreatPi12
import Derived.Test.YtblfffbmklkhmaaGreatPi6
import Derived.RegionTactic
import Derived.Test.YtblfffbmklkhmaaGreatPi11
import Derived.Deep.RegionLaw
import Derived.Deep.RegionHeld3
import Derived.Test.YtblfffbmklkhmaaGreatPi10
import Derived.BigQuiet
set_option maxRecDepth 100000
set_option maxHeartbeats 40000000
namespace Go.Proofs.YtblfffbmklkhmaaGreat
open Go.RowKit Go.Proofs.Tryz
section
variable {n:Int}{s:ByteArray}
section
variable (w:World)(px:Value)(T:aJ)(made:Nat)(M:Nat->Mk)(rs:List dF)(kl:List (Int × List Int))(F:Nat->Prop)
theorem mQ {T:aJ}{l:List Nat}(h:bw T n=some l):(n.toNat,l)∈T/\n=(n.toNat:Int):=by
 obtain⟨k,rfl,hk⟩:=gj h;exact⟨by simpa using hk,by omega⟩
theorem NG (h:cf T n s=0):∃l,bw T n=some l:=by
 unfold cf at h;cases ht:bw T n with
 | none=>rw[ht] at h;cases h
 | some l=>exact⟨l,rfl⟩
theorem OV (h:ct T n s=0):∃l,bw T n=some l:=by
 unfold ct at h;cases ht:bw T n with
 | none=>rw[ht] at h;cases h
 | some l=>exact⟨l,rfl⟩
theorem GA {rs:List dF}(h:∀r∈rs,∀cs∈r.ss,∀x∈cs,∀p∈x.ps,p.fine){kd:Int}(hk:kd=2∨kd=3):dt rs kd 0=false:=by
 cases hb:dt rs kd 0 with
 | false=>rfl
 | true=>
  unfold dt at hb;obtain⟨r,hr,hb⟩:=List.any_eq_true.1 hb;obtain⟨cs,kf,hb⟩:=List.any_eq_true.1 hb;obtain⟨c,hc,hb⟩:=List.any_eq_true.1 hb;obtain⟨p,hp,hb⟩:=List.any_eq_true.1 hb;rw[Bool.and_eq_true,bF,bF] at hb;exact absurd hb.2 ((h r hr cs kf c hc p hp).2 (by rw[hb.1];exact hk))
def vk (n:Int)(s:ByteArray)(on:Bool)(e:Ending)(w':World):Prop:=
 ∃y dh,e=.returned (.int .i64 y)/\y=cf T n s/\DSk w' px T made (if y=0 then bM M n.toNat (kj (M n.toNat) s on) else M) rs dh (cJ F w)/\Fr w w' F/\DropT (λx=>dJ T n x=true/\y=0/\dt rs 2 (bt s 0)=true/\(M n.toNat).cl (bt s 0 - 97)≠on) kl dh
theorem C4 (n:Int)(s:ByteArray)(on:Bool)(h:DSk w px T made M rs kl F):Calls prog 46 #[px,.int .i64 n,.string s,.bool on] w λe w'=>vk w px T made M rs kl F n s on e w':=by
 obtain⟨b,vS,v,els,G,rfl,h2,h3,h4,h5,h6,h7⟩:=h;have HB:Hid (DM w b vS v els T made M rs kl G/\KOK T M rs kl/\F b/\(∀j,v.ownBlock=some j->F j)/\(∀j,vS.2.ownBlock=some j->F j)/\∀k,G k->F k):=⟨h2,h3,h4,h5,h6,h7⟩;clear h2 h3 h4 h5 h6 h7;go_enter func46,ntmps46;go_wp2_with fail;refine(Ps w b vS v els T made n s on HB.out.1.pb HB.out.1.tw HB.out.1.mks.2).mono ?_;rintro e w1 ⟨lt,y,bP,rfl,hy,hp,hf,fY,yM,hm⟩
 have QS:Hid (MkO bP (if y=0 then bM M n.toNat (kj (M n.toNat) s on) else M)/\(y=0->(lt=bt s 0/\(M n.toNat).cl (bt s 0 - 97)≠on)∨(lt=0/\97<=bt s 0/\(M n.toNat).cl (bt s 0 - 97)=on))/\(y≠0->lt=0)):=by
  by_cases h0:y=0
  ·have:=hm M HB.out.1.mks h0;rw[aq h0];exact⟨this.1,λ_=>this.2,yM⟩
  ·rw[aj h0,fY h0];exact⟨HB.out.1.mks,λh=>absurd h h0,yM⟩
 have jD:=ae (HB.out.1.inpl hp QS.out.1 hf);have zj:Hid (Fr w w1 F):=hf.mono (λk hk=>HB.out.2.2.2.1 k hk);have HY:=ae hy;obtain⟨ar,cr,xs,Ip,eb⟩:=jD.out.sh.row
 have q0:w1.cell? ⟨b,0,none⟩=some (.slice ar rs.length cr):=by
  have:w1.cell? ⟨b,0,none⟩=some vS.1:=aa jD.out.pb.doc rfl;rw[this,Ip]
 have Jo:=ae eb;have Wo:Hid (dt rs 2 0=false):=GA eb.fine (af rfl);clear hp hf hm fY hy eb Ip yM;go_wp2_with fail;refine(pg w1 ar cr xs rs 2 lt Jo.out).mono ?_;rintro e w2 ⟨rfl,dq⟩;have oD:=ae (jD.out.below dq);have sO:=ae (zj.out.below dq);clear dq jD zj Jo q0;cases uf:dt rs 2 lt with
 | false=>
  have HE:Hid (vk w (.pointer (some ⟨b,0,none⟩)) T made M rs kl F n s on (.returned (.int .i64 y)) w2):=by
   refine⟨y,kl,rfl,HY.out,⟨b,vS,v,bP,G,rfl,oD.out,?_,af HB.out.2.2.1,λj hj=>af (HB.out.2.2.2.1 j hj),λj hj=>af (HB.out.2.2.2.2.1 j hj),λk hk=>af (HB.out.2.2.2.2.2 k hk)⟩,sO.out,mM _ _⟩
   by_cases h0:y=0
   ·rw[aq h0];refine HB.out.2.1.cls HB.out.1.tw s on ?_;rcases QS.out.2.1 h0 with h1 | h1
    ·exact af (by rw[<-h1.1];exact uf)
    ·exact ai h1.2
   ·rw[aj h0];exact HB.out.2.1
  clear uf;go_wp2;go_ret;exact HE.out
 | true=>
  have Jm:Hid (y=0/\dt rs 2 (bt s 0)=true/\(M n.toNat).cl (bt s 0 - 97)≠on):=by
   by_cases h0:y=0
   ·rcases QS.out.2.1 h0 with h1 | h1
    ·exact⟨h0,by rw[<-h1.1];exact uf,h1.2⟩
    ·rw[h1.1,Wo.out] at uf;cases uf
   ·rw[QS.out.2.2 h0,Wo.out] at uf;cases uf
  clear uf;go_wp2_with fail;refine(jt w2 b vS v bP T made _ rs kl G n oD.out).mono ?_;rintro e w3 ⟨rfl,v2,iR,bG,jC⟩
  have HE:Hid (vk w (.pointer (some ⟨b,0,none⟩)) T made M rs kl F n s on (.returned (.int .i64 y)) w3):=by
   refine⟨y,eh (ex bP n) kl,rfl,HY.out,⟨b,(vS.1,v2),v,bP,G,rfl,iR,?_,af HB.out.2.2.1,λj hj=>af (HB.out.2.2.2.1 j hj),λj hj=>ai (Nat.le_trans sO.out.size (jC j hj)),λk hk=>af (HB.out.2.2.2.2.2 k hk)⟩,sO.out.trans (bG.mono (λk hk=>hk▸HB.out.2.2.1)),tg (λx hx=>⟨jy iR.pb.pt iR.tw hx,Jm.out⟩) _⟩
   by_cases h0:y=0
   ·rw[aq h0];obtain⟨l,hl⟩:=NG T (HY.out.symm.trans h0);obtain⟨oT,hn⟩:=mQ hl;refine HB.out.2.1.mark HB.out.1.tw oT _ (fF _ _) (λx hx j hj=>?_);obtain⟨j',lj,uQ,Fg⟩:=HB.out.2.1.els x ((fF _ _).subset hx);have:j'=j:=by omega
    subst this;rw[hn] at hx;exact mN iR.pb.pt iR.tw oT hx hj Fg
   ·rw[aj h0];exact HB.out.2.1.sub (fF _ _)
  clear iR bG jC;go_wp2;go_ret;exact HE.out
def oC (n:Int)(s:ByteArray)(e:Ending)(w':World):Prop:=
 ∃y dh,e=.returned (.int .i64 y)/\y=ct T n s/\DSk w' px T made (if y=0 then bM M n.toNat (fM (M n.toNat) s) else M) rs dh (cJ F w)/\Fr w w' F/\DropT (λx=>dJ T n x=true/\y=0/\(M n.toNat).nm≠(fM (M n.toNat) s).nm/\(dt rs 3 (M n.toNat).nm=true∨dt rs 3 (fM (M n.toNat) s).nm=true)) kl dh
theorem Da (n:Int)(s:ByteArray)(h:DSk w px T made M rs kl F):Calls prog 21 #[px,.int .i64 n,.string s] w λe w'=>oC w px T made M rs kl F n s e w':=by
 obtain⟨b,vS,v,els,G,rfl,h2,h3,h4,h5,h6,h7⟩:=h;have HB:Hid (DM w b vS v els T made M rs kl G/\KOK T M rs kl/\F b/\(∀j,v.ownBlock=some j->F j)/\(∀j,vS.2.ownBlock=some j->F j)/\∀k,G k->F k):=⟨h2,h3,h4,h5,h6,h7⟩;clear h2 h3 h4 h5 h6 h7;go_enter func21,ntmps21;go_wp2_with fail;refine(PC w b vS v els T made n s HB.out.1.pb HB.out.1.tw HB.out.1.mks.2).mono ?_;rintro e w1 ⟨gE,KA,y,bP,rfl,hy,hp,hf,fY,hm⟩
 have QS:Hid (MkO bP (if y=0 then bM M n.toNat (fM (M n.toNat) s) else M)/\(y=0->gE=(M n.toNat).nm/\KA=(fM (M n.toNat) s).nm)/\(¬y=0->gE=KA)):=by
  by_cases h0:y=0
  ·have:=hm M HB.out.1.mks h0;rw[aq h0];exact⟨this.1,λ_=>this.2,λh=>absurd h0 h⟩
  ·rw[aj h0,(fY h0).1];exact⟨HB.out.1.mks,λh=>absurd h h0,λ_=>(fY h0).2⟩
 have jD:=ae (HB.out.1.inpl hp QS.out.1 hf);have zj:Hid (Fr w w1 F):=hf.mono (λk hk=>HB.out.2.2.2.1 k hk);have HY:=ae hy;obtain⟨ar,cr,xs,Ip,eb⟩:=jD.out.sh.row
 have q0:w1.cell? ⟨b,0,none⟩=some (.slice ar rs.length cr):=by
  have:w1.cell? ⟨b,0,none⟩=some vS.1:=aa jD.out.pb.doc rfl;rw[this,Ip]
 have Jo:=ae eb;have jF:=jD.out.lt;clear hp hf hm fY hy eb Ip;go_wp2_with fail;refine(pg w1 ar cr xs rs 3 gE Jo.out).mono ?_;rintro e w2 ⟨rfl,dq⟩;have q2:w2.cell? ⟨b,0,none⟩=some (.slice ar rs.length cr):=(dq.cell (p:=⟨b,0,none⟩) jF).trans q0;have XB:=ae (Jo.out.below dq);have eD:=ae dq;clear dq q0 Jo;obtain⟨ot,hot⟩:∃ot,dt rs 3 gE=ot:=⟨_,rfl⟩;have HOT:=ae hot;rw[hot];clear hot;go_wp2_with fail;refine(pg w2 ar cr xs rs 3 KA XB.out).mono ?_;rintro e w3 ⟨rfl,fj⟩;have iG:=ae (eD.out.trans (fj.mono eD.out.size));have oD:=ae (jD.out.below iG.out);have sO:=ae (zj.out.below iG.out);clear fj eD iG jD zj XB q2;obtain⟨nt,Sn⟩:∃nt,dt rs 3 KA=nt:=⟨_,rfl⟩;have HNT:=ae Sn;rw[Sn];clear Sn
 have Wg:Hid ((gE=KA∨(ot=false/\nt=false))->oC w (.pointer (some ⟨b,0,none⟩)) T made M rs kl F n s (.returned (.int .i64 y)) w3):=λhc=>by
  refine⟨y,kl,rfl,HY.out,⟨b,vS,v,bP,G,rfl,oD.out,?_,af HB.out.2.2.1,λj hj=>af (HB.out.2.2.2.1 j hj),λj hj=>af (HB.out.2.2.2.2.1 j hj),λk hk=>af (HB.out.2.2.2.2.2 k hk)⟩,sO.out,mM _ _⟩
  by_cases h0:y=0
  ·rw[aq h0];obtain⟨e1,e2⟩:=QS.out.2.1 h0;refine HB.out.2.1.nam HB.out.1.tw s ?_;rw[<-e1,<-e2];rcases hc with hc | ⟨h1,h2⟩
   ·exact af hc
   ·exact ai ⟨by rw[HOT.out];exact h1,by rw[HNT.out];exact h2⟩
  ·rw[aj h0];exact HB.out.2.1
 have XH:Hid (gE≠KA->(ot=true∨nt=true)->∀w4,qn w3 b vS v bP T made (if y=0 then bM M n.toNat (fM (M n.toNat) s) else M) rs kl G n (.returned (.tuple #[])) w4->oC w (.pointer (some ⟨b,0,none⟩)) T made M rs kl F n s (.returned (.int .i64 y)) w4):=λL4 WP w4 ⟨_,v2,iR,bG,jC⟩=>by
  have h0:y=0:=Classical.byContradiction λh=>L4 (QS.out.2.2 h);obtain⟨e1,e2⟩:=QS.out.2.1 h0;refine⟨y,eh (ex bP n) kl,rfl,HY.out,⟨b,(vS.1,v2),v,bP,G,rfl,iR,?_,af HB.out.2.2.1,λj hj=>af (HB.out.2.2.2.1 j hj),λj hj=>ai (Nat.le_trans sO.out.size (jC j hj)),λk hk=>af (HB.out.2.2.2.2.2 k hk)⟩,sO.out.trans (bG.mono (λk hk=>hk▸HB.out.2.2.1)),tg (λx hx=>⟨jy iR.pb.pt iR.tw hx,h0,by rw[<-e1,<-e2];exact L4,by rw[<-e1,<-e2,HOT.out,HNT.out];exact WP⟩) _⟩
  ·rw[aq h0];obtain⟨l,hl⟩:=OV T (HY.out.symm.trans h0);obtain⟨oT,hn⟩:=mQ hl;refine HB.out.2.1.mark HB.out.1.tw oT _ (fF _ _) (λx hx j hj=>?_);obtain⟨j',lj,uQ,Fg⟩:=HB.out.2.1.els x ((fF _ _).subset hx);have:j'=j:=by omega
   subst this;rw[hn] at hx;exact mN iR.pb.pt iR.tw oT hx hj Fg
 by_cases L4:gE=KA
 ·have gn:(gE != KA)=false:=by simp[L4]
  have HE:=Wg.out (af L4);clear L4;go_wp2;go_ret;exact HE
 ·have gn:(gE != KA)=true:=by simp[L4]
  have zk:=ae L4;clear L4;cases ot with
  | true=>
   go_wp2_with fail;refine(jt w3 b vS v bP T made _ rs kl G n oD.out).mono ?_;intro e w4 ht;obtain⟨rfl,_⟩:=id ht;have HE:Hid (oC w (.pointer (some ⟨b,0,none⟩)) T made M rs kl F n s (.returned (.int .i64 y)) w4):=XH.out zk.out (af (by trivial)) w4 ht;clear ht;go_wp2;go_ret;exact HE.out
  | false=>
   cases nt with
   | true=>
    go_wp2_with fail;refine(jt w3 b vS v bP T made _ rs kl G n oD.out).mono ?_;intro e w4 ht;obtain⟨rfl,_⟩:=id ht;have HE:Hid (oC w (.pointer (some ⟨b,0,none⟩)) T made M rs kl F n s (.returned (.int .i64 y)) w4):=XH.out zk.out (ai (by trivial)) w4 ht;clear ht;go_wp2;go_ret;exact HE.out
   | false=>
    have HE:=Wg.out (ai ⟨rfl,rfl⟩);go_wp2;go_ret;exact HE
def vw (s:ByteArray)(e:Ending)(w':World):Prop:=
 ∃y dh,e=.returned (.int .i64 y)/\y=(gP s).1/\DSk w' px T made M (if y=0 then eH s else rs) dh (cJ F w)/\Fr w w' F/\dh=if y=0 then[] else kl
theorem De (s:ByteArray)(hs:s.size<=maxLen)(h:DSk w px T made M rs kl F):Calls prog 28 #[px,.string s] w λe w'=>vw w px T made M rs kl F s e w':=by
 obtain⟨b,vS,v,els,G,rfl,h2,h3,h4,h5,h6,h7⟩:=h;have HB:Hid (DM w b vS v els T made M rs kl G/\KOK T M rs kl/\F b/\(∀j,v.ownBlock=some j->F j)/\(∀j,vS.2.ownBlock=some j->F j)/\∀k,G k->F k):=⟨h2,h3,h4,h5,h6,h7⟩;clear h2 h3 h4 h5 h6 h7;go_enter func28,ntmps28;go_wp2_with fail;refine(xL w s hs).mono ?_;rintro e w1 ⟨a,n,c,rfl,cq,tq⟩
 by_cases hc:(gP s).1=0
 ·have Hp:Hid (SheetIn w1 (λk=>w.heap.size<=k/\k<w1.heap.size) (.slice a n c) (eH s)):=by
   obtain⟨rs,xs,h1,h2,h3,h4⟩:=tq hc;exact EK hc h1 h2 h3 h4
  have HCK:=ae hc;have jD:Hid (DM (w1.alloc (.cells #[.slice a n c] 82)) b vS v els T made M rs kl G):=HB.out.1.below (cq.alloc cq.size _);have eg:=ae cq;rw[hc];have qT:=ae jD.out.pb.doc;have q0:(w1.alloc (.cells #[.slice a n c] 82)).cell? ⟨b,0,none⟩=some vS.1:=aa qT.out rfl;have q3:(w1.alloc (.cells #[.slice a n c] 82)).cell? ⟨b,3,none⟩=some vS.2:=aa qT.out rfl;have qf:∀j,(w1.alloc (.cells #[.slice a n c] 82)).frozen? ⟨b,j,none⟩=false:=λ_=>ax qT.out;have qs:(w1.alloc (.cells #[.slice a n c] 82)).cell? ⟨w1.heap.size,0,none⟩=some (.slice a n c):=aa (heap_alloc_new w1 _) rfl;have jF:b<w.heap.size:=HB.out.1.lt;have iW:=cq.size
  have HE:Hid (vw w (.pointer (some ⟨b,0,none⟩)) T made M rs kl F s (.returned (.int .i64 0)) (((w1.alloc (.cells #[.slice a n c] 82)).setCell ⟨b,0,none⟩ (.slice a n c)).setCell ⟨b,3,none⟩ (.slice none 0 0))):=by
   have h1:((w1.alloc (.cells #[.slice a n c] 82)).setCell ⟨b,0,none⟩ (.slice a n c)).heap[b]?=some (tf (.slice a n c,vS.2) v made):=by rw[aF qT.out];rfl
   have h2:(((w1.alloc (.cells #[.slice a n c] 82)).setCell ⟨b,0,none⟩ (.slice a n c)).setCell ⟨b,3,none⟩ (.slice none 0 0)).heap[b]?=some (tf (.slice a n c,.slice none 0 0) v made):=by rw[aF h1];rfl
   have fY:=aB jD.out.pb.pl.row qT.out (by decide);have ft:Fr w (((w1.alloc (.cells #[.slice a n c] 82)).setCell ⟨b,0,none⟩ (.slice a n c)).setCell ⟨b,3,none⟩ (.slice none 0 0)) (λk=>k=b):=((((Fr.refl w (λk=>k=b)).below eg.out).alloc _).set (p:=⟨b,0,none⟩) (af rfl) _).set (p:=⟨b,3,none⟩) (af rfl) _;refine⟨0,[],rfl,HCK.out.symm,⟨b,(.slice a n c,.slice none 0 0),v,els,λk=>w.heap.size<=k/\k<w1.heap.size,rfl,⟨⟨h2,⟨bj (bj jD.out.pb.pl.row fY _) fY _,jD.out.pb.pl.ok⟩,jD.out.pb.pt,jD.out.pb.few⟩,jD.out.tw,jD.out.mks,?_,⟨er,λx hx=>by cases hx⟩,by simp,λk hk=>by have:=hk.2;simp;omega,λhk=>by have:=hk.1;omega,λj hj hk=>?_,λj hj=>by simp[Value.ownBlock] at hj⟩,?_,af HB.out.2.2.1,λj hj=>af (HB.out.2.2.2.1 j hj),λj hj=>by simp[Value.ownBlock] at hj,λk hk=>ai hk.1⟩,ft.mono (λk hk=>hk▸HB.out.2.2.1),by rw[aq rfl]⟩
   ·rw[aq rfl];refine Hp.out.keep (λk hk hl=>?_) (by simp);have Ii:k≠b:=by have:=hk.1;omega
    exact(Below.heap_setCell _ ⟨b,3,none⟩ _ k Ii).trans ((Below.heap_setCell _ ⟨b,0,none⟩ _ k Ii).trans (Below.heap_alloc w1 _ k hl))
   ·have h5:=(HB.out.1.pb.pl.row.lt j hj).2;have:=hk.1;omega
   ·exact Iu
  clear tq hc qT jD Hp cq;generalize (gP s).2=place;go_wp2;go_ret;exact HE.out
 ·have hgt:((gP s).1 != 0)=true:=by simp[hc]
  have HE:Hid (vw w (.pointer (some ⟨b,0,none⟩)) T made M rs kl F s (.returned (.int .i64 (gP s).1)) (w1.alloc (.cells #[.slice a n c] 82))):=by
   refine⟨(gP s).1,kl,rfl,rfl,⟨b,vS,v,els,G,rfl,?_,?_,af HB.out.2.2.1,λj hj=>af (HB.out.2.2.2.1 j hj),λj hj=>af (HB.out.2.2.2.2.1 j hj),λk hk=>af (HB.out.2.2.2.2.2 k hk)⟩,(Fr.refl w F).below (cq.alloc cq.size _),by rw[aj hc]⟩
   ·rw[aj hc];exact HB.out.1.below (cq.alloc cq.size _)
   ·rw[aj hc];exact HB.out.2.1
  clear tq hc cq;generalize (gP s).2=place;generalize (gP s).1=y at hgt HE ⊢;go_wp2;go_ret;exact HE.out
end
end
section
variable {L akc l:List Int}{W:List Clm}{b i:Nat}{w w1 wr:World}
theorem GT {cs:List Value}(h:w.rangeAt b 0 cs)(ht:w.there b i 1)(v:Value):(w.setCell ⟨b,i,none⟩ v).rangeAt b 0 (cs.set i v):=λj u hu=>by
 rw[Nat.zero_add];have e:w.setCell ⟨b,i,none⟩ v=w.setCells b i [v]:=rfl
 by_cases hj:i=j
 ·subst hj;have hl:i<cs.length:=by have:=(dY.1 hu).1;rwa[List.length_set] at this
  rw[List.getElem?_set_self hl] at hu;injection hu with hu
  subst hu;have:=World.rangeAt_setCells_same w b i [v] ht 0 v rfl;rwa[Nat.add_zero] at this
 ·rw[List.getElem?_set_ne hj] at hu;rw[e,World.cell?_setCells_out b [v] i w ⟨b,j,none⟩ (λ_ _=>by show j<i∨i+1<=j;omega)];have:=h j u hu;rwa[Nat.zero_add] at this
theorem yh {o n:Nat}(h:w.there b o n)(p:Addr)(hp:p.spot=none)(v:Value):(w.setCell p v).there b o n:=by
 obtain⟨pb,po,ps⟩:=p;simp only at hp;subst hp;exact World.there_setCells h pb po [v]
def rT (l:List Int)(i:Nat):List Int:=l.take i++List.replicate (9 - i) 0
theorem DW (hl:l.length=9)(hi:i<=9):(rT l i).length=9:=by
 unfold rT;rw[List.length_append,List.length_take,List.length_replicate];omega
theorem OP (hl:l.length=9)(hi:i<9):(az (rT l i)).set i (.int .i64 (l.getD i 0))=az (rT l (i+1)):=by
 apply List.ext_getElem?;intro j;have e1:l.getD i 0=l[i]:=by rw[List.getD_eq_getElem?_getD,bO (by omega)];rfl
 rw[e1];have h9:(az (rT l i)).length=9:=by rw[List.length_map];exact DW hl (by omega)
 by_cases hj:i=j
 ·subst hj;rw[List.getElem?_set_self (by omega),List.getElem?_map];unfold rT;rw[List.getElem?_append_left (by rw[List.length_take];omega),List.getElem?_take_of_lt (by omega),bO (by omega)];rfl
 ·rw[List.getElem?_set_ne hj,List.getElem?_map,List.getElem?_map]
  congr 1
  unfold rT
  by_cases h1:j<i
  ·rw[List.getElem?_append_left (by rw[List.length_take];omega),List.getElem?_append_left (by rw[List.length_take];omega),List.getElem?_take_of_lt h1,List.getElem?_take_of_lt (by omega)]
  ·rw[List.getElem?_append_right (by rw[List.length_take];omega),List.getElem?_append_right (by rw[List.length_take];omega),List.getElem?_replicate,List.getElem?_replicate,List.length_take,List.length_take]
   by_cases h2:j<9
   ·rw[aq (by omega),aq (by omega)]
   ·rw[aj (by omega),aj (by omega)]
theorem OO (hl:l.length=9):rT l 9=l:=by
 unfold rT;rw[List.take_of_length_le (by omega)];exact List.append_nil _
structure OfI (w w1:World)(W:List Clm)(comes L:List Int)(wr:World):Prop where
 rngW:wr.rangeAt w1.heap.size 0 (aV W)
 rngC:wr.rangeAt (w.heap.size+1) 0 (az comes)
 rngS:wr.rangeAt (w1.heap.size+1) 0 (az L)
 thrS:wr.there (w1.heap.size+1) 0 9
 res:wr.there (w.heap.size+2) 0 9
 below:Below w.heap.size w wr
 far:w1.heap.size+2<=wr.heap.size
 near:w.heap.size+3<=w1.heap.size
theorem OfI.go {w':World}(h:OfI w w1 W akc L wr)(hB:Below wr.heap.size wr w'):OfI w w1 W akc L w':=by
 have h1:=h.far;have h2:=h.near;exact⟨bo hB (by omega) h.rngW,bo hB (by omega) h.rngC,bo hB (by omega) h.rngS,dx hB (by omega) h.thrS,dx hB (by omega) h.res,h.below.trans (hB.mono (by omega)),Nat.le_trans h1 hB.size,h2⟩
theorem OfI.put {L':List Int}(h:OfI w w1 W akc L wr)(hi:i<9){v:Int}(hL:(az L).set i (.int .i64 v)=az L'):OfI w w1 W akc L' (wr.setCell ⟨w1.heap.size+1,i,none⟩ (.int .i64 v)):=by
 have h1:=h.far;have h2:=h.near;have e:wr.setCell ⟨w1.heap.size+1,i,none⟩ (.int .i64 v)=wr.setCells (w1.heap.size+1) i [.int .i64 v]:=rfl;refine⟨?_,?_,?_,yh h.thrS _ rfl _,yh h.res _ rfl _,h.below.setCell (by show w.heap.size<=w1.heap.size+1;omega) _,by simpa using h1,h2⟩
 ·rw[e];exact World.rangeAt_setCells_apart h.rngW _ _ _ (af (by omega))
 ·rw[e];exact World.rangeAt_setCells_apart h.rngC _ _ _ (af (by omega))
 ·rw[<-hL];exact GT h.rngS (qR h.thrS (by omega) (by omega)) _
theorem IE (els:List PEl)(rs:List dF)(n:Int)(akc:List Int):(L9 els rs n akc).length=9:=by unfold L9;simp
theorem VY (els:List PEl)(rs:List dF)(n:Int)(akc:List Int){p:Nat}(hp:p<9):(L9 els rs n akc).getD p 0=dN (bE els rs n) akc 9 p:=by
 unfold L9;rw[List.getD_eq_getElem?_getD,List.getElem?_map,List.getElem?_range hp];rfl
theorem Ci {els:List PEl}{rs:List dF}{n:Int}(h:∀r∈rs,r.ds.length<=400/\∀d∈r.ds,d.fine):jr (bE els rs n):=tL An (λr hr=>(h r hr).2)
section
variable (w:World)
theorem SM (b:Nat)(a:Option Addr)(c:Nat)(els:List PEl)(n:Int)(ar:Option Addr)(cr:Nat)(xs:List Value)(rs:List dF)(akc:List Int)(hc:akc.length=9)(h:TRd w b a c els)(ho:RsRow w ar cr xs rs):
  Calls prog 127 #[.agg #[.slice ar rs.length cr],.pointer (some ⟨b,1,none⟩),.int .i64 n,.agg (az akc).toArray] w λe w'=>XN w (L9 els rs n akc) e w':=by
 have LN:Hid (jr (bE els rs n)):=Ci ho.decl;have od:Hid (∀Z:Array Value,Below w.heap.size w (((w.alloc (.cells #[.slice ar rs.length cr] 82)).alloc (.cells (az akc).toArray 103)).alloc (.cells Z 103))):=λZ=>((bd.alloc au _).alloc (by simp) _).alloc (by simp;omega) _;have HT:=bT h ho;have Ts:=ae (sizeS hc);clear h ho;go_enter func127,ntmps127;go_wp2_with fail;refine(BY _ b a c els n ar cr xs rs (HT.out.1.below (od.out _)) (HT.out.2.below (od.out _))).mono ?_;rintro e w1 ⟨rfl,hB⟩;have gK:w.heap.size+3<=w1.heap.size:=by have:=hB.size;simp at this;omega
 have Fa:=ae (sizeW LN.out.1);have bX:(aV (bE els rs n)).toArray.size=63:=List.size_toArray.trans (by rw[iB,LN.out.1]);have CI:Hid ((prog.info? 223).map (·.size)=some (aV (bE els rs n)).toArray.size):=by unfold Hid;rw[bX];exact Tryz.sizeW
 have Xm:=ae bX.symm;have zk:Hid ((aV (bE els rs n)).toArray.all (·.oneCell')=true):=all_oneCell_toArray (vc _)
 have Jk:Hid (OfI w w1 (bE els rs n) akc (rT (L9 els rs n akc) 0) ((w1.alloc (.cells (aV (bE els rs n)).toArray 223)).alloc (.cells (az [0,0,0,0,0,0,0,0,0]).toArray 103))):=by
  have e1:(w1.alloc (.cells (aV (bE els rs n)).toArray 223)).heap.size=w1.heap.size+1:=by simp
  refine⟨World.rangeAt_alloc (ep w1 _ _) _,World.rangeAt_alloc (World.rangeAt_alloc (bo hB (by simp) ?_) _) _,?_,?_,World.there_alloc (World.there_alloc (dx hB (by simp) ?_) _) _,(((od.out _).trans (hB.mono (by simp;omega))).alloc (by omega) _).alloc (by simp;omega) _,by simp,gK⟩
  ·have:=ep (w.alloc (.cells #[.slice ar rs.length cr] 82)) (az akc) 103;exact World.rangeAt_alloc (by simpa using this) _
  ·have:=ep (w1.alloc (.cells (aV (bE els rs n)).toArray 223)) (az [0,0,0,0,0,0,0,0,0]) 103;rwa[e1] at this
  ·have:=fQ (w1.alloc (.cells (aV (bE els rs n)).toArray 223)) (az [0,0,0,0,0,0,0,0,0]).toArray 103 9 (by decide);rwa[e1] at this
  ·have:=fQ ((w.alloc (.cells #[.slice ar rs.length cr] 82)).alloc (.cells (az akc).toArray 103)) (#[.int .i64 0,.int .i64 0,.int .i64 0,.int .i64 0,.int .i64 0,.int .i64 0,.int .i64 0,.int .i64 0,.int .i64 0]:Array Value) 103 9 (by decide);simpa using this
 have HV:Hid (∀p,p<9->(L9 els rs n akc).getD p 0=dN (bE els rs n) akc 9 p):=λp hp=>VY els rs n akc hp;have LO:=ae (IE els rs n akc);clear hB bX;generalize bE els rs n=W at LN Fa CI Xm zk Jk HV ⊢;obtain⟨L,hL⟩:∃L,L9 els rs n akc=L:=⟨_,rfl⟩;have HLE:=ae hL;rw[hL] at Jk HV LO;clear hL;go_wp2_with (refine aE rfl 223 _ _ rfl _ (aV W).toArray 223 rfl rfl CI.out Xm.out zk.out ?_)
 go_loopg [16] 9 (λgk iv wr=>∃i:Nat,iv=.int .i64 i/\i<=9/\9 - i<=gk/\Hid (OfI w w1 W akc (rT L i) wr))
 case atStart=>exact⟨0,rfl,aZ,by omega,Jk⟩
 case round=>
  obtain⟨i,rfl,hi,fS,HN⟩:=hrel;have J8:=HN.out.far
  by_cases aU:i<9
  ·have hd:decide ((i:Int)<9)=true:=by simp;omega
   have jJ:(i:Int)<9:=by omega
   go_wp2_with (first | (refine wpList_load_mid rfl 223 _ rfl w1.heap.size 0 rfl (aV W) _ HN.out.rngW underlying223 rfl Fa.out ?_) | (refine wpList_load_mid rfl 103 _ rfl (w.heap.size+1) 0 rfl (az akc) _ HN.out.rngC underlying103 rfl Ts.out ?_));refine(GM _ W LN.out i aU akc hc).mono ?_;rintro e w2 ⟨rfl,hB⟩;have e9:=ae (HN.out.go hB);have q0:w2.cell? ⟨w1.heap.size+1,i,none⟩=some (.int .i64 ((rT L i).getD i 0)):=by have:=e9.out.rngS i _ (qP (by rw[DW LO.out hi];exact aU));rwa[Nat.zero_add] at this
   have q1:w2.frozen? ⟨w1.heap.size+1,i,none⟩=false:=by have:=(e9.out.thrS i aU).2;rwa[Nat.zero_add] at this
   have og:Hid (OfI w w1 W akc (rT L (i+1)) (w2.setCell ⟨w1.heap.size+1,i,none⟩ (.int .i64 (dN W akc 9 i)))):=e9.out.put aU (by rw[<-HV.out i aU];exact OP LO.out aU);clear hB;generalize dN W akc 9 i=val at og ⊢;generalize (rT L i).getD i 0=gE at q0;go_wp2;go_roundg (9 - (i+1))
   case measure=>omega
   case rel=>exact⟨i+1,by go_num,by omega,au,og⟩
  ·have hd:decide ((i:Int)<9)=false:=by simp;omega
   obtain rfl:i=9:=by omega
   rw[OO LO.out] at HN;have sG:=ae (sizeS LO.out);have bX:(az L).toArray.size=9:=List.size_toArray.trans (by rw[List.length_map];exact LO.out);have acb:Hid ((prog.info? 103).map (·.size)=some (az L).toArray.size):=by unfold Hid;rw[bX];exact Tryz.sizeS
   have tZ:Hid (wr.there (w.heap.size+2) 0 (az L).toArray.size):=by unfold Hid;rw[bX];exact HN.out.res
   have A3:=ae (gH L);have A6:Hid ((wr.setCells (w.heap.size+2) 0 (az L)).rangeAt (w.heap.size+2) 0 (az L)):=World.rangeAt_setCells_same wr _ 0 _ (by have:=tZ.out;rwa[show(az L).toArray.size=(az L).length from List.size_toArray] at this);have uH:Hid (Below w.heap.size w (wr.setCells (w.heap.size+2) 0 (az L))):=cV (by omega) _ _ _ HN.out.below;clear bX;go_wp2_with (first | (refine wpList_load_mid rfl 103 _ rfl (w1.heap.size+1) 0 rfl (az L) _ HN.out.rngS underlying103 rfl sG.out ?_) | (refine wpList_store_mid rfl 103 _ _ rfl (w.heap.size+2) 0 (az L).toArray rfl rfl tZ.out acb.out A3.out ?_));exact bodyPost_ret (iE Tryz.results127 _ rfl A6.out underlying103 rfl sG.out) rfl ⟨by rw[HLE.out],uH.out⟩
end
end
section
variable {kl:List (Int × List Int)}{n:Int}
theorem ow {P:Program}{fn:Func}{s u:Tmp}{t:TypeId}(h:fn.results=#[.cell s t,.tmp u])(tmps:Array Value){w:World}{b:Nat}(hx:tmps.getD s undef=.pointer (some ⟨b,0,none⟩)){cs:List Value}{d:TypeDesc}(hc:w.rangeAt b 0 cs)(hu:P.underlying t=some d)(hd:d.isRow=true)(hi:(P.info? t).map (·.size)=some cs.length):
  (results fn tmps).run P w=.ok (.tuple #[.agg cs.toArray,tmps.getD u undef]) w:=by
 have DK:tmps[s]?.getD undef=.pointer (some ⟨b,0,none⟩):=by simpa using hx
 simp[results,h,DK,asAddr,run_loadVar_mid w b 0 t cs d hc hu hd hi]
def bn (kl:List (Int × List Int))(n:Int):Option (List Int):=(kl.find? λx=>decide (x.1=n)).map Prod.snd
abbrev jT:List Int:=[0,0,0,0,0,0,0,0,0]
def U1 (w:World)(r:Option (List Int))(e:Ending)(w':World):Prop:=e=.returned (.tuple #[.agg (az (r.getD jT)).toArray,.bool r.isSome])/\Below w.heap.size w w'
theorem NZ {i:Nat}(hi:i<kl.length)(nU:∀j (_:j<kl.length),j<i->kl[j].1=n->False)(h:kl[i].1=n):bn kl n=some kl[i].2:=by
 unfold bn
 have:(kl.find? λx=>decide (x.1=n))=some kl[i]:=by
  rw[List.find?_eq_some_iff_getElem];refine⟨by simpa using h,i,hi,rfl,λj hj=>?_⟩;have:=nU j (by omega) hj;simpa using this
 rw[this];rfl
theorem N0 (nU:∀j (_:j<kl.length),kl[j].1=n->False):bn kl n=none:=by
 unfold bn
 have:(kl.find? λx=>decide (x.1=n))=none:=by
  rw[List.find?_eq_none];intro x hx;obtain⟨j,hj,rfl⟩:=List.getElem_of_mem hx;simpa using nU j hj
 rw[this];rfl
theorem nR {s:List Int}(h:bn kl n=some s):(n,s)∈kl:=by
 unfold bn at h;cases hf:kl.find? λx=>decide (x.1=n) with
 | none=>rw[hf] at h;cases h
 | some x=>
  rw[hf] at h;have h1:x.1=n:=by simpa using List.find?_some hf
  have h2:x.2=s:=by simpa using h
  have:=List.mem_of_find?_eq_some hf;rw[<-h1,<-h2];exact this
theorem wH (h:bn kl n=none):∀x∈kl,x.1≠n:=by
 unfold bn at h;rw[Option.map_eq_none_iff,List.find?_eq_none] at h;intro x hx;simpa using h x hx
section
theorem qK (w:World)(b:Nat)(v:Value)(kl:List (Int × List Int))(n:Int)(hb:w.cell? ⟨b,3,none⟩=some v)(h:KL w v kl)(bC:kl.length<=24):
  Calls prog 86 #[.pointer (some ⟨b,3,none⟩),.int .i64 n] w λe w'=>U1 w (bn kl n) e w':=by
 obtain⟨a,c,hv⟩:=h.shape;subst hv;have HP:=ae h;have jF:b<w.heap.size:=World.block_lt_of_cell? w _ hb;clear h;have uI:=ae Tryz.sizeS;go_enter func86,ntmps86;go_wp2_with fail
 go_loopg [13] kl.length (λgk iv wr=>∃i:Nat,iv=.int .i64 i/\i<=kl.length/\kl.length - i<=gk/\Hid (Below w.heap.size w wr/\wr.there w.heap.size 0 9/\w.heap.size<wr.heap.size/\∀j (_:j<kl.length),j<i->kl[j].1=n->False))
 case atStart=>exact⟨0,rfl,aZ,by omega,bd.alloc au _,fQ w _ _ 9 (by decide),by simp,λj _ h=>by omega⟩
 case round=>
  obtain⟨i,rfl,hi,fS,HN⟩:=hrel;have iW:=HN.out.1.size
  by_cases aU:i<kl.length
  ·have hd:decide ((i:Int)<(kl.length:Int))=true:=by simp;omega
   obtain⟨g,hg,dn,he⟩:=HP.out.el aU;subst hg;have HE:=ae (he.below HN.out.1 dn);have h9:=HP.out.nine _ (bK aU);have HF:Hid (kl[i].1=n->bn kl n=some kl[i].2):=λh=>NZ aU HN.out.2.2.2 h
   have iH:Hid (¬kl[i].1=n->∀j (_:j<kl.length),j<i+1->kl[j].1=n->False):=λhm j hj h1 h2=>by
    by_cases e:j=i
    ·subst e;exact hm h2
    ·exact HN.out.2.2.2 j hj (by omega) h2
   clear he;generalize kl[i]=y at HE HF iH h9
   have XA:Hid ((wr.alloc (.cells (kD y).toArray 196)).rangeAt wr.heap.size 1 (az y.2)):=λj u hu=>by
    have:=(HE.out.new wr).rng (1+j) u (by rw[Nat.add_comm];exact hu);rwa[Nat.zero_add] at this
   obtain⟨cs,kf⟩:∃cs,kD y=cs:=⟨_,rfl⟩;rw[kf] at HE XA;clear kf;obtain⟨y1,y2⟩:=y;simp only at HE HF iH h9 XA;have c0:cs[0]?=some (.int .i64 y1):=HE.out.c0
   by_cases hy:y1=n
   ·have gy:(y1==n)=true:=by simp[hy]
    have sO:=ae (HF.out hy);have HS1:=ae (sizeS h9);have bX:(az y2).toArray.size=9:=List.size_toArray.trans (by rw[List.length_map];exact h9);have sF:Hid ((prog.info? 103).map (·.size)=some (az y2).toArray.size):=by unfold Hid;rw[bX];exact Tryz.sizeS
    have tZ:Hid ((wr.alloc (.cells cs.toArray 196)).there w.heap.size 0 (az y2).toArray.size):=by unfold Hid;rw[bX];exact World.there_alloc HN.out.2.1 _
    have A3:=ae (gH y2);have A6:Hid (((wr.alloc (.cells cs.toArray 196)).setCells w.heap.size 0 (az y2)).rangeAt w.heap.size 0 (az y2)):=World.rangeAt_setCells_same _ _ 0 _ (by have:=tZ.out;rwa[show(az y2).toArray.size=(az y2).length from List.size_toArray] at this);have uH:Hid (Below w.heap.size w ((wr.alloc (.cells cs.toArray 196)).setCells w.heap.size 0 (az y2))):=cV au _ _ _ (HN.out.1.alloc iW _);clear hy bX HF iH;go_wp2_with (first | (refine wpList_load_mid rfl 196 _ rfl g (i*10) rfl cs _ HE.out.rng underlying196 rfl HE.out.size ?_) | (refine aE rfl 196 _ _ rfl _ cs.toArray 196 rfl rfl HE.out.size' HE.out.same HE.out.all ?_) | (refine wpList_load_mid rfl 103 _ rfl wr.heap.size 1 rfl (az y2) _ XA.out underlying103 rfl HS1.out ?_) | (refine wpList_store_mid rfl 103 _ _ rfl w.heap.size 0 (az y2).toArray rfl rfl tZ.out sF.out A3.out ?_));exact bodyPost_ret (ow Tryz.results86 _ rfl A6.out underlying103 rfl HS1.out) rfl ⟨by rw[sO.out];rfl,uH.out⟩
   ·have gy:(y1==n)=false:=by simp[hy]
    have e9:Hid (Below w.heap.size w (wr.alloc (.cells cs.toArray 196))/\(wr.alloc (.cells cs.toArray 196)).there w.heap.size 0 9/\w.heap.size<(wr.alloc (.cells cs.toArray 196)).heap.size/\∀j (_:j<kl.length),j<i+1->kl[j].1=n->False):=⟨HN.out.1.alloc iW _,World.there_alloc HN.out.2.1 _,by simp;omega,iH.out hy⟩;clear hy HF iH;go_wp2_with (first | (refine wpList_load_mid rfl 196 _ rfl g (i*10) rfl cs _ HE.out.rng underlying196 rfl HE.out.size ?_) | (refine aE rfl 196 _ _ rfl _ cs.toArray 196 rfl rfl HE.out.size' HE.out.same HE.out.all ?_));go_roundg (kl.length - (i+1))
    case measure=>omega
    case rel=>exact⟨i+1,by go_num,by omega,au,e9⟩
  ·have hd:decide ((i:Int)<(kl.length:Int))=false:=by simp;omega
   have sO:Hid (bn kl n=none):=N0 (λj hj h=>HN.out.2.2.2 j hj (by omega) h);have tZ:=ae HN.out.2.1;have A3:=ae (gH jT);have A6:Hid ((wr.setCells w.heap.size 0 (az jT)).rangeAt w.heap.size 0 (az jT)):=World.rangeAt_setCells_same _ _ 0 _ HN.out.2.1;have uH:Hid (Below w.heap.size w (wr.setCells w.heap.size 0 (az jT))):=cV au _ _ _ HN.out.1;have HS1:Hid ((prog.info? 103).map (·.size)=some (az jT).length):=sizeS rfl;go_wp2_with (first | (refine wpList_store_mid rfl 103 _ _ rfl w.heap.size 0 (az jT).toArray rfl rfl tZ.out uI.out A3.out ?_));exact bodyPost_ret (ow Tryz.results86 _ rfl A6.out underlying103 rfl HS1.out) rfl ⟨by rw[sO.out];rfl,uH.out⟩
end
end
theorem BN {s:List Int}(h:s.length=9):∃a b c d e f g i j,s=[a,b,c,d,e,f,g,i,j]:=by
 match s,h with
 | [a,b,c,d,e,f,g,i,j],_=>exact⟨a,b,c,d,e,f,g,i,j,rfl⟩
def sU (w:World)(b:Nat)(vS:Value × Value)(v:Value)(made:Nat)(kl:List (Int × List Int))(e:Ending)(w':World):Prop:=
 e=.returned (.tuple #[])/\∃v',w'.heap[b]?=some (tf (vS.1,v') v made)/\KL w' v' kl/\Fr w w' (λk=>k=b∨vS.2.ownBlock=some k)/\∀j,v'.ownBlock=some j->vS.2.ownBlock=some j∨w.heap.size<=j
section
theorem KN (w:World)(b:Nat)(vS:Value × Value)(v:Value)(made:Nat)(kl:List (Int × List Int))(n:Int)(st:List Int)(hb:w.heap[b]?=some (tf vS v made))(h:KL w vS.2 kl)(bC:kl.length<=24)(h9:st.length=9):
  Calls prog 128 #[.pointer (some ⟨b,3,none⟩),.int .i64 n,.agg (az st).toArray] w λe w'=>sU w b vS v made (kl++[(n,st)]) e w':=by
 obtain⟨i0,z0,hi,iz,is,ib,Kn⟩:=Tryz.infoK;obtain⟨vs1,vs2⟩:=vS;simp only at h;obtain⟨a,c,hv⟩:=h.shape;subst hv;have HK:=ae h;have qT:=ae hb;have jF:=(bx.1 hb).1;have q3:w.cell? ⟨b,3,none⟩=some (.slice a kl.length c):=aa hb rfl;have q3f:w.frozen? ⟨b,3,none⟩=false:=ax hb;have HNE:Hid ((Value.slice a kl.length c).ownBlock≠some b):=aB h.row hb (by decide);obtain⟨s0,s1,s2,s3,s4,s5,s6,s7,s8,DJ⟩:=BN h9;subst DJ;clear h hb h9
 have fm:Hid (∀(A B:Obj) (w8:World) (v8:Value),w8.ownsRow 0 196 10 v8 (kl.length+1) (oj kl++[.int .i64 n,.int .i64 s0,.int .i64 s1,.int .i64 s2,.int .i64 s3,.int .i64 s4,.int .i64 s5,.int .i64 s6,.int .i64 s7,.int .i64 s8])->(((w.alloc A).alloc B).drew).grownBy w8 (Value.slice a kl.length c).ownBlock->(∀j,v8.ownBlock=some j->(Value.slice a kl.length c).ownBlock=some j∨w.heap.size<=j)->sU w b (vs1,.slice a kl.length c) v made (kl++[(n,[s0,s1,s2,s3,s4,s5,s6,s7,s8])]) (.returned (.tuple #[])) (w8.setCell ⟨b,3,none⟩ v8)/\w8.cell? ⟨b,3,none⟩=some (.slice a kl.length c)/\w8.frozen? ⟨b,3,none⟩=false/\b<w8.heap.size):=λA B w8 v8 bL hg hj=>by
  have Fe:w8.heap[b]?=some (tf (vs1,.slice a kl.length c) v made):=(hg.block b (by simp[World.drew];omega) (λe=>HNE.out e.symm)).trans ((Below.heap_alloc (w.alloc A) B b (by simp;omega)).trans ((Below.heap_alloc w A b jF).trans qT.out));have Kc:v8.ownBlock≠some b:=aB bL Fe (by decide);have ft:Fr w w8 (λk=>k=b∨(Value.slice a kl.length c).ownBlock=some k):=((((Fr.refl w (λk=>k=b∨(Value.slice a kl.length c).ownBlock=some k)).alloc A).alloc B).drew1).gb hg (λk hk=>af (ai hk));refine⟨⟨rfl,v8,?_,⟨?_,λx hx=>?_⟩,ft.set (p:=⟨b,3,none⟩) (af (af rfl)) _,hj⟩,aa Fe rfl,ax Fe,(bx.1 Fe).1⟩
  ·rw[aF Fe];rfl
  ·rw[wK,List.length_append];exact bj bL Kc _
  ·rcases List.mem_append.1 hx with hx | hx
   ·exact HK.out.nine x hx
   ·rw[fg] at hx;rw[hx];rfl
 go_enter func128,ntmps128;go_upto_region 1 with fail
 go_region_law (refine ns rfl (.tmp 10) (.tmp 14) 86 rfl 0 196 i0 z0 10 80 underlying86 hi iz is ib Kn (by decide) (.slice a kl.length c) kl.length (oj kl) (by simp[Act.eval]) (((HK.out.row.alloc _).alloc _).drew) ⟨w.heap.size+1,0,none⟩ 1 1 [.int .i64 n,.int .i64 s0,.int .i64 s1,.int .i64 s2,.int .i64 s3,.int .i64 s4,.int .i64 s5,.int .i64 s6,.int .i64 s7,.int .i64 s8] (by simp[Act.eval]) rfl (aW (w.alloc _) _ (by simp) _ _ _ rfl) (wY (n,[s0,s1,s2,s3,s4,s5,s6,s7,s8])) (by unfold maxLen;omega) (by omega) aZ ?_;intro v8 w8 wT ZS Fe;obtain⟨a8,c8,hv8⟩:=aA wT;have Jn:=fm.out _ _ w8 v8 wT ZS (λj hj=>(Fe.out j hj).imp id (λh=>Nat.le_trans (by simp[World.drew];omega) h));have y1:=Jn.2.1;have y1f:=Jn.2.2.1;have y1l:=Jn.2.2.2;replace Jn:=Jn.1;rw[hv8] at Jn ⊢;clear hv8 wT ZS Fe)
 all_goals
  go_wp2;go_end0;exact Jn
end
section
variable {g k:Nat}
def jl (T:aJ)(M:Nat->Mk)(rs:List dF)(kl:List (Int × List Int))(k:Int):List (Int × List Int):=if(bn kl k).isSome then kl else kl++[(k,dM (bg T M) rs k)]
theorem KOK.fresh {T:aJ}{M:Nat->Mk}{rs:List dF}{kl:List (Int × List Int)}(h:KOK T M rs kl){l:List Nat}(hk:(k,l)∈T):KOK T M rs (jl T M rs kl k):=by
 unfold jl;cases hf:bn kl k with
 | none=>exact h.more hk (wH hf)
 | some s=>exact h
theorem Pf (l:List Int):∀v∈az l,v.oneCell'=true:=by
 intro v hv;obtain⟨y,_,rfl⟩:=bm.1 hv;rfl
section
variable {w w':World}{b:Nat}{vS:Value × Value}{v:Value}{els:List PEl}{T:aJ}{made:Nat}{M:Nat->Mk}{rs:List dF}{kl:List (Int × List Int)}{G:Nat->Prop}
theorem SG {e1 e2:TypeId}{s1 s2 n1 n2:Nat}{v1 v2:Value}{x1 x2:List Value}(h1:w.ownsRow 0 e1 s1 v1 n1 x1)(h2:w.ownsRow 0 e2 s2 v2 n2 x2)(fY:e1≠e2)(hk:v1.ownBlock=some k):v2.ownBlock≠some k:=by
 rcases h1.2 with⟨rfl,_⟩ | ⟨g,gV,fV,rfl,_,hg,_⟩
 ·cases hk
 ·have:g=k:=by simpa[Value.ownBlock] using hk
  subst this;exact aB h2 hg fY
theorem DM.kept (h:DM w b vS v els T made M rs kl G){dh:List (Int × List Int)}{e:Ending}(hp:sU w b vS v made dh e w')(hl:dh.length<=24):e=.returned (.tuple #[])/\∃v2,DM w' b (vS.1,v2) v els T made M rs dh G/\Fr w w' (λj=>j=b∨vS.2.ownBlock=some j)/\∀j,v2.ownBlock=some j->vS.2.ownBlock=some j∨w.heap.size<=j:=by
 obtain⟨rfl,v2,hb,hk,hf,hj⟩:=hp;have hvb:v.ownBlock≠some b:=aB h.pb.pl.row h.pb.doc (by decide);refine⟨rfl,v2,⟨⟨hb,⟨jw h.pb.pl.row (λk fT QJ=>hf.block k QJ (λe=>?_)),h.pb.pl.ok⟩,h.pb.pt,h.pb.few⟩,h.tw,h.mks,h.sh.keep (λk hg QJ=>hf.block k QJ (λe=>?_)) hf.size,hk,hl,λk hg=>Nat.lt_of_lt_of_le (h.gl k hg) hf.size,h.gb,h.gv,λj LZ hg=>?_⟩,hf,hj⟩
 ·rcases e with e | e
  ·exact hvb (e▸fT)
  ·exact SG h.pb.pl.row h.kp.row (by decide) fT e
 ·rcases e with e | e
  ·exact h.gb (e▸hg)
  ·exact h.gk k e hg
 ·rcases hj j LZ with h1 | h1
  ·exact h.gk j h1 hg
  ·have:=h.gl j hg;omega
theorem DM.aside (h:DM w b vS v els T made M rs kl G)(hk:∀j,j=b∨v.ownBlock=some j∨vS.2.ownBlock=some j∨G j->w'.heap[j]?=w.heap[j]?)(hz:w.heap.size<=w'.heap.size):DM w' b vS v els T made M rs kl G:=
 ⟨⟨(hk b (af rfl)).trans h.pb.doc,⟨jw h.pb.pl.row (λk fT _=>hk k (ai (af fT))),h.pb.pl.ok⟩,h.pb.pt,h.pb.few⟩,h.tw,h.mks,h.sh.keep (λk hg _=>hk k (ai (ai (ai hg)))) hz,⟨jw h.kp.row (λk fT _=>hk k (ai (ai (af fT)))),h.kp.nine⟩,h.few,λk hg=>Nat.lt_of_lt_of_le (h.gl k hg) hz,h.gb,h.gv,h.gk⟩
theorem kb {wx wy:World}{o n:Nat}(h:wx.there g o n)(hk:wy.heap[g]?=wx.heap[g]?):wy.there g o n:=λj hj=>by
 obtain⟨h1,h2⟩:=h j hj;unfold World.cell? at h1 ⊢;unfold World.frozen? at h2 ⊢;rw[hk];exact⟨h1,h2⟩
theorem kh (g:Nat):∀(vs:List Value) (o:Nat) (wx:World) (k:Nat),k≠g->(wx.setCells g o vs).heap[k]?=wx.heap[k]?
 | [],_,_,_,_=>rfl
 | u :: vs,o,wx,k,hk=>(kh g vs (o+1) _ k hk).trans (Below.heap_setCell wx ⟨g,o,none⟩ u k hk)
theorem Fr.sets {wa:World}{S:Nat->Prop}(hg:S g∨wa.heap.size<=g):∀(vs:List Value) (o:Nat) {wx:World},Fr wa wx S->Fr wa (wx.setCells g o vs) S
 | [],_,_,h=>h
 | u :: vs,o,_,h=>Fr.sets hg vs (o+1) (h.set (p:=⟨g,o,none⟩) hg u)
theorem DM.own_lt (h:DM w b vS v els T made M rs kl G)(hk:k=b∨vS.2.ownBlock=some k):k<w.heap.size:=by
 rcases hk with rfl | hk
 ·exact h.lt
 ·exact(h.kp.row.lt k hk).2
end
section
variable (w:World)(b:Nat)(vS:Value × Value)(v:Value)(els:List PEl)(T:aJ)(made:Nat)(M:Nat->Mk)(rs:List dF)(kl:List (Int × List Int))(G:Nat->Prop)
def sN (k:Nat)(e:Ending)(w':World):Prop:=
 e=.returned (.agg (az (dM (bg T M) rs k)).toArray)/\∃v2,DM w' b (vS.1,v2) v els T made M rs (jl T M rs kl k) G/\Fr w w' (λj=>j=b∨vS.2.ownBlock=some j)/\∀j,v2.ownBlock=some j->vS.2.ownBlock=some j∨w.heap.size<=j
theorem r8 (k:Nat)(l:List Nat)(akc:List Int)(h:DM w b vS v els T made M rs kl G)(VG:KOK T M rs kl)(hk:(k,l)∈T)(hc:akc=iP T M rs (aX T T.length k))(hc9:akc.length=9):
  Calls prog 85 #[.pointer (some ⟨b,0,none⟩),.int .i64 k,.agg (az akc).toArray] w λe w'=>sN w b vS v els T made M rs kl G k e w':=by
 obtain⟨a,c,hv⟩:=h.pb.pl.shape;subst hv;have HD:=ae h;have HKO:=ae VG;have jF:b<w.heap.size:=h.lt;have bC:=h.few
 have QU:Hid (L9 els rs k akc=dM (bg T M) rs k):=by
  unfold Hid;rw[SC,Tg h.pb.pt h.tw h.mks.1,yd h.tw hk,hc]
 have ab3:Hid ((jl T M rs kl k).length<=24):=by
  unfold Hid;have h1:=(VG.fresh hk).len;have h2:=h.pb.pt.len h.tw;have h3:=h.pb.few;omega
 have HC9:=ae hc9;have Ts:=ae (sizeS hc9);have od:Hid (∀Z:Array Value,Below w.heap.size w ((w.alloc (.cells (az akc).toArray 103)).alloc (.cells Z 103))):=λZ=>(bd.alloc au _).alloc (by simp) _;clear h VG hk hc;go_enter func85,ntmps85;go_wp2_with fail;refine(qK _ b vS.2 kl k (aa (HD.out.below (od.out _)).pb.doc rfl) (HD.out.below (od.out _)).kp bC).mono ?_;rintro e w1 ⟨rfl,cq⟩;have gK:w.heap.size+2<=w1.heap.size:=by have:=cq.size;simpa using this
 have eg:Hid (Below w.heap.size w w1):=(od.out _).trans (cq.mono (by simp;omega));have LR:Hid (w1.rangeAt w.heap.size 0 (az akc)):=bo cq (by simp;omega) (World.rangeAt_alloc (ep w (az akc) 103) _)
 have tY:Hid (w1.there (w.heap.size+1) 0 9):=by
  refine dx cq (by simp) ?_;have:=fQ (w.alloc (.cells (az akc).toArray 103)) (#[.int .i64 0,.int .i64 0,.int .i64 0,.int .i64 0,.int .i64 0,.int .i64 0,.int .i64 0,.int .i64 0,.int .i64 0]:Array Value) 103 9 (by decide);simpa using this
 have jD:=ae (HD.out.below eg.out);clear cq;cases hf:bn kl k with
 | some s=>
  have hs:=HKO.out.right _ (nR hf);replace hs:s=dM (bg T M) rs k:=hs;have hs9:s.length=9:=by rw[hs,lG]
  have HFK:Hid (jl T M rs kl k=kl):=by unfold Hid jl;rw[hf];rfl
  have HS:=ae hs;clear hf hs;show _;simp only[Option.getD_some,Option.isSome_some];have XD:=ae (sizeS hs9);have bX:(az s).toArray.size=9:=List.size_toArray.trans (by rw[List.length_map];exact hs9);have sF:Hid ((prog.info? 103).map (·.size)=some (az s).toArray.size):=by unfold Hid;rw[bX];exact Tryz.sizeS
  have Tr:=ae bX.symm;have A3:=ae (gH s);have HR7:Hid ((w1.alloc (.cells (az s).toArray 103)).rangeAt w1.heap.size 0 (az s)):=ep w1 _ _;have tZ:Hid ((w1.alloc (.cells (az s).toArray 103)).there (w.heap.size+1) 0 (az s).toArray.size):=by unfold Hid;rw[bX];exact World.there_alloc tY.out _
  have A6:Hid (((w1.alloc (.cells (az s).toArray 103)).setCells (w.heap.size+1) 0 (az s)).rangeAt (w.heap.size+1) 0 (az s)):=World.rangeAt_setCells_same _ _ 0 _ (by have:=tZ.out;rwa[show(az s).toArray.size=(az s).length from List.size_toArray] at this);have uH:Hid (Below w.heap.size w ((w1.alloc (.cells (az s).toArray 103)).setCells (w.heap.size+1) 0 (az s))):=cV (by omega) _ _ _ (eg.out.alloc eg.out.size _)
  have HE:Hid (sN w b vS (.slice a els.length c) els T made M rs kl G k (.returned (.agg (az s).toArray)) ((w1.alloc (.cells (az s).toArray 103)).setCells (w.heap.size+1) 0 (az s))):=by
   refine⟨by rw[HS.out],vS.2,?_,(Fr.refl w _).below uH.out,λj hj=>af hj⟩;rw[HFK.out];exact HD.out.below uH.out
  clear bX jD eg tY LR;go_wp2_with (first | (refine aE rfl 103 _ _ rfl _ (az s).toArray 103 rfl rfl sF.out Tr.out A3.out ?_) | (refine wpList_load_mid rfl 103 _ rfl w1.heap.size 0 rfl (az s) _ HR7.out underlying103 rfl XD.out ?_) | (refine wpList_store_mid rfl 103 _ _ rfl (w.heap.size+1) 0 (az s).toArray rfl rfl tZ.out sF.out A3.out ?_));exact bodyPost_ret (iE Tryz.results85 _ rfl A6.out underlying103 rfl XD.out) rfl HE.out
 | none=>
  have HFK:Hid (jl T M rs kl k=kl++[((k:Int),dM (bg T M) rs k)]):=by unfold Hid jl;rw[hf];rfl
  clear hf;simp only[Option.getD_none,Option.isSome_none];obtain⟨ar,cr,xs,Ip,eb⟩:=jD.out.sh.row
  have Hn:Hid (w1.cell? ⟨b,0,none⟩=some (.slice ar rs.length cr)):=by
   have:w1.cell? ⟨b,0,none⟩=some vS.1:=aa jD.out.pb.doc rfl;unfold Hid;rw[this,Ip]
  have Jo:=ae eb;clear eb Ip;have TC:=ae Tryz.sizeS;have HZO:=ae (gH jT);have HZ9:Hid (9=(az jT).toArray.size):=rfl;go_upto_region 4 with(first | (refine aE rfl 103 _ _ rfl _ (az jT).toArray 103 rfl rfl TC.out HZ9.out HZO.out ?_))
  have eD:Hid (Below w1.heap.size w1 (w1.alloc (.cells #[.int .i64 0,.int .i64 0,.int .i64 0,.int .i64 0,.int .i64 0,.int .i64 0,.int .i64 0,.int .i64 0,.int .i64 0] 103))):=bd.alloc au _;have HT7:Hid ((w1.alloc (.cells #[.int .i64 0,.int .i64 0,.int .i64 0,.int .i64 0,.int .i64 0,.int .i64 0,.int .i64 0,.int .i64 0,.int .i64 0] 103)).there w1.heap.size 0 9):=fQ w1 _ _ 9 (by decide);have HZ3:Hid ((w1.alloc (.cells #[.int .i64 0,.int .i64 0,.int .i64 0,.int .i64 0,.int .i64 0,.int .i64 0,.int .i64 0,.int .i64 0,.int .i64 0] 103)).heap.size=w1.heap.size+1):=by simp[Hid]
  obtain⟨W2,Ie⟩:∃W2,W2=w1.alloc (.cells #[.int .i64 0,.int .i64 0,.int .i64 0,.int .i64 0,.int .i64 0,.int .i64 0,.int .i64 0,.int .i64 0,.int .i64 0] 103):=⟨_,rfl⟩;rw[<-Ie] at eD HT7 HZ3 ⊢;clear Ie;have nE:=HZ3.out;obtain⟨L,hL⟩:∃L,L9 els rs k akc=L:=⟨_,rfl⟩;have HL:Hid (L=dM (bg T M) rs k):=by unfold Hid;rw[<-hL];exact QU.out
  have Id:L.length=9:=by rw[<-hL];exact IE _ _ _ _
  have LO:=ae hL;clear hL;have J2:(az L).length=9:=by rw[List.length_map];exact Id
  have WG:=sizeS Id;have TO:=Pf L;have agU:=Ts.out;have hUA:=underlying103;have HC:Hid (∀wx,Below W2.heap.size W2 wx->wx.cell? ⟨b,0,none⟩=some (.slice ar rs.length cr)/\wx.rangeAt w.heap.size 0 (az akc)/\wx.there w1.heap.size 0 9):=λwx hb=>⟨(hb.cell (p:=⟨b,0,none⟩) (by show b<_;omega)).trans ((eD.out.cell (p:=⟨b,0,none⟩) (by show b<_;omega)).trans Hn.out),bo hb (by omega) (bo eD.out (by omega) LR.out),dx hb (by omega) HT7.out⟩;have H0:Hid (Below W2.heap.size W2 W2.drew):=bd.drew;have We:Hid (∀wx:World,(wx.cell? ⟨b,0,none⟩=some (.slice ar rs.length cr)/\wx.rangeAt w.heap.size 0 (az akc)/\wx.there w1.heap.size 0 9)->(wx.setCells w1.heap.size 0 (az L)).cell? ⟨b,0,none⟩=some (.slice ar rs.length cr)/\(wx.setCells w1.heap.size 0 (az L)).rangeAt w.heap.size 0 (az akc)/\(wx.setCells w1.heap.size 0 (az L)).there w1.heap.size 0 9):=λwx ⟨h1,h2,h3⟩=>⟨(World.cell?_setCells_out w1.heap.size (az L) 0 wx ⟨b,0,none⟩ (λe=>by replace e:b=w1.heap.size:=e;omega)).trans h1,World.rangeAt_setCells_apart h2 _ _ _ (af (by omega)),World.there_setCells h3 _ _ _⟩
  go_cut [7] (λv7 wx=>v7=.pointer (some ⟨w1.heap.size,0,none⟩)/\Hid (Below w1.heap.size w1 wx/\wx.rangeAt w1.heap.size 0 (az L)/\w1.heap.size<wx.heap.size))
  case first=>
   go_region_held3 (λw'=>w'.cell? ⟨b,0,none⟩=some (.slice ar rs.length cr)/\w'.rangeAt w.heap.size 0 (az akc)/\w'.there w1.heap.size 0 9) (first | exact HC.out _ H0.out | exact HC.out _ HX.out | exact We.out _ (HC.out _ HX.out))
    (first | (go_at_call 127;refine(SM _ b a c els k ar cr xs rs akc HC9.out ((jD.out.below eD.out).below (H0.out)).trd ((Jo.out.below eD.out).below H0.out)).mono ?_;rw[LO.out];rintro e w5 ⟨rfl,wN⟩;have HX:Hid (Below W2.heap.size W2 w5):=H0.out.trans wN;clear wN))
   all_goals
    go_wp2_with fail;go_meet;refine⟨rfl,cV au _ _ _ (eD.out.trans (HX.out.mono eD.out.size)),World.rangeAt_setCells_same _ _ 0 _ (by rw[J2];exact(HC.out _ HX.out).2.2),?_⟩;rw[eM];have:=HX.out.size;omega
  case rest=>
   obtain⟨rfl,HX⟩:=hcut;obtain⟨W4,rfl⟩:∃W4,W4=wc:=⟨_,rfl⟩;have UB:=ae (jD.out.below HX.out.1);have XF:Hid (W4.there (w.heap.size+1) 0 9):=dx HX.out.1 (by omega) tY.out;have hz4:=HX.out.2.2;have HR7:Hid (W4.rangeAt w1.heap.size 0 (az L)):=HX.out.2.1;have HF4:Hid (Fr w W4 (λj=>j=b∨vS.2.ownBlock=some j)):=((Fr.refl w _).below eg.out).below HX.out.1;have Ws:=ae HR7.out;have hLt:=J2;clear HX HC We H0 HT7 eD HZ3 nE Jo Hn;have uV:Hid ((kl++[((k:Int),L)]).length<=24):=by have:=ab3.out;rw[HFK.out] at this;simpa[Hid] using this
   have Mi:Hid (∀j,j=b∨vS.2.ownBlock=some j->j<w.heap.size):=λj hj=>HD.out.own_lt hj;have UH:Hid (∀w6,Fr W4.drew w6 (λj=>j=b∨vS.2.ownBlock=some j)->w6.rangeAt w1.heap.size 0 (az L)):=λw6 hf=>xI Ws.out (hf.block w1.heap.size hz4 (λe=>by have:=Mi.out _ e;omega));have UD:=ae (UB.out.below (Below.refl W4.heap.size W4).drew);go_upto_region 5 with fail
   go_cut [7] (λv7 wx=>v7=.pointer (some ⟨w1.heap.size,0,none⟩)/\Hid (∃v2,DM wx b (vS.1,v2) (.slice a els.length c) els T made M rs (kl++[((k:Int),L)]) G/\Fr W4.drew wx (λj=>j=b∨vS.2.ownBlock=some j)/\∀j,v2.ownBlock=some j->vS.2.ownBlock=some j∨W4.heap.size<=j))
   case first=>
    go_region_held3 (λw'=>w'.rangeAt w1.heap.size 0 (az L)) (first | exact Ws.out | exact UH.out _ HY.out.2.1)
     (first | (go_at_call 128;refine(KN _ b vS (.slice a els.length c) made kl k L UD.out.pb.doc UD.out.kp bC Id).mono ?_;intro e w6 hp;obtain⟨rfl,v2,hd6,Ih,hj6⟩:=UD.out.kept hp uV.out;have HY:Hid (DM w6 b (vS.1,v2) (.slice a els.length c) els T made M rs (kl++[((k:Int),L)]) G/\Fr W4.drew w6 (λj=>j=b∨vS.2.ownBlock=some j)/\∀j,v2.ownBlock=some j->vS.2.ownBlock=some j∨W4.heap.size<=j):=⟨hd6,Ih,hj6⟩;clear hp hd6 Ih hj6))
    all_goals
     go_wp2_with fail;go_meet;exact⟨rfl,v2,HY.out⟩
   case rest=>
    obtain⟨rfl,HY⟩:=hcut;obtain⟨W6,rfl⟩:∃W6,W6=wc:=⟨_,rfl⟩;obtain⟨v2,hY⟩:=HY.out;have Tw:=ae hY;have QY:=ae (UH.out W6 Tw.out.2.1);have bX:=List.size_toArray.trans J2;have hz6:W4.heap.size<=W6.heap.size:=Tw.out.2.1.size
    have tZ:Hid (W6.there (w.heap.size+1) 0 (az L).toArray.size):=by
     unfold Hid;rw[bX];exact kb (XF.out:W4.drew.there _ _ _) (Tw.out.2.1.block (w.heap.size+1) (by show w.heap.size+1<W4.heap.size;omega) (λe=>by have:=Mi.out _ e;omega))
    have sF:Hid ((prog.info? 103).map (·.size)=some (az L).toArray.size):=by unfold Hid;rw[bX];exact Tryz.sizeS
    have sG:=ae WG;have A3:=ae (gH L);have A6:Hid ((W6.setCells (w.heap.size+1) 0 (az L)).rangeAt (w.heap.size+1) 0 (az L)):=World.rangeAt_setCells_same _ _ 0 _ (by have:=tZ.out;rwa[show(az L).toArray.size=(az L).length from List.size_toArray] at this)
    have HE:Hid (sN w b vS (.slice a els.length c) els T made M rs kl G k (.returned (.agg (az L).toArray)) (W6.setCells (w.heap.size+1) 0 (az L))):=by
     refine⟨by rw[HL.out],v2,?_,?_,λj hj=>(Tw.out.2.2 j hj).imp id (λh=>by omega)⟩
     ·rw[HFK.out,<-HL.out];refine Tw.out.1.aside (λj hj=>kh _ _ _ _ _ (λe=>?_)) (by rw[eM];exact au);subst e;rcases hj with h1 | h1 | h1 | h1
      ·omega
      ·have:=(HD.out.pb.pl.row.lt _ h1).2;omega
      ·rcases Tw.out.2.2 _ h1 with h2 | h2
       ·have:=Mi.out _ (ai h2);omega
       ·omega
      ·have:=HD.out.gl _ h1;omega
     ·have hF6:=(HF4.out.drew1).trans Tw.out.2.1;exact Fr.sets (ai (by omega)) _ _ hF6
    clear HY Tw hY bX UH Ws XF HF4 HR7 UD UB eg LR tY jD;go_wp2_with (first | (refine wpList_load_mid rfl 103 _ rfl w1.heap.size 0 rfl (az L) _ QY.out underlying103 rfl sG.out ?_) | (refine wpList_store_mid rfl 103 _ _ rfl (w.heap.size+1) 0 (az L).toArray rfl rfl tZ.out sF.out A3.out ?_));exact bodyPost_ret (iE Tryz.results85 _ rfl A6.out underlying103 rfl sG.out) rfl HE.out
end
end
section
variable (w:World)(b:Nat)(a:Option Addr)(c:Nat)(els:List PEl)(n:Int)
theorem GF (h:TRd w b a c els):Calls prog 84 #[.pointer (some ⟨b,1,none⟩),.int .i64 n] w λe w'=>oh w (bQ els els.length n) e w':=by
 obtain⟨i0,hi,gx,gA,gB⟩:=info_parts Tryz.info3;have HT:=ae h;have bC:=h.few;have q0:=h.cell;clear h;go_enter func84,ntmps84;go_wp2_with fail
 go_loopg [1,5,11] els.length (λgk nv v iv wr=>∃(i:Nat) (m:Int) (L:List Int),iv=.int .i64 i/\nv=.int .i64 m/\i<=els.length/\els.length - i<=gk/\L.length<=i/\Hid (wr.ownsRow w.heap.size 3 1 v L.length (az L)/\Below w.heap.size w wr/\bQ els els.length n=L++bQ els (els.length - i) m))
 case atStart=>exact⟨0,n,[],rfl,rfl,aZ,by omega,by simp,er,bd,by simp⟩
 case round=>
  obtain⟨i,m,L,rfl,rfl,jJ,fS,hL,HN⟩:=hrel;obtain⟨a2,c2,jC⟩:=aA HN.out.1;subst jC;have iW:=HN.out.2.1.size
  by_cases aU:i<els.length
  ·have hd:decide ((i:Int)<(els.length:Int))=true:=by simp;omega
   have LW:=ae (HT.out.below HN.out.2.1);clear q0;go_wp2_with fail;refine(i8 wr b _ els m LW.out.cell LW.out.pl bC).mono ?_;rintro e w1 ⟨rfl,cq⟩;have dq:=HN.out.2.1.trans (cq.mono iW);have HO:=ae (aN HN.out.1 (cq.mono au));have Gb:=dq.size;have eD:=ae dq;clear cq dq
   by_cases hp:parP els m=-1
   ·have gp:(parP els m==-1)=true:=by simp[hp]
    have HE:Hid (oh w (bQ els els.length n) (.returned (.slice a2 L.length c2)) w1):=by
     have e1:bQ els els.length n=L:=by rw[HN.out.2.2,v9 hp,List.append_nil]
     unfold Hid;rw[e1];exact⟨a2,c2,rfl,HO.out,eD.out⟩
    clear hp;generalize parP els m=p at gp ⊢;go_wp2;go_ret;exact HE.out
   ·have gp:(parP els m==-1)=false:=by simp[hp]
    have HA:Hid (bQ els els.length n=(L++[parP els m])++bQ els (els.length - (i+1)) (parP els m)):=by
     unfold Hid;rw[HN.out.2.2,show els.length - i=els.length - (i+1)+1 from by omega,CQ hp];simp
    clear hp HN;generalize parP els m=p at gp HA ⊢;go_wp2_with (at_builtin;refine wpList_append_own _ rfl (.tmp 19) (.tmp 21) 40 rfl w.heap.size 3 i0 (.int .i64 0) 1 8 underlying40 hi gx gA gB rfl (by decide) _ _ _ rfl (HO.out.alloc _) ⟨w1.heap.size,0,none⟩ 1 1 [.int .i64 p] rfl rfl ?c1 ?c2 ?c3 ?c4 ?c5 ?_)
    case c1=>exact aW w1 _ rfl _ _ _ rfl
    case c2=>exact rZ p
    case c3=>unfold maxLen;omega
    case c4=>omega
    case c5=>simp;omega
    intro v5 w5 bR jf _
    have tX:Hid (w5.ownsRow w.heap.size 3 1 v5 (L++[p]).length (az (L++[p]))/\Below w.heap.size w w5/\bQ els els.length n=(L++[p])++bQ els (els.length - (i+1)) p):=
     ⟨by simpa using bR,(eD.out.alloc Gb _).grown jf (by simp;omega) (λk hk=>(HO.out.lt k hk).1),HA.out⟩
    have TN:(L++[p]).length<=i+1:=by simp;omega
    clear bR jf HO eD HA LW;generalize L++[p]=L2 at tX TN;go_wp2;go_roundg (els.length - (i+1))
    case measure=>omega
    case rel=>exact⟨i+1,p,L2,by go_num,rfl,by omega,au,TN,tX⟩
  ·have hd:decide ((i:Int)<(els.length:Int))=false:=by simp;omega
   obtain rfl:i=els.length:=by omega
   have HE:Hid (oh w (bQ els els.length n) (.returned (.slice a2 L.length c2)) wr):=by
    have e1:bQ els els.length n=L:=by rw[HN.out.2.2,Nat.sub_self];exact List.append_nil _
    unfold Hid;rw[e1];exact⟨a2,c2,rfl,HN.out.1,HN.out.2.1⟩
   go_wp2;go_ret;exact HE.out
end
section
variable {M:Nat->Mk}{T:aJ}{k made:Nat}{kl:List (Int × List Int)}{l:List Nat}{rs:List dF}
def lf (T:aJ)(M:Nat->Mk)(rs:List dF)(kl:List (Int × List Int))(xs:List Int):List (Int × List Int):=xs.foldr (λx kl=>jl T M rs kl x) kl
def mA (T:aJ)(M:Nat->Mk)(rs:List dF)(kl:List (Int × List Int))(k:Int):List (Int × List Int):=jl T M rs (lf T M rs kl (aX T T.length k)) k
theorem zx (T:aJ)(M:Nat->Mk)(rs:List dF)(xs:List Int):(iP T M rs xs).length=9:=by
 cases xs with
 | nil=>rfl
 | cons x xs=>exact lG _ _ _
theorem ta (h:KOK T M rs kl):∀(xs:List Int),(∀x∈xs,∃k l,x=((k:Nat):Int)/\(k,l)∈T)->KOK T M rs (lf T M rs kl xs)
 | [],_=>h
 | x :: xs,hx=>by
  obtain⟨k,l,rfl,hk⟩:=hx x List.mem_cons_self;exact(ta h xs (λy hy=>hx y (List.mem_cons_of_mem _ hy))).fresh hk
theorem sX (h:TW T made)(hk:(k,l)∈T):∀x∈aX T T.length k,∃j lj,x=((j:Nat):Int)/\(j,lj)∈T:=λx hx=>by
 obtain⟨i,hi,rfl⟩:=List.getElem_of_mem hx;obtain⟨j,lj,h1,h2,_⟩:=qp h i hk (bO hi);exact⟨j,lj,h1,h2⟩
theorem AQ (h:KOK T M rs kl)(hw:TW T made)(hk:(k,l)∈T):KOK T M rs (mA T M rs kl k):=(ta h _ (sX hw hk)).fresh hk
theorem zo {T:aJ}:∀(n:Nat) (e:Int),(aX T n e).length<=n
 | 0,_=>by simp[aX]
 | n+1,e=>by
  show(if aY T e=-1 then[] else aY T e :: aX T n (aY T e)).length<=n+1
  split
  ·simp
  ·have:=zo (T:=T) n (aY T e)
   simp only[List.length_cons]
   omega
section
variable (w:World)(b:Nat)(vS:Value × Value)(v:Value)(els:List PEl)(T:aJ)(made:Nat)(M:Nat->Mk)(rs:List dF)(kl:List (Int × List Int))(G:Nat->Prop)
def sW (k:Nat)(e:Ending)(w':World):Prop:=
 e=.returned (.agg (az (dM (bg T M) rs k)).toArray)/\∃v2,DM w' b (vS.1,v2) v els T made M rs (mA T M rs kl k) G/\Fr w w' (λj=>j=b∨vS.2.ownBlock=some j)/\∀j,v2.ownBlock=some j->vS.2.ownBlock=some j∨w.heap.size<=j
structure SOI (w2:World)(t5:Nat)(al:Option Addr)(xs:List Int)(m:Nat)(v2:Value)(wr:World):Prop where
 dm:DM wr b (vS.1,v2) v els T made M rs (lf T M rs kl (xs.drop m)) G
 fr:Fr w wr (λj=>j=b∨vS.2.ownBlock=some j)
 own:∀j,v2.ownBlock=some j->vS.2.ownBlock=some j∨w2.heap.size<=j
 rng:wr.rangeAt t5 0 (az (iP T M rs (xs.drop m)))
 thr:wr.there t5 0 9
 res:wr.there w.heap.size 0 9
 row:RowI wr al xs
 far:w2.heap.size<=wr.heap.size
end
section
variable {w:World}{b:Nat}{vS:Value × Value}{v:Value}{els:List PEl}{T:aJ}{made:Nat}{M:Nat->Mk}{rs:List dF}{kl:List (Int × List Int)}{G:Nat->Prop}
variable {w2:World}{t5:Nat}{al:Option Addr}{xs:List Int}{m:Nat}{v2:Value}{wr:World}
theorem SOI.alone (h:SOI w b vS v els T made M rs kl G w2 t5 al xs m v2 wr)(h0:∀j,j=b∨vS.2.ownBlock=some j->j<w.heap.size){j:Nat}(h1:w.heap.size<=j)(h2:j<w2.heap.size):¬(j=b∨v2.ownBlock=some j):=by
 rintro(e | e)
 ·have:=h0 j (af e);omega
 ·rcases h.own j e with e | e
  ·have:=h0 j (ai e);omega
  ·omega
end
end
section
variable (w:World)(b:Nat)(vS:Value × Value)(v:Value)(els:List PEl)(T:aJ)(made:Nat)(M:Nat->Mk)(rs:List dF)(kl:List (Int × List Int))(G:Nat->Prop)
theorem sf (k:Nat)(l:List Nat)(h:DM w b vS v els T made M rs kl G)(VG:KOK T M rs kl)(hk:(k,l)∈T):
  Calls prog 48 #[.pointer (some ⟨b,0,none⟩),.int .i64 k] w λe w'=>sW w b vS v els T made M rs kl G k e w':=by
 obtain⟨a,c,hv⟩:=h.pb.pl.shape;subst hv;have HD:Hid (DM w b vS (.slice a els.length c) els T made M rs kl G):=h;have HKO:Hid (KOK T M rs kl/\(k,l)∈T):=⟨VG,hk⟩;have jF:b<w.heap.size:=h.lt;have HAB:Hid (bQ els els.length k=aX T T.length k):=by unfold Hid;rw[vY h.pb.pt h.tw,h.pb.pt.len h.tw]
 have HAL:Hid ((aX T T.length k).length<=24):=by
  have h1:=zo (T:=T) T.length k;have h2:=h.pb.pt.len h.tw;have h3:=h.pb.few;unfold Hid;omega
 have QO:Hid (∀j,j=b∨vS.2.ownBlock=some j->j<w.heap.size):=λj hj=>h.own_lt hj;have od:Hid (∀Z:Array Value,Below w.heap.size w (w.alloc (.cells Z 103))):=λZ=>bd.alloc au _;have HDR:Hid (∀(i:Nat) (x:Int),(aX T T.length k)[i]?=some x->∃j lj,x=((j:Nat):Int)/\(j,lj)∈T/\aX T T.length x=(aX T T.length k).drop (i+1)):=λi x hx=>qp h.tw i hk hx;have HKC:Hid (∀m,KOK T M rs (lf T M rs kl ((aX T T.length k).drop m))):=λm=>ta VG _ (λx hx=>sX h.tw hk x (List.mem_of_mem_drop hx));have fy:Hid (mA T M rs kl k=jl T M rs (lf T M rs kl ((aX T T.length k).drop 0)) k):=rfl;have HCO:Hid (iP T M rs ((aX T T.length k).drop 0)=iP T M rs (aX T T.length k)):=rfl;clear h VG hk;go_enter func48,ntmps48;go_wp2_with fail;refine(sb _).mono ?_;rintro e w1 ⟨rfl,cq⟩;have gK:w.heap.size+1<=w1.heap.size:=by have:=cq.size;simpa using this
 have eg:Hid (Below w.heap.size w w1):=(od.out _).trans (cq.mono (by simp))
 have HT4:Hid (w1.there w.heap.size 0 9):=by
  refine dx cq (by simp) ?_;exact fQ w (#[.int .i64 0,.int .i64 0,.int .i64 0,.int .i64 0,.int .i64 0,.int .i64 0,.int .i64 0,.int .i64 0,.int .i64 0]:Array Value) 103 9 (by decide)
 clear cq;have HI9:Hid ((prog.info? 103).map (·.size)=some (az eC).toArray.size):=Tryz.sizeS;have HIO:Hid ((az eC).toArray.all (·.oneCell')=true):=gH eC;have pY:Hid (9=(az eC).toArray.size):=rfl;have eD:Hid (Below w1.heap.size w1 (w1.alloc (.cells (az eC).toArray 103))):=bd.alloc au _;have LR:Hid ((w1.alloc (.cells (az eC).toArray 103)).rangeAt w1.heap.size 0 (az eC)):=ep w1 _ _;have Fb:Hid ((w1.alloc (.cells (az eC).toArray 103)).there w1.heap.size 0 9):=fQ w1 _ _ 9 (by decide);have TC:Hid ((w1.alloc (.cells (az eC).toArray 103)).heap.size=w1.heap.size+1):=by simp[Hid]
 have oD:Hid (DM (w1.alloc (.cells (az eC).toArray 103)) b vS (.slice a els.length c) els T made M rs kl G):=(HD.out.below eg.out).below eD.out;have HIA:Hid ((az eC).toArray=#[.int .i64 1,.int .i64 2,.int .i64 3,.int .i64 4,.int .i64 5,.int .i64 6,.int .i64 0,.int .i64 0,.int .i64 0]):=rfl;rw[HIA.out] at HI9 HIO pY eD LR Fb TC oD ⊢;go_wp2_with (first | (refine aE rfl 103 _ _ rfl _ #[.int .i64 1,.int .i64 2,.int .i64 3,.int .i64 4,.int .i64 5,.int .i64 6,.int .i64 0,.int .i64 0,.int .i64 0] 103 rfl rfl HI9.out pY.out HIO.out ?_));refine(GF _ b a c els k oD.out.trd).mono ?_;rw[HAB.out];rintro e w2 ⟨al,cl,rfl,eb,dq⟩;have nE:w1.heap.size+1<=w2.heap.size:=by have:=dq.size;rwa[TC.out] at this
 have XC:Hid (SOI w b vS (.slice a els.length c) els T made M rs kl G w2 w1.heap.size al (aX T T.length k) (aX T T.length k).length vS.2 w2):=by
  have hbb:Below w1.heap.size w1 w2:=eD.out.trans (dq.mono eD.out.size);refine⟨?_,((Fr.refl w _).below eg.out).below hbb,λj hj=>af hj,?_,dx dq (by rw[TC.out];omega) Fb.out,dx hbb (by omega) HT4.out,RowI.own eb,au⟩
  ·rw[List.drop_length];exact oD.out.below dq
  ·rw[List.drop_length];exact bo dq (by rw[TC.out];omega) LR.out
 have HGF:Hid (∀g,al=some ⟨g,0,none⟩->w1.heap.size<g/\g<w2.heap.size):=λg hg=>by
  have:=eb.lt g (by rw[hg];rfl);rw[TC.out] at this;omega
 have Xa:Hid ((aX T T.length k).length<=cl):=lX eb;clear eb dq eg HT4 HI9 HIO pY eD LR Fb TC oD HIA HAB;obtain⟨xs,hxs⟩:∃xs,aX T T.length k=xs:=⟨_,rfl⟩;have HXS:Hid (aX T T.length k=xs):=hxs;rw[hxs] at HAL HDR HKC fy HCO XC Xa ⊢;clear hxs;have VS:=HAL.out;have J4:=Xa.out;go_wp2_with fail
 go_loopg [7] xs.length (λgk iv wr=>∃m:Nat,iv=.int .i64 ((m:Int) - 1)/\m<=xs.length/\m<=gk/\Hid (∃v2,SOI w b vS (.slice a els.length c) els T made M rs kl G w2 w1.heap.size al xs m v2 wr))
 case atStart=>exact⟨xs.length,by go_num,au,au,vS.2,XC.out⟩
 case round=>
  obtain⟨m,rfl,hm,fS,HI⟩:=hrel;obtain⟨v2,hI⟩:=HI.out;have HS:Hid (SOI w b vS (.slice a els.length c) els T made M rs kl G w2 w1.heap.size al xs m v2 wr):=hI;clear HI hI;have J8:=HS.out.far;cases m with
  | zero=>
   have lL:=zx T M rs xs;have Xb:Hid (iP T M rs xs=iP T M rs (aX T T.length k)):=by unfold Hid;rw[HXS.out]
   have uI:Hid ((prog.info? 103).map (·.size)=some (az (iP T M rs xs)).length):=sizeS lL;have LR:Hid (wr.rangeAt w1.heap.size 0 (az (iP T M rs xs))):=HS.out.rng;have mo:b<wr.heap.size:=HS.out.dm.lt;rw[show(((0:Nat):Int) - 1)=-1 from rfl];go_wp2_with (refine wpList_load_mid rfl 103 _ rfl w1.heap.size 0 rfl (az (iP T M rs xs)) _ LR.out underlying103 rfl uI.out ?_);refine(r8 wr b (vS.1,v2) _ els T made M rs _ G k l (iP T M rs xs) HS.out.dm (HKC.out 0) HKO.out.2 Xb.out lL).mono ?_;rintro e w3 ⟨rfl,v3,yw,Oj,Sd⟩;have Id:=lG (bg T M) rs k;have hT4:¬(w.heap.size=b∨v2.ownBlock=some w.heap.size):=HS.out.alone QO.out au (by omega);have HX:Hid (DM w3 b (vS.1,v3) (.slice a els.length c) els T made M rs (mA T M rs kl k) G/\Fr wr w3 (λj=>j=b∨v2.ownBlock=some j)/\(∀j,v3.ownBlock=some j->v2.ownBlock=some j∨wr.heap.size<=j)/\w3.there w.heap.size 0 9):=⟨by rw[fy.out];exact yw,Oj,Sd,kb HS.out.res (Oj.block w.heap.size (by omega) hT4)⟩;clear yw Oj Sd hT4 LR uI
   have HLE:Hid (∀(L:List Int),L=dM (bg T M) rs k->sW w b vS (.slice a els.length c) els T made M rs kl G k (.returned (.agg (az L).toArray)) (w3.setCells w.heap.size 0 (az L))):=λL hL=>by
    refine⟨by rw[hL],v3,HX.out.1.aside (λj hj=>kh _ _ _ _ _ (λe=>?_)) (by rw[eM];exact au),?_,λj hj=>?_⟩
    ·subst e;rcases hj with h1 | h1 | h1 | h1
     ·omega
     ·have:=(HD.out.pb.pl.row.lt _ h1).2;omega
     ·rcases HX.out.2.2.1 _ h1 with h2 | h2
      ·rcases HS.out.own _ h2 with h3 | h3
       ·have:=QO.out _ (ai h3);omega
       ·omega
      ·omega
     ·have:=HD.out.gl _ h1;omega
    ·refine Fr.sets (ai au) _ _ (HS.out.fr.comp HX.out.2.1 (λj hj=>?_));rcases hj with h1 | h1
     ·exact af (af h1)
     ·rcases HS.out.own _ h1 with h3 | h3
      ·exact af (ai h3)
      ·exact ai (by omega)
    ·rcases HX.out.2.2.1 _ hj with h2 | h2
     ·rcases HS.out.own _ h2 with h3 | h3
      ·exact af h3
      ·exact ai (by omega)
     ·exact ai (by omega)
   obtain⟨L,hL⟩:∃L,dM (bg T M) rs k=L:=⟨_,rfl⟩;have HE:=HLE.out L hL.symm;rw[hL] at Id ⊢;clear hL HLE;have bX:(az L).toArray.size=9:=List.size_toArray.trans (by rw[List.length_map];exact Id);have tZ:Hid (w3.there w.heap.size 0 (az L).toArray.size):=by unfold Hid;rw[bX];exact HX.out.2.2.2
   have sF:Hid ((prog.info? 103).map (·.size)=some (az L).toArray.size):=by unfold Hid;rw[bX];exact Tryz.sizeS
   have sG:Hid ((prog.info? 103).map (·.size)=some (az L).length):=sizeS Id;have A3:Hid ((az L).toArray.all (·.oneCell')=true):=gH L;have A6:Hid ((w3.setCells w.heap.size 0 (az L)).rangeAt w.heap.size 0 (az L)):=World.rangeAt_setCells_same _ _ 0 _ (by have:=tZ.out;rwa[show(az L).toArray.size=(az L).length from List.size_toArray] at this);have HEE:Hid (sW w b vS (.slice a els.length c) els T made M rs kl G k (.returned (.agg (az L).toArray)) (w3.setCells w.heap.size 0 (az L))):=HE;clear HE bX HX HS;go_wp2_with (refine wpList_store_mid rfl 103 _ _ rfl w.heap.size 0 (az L).toArray rfl rfl tZ.out sF.out A3.out ?_);exact bodyPost_ret (iE Tryz.results48 _ rfl A6.out underlying103 rfl sG.out) rfl HEE.out
  | succ m=>
   have zQ:m<xs.length:=by omega
   rw[show(((m+1:Nat):Int) - 1)=(m:Int) from by omega];have hd:decide ((0:Int)<=(m:Int))=true:=by simp
   have jJ:(m:Int)<(xs.length:Int):=by omega
   obtain⟨x,hx⟩:∃x,xs[m]?=some x:=⟨_,bO zQ⟩;obtain⟨j,lj,hxj,Fg,WN⟩:=HDR.out m x hx;obtain⟨g,hg,dn,iC⟩:=HS.out.row m zQ;rw[hx,hxj] at iC;replace iC:wr.cell? ⟨g,m,none⟩=some (.int .i64 j):=iC;obtain⟨Dy,ij⟩:=HGF.out g hg
   have HDP:Hid (xs.drop m=x :: xs.drop (m+1)):=by
    unfold Hid;rw[List.drop_eq_getElem_cons zQ];rw[bO zQ] at hx;injection hx with hx
    rw[hx]
   subst hxj;subst hg;have HJ:Hid ((j,lj)∈T/\iP T M rs (xs.drop (m+1))=iP T M rs (aX T T.length j)):=⟨Fg,by rw[WN]⟩;have lL:=zx T M rs (xs.drop (m+1));have UD:Hid (DM wr.drew b (vS.1,v2) (.slice a els.length c) els T made M rs (lf T M rs kl (xs.drop (m+1))) G):=HS.out.dm.below (Below.refl wr.heap.size wr).drew;obtain⟨cm,Ig⟩:∃cm,iP T M rs (xs.drop (m+1))=cm:=⟨_,rfl⟩;have HCM:Hid (cm=iP T M rs (aX T T.length j)):=by unfold Hid;rw[<-Ig];exact HJ.out.2
   have Xy:Hid (wr.rangeAt w1.heap.size 0 (az cm)):=by unfold Hid;rw[<-Ig];exact HS.out.rng
   rw[Ig] at lL;obtain⟨L,hL⟩:∃L,dM (bg T M) rs j=L:=⟨_,rfl⟩;have HL:Hid (dM (bg T M) rs j=L):=hL;have Id:L.length=9:=by rw[<-hL];exact lG _ _ _
   have J2:(az L).length=9:=by rw[List.length_map];exact Id
   have WG:(prog.info? 103).map (·.size)=some (az L).length:=sizeS Id;have TO:∀v∈az L,v.oneCell'=true:=Pf L;have hCs:(prog.info? 103).map (·.size)=some (az cm).length:=sizeS lL;have hUA:=underlying103;have Xh:Hid (wr.cell? ⟨g,m,none⟩=some (.int .i64 j)):=iC
   have HC:Hid (∀wx,Fr wr.drew wx (λi=>i=b∨v2.ownBlock=some i)->wx.cell? ⟨g,m,none⟩=some (.int .i64 j)/\wx.rangeAt w1.heap.size 0 (az cm)/\wx.there w1.heap.size 0 9):=λwx hf=>by
    have ZL:wx.heap[g]?=wr.heap[g]?:=hf.block g (by show g<wr.heap.size;omega) (HS.out.alone QO.out (by omega) ij);have yI:wx.heap[w1.heap.size]?=wr.heap[w1.heap.size]?:=hf.block w1.heap.size (by show w1.heap.size<wr.heap.size;omega) (HS.out.alone QO.out (by omega) (by omega));refine⟨?_,xI Xy.out yI,kb HS.out.thr yI⟩;have:=Xh.out;unfold World.cell? at this ⊢;rw[ZL];exact this
   have H0:Hid (Fr wr.drew wr.drew (λi=>i=b∨v2.ownBlock=some i)):=Fr.refl _ _;have We:Hid (∀wx:World,(wx.cell? ⟨g,m,none⟩=some (.int .i64 j)/\wx.rangeAt w1.heap.size 0 (az cm)/\wx.there w1.heap.size 0 9)->(wx.setCells w1.heap.size 0 (az L)).cell? ⟨g,m,none⟩=some (.int .i64 j)/\(wx.setCells w1.heap.size 0 (az L)).there w1.heap.size 0 9):=λwx ⟨h1,_,h3⟩=>⟨(World.cell?_setCells_out w1.heap.size (az L) 0 wx ⟨g,m,none⟩ (λe=>by replace e:g=w1.heap.size:=e;omega)).trans h1,World.there_setCells h3 _ _ _⟩
   have iH:Hid (∀w5 v5,DM w5 b (vS.1,v5) (.slice a els.length c) els T made M rs (jl T M rs (lf T M rs kl (xs.drop (m+1))) j) G->Fr wr.drew w5 (λi=>i=b∨v2.ownBlock=some i)->(∀i,v5.ownBlock=some i->v2.ownBlock=some i∨wr.heap.size<=i)->SOI w b vS (.slice a els.length c) els T made M rs kl G w2 w1.heap.size (some ⟨g,0,none⟩) xs m v5 (w5.setCells w1.heap.size 0 (az L))):=λw5 v5 Gd Gf hj5=>by
    have hz5:wr.heap.size<=w5.heap.size:=Gf.size
    have bL:∀i,v5.ownBlock=some i->vS.2.ownBlock=some i∨w2.heap.size<=i:=λi hi=>by
     rcases hj5 i hi with h1 | h1
     ·exact HS.out.own i h1
     ·exact ai (by omega)
    have ft:Fr w w5 (λi=>i=b∨vS.2.ownBlock=some i):=(HS.out.fr.drew1).comp Gf (λi hi=>by
     rcases hi with h1 | h1
     ·exact af (af h1)
     ·rcases HS.out.own _ h1 with h3 | h3
      ·exact af (ai h3)
      ·exact ai (by omega))
    have Ij:∀i,w.heap.size<=i->i<w2.heap.size->w5.heap[i]?=wr.heap[i]?:=λi h1 h2=>Gf.block i (by show i<wr.heap.size;omega) (HS.out.alone QO.out h1 h2);refine⟨?_,Fr.sets (ai (by omega)) _ _ ft,bL,?_,World.there_setCells (kb HS.out.thr (Ij w1.heap.size (by omega) (by omega))) _ _ _,World.there_setCells (kb HS.out.res (Ij w.heap.size (by omega) (by omega))) _ _ _,λi hi=>?_,by rw[eM];omega⟩
    ·rw[HDP.out];refine DM.aside (w:=w5) Gd (λi hi=>kh _ _ _ _ _ (λe=>?_)) (by rw[eM];exact au);subst e;rcases hi with h1 | h1 | h1 | h1
     ·omega
     ·have:=(HD.out.pb.pl.row.lt _ h1).2;omega
     ·rcases bL _ h1 with h2 | h2
      ·have:=QO.out _ (ai h2);omega
      ·omega
     ·have:=HD.out.gl _ h1;omega
    ·rw[HDP.out];show(w5.setCells w1.heap.size 0 (az L)).rangeAt w1.heap.size 0 (az (dM (bg T M) rs j));rw[HL.out];exact World.rangeAt_setCells_same _ _ 0 _ (by rw[J2];exact kb HS.out.thr (Ij w1.heap.size (by omega) (by omega)))
    ·obtain⟨g',h1,h2,h3⟩:=HS.out.row i hi;have Ff:g=g':=by injection h1 with h1;injection h1 with h1 _ _
     subst Ff;refine⟨g,rfl,by rw[eM];omega,?_⟩;rw[World.cell?_setCells_out w1.heap.size (az L) 0 w5 ⟨g,i,none⟩ (λe=>by replace e:g=w1.heap.size:=e;omega)];have:=h3;unfold World.cell? at this ⊢;rw[Ij g (by omega) ij];exact this
   obtain⟨c0,c1,c2,c3,c4,c5,c6,c7,c8,J5⟩:=BN lL;obtain⟨l0,l1,l2,l3,l4,l5,l6,l7,l8,qw⟩:=BN Id;subst J5 qw;have vB:Hid (∀wx:World,wx.rangeAt w1.heap.size 0 (az [c0,c1,c2,c3,c4,c5,c6,c7,c8])->wx.there w1.heap.size 0 9->wx.cell? ⟨w1.heap.size,0,none⟩=some (.int .i64 c0)/\wx.cell? ⟨w1.heap.size,1,none⟩=some (.int .i64 c1)/\wx.cell? ⟨w1.heap.size,2,none⟩=some (.int .i64 c2)/\wx.cell? ⟨w1.heap.size,3,none⟩=some (.int .i64 c3)/\wx.cell? ⟨w1.heap.size,4,none⟩=some (.int .i64 c4)/\wx.cell? ⟨w1.heap.size,5,none⟩=some (.int .i64 c5)/\wx.cell? ⟨w1.heap.size,6,none⟩=some (.int .i64 c6)/\wx.cell? ⟨w1.heap.size,7,none⟩=some (.int .i64 c7)/\wx.cell? ⟨w1.heap.size,8,none⟩=some (.int .i64 c8)/\wx.frozen? ⟨w1.heap.size,0,none⟩=false/\wx.frozen? ⟨w1.heap.size,1,none⟩=false/\wx.frozen? ⟨w1.heap.size,2,none⟩=false/\wx.frozen? ⟨w1.heap.size,3,none⟩=false/\wx.frozen? ⟨w1.heap.size,4,none⟩=false/\wx.frozen? ⟨w1.heap.size,5,none⟩=false/\wx.frozen? ⟨w1.heap.size,6,none⟩=false/\wx.frozen? ⟨w1.heap.size,7,none⟩=false/\wx.frozen? ⟨w1.heap.size,8,none⟩=false):=λwx h1 h2=>⟨by have:=h1 0 _ rfl;simpa using this,by have:=h1 1 _ rfl;simpa using this,by have:=h1 2 _ rfl;simpa using this,by have:=h1 3 _ rfl;simpa using this,by have:=h1 4 _ rfl;simpa using this,by have:=h1 5 _ rfl;simpa using this,by have:=h1 6 _ rfl;simpa using this,by have:=h1 7 _ rfl;simpa using this,by have:=h1 8 _ rfl;simpa using this,by have:=(h2 0 (by decide)).2;simpa using this,by have:=(h2 1 (by decide)).2;simpa using this,by have:=(h2 2 (by decide)).2;simpa using this,by have:=(h2 3 (by decide)).2;simpa using this,by have:=(h2 4 (by decide)).2;simpa using this,by have:=(h2 5 (by decide)).2;simpa using this,by have:=(h2 6 (by decide)).2;simpa using this,by have:=(h2 7 (by decide)).2;simpa using this,by have:=(h2 8 (by decide)).2;simpa using this⟩;obtain⟨k0,k1,k2,k3,k4,k5,k6,k7,k8,f0,f1,f2,f3,f4,f5,f6,f7,f8⟩:=vB.out wr Xy.out HS.out.thr;have Co:(0:Int)<=(m:Int):=by omega
   have ht5:w1.heap.size<wr.heap.size:=by omega
   clear hx Fg WN hL Ig J2 WG TO hCs hUA;go_upto_region 6 with fail
   go_region_with ((go_at_call 85;refine(r8 _ b (vS.1,v2) (.slice a els.length c) els T made M rs (lf T M rs kl (xs.drop (m+1))) G j lj [c0,c1,c2,c3,c4,c5,c6,c7,c8] UD.out (HKC.out (m+1)) HJ.out.1 HCM.out lL).mono ?_;intro e w5 hp;obtain⟨rfl,v5,Gd,Gf,hj5⟩:=hp;rw[HL.out];obtain⟨y0,y1,y2,y3,y4,y5,y6,y7,y8,z0,z1,z2,z3,z4,z5,z6,z7,z8⟩:=vB.out w5 (HC.out w5 Gf).2.1 (HC.out w5 Gf).2.2;have y5l:w1.heap.size<w5.heap.size:=Nat.lt_of_lt_of_le ht5 Gf.size;have HX:Hid (SOI w b vS (.slice a els.length c) els T made M rs kl G w2 w1.heap.size (some ⟨g,0,none⟩) xs m v5 (w5.setCells w1.heap.size 0 (az [l0,l1,l2,l3,l4,l5,l6,l7,l8]))):=iH.out w5 v5 Gd Gf hj5;clear Gd Gf hj5))
   all_goals
    have HI:Hid (∃v5,SOI w b vS (.slice a els.length c) els T made M rs kl G w2 w1.heap.size (some ⟨g,0,none⟩) xs m v5 (((((((((w5.setCell ⟨w1.heap.size,0,none⟩ (.int .i64 l0)).setCell ⟨w1.heap.size,1,none⟩ (.int .i64 l1)).setCell ⟨w1.heap.size,2,none⟩ (.int .i64 l2)).setCell ⟨w1.heap.size,3,none⟩ (.int .i64 l3)).setCell ⟨w1.heap.size,4,none⟩ (.int .i64 l4)).setCell ⟨w1.heap.size,5,none⟩ (.int .i64 l5)).setCell ⟨w1.heap.size,6,none⟩ (.int .i64 l6)).setCell ⟨w1.heap.size,7,none⟩ (.int .i64 l7)).setCell ⟨w1.heap.size,8,none⟩ (.int .i64 l8))):=⟨v5,HX.out⟩;clear iH We HC H0 Xy UD HS HX vB;go_wp2;go_roundg m
    case measure=>omega
    case rel=>exact⟨m,by go_num,by omega,au,HI⟩
end
section
variable {s:ByteArray}
def kZ (w:World)(T:aJ)(n:Int)(s:ByteArray)(e:Ending)(w':World):Prop:=e=.returned (.tuple #[.int .i64 ((if bq T n s=0 then(i9 s).getD 0 else 0:Nat):Int),.int .i64 (bq T n s)])/\Below w.heap.size w w'
theorem ng {T:aJ}{n:Int}(h:bq T n s=0):∃l p,bw T n=some l/\i9 s=some p:=by
 unfold bq at h;cases ht:bw T n with
 | none=>rw[ht] at h;cases h
 | some l=>
  rw[ht] at h;cases hp:i9 s with
  | none=>simp only[hp] at h;cases h
  | some p=>exact⟨l,p,rfl,rfl⟩
theorem xC {p:Nat}(h:i9 s=some p):p<9:=by
 unfold i9 at h;split at h
 ·exact l9 h
 ·cases h
section
variable (w:World)(b:Nat)(vS:Value × Value)(v:Value)(els:List PEl)(T:aJ)(made:Nat)(M:Nat->Mk)(rs:List dF)(kl:List (Int × List Int))(G:Nat->Prop)
theorem rB (n:Int)(s:ByteArray)(h:DM w b vS v els T made M rs kl G):Calls prog 66 #[.pointer (some ⟨b,0,none⟩),.int .i64 n,.string s] w λe w'=>kZ w T n s e w':=by
 obtain⟨a,c,hv⟩:=h.pb.pl.shape;subst hv;have HD:=ae h;have HF:=ae (jH h.pb.pt h.tw n);clear h;go_enter func66,ntmps66;go_wp2_with fail;refine(Ea w b a c els n HD.out.trd).mono ?_;rintro e w1 ⟨rfl,cq⟩;rw[HF.out];cases ht:bw T n with
 | none=>
  have HE:Hid (kZ w T n s (.returned (.tuple #[.int .i64 0,.int .i64 5])) w1):=by
   have:bq T n s=5:=by unfold bq;rw[ht]
   unfold kZ;rw[this];exact⟨rfl,cq⟩
  clear ht cq;simp only[Option.isSome_none];go_wp2;go_ret2;exact HE.out
 | some l=>
  simp only[Option.isSome_some];have eg:=ae cq;have HQ:Hid ((i9 s=none->bq T n s=4)/\∀p,i9 s=some p->bq T n s=0):=⟨λhp=>by unfold bq;rw[ht];simp only[hp],λp hp=>by unfold bq;rw[ht];simp only[hp]⟩;clear ht cq;go_wp2_with fail;refine(za w1 s).mono ?_;rintro e w2 ⟨rfl,dq⟩;have eD:=ae (eg.out.trans (dq.mono eg.out.size));clear dq;cases hp:i9 s with
  | none=>
   have HE:Hid (kZ w T n s (.returned (.tuple #[.int .i64 0,.int .i64 4])) w2):=by
    have:bq T n s=4:=HQ.out.1 hp;unfold kZ;rw[this];exact⟨rfl,eD.out⟩
   clear hp;simp only[Option.isSome_none,Option.getD_none];go_wp2;go_ret2;exact HE.out
  | some p=>
   have HE:Hid (kZ w T n s (.returned (.tuple #[.int .i64 (p:Nat),.int .i64 0])) w2):=by
    have:bq T n s=0:=HQ.out.2 p hp;unfold kZ;rw[this,aq rfl,hp];exact⟨rfl,eD.out⟩
   clear hp;simp only[Option.isSome_some,Option.getD_some];go_wp2;go_ret2;exact HE.out
end
section
variable (w:World)(px:Value)(T:aJ)(made:Nat)(M:Nat->Mk)(rs:List dF)(kl:List (Int × List Int))(F:Nat->Prop)
def vt (n:Int)(s:ByteArray)(e:Ending)(w':World):Prop:=
 e=.returned (.tuple #[.int .i64 (eu T M rs n s),.int .i64 (bq T n s)])/\DSk w' px T made M rs (if bq T n s=0 then mA T M rs kl n else kl) (cJ F w)/\Fr w w' F
theorem Dc (n:Int)(s:ByteArray)(h:DSk w px T made M rs kl F):Calls prog 37 #[px,.int .i64 n,.string s] w λe w'=>vt w px T made M rs kl F n s e w':=by
 obtain⟨b,vS,v,els,G,rfl,h2,h3,h4,h5,h6,h7⟩:=h;have HB:Hid (DM w b vS v els T made M rs kl G/\KOK T M rs kl/\F b/\(∀j,v.ownBlock=some j->F j)/\(∀j,vS.2.ownBlock=some j->F j)/\∀k,G k->F k):=⟨h2,h3,h4,h5,h6,h7⟩;clear h2 h3 h4 h5 h6 h7;go_enter func37,ntmps37;go_wp2_with fail;refine(rB w b vS v els T made M rs kl G n s HB.out.1).mono ?_;rintro e w1 ⟨rfl,cq⟩;have jD:=ae (HB.out.1.below cq);have eg:=ae cq;clear cq
 by_cases hq:bq T n s=0
 ·obtain⟨l,p,ht,hp⟩:=ng hq;obtain⟨oT,hn⟩:=mQ ht;have Ow:=xC hp;have HV:Hid (eu T M rs n s=(dM (bg T M) rs n).getD p 0):=by unfold Hid eu;rw[aq hq,hp];rfl
  have HQ:=ae hq;rw[aq hq,hq,hp];simp only[Option.getD_some];obtain⟨k,hk⟩:∃k:Nat,n.toNat=k:=⟨_,rfl⟩;rw[hk] at oT hn;subst hn;have HM:=ae oT;clear hq ht hp oT hk;go_wp2_with fail;refine(sf w1 b vS v els T made M rs kl G k l jD.out HB.out.2.1 HM.out).mono ?_;rintro e w2 ⟨rfl,v2,iR,bG,LZ⟩;have Id:=lG (bg T M) rs k
  have HE:Hid (∀Z,vt w (.pointer (some ⟨b,0,none⟩)) T made M rs kl F k s (.returned (.tuple #[.int .i64 ((dM (bg T M) rs k).getD p 0),.int .i64 0])) (w2.alloc (.cells Z 103))):=λZ=>by
   have hf:Fr w w2 F:=((Fr.refl w F).below eg.out).trans (bG.mono (λj hj=>by
    rcases hj with e | e
    ·exact e▸HB.out.2.2.1
    ·exact HB.out.2.2.2.2.1 j e))
   refine⟨by rw[HQ.out,HV.out],?_,hf.alloc _⟩;rw[aq HQ.out];refine⟨b,(vS.1,v2),v,els,G,rfl,iR.below (bd.alloc au _),AQ HB.out.2.1 HB.out.1.tw HM.out,af HB.out.2.2.1,λj hj=>af (HB.out.2.2.2.1 j hj),λj hj=>?_,λj hj=>af (HB.out.2.2.2.2.2 j hj)⟩;rcases LZ j hj with h1 | h1
   ·exact af (HB.out.2.2.2.2.1 j h1)
   ·exact ai (Nat.le_trans eg.out.size h1)
  clear iR bG LZ;generalize dM (bg T M) rs k=L at Id HE ⊢;have bX:(az L).toArray.size=9:=List.size_toArray.trans (by rw[List.length_map];exact Id);have sF:Hid ((prog.info? 103).map (·.size)=some (az L).toArray.size):=by unfold Hid;rw[bX];exact Tryz.sizeS
  have Tr:=ae bX.symm;have A3:=ae (gH L)
  have q0:(w2.alloc (.cells (az L).toArray 103)).cell? ⟨w2.heap.size,p,none⟩=some (.int .i64 (L.getD p 0)):=by
   have:=ep w2 (az L) 103 p (.int .i64 (L.getD p 0)) (qP (by omega));rwa[Nat.zero_add] at this
  have hpi:(p:Int)<9:=by omega
  clear bX;generalize L.getD p 0=val at q0 HE;go_wp2_with (refine aE rfl 103 _ _ rfl _ (az L).toArray 103 rfl rfl sF.out Tr.out A3.out ?_);go_ret2;exact HE.out _
 ·have HE:Hid (vt w (.pointer (some ⟨b,0,none⟩)) T made M rs kl F n s (.returned (.tuple #[.int .i64 0,.int .i64 (bq T n s)])) w1):=by
   refine⟨by unfold eu;rw[aj hq],?_,(Fr.refl w F).below eg.out⟩;rw[aj hq];exact⟨b,vS,v,els,G,rfl,jD.out,HB.out.2.1,af HB.out.2.2.1,λj hj=>af (HB.out.2.2.2.1 j hj),λj hj=>af (HB.out.2.2.2.2.1 j hj),λj hj=>af (HB.out.2.2.2.2.2 j hj)⟩
  have gq:(bq T n s != 0)=true:=by simp[hq]
  rw[aj hq];clear hq;generalize bq T n s=y at HE gq ⊢;go_wp2;go_ret2;exact HE.out
end
def DSd (w:World)(px:Value)(T:aJ)(made:Nat)(M:Nat->Mk)(rs:List dF)(F:Nat->Prop):Prop:=∃kl,DSk w px T made M rs kl F
theorem Vc:WX DSd where
 ptr:=λ⟨_,h⟩=>by
  obtain⟨b,_,_,_,_,rfl,_⟩:=h;exact⟨_,rfl⟩
 tw:=λ⟨_,h⟩=>h.tw
 mark:=λ⟨kl,h⟩ hm=>⟨kl,h.mark hm⟩
 keep:=λ⟨kl,h⟩ hk hz=>⟨kl,h.keep hk hz⟩
 here:=λ⟨kl,h⟩=>⟨kl,h.here⟩
 new:=λw s ake hs=>(Db w s ake hs).mono λe w' h=>⟨h.1,h.2.imp id (λ⟨h1,px,h2,h3⟩=>⟨h1,px,h2,[],h3⟩)⟩
 ins:=λw px T made M rs F par at' kind ⟨kl,h⟩ hm=>(C8 w px T made M rs kl F par at' kind h hm).mono λe w' ⟨y,T',made',n,dh,h1,h2,h3,h4,_⟩=>⟨y,T',made',n,h1,h2,⟨dh,h3⟩,h4⟩
 rem:=λw px T made M rs F n ⟨kl,h⟩=>(Dd w px T made M rs kl F n h).mono λe w' ⟨y,T',dh,h1,h2,h3,h4,_⟩=>⟨y,T',h1,h2,⟨dh,h3⟩,h4⟩
 mov:=λw px T made M rs F n m at' ⟨kl,h⟩=>(C9 w px T made M rs kl F n m at' h).mono λe w' ⟨y,T',dh,h1,h2,h3,h4,_⟩=>⟨y,T',h1,h2,⟨dh,h3⟩,h4⟩
 cls:=λw px T made M rs F n s on ⟨kl,h⟩=>(C4 w px T made M rs kl F n s on h).mono λe w' ⟨y,dh,h1,h2,h3,h4,_⟩=>⟨y,h1,h2,⟨dh,h3⟩,h4⟩
 nam:=λw px T made M rs F n s ⟨kl,h⟩=>(Da w px T made M rs kl F n s h).mono λe w' ⟨y,dh,h1,h2,h3,h4,_⟩=>⟨y,h1,h2,⟨dh,h3⟩,h4⟩
 sht:=λw px T made M rs F s hs ⟨kl,h⟩=>(De w px T made M rs kl F s hs h).mono λe w' ⟨y,dh,h1,h2,h3,h4,_⟩=>⟨y,h1,h2,⟨dh,h3⟩,h4⟩
 qry:=λw px T made M rs F n s ⟨kl,h⟩=>(Dc w px T made M rs kl F n s h).mono λe w' ⟨h1,h2,h3⟩=>⟨h1,⟨_,h2⟩,h3⟩
end
def vK (w:World)(b:Nat)(vS:Value × Value)(v:Value)(els:List PEl)(T:aJ)(made:Nat)(n:Int)(on:Bool)(e:Ending)(w':World):Prop:=
 ∃(bP:List PEl),e=.returned (.int .i64 (if(bw T n).isSome then 0 else 5))/\PB3 w' b vS v bP T made/\Fr w w' (λk=>v.ownBlock=some k)/\∀M,MkO els M->MkO bP (if(bw T n).isSome then bM M n.toNat (io (M n.toNat) on) else M)
section
variable (w:World)(b:Nat)(vS:Value × Value)(v:Value)(els:List PEl)(T:aJ)(made:Nat)(n:Int)
theorem PI (on:Bool)(h:PB3 w b vS v els T made)(hw:TW T made)(tp:∀x∈els,Shp x):Calls prog 151 #[.pointer (some ⟨b,1,none⟩),.int .i64 n,.bool on] w λe w'=>vK w b vS v els T made n on e w':=by
 have HB:Hid (PB3 w b vS v els T made/\TW T made/\∀x∈els,Shp x):=⟨h,hw,tp⟩;have bC:=h.few;clear h hw tp;go_enter func151,ntmps151;go_wp2_with fail;refine(dP w b v els n HB.out.1.c1 HB.out.1.pl bC).mono ?_;rintro e w1 ⟨cq,⟨hf,rfl⟩ | ⟨ip,xp,oo,hf,rfl⟩⟩
 ·have HE:Hid (vK w b vS v els T made n on (.returned (.int .i64 5)) w1):=⟨els,by rw[HB.out.1.pt.find_none hf];rfl,HB.out.1.below cq,(Fr.refl w _).below cq,λM hM=>by rw[HB.out.1.pt.find_none hf];exact hM⟩;clear hf;go_wp2;go_ret;exact HE.out
 ·have HF:=ae ((HB.out.1.pt.find_some HB.out.2.1 hf).1);have Mh:=ae ((HB.out.1.pt.find_some HB.out.2.1 hf).2.2);have Jl:=ae oo;have nD:=(dY.1 oo).1;obtain⟨av,cv,Kj⟩:=HB.out.1.pl.shape;subst Kj;have eD:=ae (HB.out.1.below cq);obtain⟨g,hg,dn,hr⟩:=eD.out.pl.at' nD;subst hg;have q2:w1.cell? ⟨g,ip*31+30,none⟩=some (.bool (fP els[ip])):=hr 30 _ (HB.out.2.2 _ (bK nD)).sh;have q0:=eD.out.c1;obtain⟨fV,uO,_⟩:=ve eD.out.pl.row;have qf:∀j,w1.frozen? ⟨g,j,none⟩=false:=λ_=>ax uO;have jJ:(ip:Int)<(els.length:Int):=by omega
  have ql:Hid (PB3 (w1.setCell ⟨g,ip*31+30,none⟩ (.bool on)) b vS (.slice (some ⟨g,0,none⟩) els.length cv) (els.set ip (els[ip].put 28 (.bool on))) T made):=eD.out.put nD (by omega) rfl
  have HE:Hid (vK w b vS (.slice (some ⟨g,0,none⟩) els.length cv) els T made n on (.returned (.int .i64 0)) (w1.setCell ⟨g,ip*31+30,none⟩ (.bool on))):=by
   refine⟨_,by rw[HF.out];rfl,ql.out,((Fr.refl w (λk=>(Value.slice (some ⟨g,0,none⟩) els.length cv).ownBlock=some k)).below cq).set (p:=⟨g,ip*31+30,none⟩) (af rfl) _,λM hM=>?_⟩;have hx:=bK nD;have zQ:=hM.1 _ hx;obtain⟨p1,p2,p3,p4,p5⟩:=SR (HB.out.1.pl.ok _ hx) (hM.2 _ hx) on
   have uf:n.toNat=els[ip].num:=by
    have h1:=Mh.out;rw[(dY.1 Jl.out).2];omega
   rw[HF.out];show MkO _ (bM M n.toNat (io (M n.toNat) on));rw[uf];exact hM.put HB.out.1.pt.nums nD (z:=els[ip].put 28 (.bool on)) rfl p1 ⟨by rw[p2];exact zQ.1,λi hi=>by rw[p3 i hi];show _=if i=26 then on else _;rw[aj (by omega)];exact zQ.2.1 i hi,by rw[p4];exact zQ.2.2.1,p5⟩
  clear hr uO ql hf oo;generalize fP els[ip]=gE at q2;go_wp2;go_ret;exact HE.out
end
section
variable (w:World)(b:Nat)(a:Option Addr)(c:Nat)(els:List PEl)
def oa (els:List PEl)(n:Int)(i:Nat):Bool:=match els[i]? with | some e=>fP e&&ki els e.num n | none=>false
def eV (els:List PEl)(n:Int):Bool:=(List.range els.length).any (oa els n)
theorem E1 {els:List PEl}{n:Int}:eV els n=true↔∃e∈els,fP e=true/\ki els e.num n=true:=by
 unfold eV;rw[List.any_eq_true];constructor
 ·rintro⟨i,hi,h⟩;have hi:=List.mem_range.1 hi;unfold oa at h;rw[bO hi] at h;exact⟨els[i],bK hi,by simpa using h⟩
 ·rintro⟨e,he,h⟩;obtain⟨i,hi,rfl⟩:=List.getElem_of_mem he;refine⟨i,List.mem_range.2 hi,?_⟩;unfold oa;rw[bO hi];simpa using h
theorem Ti {els:List PEl}{n:Int}(h:∀j,j<els.length->oa els n j=false):eV els n=false:=by
 unfold eV;rw[List.any_eq_false];intro j hj;rw[h j (List.mem_range.1 hj)];decide
theorem Eg (n:Int)(h:TRd w b a c els):Calls prog 82 #[.pointer (some ⟨b,1,none⟩),.int .i64 n] w λe w'=>bD w (eV els n) e w':=by
 have HT:=ae h;have bC:=h.few;have q0:=h.cell;clear h;go_enter func82,ntmps82;go_wp2_with fail
 go_loopg [12] els.length (λgk iv wr=>∃i:Nat,iv=.int .i64 i/\i<=els.length/\els.length - i<=gk/\Hid (Below w.heap.size w wr/\∀j,j<i->oa els n j=false))
 case atStart=>exact⟨0,rfl,aZ,by omega,bd,λj hj=>absurd hj (Nat.not_lt_zero _)⟩
 case round=>
  obtain⟨i,rfl,hi,fS,Wo⟩:=hrel;have HN:=ae Wo.out.1;have A0:=ae Wo.out.2;clear Wo;have iW:=HN.out.size
  by_cases aU:i<els.length
  ·have hd:decide ((i:Int)<(els.length:Int))=true:=by simp;omega
   obtain⟨g,hg,dn,he⟩:=HT.out.pl.el aU;subst hg;have HE:=ae (he.below HN.out dn);have tp:=(HT.out.shp _ (bK aU)).sh
   have Q0:Hid (fP els[i]=false->∀j,j<i+1->oa els n j=false):=λh j hj=>by
    by_cases e:j=i
    ·subst e;unfold oa;rw[bO aU];show(fP els[j]&&_)=false;rw[h];rfl
    ·exact A0.out j (by omega)
   have HW:Hid (fP els[i]=true->∀r:Bool,(r=true↔∃k,k<els.length/\upP els k (els[i].num:Int)=n)->(r=true->eV els n=true)/\(r=false->∀j,j<i+1->oa els n j=false)):=λh r hr=>by
    have hq:ki els els[i].num n=r:=by
     cases r with
     | true=>exact iw.2 (hr.1 rfl)
     | false=>
      cases hb:ki els els[i].num n with
      | false=>rfl
      | true=>exact absurd (hr.2 (iw.1 hb)) (by decide)
    refine⟨λh1=>E1.2 ⟨els[i],bK aU,h,by rw[hq,h1]⟩,λh1 j hj=>?_⟩
    by_cases e:j=i
    ·subst e;unfold oa;rw[bO aU];show(fP els[j]&&_)=false;rw[hq,h1,Bool.and_false]
    ·exact A0.out j (by omega)
   generalize fP els[i]=sh at tp Q0 HW;generalize els[i].num=ny at HE HW;generalize els[i].par=py at HE;generalize els[i].cells=cs at HE tp;have c0:cs[0]?=some (.int .i64 ny):=HE.out.c0;have jB:Hid (TRd (wr.alloc (.cells cs.toArray 134)) b (some ⟨g,0,none⟩) c els):=HT.out.below (HN.out.alloc iW _);have iG:Hid (Below w.heap.size w (wr.alloc (.cells cs.toArray 134))):=HN.out.alloc iW _;clear he q0;cases sh with
   | false=>
    go_wp2_with (first | (refine wpList_load_mid rfl 134 _ rfl g (i*31) rfl cs _ HE.out.rng underlying134 rfl HE.out.size ?_) | (refine aE rfl 134 _ _ rfl _ cs.toArray 134 rfl rfl HE.out.size' HE.out.same HE.out.all ?_));go_roundg (els.length - (i+1))
    case measure=>omega
    case rel=>exact⟨i+1,by go_num,by omega,au,iG.out,Q0.out (by trivial)⟩
   | true=>
    go_wp2_with (first | (refine wpList_load_mid rfl 134 _ rfl g (i*31) rfl cs _ HE.out.rng underlying134 rfl HE.out.size ?_) | (refine aE rfl 134 _ _ rfl _ cs.toArray 134 rfl rfl HE.out.size' HE.out.same HE.out.all ?_) | (go_at_call 120;refine(mb (wr.alloc (.cells cs.toArray 134)) b _ els ny n jB.out.cell jB.out.pl bC).mono ?_;rintro e w3 ⟨fj,r,rfl,hrr⟩;have zi:Hid (Below w.heap.size w w3):=iG.out.trans (fj.mono iG.out.size);have oE:=HW.out rfl r hrr;clear fj hrr;cases r))
    ·go_roundg (els.length - (i+1))
     case measure=>omega
     case rel=>exact⟨i+1,by go_num,by omega,au,zi.out,oE.2 (by trivial)⟩
    ·go_ret;rw[oE.1 (by trivial)];exact⟨rfl,zi.out⟩
  ·have hd:decide ((i:Int)<(els.length:Int))=false:=by simp;omega
   go_wp2;go_ret;rw[Ti (λj hj=>A0.out j (by omega))];exact⟨rfl,HN.out⟩
end
section
variable {els:List PEl}{i:Nat}
def cu (l:List PEl)(x:Int):List Int:=(l.filter λe=>decide (e.par=x)).map λe=>(e.num:Int)
def iU (els:List PEl):Nat->List Int
 | 0=>[0]
 | i+1=>match (iU els i)[i]? with | some x=>iU els i++cu els x | none=>iU els i
theorem FN (l:List PEl)(x:Int):cu l x=(aO l x).map λ(k:Nat)=>(k:Int):=by
 unfold cu aO;rw[List.map_map];rfl
theorem Bs {l:List PEl}(h:i<l.length)(x:Int):cu (l.take (i+1)) x=if l[i].par=x then cu (l.take i) x++[(l[i].num:Int)] else cu (l.take i) x:=by
 unfold cu;rw[fU h,List.filter_append]
 by_cases hp:l[i].par=x<;>simp[hp]
theorem ub (l:List PEl)(x:Int):(cu l x).length<=l.length:=by
 unfold cu;rw[List.length_map];exact List.length_filter_le _ _
theorem FO {x:Int}(h:(iU els i)[i]?=some x):iU els (i+1)=iU els i++cu els x:=by
 show(match (iU els i)[i]? with | some x=>iU els i++cu els x | none=>iU els i)=_;rw[h]
theorem wE (h:(iU els i).length<=i):∀k,iU els (i+k)=iU els i
 | 0=>rfl
 | k+1=>by
  have ih:=wE h k;have e:(iU els (i+k))[i+k]?=none:=by rw[ih];exact List.getElem?_eq_none (by omega)
  show(match (iU els (i+k))[i+k]? with | some x=>iU els (i+k)++cu els x | none=>iU els (i+k))=_;rw[e];exact ih
theorem Ib (els:List PEl):∀i,(iU els i).length<=1+i*els.length
 | 0=>by simp[iU]
 | i+1=>by
  have ih:=Ib els i;have e:(i+1)*els.length=i*els.length+els.length:=Nat.succ_mul _ _;cases h:(iU els i)[i]? with
  | none=>
   show(match (iU els i)[i]? with | some x=>iU els i++cu els x | none=>iU els i).length<=_;rw[h];show(iU els i).length<=_;omega
  | some x=>
   rw[FO h,List.length_append];have:=ub els x;omega
section
variable {els:List PEl}{T:aJ}{made:Nat}
structure DwI (T:aJ)(N:List Int)(i:Nat):Prop where
 nodup:N.Nodup
 root:(0:Int)∈N
 els:∀x∈N,∃k l,x=((k:Nat):Int)/\(k,l)∈T
 up:∀x∈N,x=0∨aY T x∈N.take i
 down:∀q∈T,(q.1:Int)∈N.take i->∀k∈q.2,(k:Int)∈N
theorem wk {l:List Nat}(h:l.Nodup):(l.map λ(k:Nat)=>(k:Int)).Nodup:=by
 induction l with
 | nil=>simp
 | cons x l ih=>
  rw[List.nodup_cons] at h;rw[List.map_cons,List.nodup_cons];refine⟨λhm=>h.1 ?_,ih h.2⟩;obtain⟨y,hy,he⟩:=bm.1 hm;have:y=x:=by omega
  exact this▸hy
theorem Ia (h:PT els T)(hw:TW T made):∀i,DwI T (iU els i) i
 | 0=>by
  refine⟨by simp[iU],by simp[iU],λx hx=>?_,λx hx=>?_,λq _ hq=>by simp at hq⟩
  ·have:x=0:=by simpa[iU] using hx
   obtain⟨l,hl⟩:=hw.root;exact⟨0,l,this,hl⟩
  ·have:x=0:=by simpa[iU] using hx
   exact af this
 | i+1=>by
  have ih:=Ia h hw i;cases hx:(iU els i)[i]? with
  | none=>
   have hl:=List.getElem?_eq_none_iff.1 hx;have e:=wE hl 1;have t1:=List.take_of_length_le hl;have t2:(iU els i).take (i+1)=iU els i:=List.take_of_length_le (by omega);rw[e];have hu:=ih.up;have hd:=ih.down;rw[t1] at hu hd;exact⟨ih.nodup,ih.root,ih.els,λx hx=>by rw[t2];exact hu x hx,λq hq hm=>by rw[t2] at hm;exact hd q hq hm⟩
  | some x=>
   have jJ:=(dY.1 hx).1;have om:=(dY.1 hx).2;have Fl:=List.mem_of_getElem? hx;obtain⟨kx,lx,rfl,VH⟩:=ih.els x Fl;have Z5:=(h.kids kx lx VH).symm;have e:iU els (i+1)=iU els i++lx.map λ(k:Nat)=>(k:Int):=by rw[FO hx,FN,Z5]
   have tk:(iU els (i+1)).take (i+1)=(iU els i).take i++[(kx:Int)]:=by
    rw[e,List.take_append_of_le_length (by omega),fU jJ,om]
   have Sl:∀k∈lx,(k:Int) ∉ iU els i:=λk hk hm=>by
    have hp:=hw.parent (e:=(kx,lx)) VH hk;rcases ih.up k hm with h0 | h0
    ·have:k=0:=by omega
     subst this;exact hw.top _ VH hk
    ·rw[hp] at h0;have h1:(kx:Int)∈(iU els i).take i:=h0;have T4:=ih.nodup;rw[<-List.take_append_drop i (iU els i),List.nodup_append] at T4;refine T4.2.2 _ h1 _ ?_ rfl;rw[List.drop_eq_getElem_cons jJ,om];exact List.mem_cons_self
   rw[e];refine⟨?_,List.mem_append_left _ ih.root,λy hy=>?_,λy hy=>?_,λq hq hm k hk=>?_⟩
   ·rw[List.nodup_append];refine⟨ih.nodup,wk (hw.kdup _ VH),λy hy z hz e=>?_⟩;obtain⟨k,hk,rfl⟩:=bm.1 hz;exact Sl k hk (e▸hy)
   ·rcases List.mem_append.1 hy with hy | hy
    ·exact ih.els y hy
    ·obtain⟨k,hk,rfl⟩:=bm.1 hy;obtain⟨l,hl⟩:=hw.kin _ VH k hk;exact⟨k,l,rfl,hl⟩
   ·rw[<-e,tk];rcases List.mem_append.1 hy with hy | hy
    ·exact(ih.up y hy).imp id (λh0=>List.mem_append_left _ h0)
    ·obtain⟨k,hk,rfl⟩:=bm.1 hy;refine ai (List.mem_append_right _ ?_);rw[hw.parent (e:=(kx,lx)) VH hk];exact fg.2 rfl
   ·rw[<-e,tk] at hm;rcases List.mem_append.1 hm with hm | hm
    ·exact List.mem_append_left _ (ih.down q hq hm k hk)
    ·have h1:q.1=kx:=by have:=fg.1 hm;omega
     have h2:=pO hw.nums hq VH h1;subst h2;exact List.mem_append_right _ (bm.2 ⟨k,hk,rfl⟩)
theorem Bt (h:PT els T)(hw:TW T made):∀(i q:Nat) (x:Int),(iU els i)[q]?=some x->x=0∨aY T x∈(iU els i).take q
 | 0,q,x,hq=>by
  cases q with
  | zero=>exact af (Option.some.inj hq).symm
  | succ q=>cases hq
 | i+1,q,x,hq=>by
  unfold iU at hq ⊢;cases hz:(iU els i)[i]? with
  | none=>
   rw[hz] at hq;exact Bt h hw i q x hq
  | some z=>
   rw[hz] at hq;have jJ:=(dY.1 hz).1;replace hq:(iU els i++cu els z)[q]?=some x:=hq;show x=0∨aY T x∈(iU els i++cu els z).take q
   by_cases hl:q<(iU els i).length
   ·rw[List.getElem?_append_left hl] at hq;rw[List.take_append_of_le_length (by omega)];exact Bt h hw i q x hq
   ·rw[List.getElem?_append_right (by omega)] at hq;refine ai ?_;unfold cu at hq;obtain⟨e,he,rfl⟩:=bm.1 (List.mem_of_getElem? hq);obtain⟨he,hp⟩:=dA.1 he;rw[<-h.par hw he,show e.par=z from by simpa using hp,List.take_append,List.take_of_length_le (by omega)];exact List.mem_append_left _ (List.mem_of_getElem? hz)
def kN (els:List PEl):List Int:=iU els els.length
theorem qg {T:aJ}{N:List Int}(hn:N.Nodup)(he:∀x∈N,∃k l,x=((k:Nat):Int)/\(k,l)∈T):N.length<=T.length:=by
 have h1:(N.map Int.toNat).Nodup:=by
  induction N with
  | nil=>simp
  | cons x l ih=>
   rw[List.nodup_cons] at hn;rw[List.map_cons,List.nodup_cons];refine⟨λhm=>hn.1 ?_,ih hn.2 (λy hy=>he y (List.mem_cons_of_mem _ hy))⟩;obtain⟨y,hy,hye⟩:=bm.1 hm;obtain⟨k,_,hk,_⟩:=he x List.mem_cons_self;obtain⟨j,_,hj,_⟩:=he y (List.mem_cons_of_mem _ hy);have:y=x:=by omega
   exact this▸hy
 have:=dw h1 (m:=T.map Prod.fst) (λk hk=>by
  obtain⟨x,hx,rfl⟩:=bm.1 hk;obtain⟨j,l,hj,hl⟩:=he x hx;exact bm.2 ⟨_,hl,by show j=_;omega⟩)
 simpa using this
theorem H9 (h:PT els T)(hw:TW T made):(kN els).Nodup/\(∀x∈kN els,∃k l,x=((k:Nat):Int)/\(k,l)∈T)/\∀k l,(k,l)∈T->(k:Int)∈kN els:=by
 have hi:=Ia h hw els.length;have bX:=qg hi.nodup hi.els;have Oi:=h.len hw;have ht:(iU els els.length).take els.length=iU els els.length:=List.take_of_length_le (by omega);refine⟨hi.nodup,hi.els,?_⟩;obtain⟨rk,hr⟩:=hw.rank
 have nF:∀(n:Nat) (k:Nat) (l:List Nat),(k,l)∈T->rk k<=n->(k:Int)∈iU els els.length:=by
  intro n
  induction n with
  | zero=>
   intro k l hk hn
   by_cases h0:k=0
   ·subst h0;exact hi.root
   ·obtain⟨q,hq,hm,_⟩:=hw.up hk h0;have:=hr q hq k hm;omega
  | succ n ih=>
   intro k l hk hn
   by_cases h0:k=0
   ·subst h0;exact hi.root
   ·obtain⟨q,hq,hm,_⟩:=hw.up hk h0;have h1:=hr q hq k hm;have h2:=ih q.1 q.2 hq (by omega);exact hi.down q hq (by rw[ht];exact h2) k hm
 exact λk l hk=>nF (rk k) k l hk au
end
end
section
variable (w:World)(b:Nat)(a:Option Addr)(c:Nat)(els:List PEl)
theorem Pt (h:TRd w b a c els):Calls prog 81 #[.pointer (some ⟨b,1,none⟩)] w λe w'=>oh w (kN els) e w':=by
 obtain⟨i0,Gj,gx,gA,gB⟩:=info_parts Tryz.info3;have HT:=ae h;have bC:=h.few;have q0:=h.cell;have jF:=h.lt
 have HO0:Hid ((w.alloc (.cells #[.int .i64 0] 3)).ownsRow w.heap.size 3 1 (.slice (some ⟨w.heap.size,0,none⟩) 1 1) (iU els 0).length (az (iU els 0))/\Below w.heap.size w (w.alloc (.cells #[.int .i64 0] 3))):=by
  refine⟨⟨rfl,ai ⟨w.heap.size,1,#[.int .i64 0],rfl,au,heap_alloc_new w _,au,by decide,rfl,rfl⟩⟩,bd.alloc au _⟩
 clear h;go_enter func81,ntmps81;go_wp2_with fail
 go_loopg [3,13] els.length (λgk v iv wr=>∃i:Nat,iv=.int .i64 i/\i<=els.length/\els.length - i<=gk/\Hid (wr.ownsRow w.heap.size 3 1 v (iU els i).length (az (iU els i))/\Below w.heap.size w wr))
 case atStart=>exact⟨0,rfl,aZ,by omega,HO0⟩
 case round=>
  obtain⟨i,rfl,hi,fS,HN⟩:=hrel;obtain⟨wo,rfl⟩:∃wo,wo=wr:=⟨_,rfl⟩;obtain⟨a2,c2,jC⟩:=aA HN.out.1;subst jC;have iW:=HN.out.2.size
  have hNL:(iU els i).length<=600:=by
   have h1:=Ib els i;have h2:i*els.length<=24*24:=Nat.mul_le_mul (by omega) bC;omega
  by_cases aU:i<els.length
  ·have hd:decide ((i:Int)<(els.length:Int))=true:=by simp;omega
   by_cases jS:i<(iU els i).length
   ·have Dy:decide ((iU els i).length<=i)=false:=by simp;omega
    obtain⟨x,hx⟩:∃x,(iU els i)[i]?=some x:=⟨_,bO jS⟩;have Mi:=ae (FO hx);have HX:=ae hx;clear hx;generalize iU els i=R at HN Mi HX hNL jS Dy ⊢;have q0:wo.cell? ⟨b,1,none⟩=some (.slice a els.length c):=(HN.out.2.cell (p:=⟨b,1,none⟩) jF).trans HT.out.cell;have Vv:b<wo.heap.size:=by omega
    have kJ:Hid (wo.ownsRow w.heap.size 3 1 (.slice a2 R.length c2) (R++cu (els.take 0) x).length (az (R++cu (els.take 0) x))/\Below w.heap.size w wo):=by
     have:R++cu (els.take 0) x=R:=by simp[cu]
     rw[this];exact HN.out
    clear HN;go_wp2_with fail
    go_loopg [3,26] els.length (λgk v kv wr=>∃k:Nat,kv=.int .i64 k/\k<=els.length/\els.length - k<=gk/\Hid (wr.ownsRow w.heap.size 3 1 v (R++cu (els.take k) x).length (az (R++cu (els.take k) x))/\Below w.heap.size w wr))
    case atStart=>exact⟨0,rfl,aZ,by omega,kJ⟩
    case round=>
     obtain⟨k,rfl,hk,rG,HJ⟩:=hrel;obtain⟨a3,c3,yS⟩:=aA HJ.out.1;subst yS
     have Vq:(R++cu (els.take k) x).length<=640:=by
      have h1:=ub (els.take k) x;have h2:(els.take k).length<=els.length:=List.length_take_le' _ _;rw[List.length_append];omega
     have Tv:Hid ((R++cu (els.take k) x)[i]?=some x):=by unfold Hid;rw[List.getElem?_append_left jS];exact HX.out
     have Sf:=HJ.out.2.size;obtain⟨L,Vp⟩:∃L,R++cu (els.take k) x=L:=⟨_,rfl⟩;have UI:=ae Vp;rw[Vp] at HJ Vq Tv ⊢;clear Vp;have hiL:=(dY.1 Tv.out).1
     by_cases ln:k<els.length
     ·have iR:decide ((k:Int)<(els.length:Int))=true:=by simp;omega
      obtain⟨g,hg,dn,he⟩:=HT.out.pl.el ln;subst hg;have HE:=ae (he.below HJ.out.2 dn);have fy:=ae (Bs ln x);clear he;generalize els[k].num=nk at HE fy;generalize els[k].par=pk at HE fy;generalize els[k].cells=cs at HE;have c0:cs[0]?=some (.int .i64 nk):=HE.out.c0;have c1:cs[1]?=some (.int .i64 pk):=HE.out.c1;obtain⟨g3,fk,Z1,Vy⟩:=aR HJ.out.1 (by omega);subst fk;have qx:wr.cell? ⟨g3,i,none⟩=some (.int .i64 x):=Vy i _ (by rw[List.getElem?_map,Tv.out];rfl);have hii:(i:Int)<(L.length:Int):=by omega
      have ah8:(0:Int)<=(i:Int):=by omega
      have afB:b<wr.heap.size:=by omega
      clear Vy
      by_cases hp:pk=x
      ·have gp:(pk==x)=true:=by simp[hp]
       have fX:Hid (R++cu (els.take (k+1)) x=L++[(nk:Int)]):=by unfold Hid;rw[fy.out,aq hp,<-List.append_assoc,UI.out]
       have HOD:Hid (∀m (o:Obj),(((wr.alloc (.cells cs.toArray 134)).drewN m).alloc o).ownsRow w.heap.size 3 1 (.slice (some ⟨g3,0,none⟩) L.length c3) L.length (az L)):=λm o=>(kW (HJ.out.1.alloc _) m).alloc o;clear hp fy;go_upto_region 10 with(first | (refine wpList_load_mid rfl 134 _ rfl g (k*31) rfl cs _ HE.out.rng underlying134 rfl HE.out.size ?_) | (refine aE rfl 134 _ _ rfl _ cs.toArray 134 rfl rfl HE.out.size' HE.out.same HE.out.all ?_))
       go_quiet (fail);go_wp2_with (first | (at_builtin;refine wpList_append_own _ rfl (.tmp 37) (.tmp 40) 40 rfl w.heap.size 3 i0 (.int .i64 0) 1 8 underlying40 Gj gx gA gB rfl (by decide) _ _ _ rfl (HOD.out _ _) ⟨wr.heap.size+1,0,none⟩ 1 1 [.int .i64 (nk:Int)] rfl rfl ?c1 ?c2 ?c3 ?c4 ?c5 ?_))
       case c1=>exact aW _ _ (by simp[World.drewN]) _ _ _ rfl
       case c2=>exact rZ nk
       case c3=>unfold maxLen;omega
       case c4=>omega
       case c5=>simp;omega
       intro v5 w5 bR jf _
       have UG:Hid (w5.ownsRow w.heap.size 3 1 v5 (R++cu (els.take (k+1)) x).length (az (R++cu (els.take (k+1)) x))/\Below w.heap.size w w5):=by
        rw[fX.out];exact⟨by simpa[az] using bR,((dR (HJ.out.2.alloc Sf _) _).alloc (by simp[World.drewN];omega) _).grown jf (by simp[World.drewN];omega) (λk hk=>(HJ.out.1.lt k hk).1)⟩
       clear bR jf HJ HOD;go_wp2;go_roundg (els.length - (k+1))
       case measure=>omega
       case rel=>exact⟨k+1,by go_num,by omega,au,UG⟩
      ·have gp:(pk==x)=false:=by simp[hp]
       have UG:Hid (∀m,((wr.alloc (.cells cs.toArray 134)).drewN m).ownsRow w.heap.size 3 1 (.slice (some ⟨g3,0,none⟩) L.length c3) (R++cu (els.take (k+1)) x).length (az (R++cu (els.take (k+1)) x))/\Below w.heap.size w ((wr.alloc (.cells cs.toArray 134)).drewN m)):=λm=>by
        rw[fy.out,aj hp,UI.out];exact⟨kW (HJ.out.1.alloc _) m,dR (HJ.out.2.alloc Sf _) m⟩
       clear hp fy;go_upto_region 10 with(first | (refine wpList_load_mid rfl 134 _ rfl g (k*31) rfl cs _ HE.out.rng underlying134 rfl HE.out.size ?_) | (refine aE rfl 134 _ _ rfl _ cs.toArray 134 rfl rfl HE.out.size' HE.out.same HE.out.all ?_))
       go_quiet (fail);go_wp2;go_roundg (els.length - (k+1))
       case measure=>omega
       case rel=>exact⟨k+1,by go_num,by omega,au,UG.out _⟩
     ·have iR:decide ((k:Int)<(els.length:Int))=false:=by simp;omega
      obtain rfl:k=els.length:=by omega
      have tX:Hid (wr.ownsRow w.heap.size 3 1 (.slice a3 L.length c3) (iU els (i+1)).length (az (iU els (i+1)))/\Below w.heap.size w wr):=by
       have h1:=UI.out;rw[List.take_length] at h1;rw[Mi.out,h1];exact HJ.out
      clear HJ;go_wp2;go_roundg (els.length - (i+1))
      case measure=>omega
      case rel=>exact⟨i+1,by go_num,by omega,au,tX⟩
   ·have Dy:decide ((iU els i).length<=i)=true:=by simp;omega
    have HE:Hid (oh w (kN els) (.returned (.slice a2 (iU els i).length c2)) wo):=by
     have e1:kN els=iU els i:=by
      have:=wE (els:=els) (i:=i) (by omega) (els.length - i);rw[show i+(els.length - i)=els.length from by omega] at this;exact this
     rw[e1];exact⟨a2,c2,rfl,HN.out.1,HN.out.2⟩
    clear jS HN;generalize (iU els i).length=nn at Dy HE hNL ⊢;go_wp2;go_ret;exact HE.out
  ·have hd:decide ((i:Int)<(els.length:Int))=false:=by simp;omega
   obtain rfl:i=els.length:=by omega
   go_wp2;go_ret;exact⟨a2,c2,rfl,HN.out.1,HN.out.2⟩
end
end Go.Proofs.YtblfffbmklkhmaaGreat
