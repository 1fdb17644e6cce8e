/- Own work. -/
import Derived.Test.YtblfffbmklkhmabGreatAl18
set_option maxRecDepth 100000
set_option maxHeartbeats 40000000
namespace Go.Proofs.YtblfffbmklkhmabGreat
open Go.RowKit Go.Proofs.Tryz
def fX (cs:List eb)(kd lt:Int):Bool:=cs.any λc=>c.ps.any λp=>decide (p.kd=kd)&&decide (p.lt=lt)
theorem AK (rs:List dx)(kd lt:Int):dD rs kd lt=rs.any λr=>r.ss.any λcs=>fX cs kd lt:=rfl
section
theorem EF (w:World)(ac:Option Addr)(cc:Nat)(xs:List Value)(cs:List eb)(kd lt:Int)(ho:ClRow w ac cc xs cs):Calls prog 138 #[.agg #[.slice ac cs.length cc],.int .i64 kd,.int .u8 lt] w λe w'=>bK w (fX cs kd lt) e w':=by
 have HO:=aw ho;have bJ:=ho.few;clear ho;go_enter func138,ntmps138;go_wp2_with fail
 go_loopg [14] cs.length (λgk iv wr=>∃i:Nat,iv=.int .i64 i/\i<=cs.length/\cs.length - i<=gk/\Hid (Below w.heap.size w wr/\∀j (_:j<cs.length),j<i->(cs[j].ps.any λp=>decide (p.kd=kd)&&decide (p.lt=lt))=false))
 case atStart=>exact⟨0,rfl,bm,by omega,bo.alloc aF _,λj _ h=>by omega⟩
 case round=>
  obtain⟨i,rfl,hi,fT,HN⟩:=hrel;obtain⟨wo,rfl⟩:∃wo,wo=wr:=⟨_,rfl⟩;have i8:=HN.out.1.size
  by_cases bc:i<cs.length
  ·have hd:decide ((i:Int)<(cs.length:Int))=true:=by simp;omega
   obtain⟨g,hg,di,gM⟩:=aX HO.out.row (by omega);subst hg;obtain⟨ap,cp,ps,e0,e1,e2,e3,e4⟩:=rU HO.out.comps bc;have c0:=(HN.out.1.cell (p:=⟨g,i*3,none⟩) di).trans (gM _ _ e0);have c1:=(HN.out.1.cell (p:=⟨g,i*3+1,none⟩) di).trans (gM _ _ e1);have c2:=(HN.out.1.cell (p:=⟨g,i*3+2,none⟩) di).trans (gM _ _ e2);have tm:=bZ e3 e4;have ml:=HO.out.short _ (bN bc)
   have iQ:Hid ((cs[i].ps.any λp=>decide (p.kd=kd)&&decide (p.lt=lt))=false->∀j (_:j<cs.length),j<i+1->(cs[j].ps.any λp=>decide (p.kd=kd)&&decide (p.lt=lt))=false):=λhm j hj h1=>by
    by_cases e:j=i
    ·subst e;exact hm
    ·exact HN.out.2 j hj (by omega)
   have HY:Hid ((cs[i].ps.any λp=>decide (p.kd=kd)&&decide (p.lt=lt))=true->fX cs kd lt=true):=λh=>by
    unfold fX;rw[List.any_eq_true];exact⟨cs[i],bN bc,h⟩
   clear e0 e1 e2 e3 e4 gM;generalize cs[i].sg=sg at c0;generalize (cs[i].ty:Int)=ty at c1;generalize cs[i].ps=pl at c2 tm ml iQ HY;have eu:Hid (Below w.heap.size w (wo.alloc (.cells #[.int .u8 sg,.int .u8 ty,.slice ap pl.length cp] 115))):=HN.out.1.alloc i8 _;clear HN;go_wp2_with fail
   go_loopg [21] pl.length (λgk iv wr=>∃k:Nat,iv=.int .i64 k/\k<=pl.length/\pl.length - k<=gk/\Hid (Below w.heap.size w wr/\∀j (_:j<pl.length),j<k->¬(pl[j].kd=kd/\pl[j].lt=lt)))
   case atStart=>exact⟨0,rfl,bm,by omega,eu.out,λj _ h=>by omega⟩
   case round=>
    obtain⟨k,rfl,hk,r9,HJ⟩:=hrel;have SZ:=HJ.out.1.size
    by_cases lH:k<pl.length
    ·have iC:decide ((k:Int)<(pl.length:Int))=true:=by simp;omega
     obtain⟨g2,iD,l9,B4⟩:=aX tm.out.1 (by omega);subst iD;obtain⟨e0,e1,e2,e3,e4⟩:=pF tm.out.2 lH;have k0:=(HJ.out.1.cell (p:=⟨g2,k*5,none⟩) l9).trans (B4 _ _ e0);have k1:=(HJ.out.1.cell (p:=⟨g2,k*5+1,none⟩) l9).trans (B4 _ _ e1);have k2:=(HJ.out.1.cell (p:=⟨g2,k*5+2,none⟩) l9).trans (B4 _ _ e2);have k3:=(HJ.out.1.cell (p:=⟨g2,k*5+3,none⟩) l9).trans (B4 _ _ e3);have k4:=(HJ.out.1.cell (p:=⟨g2,k*5+4,none⟩) l9).trans (B4 _ _ e4)
     have VA:Hid (¬(pl[k].kd=kd/\pl[k].lt=lt)->∀j (_:j<pl.length),j<k+1->¬(pl[j].kd=kd/\pl[j].lt=lt)):=λhm j hj h1=>by
      by_cases e:j=k
      ·subst e;exact hm
      ·exact HJ.out.2 j hj (by omega)
     have Xy:Hid (pl[k].kd=kd/\pl[k].lt=lt->fX cs kd lt=true):=λh=>HY.out (by
      rw[List.any_eq_true];exact⟨pl[k],bN lH,by simp[h.1,h.2]⟩)
     clear e0 e1 e2 e3 e4 B4;generalize pl[k].nt=pnt at k0;generalize pl[k].kd=pkd at k1 VA Xy;generalize pl[k].lt=plt at k2 VA Xy;generalize pl[k].st=pst at k3;generalize pl[k].sr=psr at k4;have iP:Hid (Below w.heap.size w (wr.alloc (.cells #[.bool pnt,.int .i64 pkd,.int .u8 plt,.int .i64 pst,.int .i64 psr] 151))):=HJ.out.1.alloc SZ _
     by_cases h1:pkd=kd
     ·have g1:(pkd==kd)=true:=by simp[h1]
      by_cases h2:plt=lt
      ·have g2:(plt==lt)=true:=by simp[h2]
       have HR:Hid (bK w (fX cs kd lt) (.returned (.bool true)) (wr.alloc (.cells #[.bool pnt,.int .i64 pkd,.int .u8 plt,.int .i64 pst,.int .i64 psr] 151))):=⟨by rw[Xy.out ⟨h1,h2⟩],iP.out⟩;clear h1 h2;go_wp2;go_ret;exact HR.out
      ·have g2:(plt==lt)=false:=by simp[h2]
       have ry:Hid (Below w.heap.size w (wr.alloc (.cells #[.bool pnt,.int .i64 pkd,.int .u8 plt,.int .i64 pst,.int .i64 psr] 151))/\∀j (_:j<pl.length),j<k+1->¬(pl[j].kd=kd/\pl[j].lt=lt)):=⟨iP.out,VA.out (λh=>h2 h.2)⟩;clear h1 h2;go_wp2;go_roundg (pl.length - (k+1))
       case measure=>omega
       case rel=>exact⟨k+1,by go_num,by omega,aF,ry⟩
     ·have g1:(pkd==kd)=false:=by simp[h1]
      have ry:Hid (Below w.heap.size w (wr.alloc (.cells #[.bool pnt,.int .i64 pkd,.int .u8 plt,.int .i64 pst,.int .i64 psr] 151))/\∀j (_:j<pl.length),j<k+1->¬(pl[j].kd=kd/\pl[j].lt=lt)):=⟨iP.out,VA.out (λh=>h1 h.1)⟩;clear h1;go_wp2;go_roundg (pl.length - (k+1))
      case measure=>omega
      case rel=>exact⟨k+1,by go_num,by omega,aF,ry⟩
    ·have iC:decide ((k:Int)<(pl.length:Int))=false:=by simp;omega
     have fj:Hid (Below w.heap.size w wr/\∀j (_:j<cs.length),j<i+1->(cs[j].ps.any λp=>decide (p.kd=kd)&&decide (p.lt=lt))=false):=by
      refine⟨HJ.out.1,iQ.out ?_⟩;rw[List.any_eq_false];intro p hp hx;obtain⟨j,hj,rfl⟩:=List.getElem_of_mem hp;refine HJ.out.2 j hj (by omega) ?_;simpa using hx
     clear HJ;go_wp2;go_roundg (cs.length - (i+1))
     case measure=>omega
     case rel=>exact⟨i+1,by go_num,by omega,aF,fj⟩
  ·have hd:decide ((i:Int)<(cs.length:Int))=false:=by simp;omega
   have HR:Hid (bK w (fX cs kd lt) (.returned (.bool false)) wo):=by
    refine⟨?_,HN.out.1⟩
    have:fX cs kd lt=false:=by
     unfold fX;rw[List.any_eq_false];intro x hx;obtain⟨j,hj,rfl⟩:=List.getElem_of_mem hx;rw[HN.out.2 j hj (by omega)];decide
    rw[this]
   go_wp2;go_ret;exact HR.out
theorem pL (w:World)(ar:Option Addr)(cr:Nat)(xs:List Value)(rs:List dx)(kd lt:Int)(ho:RsRow w ar cr xs rs):Calls prog 117 #[.agg #[.slice ar rs.length cr],.int .i64 kd,.int .u8 lt] w λe w'=>bK w (dD rs kd lt) e w':=by
 have HO:=aw ho;have bJ:=ho.few;clear ho;go_enter func117,ntmps117;go_wp2_with fail
 go_loopg [14] rs.length (λgk iv wr=>∃i:Nat,iv=.int .i64 i/\i<=rs.length/\rs.length - i<=gk/\Hid (Below w.heap.size w wr/\∀j (_:j<rs.length),j<i->(rs[j].ss.any λcs=>fX cs kd lt)=false))
 case atStart=>exact⟨0,rfl,bm,by omega,bo.alloc aF _,λj _ h=>by omega⟩
 case round=>
  obtain⟨i,rfl,hi,fT,HN⟩:=hrel;obtain⟨wo,rfl⟩:∃wo,wo=wr:=⟨_,rfl⟩;have i8:=HN.out.1.size
  by_cases bc:i<rs.length
  ·have hd:decide ((i:Int)<(rs.length:Int))=true:=by simp;omega
   obtain⟨g,hg,di,gM⟩:=aX HO.out.row (by omega);subst hg;obtain⟨sa,sc,ps,e1,e2,e3⟩:=vN HO.out.ruls bc;obtain⟨e0,da,dc,qs,f1,f2,f3⟩:=uc HO.out.ruls bc;have c0:=(HN.out.1.cell (p:=⟨g,i*3,none⟩) di).trans (gM _ _ e0);have c1:=(HN.out.1.cell (p:=⟨g,i*3+1,none⟩) di).trans (gM _ _ e1);have c2:=(HN.out.1.cell (p:=⟨g,i*3+2,none⟩) di).trans (gM _ _ f1);have rz:Hid (SlRow w sa sc ps rs[i].ss):=⟨e2,e3,(HO.out.short _ (bN bc)).1,(HO.out.short _ (bN bc)).2,HO.out.fine _ (bN bc)⟩
   have iQ:Hid ((rs[i].ss.any λcs=>fX cs kd lt)=false->∀j (_:j<rs.length),j<i+1->(rs[j].ss.any λcs=>fX cs kd lt)=false):=λhm j hj h1=>by
    by_cases e:j=i
    ·subst e;exact hm
    ·exact HN.out.2 j hj (by omega)
   have HY:Hid ((rs[i].ss.any λcs=>fX cs kd lt)=true->dD rs kd lt=true):=λh=>by
    rw[AK,List.any_eq_true];exact⟨rs[i],bN bc,h⟩
   clear e0 e1 e2 e3 f1 f2 f3 gM;generalize rs[i].ly=ly at c0;generalize rs[i].ds.length=nd at c2;generalize rs[i].ss=ss at c1 rz iQ HY;have CT:=rz.out.few;have eu:Hid (Below w.heap.size w (wo.alloc (.cells #[.int .i64 ly,.slice sa ss.length sc,.slice da nd dc] 68))):=HN.out.1.alloc i8 _;clear HN;go_wp2_with fail
   go_loopg [21] ss.length (λgk iv wr=>∃k:Nat,iv=.int .i64 k/\k<=ss.length/\ss.length - k<=gk/\Hid (Below w.heap.size w wr/\∀j (_:j<ss.length),j<k->fX ss[j] kd lt=false))
   case atStart=>exact⟨0,rfl,bm,by omega,eu.out,λj _ h=>by omega⟩
   case round=>
    obtain⟨k,rfl,hk,r9,HJ⟩:=hrel;have SZ:=HJ.out.1.size
    by_cases lH:k<ss.length
    ·have iC:decide ((k:Int)<(ss.length:Int))=true:=by simp;omega
     obtain⟨g2,iD,l9,B4⟩:=aX rz.out.row (by omega);subst iD;obtain⟨ca,cc,qs2,e0,e1,e2⟩:=vO rz.out.sels lH;have k0:=(HJ.out.1.cell (p:=⟨g2,k,none⟩) l9).trans (B4 _ _ e0);have FG:Hid (ClRow w ca cc qs2 ss[k]):=⟨e1,e2,(rz.out.short _ (bN lH)).1,(rz.out.short _ (bN lH)).2,rz.out.fine _ (bN lH)⟩
     have VA:Hid (fX ss[k] kd lt=false->∀j (_:j<ss.length),j<k+1->fX ss[j] kd lt=false):=λhm j hj h1=>by
      by_cases e:j=k
      ·subst e;exact hm
      ·exact HJ.out.2 j hj (by omega)
     have Xy:Hid (fX ss[k] kd lt=true->dD rs kd lt=true):=λh=>HY.out (by
      rw[List.any_eq_true];exact⟨ss[k],bN lH,h⟩)
     clear e0 e1 e2 B4;generalize ss[k]=cs at k0 FG VA Xy;have iP:Hid (Below w.heap.size w (wr.alloc (.cells #[.slice ca cs.length cc] 71))):=HJ.out.1.alloc SZ _;clear HJ;go_wp2_with fail;refine(EF _ ca cc qs2 cs kd lt (FG.out.below iP.out)).mono ?_;rintro e w3 ⟨rfl,fA⟩;have zI:=aw (iP.out.trans (fA.mono iP.out.size));clear fA iP k0;cases hr:fX cs kd lt with
     | true=>
      have HR:Hid (bK w (dD rs kd lt) (.returned (.bool true)) w3):=⟨by rw[Xy.out hr],zI.out⟩;clear hr;go_wp2;go_ret;exact HR.out
     | false=>
      have ry:Hid (Below w.heap.size w w3/\∀j (_:j<ss.length),j<k+1->fX ss[j] kd lt=false):=⟨zI.out,VA.out hr⟩;clear hr;go_wp2;go_roundg (ss.length - (k+1))
      case measure=>omega
      case rel=>exact⟨k+1,by go_num,by omega,aF,ry⟩
    ·have iC:decide ((k:Int)<(ss.length:Int))=false:=by simp;omega
     have fj:Hid (Below w.heap.size w wr/\∀j (_:j<rs.length),j<i+1->(rs[j].ss.any λcs=>fX cs kd lt)=false):=by
      refine⟨HJ.out.1,iQ.out ?_⟩;rw[List.any_eq_false];intro p hp;obtain⟨j,hj,rfl⟩:=List.getElem_of_mem hp;rw[HJ.out.2 j hj (by omega)];decide
     clear HJ;go_wp2;go_roundg (rs.length - (i+1))
     case measure=>omega
     case rel=>exact⟨i+1,by go_num,by omega,aF,fj⟩
  ·have hd:decide ((i:Int)<(rs.length:Int))=false:=by simp;omega
   have HR:Hid (bK w (dD rs kd lt) (.returned (.bool false)) wo):=by
    refine⟨?_,HN.out.1⟩
    have:dD rs kd lt=false:=by
     rw[AK,List.any_eq_false];intro x hx;obtain⟨j,hj,rfl⟩:=List.getElem_of_mem hx;rw[HN.out.2 j hj (by omega)];decide
    rw[this]
   go_wp2;go_ret;exact HR.out
end
section
variable {n:Int}{s:ByteArray}
section
variable (w:World)(px:Value)(T:aU)(ae:Nat)(M:Nat->Mk)(rs:List dx)(kl:List (Int × List Int))(F:Nat->Prop)
theorem nh {T:aU}{l:List Nat}(h:bF T n=some l):(n.toNat,l)∈T/\n=(n.toNat:Int):=by
 obtain⟨k,rfl,hk⟩:=gJ h;exact⟨by simpa using hk,by omega⟩
theorem Ok (h:cA T n s=0):∃l,bF T n=some l:=by
 unfold cA at h;cases ht:bF T n with
 | none=>rw[ht] at h;cases h
 | some l=>exact⟨l,rfl⟩
theorem PF (h:cJ T n s=0):∃l,bF T n=some l:=by
 unfold cJ at h;cases ht:bF T n with
 | none=>rw[ht] at h;cases h
 | some l=>exact⟨l,rfl⟩
theorem Ha {rs:List dx}(h:∀r∈rs,∀cs∈r.ss,∀x∈cs,∀p∈x.ps,p.fine){kd:Int}(hk:kd=2∨kd=3):dD rs kd 0=false:=by
 cases hb:dD rs kd 0 with
 | false=>rfl
 | true=>
  unfold dD at hb;obtain⟨r,hr,hb⟩:=List.any_eq_true.1 hb;obtain⟨cs,kr,hb⟩:=List.any_eq_true.1 hb;obtain⟨c,hc,hb⟩:=List.any_eq_true.1 hb;obtain⟨p,hp,hb⟩:=List.any_eq_true.1 hb;rw[Bool.and_eq_true,bO,bO] at hb;exact absurd hb.2 ((h r hr cs kr c hc p hp).2 (by rw[hb.1];exact hk))
def vV (n:Int)(s:ByteArray)(on:Bool)(e:Ending)(w':World):Prop:=
 ∃y dw,e=.returned (.int .i64 y)/\y=cA T n s/\DSk w' px T ae (if y=0 then bU M n.toNat (kA (M n.toNat) s on) else M) rs dw (cV F w)/\Fr w w' F/\DropT (λx=>dR T n x=true/\y=0/\dD rs 2 (bt s 0)=true/\(M n.toNat).cl (bt s 0 - 97)≠on) kl dw
theorem Dw (n:Int)(s:ByteArray)(on:Bool)(h:DSk w px T ae M rs kl F):Calls prog 76 #[px,.int .i64 n,.string s,.bool on] w λe w'=>vV w px T ae M rs kl F n s on e w':=by
 obtain⟨b,vS,v,aa,G,rfl,h2,h3,h4,h5,h6,h7⟩:=h;have HB:Hid (DM w b vS v aa T ae M rs kl G/\KOK T M rs kl/\F b/\(∀j,v.ownBlock=some j->F j)/\(∀j,vS.2.ownBlock=some j->F j)/\∀k,G k->F k):=⟨h2,h3,h4,h5,h6,h7⟩;clear h2 h3 h4 h5 h6 h7;go_enter func76,ntmps76;go_wp2_with fail;refine(Qb w b vS v aa T ae n s on HB.out.1.pb HB.out.1.tw HB.out.1.mks.2).mono ?_;rintro e w1 ⟨lt,y,bX,rfl,hy,hp,hf,fG,zg,hm⟩
 have RB:Hid (MkO bX (if y=0 then bU M n.toNat (kA (M n.toNat) s on) else M)/\(y=0->(lt=bt s 0/\(M n.toNat).cl (bt s 0 - 97)≠on)∨(lt=0/\97<=bt s 0/\(M n.toNat).cl (bt s 0 - 97)=on))/\(y≠0->lt=0)):=by
  by_cases h0:y=0
  ·have:=hm M HB.out.1.mks h0;rw[aE h0];exact⟨this.1,λ_=>this.2,zg⟩
  ·rw[aA h0,fG h0];exact⟨HB.out.1.mks,λh=>absurd h h0,zg⟩
 have jK:=aw (HB.out.1.inpl hp RB.out.1 hf);have zJ:Hid (Fr w w1 F):=hf.mono (λk hk=>HB.out.2.2.2.1 k hk);have HY:=aw hy;obtain⟨ar,cr,xs,I1,eo⟩:=jK.out.sh.row
 have q0:w1.cell? ⟨b,0,none⟩=some (.slice ar rs.length cr):=by
  have:w1.cell? ⟨b,0,none⟩=some vS.1:=au jK.out.pb.doc rfl;rw[this,I1]
 have J0:=aw eo;have Xn:Hid (dD rs 2 0=false):=Ha eo.fine (ax rfl);clear hp hf hm fG hy eo I1 zg;go_wp2_with fail;refine(pL w1 ar cr xs rs 2 lt J0.out).mono ?_;rintro e w2 ⟨rfl,dk⟩;have oZ:=aw (jK.out.below dk);have tj:=aw (zJ.out.below dk);clear dk jK zJ J0 q0;cases uC:dD rs 2 lt with
 | false=>
  have HE:Hid (vV w (.pointer (some ⟨b,0,none⟩)) T ae M rs kl F n s on (.returned (.int .i64 y)) w2):=by
   refine⟨y,kl,rfl,HY.out,⟨b,vS,v,bX,G,rfl,oZ.out,?_,ax HB.out.2.2.1,λj hj=>ax (HB.out.2.2.2.1 j hj),λj hj=>ax (HB.out.2.2.2.2.1 j hj),λk hk=>ax (HB.out.2.2.2.2.2 k hk)⟩,tj.out,na _ _⟩
   by_cases h0:y=0
   ·rw[aE h0];refine HB.out.2.1.cls HB.out.1.tw s on ?_;rcases RB.out.2.1 h0 with h1 | h1
    ·exact ax (by rw[<-h1.1];exact uC)
    ·exact az h1.2
   ·rw[aA h0];exact HB.out.2.1
  clear uC;go_wp2;go_ret;exact HE.out
 | true=>
  have JY:Hid (y=0/\dD rs 2 (bt s 0)=true/\(M n.toNat).cl (bt s 0 - 97)≠on):=by
   by_cases h0:y=0
   ·rcases RB.out.2.1 h0 with h1 | h1
    ·exact⟨h0,by rw[<-h1.1];exact uC,h1.2⟩
    ·rw[h1.1,Xn.out] at uC;cases uC
   ·rw[RB.out.2.2 h0,Xn.out] at uC;cases uC
  clear uC;go_wp2_with fail;refine(jB w2 b vS v bX T ae _ rs kl G n oZ.out).mono ?_;rintro e w3 ⟨rfl,v2,iC,bM,jJ⟩
  have HE:Hid (vV w (.pointer (some ⟨b,0,none⟩)) T ae M rs kl F n s on (.returned (.int .i64 y)) w3):=by
   refine⟨y,ew (eF bX n) kl,rfl,HY.out,⟨b,(vS.1,v2),v,bX,G,rfl,iC,?_,ax HB.out.2.2.1,λj hj=>ax (HB.out.2.2.2.1 j hj),λj hj=>az (Nat.le_trans tj.out.size (jJ j hj)),λk hk=>ax (HB.out.2.2.2.2.2 k hk)⟩,tj.out.trans (bM.mono (λk hk=>hk▸HB.out.2.2.1)),tJ (λx hx=>⟨jF iC.pb.pt iC.tw hx,JY.out⟩) _⟩
   by_cases h0:y=0
   ·rw[aE h0];obtain⟨l,hl⟩:=Ok T (HY.out.symm.trans h0);obtain⟨pu,hn⟩:=nh hl;refine HB.out.2.1.mark HB.out.1.tw pu _ (fO _ _) (λx hx j hj=>?_);obtain⟨j',lj,vn,FQ⟩:=HB.out.2.1.els x ((fO _ _).subset hx);have:j'=j:=by omega
    subst this;rw[hn] at hx;exact nf iC.pb.pt iC.tw pu hx hj FQ
   ·rw[aA h0];exact HB.out.2.1.sub (fO _ _)
  clear iC bM jJ;go_wp2;go_ret;exact HE.out
def oY (n:Int)(s:ByteArray)(e:Ending)(w':World):Prop:=
 ∃y dw,e=.returned (.int .i64 y)/\y=cJ T n s/\DSk w' px T ae (if y=0 then bU M n.toNat (fW (M n.toNat) s) else M) rs dw (cV F w)/\Fr w w' F/\DropT (λx=>dR T n x=true/\y=0/\(M n.toNat).nm≠(fW (M n.toNat) s).nm/\(dD rs 3 (M n.toNat).nm=true∨dD rs 3 (fW (M n.toNat) s).nm=true)) kl dw
theorem DC (n:Int)(s:ByteArray)(h:DSk w px T ae M rs kl F):Calls prog 79 #[px,.int .i64 n,.string s] w λe w'=>oY w px T ae M rs kl F n s e w':=by
 obtain⟨b,vS,v,aa,G,rfl,h2,h3,h4,h5,h6,h7⟩:=h;have HB:Hid (DM w b vS v aa T ae M rs kl G/\KOK T M rs kl/\F b/\(∀j,v.ownBlock=some j->F j)/\(∀j,vS.2.ownBlock=some j->F j)/\∀k,G k->F k):=⟨h2,h3,h4,h5,h6,h7⟩;clear h2 h3 h4 h5 h6 h7;go_enter func79,ntmps79;go_wp2_with fail;refine(Qk w b vS v aa T ae n s HB.out.1.pb HB.out.1.tw HB.out.1.mks.2).mono ?_;rintro e w1 ⟨gB,Lj,y,bX,rfl,hy,hp,hf,fG,hm⟩
 have RB:Hid (MkO bX (if y=0 then bU M n.toNat (fW (M n.toNat) s) else M)/\(y=0->gB=(M n.toNat).nm/\Lj=(fW (M n.toNat) s).nm)/\(¬y=0->gB=Lj)):=by
  by_cases h0:y=0
  ·have:=hm M HB.out.1.mks h0;rw[aE h0];exact⟨this.1,λ_=>this.2,λh=>absurd h0 h⟩
  ·rw[aA h0,(fG h0).1];exact⟨HB.out.1.mks,λh=>absurd h h0,λ_=>(fG h0).2⟩
 have jK:=aw (HB.out.1.inpl hp RB.out.1 hf);have zJ:Hid (Fr w w1 F):=hf.mono (λk hk=>HB.out.2.2.2.1 k hk);have HY:=aw hy;obtain⟨ar,cr,xs,I1,eo⟩:=jK.out.sh.row
 have q0:w1.cell? ⟨b,0,none⟩=some (.slice ar rs.length cr):=by
  have:w1.cell? ⟨b,0,none⟩=some vS.1:=au jK.out.pb.doc rfl;rw[this,I1]
 have J0:=aw eo;have jM:=jK.out.lt;clear hp hf hm fG hy eo I1;go_wp2_with fail;refine(pL w1 ar cr xs rs 3 gB J0.out).mono ?_;rintro e w2 ⟨rfl,dk⟩;have q2:w2.cell? ⟨b,0,none⟩=some (.slice ar rs.length cr):=(dk.cell (p:=⟨b,0,none⟩) jM).trans q0;have Yp:=aw (J0.out.below dk);have eM:=aw dk;clear dk q0 J0;obtain⟨ot,hot⟩:∃ot,dD rs 3 gB=ot:=⟨_,rfl⟩;have HOT:=aw hot;rw[hot];clear hot;go_wp2_with fail;refine(pL w2 ar cr xs rs 3 Lj Yp.out).mono ?_;rintro e w3 ⟨rfl,fA⟩;have iP:=aw (eM.out.trans (fA.mono eM.out.size));have oZ:=aw (jK.out.below iP.out);have tj:=aw (zJ.out.below iP.out);clear fA eM iP jK zJ Yp q2;obtain⟨nt,S9⟩:∃nt,dD rs 3 Lj=nt:=⟨_,rfl⟩;have HNT:=aw S9;rw[S9];clear S9
 have Xi:Hid ((gB=Lj∨(ot=false/\nt=false))->oY w (.pointer (some ⟨b,0,none⟩)) T ae M rs kl F n s (.returned (.int .i64 y)) w3):=λhc=>by
  refine⟨y,kl,rfl,HY.out,⟨b,vS,v,bX,G,rfl,oZ.out,?_,ax HB.out.2.2.1,λj hj=>ax (HB.out.2.2.2.1 j hj),λj hj=>ax (HB.out.2.2.2.2.1 j hj),λk hk=>ax (HB.out.2.2.2.2.2 k hk)⟩,tj.out,na _ _⟩
  by_cases h0:y=0
  ·rw[aE h0];obtain⟨e1,e2⟩:=RB.out.2.1 h0;refine HB.out.2.1.nam HB.out.1.tw s ?_;rw[<-e1,<-e2];rcases hc with hc | ⟨h1,h2⟩
   ·exact ax hc
   ·exact az ⟨by rw[HOT.out];exact h1,by rw[HNT.out];exact h2⟩
  ·rw[aA h0];exact HB.out.2.1
 have Yw:Hid (gB≠Lj->(ot=true∨nt=true)->∀w4,qM w3 b vS v bX T ae (if y=0 then bU M n.toNat (fW (M n.toNat) s) else M) rs kl G n (.returned (.tuple #[])) w4->oY w (.pointer (some ⟨b,0,none⟩)) T ae M rs kl F n s (.returned (.int .i64 y)) w4):=λMK XM w4 ⟨_,v2,iC,bM,jJ⟩=>by
  have h0:y=0:=Classical.byContradiction λh=>MK (RB.out.2.2 h);obtain⟨e1,e2⟩:=RB.out.2.1 h0;refine⟨y,ew (eF bX n) kl,rfl,HY.out,⟨b,(vS.1,v2),v,bX,G,rfl,iC,?_,ax HB.out.2.2.1,λj hj=>ax (HB.out.2.2.2.1 j hj),λj hj=>az (Nat.le_trans tj.out.size (jJ j hj)),λk hk=>ax (HB.out.2.2.2.2.2 k hk)⟩,tj.out.trans (bM.mono (λk hk=>hk▸HB.out.2.2.1)),tJ (λx hx=>⟨jF iC.pb.pt iC.tw hx,h0,by rw[<-e1,<-e2];exact MK,by rw[<-e1,<-e2,HOT.out,HNT.out];exact XM⟩) _⟩
  ·rw[aE h0];obtain⟨l,hl⟩:=PF T (HY.out.symm.trans h0);obtain⟨pu,hn⟩:=nh hl;refine HB.out.2.1.mark HB.out.1.tw pu _ (fO _ _) (λx hx j hj=>?_);obtain⟨j',lj,vn,FQ⟩:=HB.out.2.1.els x ((fO _ _).subset hx);have:j'=j:=by omega
   subst this;rw[hn] at hx;exact nf iC.pb.pt iC.tw pu hx hj FQ
 by_cases MK:gB=Lj
 ·have gn:(gB != Lj)=false:=by simp[MK]
  have HE:=Xi.out (ax MK);clear MK;go_wp2;go_ret;exact HE
 ·have gn:(gB != Lj)=true:=by simp[MK]
  have zK:=aw MK;clear MK;cases ot with
  | true=>
   go_wp2_with fail;refine(jB w3 b vS v bX T ae _ rs kl G n oZ.out).mono ?_;intro e w4 ht;obtain⟨rfl,_⟩:=id ht;have HE:Hid (oY w (.pointer (some ⟨b,0,none⟩)) T ae M rs kl F n s (.returned (.int .i64 y)) w4):=Yw.out zK.out (ax (by trivial)) w4 ht;clear ht;go_wp2;go_ret;exact HE.out
  | false=>
   cases nt with
   | true=>
    go_wp2_with fail;refine(jB w3 b vS v bX T ae _ rs kl G n oZ.out).mono ?_;intro e w4 ht;obtain⟨rfl,_⟩:=id ht;have HE:Hid (oY w (.pointer (some ⟨b,0,none⟩)) T ae M rs kl F n s (.returned (.int .i64 y)) w4):=Yw.out zK.out (az (by trivial)) w4 ht;clear ht;go_wp2;go_ret;exact HE.out
   | false=>
    have HE:=Xi.out (az ⟨rfl,rfl⟩);go_wp2;go_ret;exact HE
def v9 (s:ByteArray)(e:Ending)(w':World):Prop:=
 ∃y dw,e=.returned (.int .i64 y)/\y=(eH s).1/\DSk w' px T ae M (if y=0 then eQ s else rs) dw (cV F w)/\Fr w w' F/\dw=if y=0 then[] else kl
theorem DG (s:ByteArray)(hs:s.size<=maxLen)(h:DSk w px T ae M rs kl F):Calls prog 41 #[px,.string s] w λe w'=>v9 w px T ae M rs kl F s e w':=by
 obtain⟨b,vS,v,aa,G,rfl,h2,h3,h4,h5,h6,h7⟩:=h;have HB:Hid (DM w b vS v aa T ae M rs kl G/\KOK T M rs kl/\F b/\(∀j,v.ownBlock=some j->F j)/\(∀j,vS.2.ownBlock=some j->F j)/\∀k,G k->F k):=⟨h2,h3,h4,h5,h6,h7⟩;clear h2 h3 h4 h5 h6 h7;go_enter func41,ntmps41;go_wp2_with fail;refine(pP w s hs).mono ?_;rintro e w1 ⟨a,n,c,rfl,cH,tP⟩
 by_cases hc:(eH s).1=0
 ·have FJ:Hid (SheetIn w1 (λk=>w.heap.size<=k/\k<w1.heap.size) (.slice a n c) (eQ s)):=by
   obtain⟨rs,xs,h1,h2,h3,h4⟩:=tP hc;exact Fe hc h1 h2 h3 h4
  have HCK:=aw hc;have jK:Hid (DM (w1.alloc (.cells #[.slice a n c] 60)) b vS v aa T ae M rs kl G):=HB.out.1.below (cH.alloc cH.size _);have eu:=aw cH;rw[hc];have rx:=aw jK.out.pb.doc;have q0:(w1.alloc (.cells #[.slice a n c] 60)).cell? ⟨b,0,none⟩=some vS.1:=au rx.out rfl;have q3:(w1.alloc (.cells #[.slice a n c] 60)).cell? ⟨b,3,none⟩=some vS.2:=au rx.out rfl;have qf:∀j,(w1.alloc (.cells #[.slice a n c] 60)).frozen? ⟨b,j,none⟩=false:=λ_=>aH rx.out;have qs:(w1.alloc (.cells #[.slice a n c] 60)).cell? ⟨w1.heap.size,0,none⟩=some (.slice a n c):=au (heap_alloc_new w1 _) rfl;have jM:b<w.heap.size:=HB.out.1.lt;have i8:=cH.size
  have HE:Hid (v9 w (.pointer (some ⟨b,0,none⟩)) T ae M rs kl F s (.returned (.int .i64 0)) (((w1.alloc (.cells #[.slice a n c] 60)).setCell ⟨b,0,none⟩ (.slice a n c)).setCell ⟨b,3,none⟩ (.slice none 0 0))):=by
   have h1:((w1.alloc (.cells #[.slice a n c] 60)).setCell ⟨b,0,none⟩ (.slice a n c)).heap[b]?=some (tI (.slice a n c,vS.2) v ae):=by rw[aP rx.out];rfl
   have h2:(((w1.alloc (.cells #[.slice a n c] 60)).setCell ⟨b,0,none⟩ (.slice a n c)).setCell ⟨b,3,none⟩ (.slice none 0 0)).heap[b]?=some (tI (.slice a n c,.slice none 0 0) v ae):=by rw[aP h1];rfl
   have fG:=aN jK.out.pb.pl.row rx.out (by decide);have fF:Fr w (((w1.alloc (.cells #[.slice a n c] 60)).setCell ⟨b,0,none⟩ (.slice a n c)).setCell ⟨b,3,none⟩ (.slice none 0 0)) (λk=>k=b):=((((Fr.refl w (λk=>k=b)).below eu.out).alloc _).set (p:=⟨b,0,none⟩) (ax rfl) _).set (p:=⟨b,3,none⟩) (ax rfl) _;refine⟨0,[],rfl,HCK.out.symm,⟨b,(.slice a n c,.slice none 0 0),v,aa,λk=>w.heap.size<=k/\k<w1.heap.size,rfl,⟨⟨h2,⟨bw (bw jK.out.pb.pl.row fG _) fG _,jK.out.pb.pl.ok⟩,jK.out.pb.pt,jK.out.pb.few⟩,jK.out.tw,jK.out.mks,?_,⟨eB,λx hx=>by cases hx⟩,by simp,λk hk=>by have:=hk.2;simp;omega,λhk=>by have:=hk.1;omega,λj hj hk=>?_,λj hj=>by simp[Value.ownBlock] at hj⟩,?_,ax HB.out.2.2.1,λj hj=>ax (HB.out.2.2.2.1 j hj),λj hj=>by simp[Value.ownBlock] at hj,λk hk=>az hk.1⟩,fF.mono (λk hk=>hk▸HB.out.2.2.1),by rw[aE rfl]⟩
   ·rw[aE rfl];refine FJ.out.keep (λk hk hl=>?_) (by simp);have IU:k≠b:=by have:=hk.1;omega
    exact(Below.heap_setCell _ ⟨b,3,none⟩ _ k IU).trans ((Below.heap_setCell _ ⟨b,0,none⟩ _ k IU).trans (Below.heap_alloc w1 _ k hl))
   ·have h5:=(HB.out.1.pb.pl.row.lt j hj).2;have:=hk.1;omega
   ·exact I7
  clear tP hc rx jK FJ cH;generalize (eH s).2=place;go_wp2;go_ret;exact HE.out
 ·have hgt:((eH s).1 != 0)=true:=by simp[hc]
  have HE:Hid (v9 w (.pointer (some ⟨b,0,none⟩)) T ae M rs kl F s (.returned (.int .i64 (eH s).1)) (w1.alloc (.cells #[.slice a n c] 60))):=by
   refine⟨(eH s).1,kl,rfl,rfl,⟨b,vS,v,aa,G,rfl,?_,?_,ax HB.out.2.2.1,λj hj=>ax (HB.out.2.2.2.1 j hj),λj hj=>ax (HB.out.2.2.2.2.1 j hj),λk hk=>ax (HB.out.2.2.2.2.2 k hk)⟩,(Fr.refl w F).below (cH.alloc cH.size _),by rw[aA hc]⟩
   ·rw[aA hc];exact HB.out.1.below (cH.alloc cH.size _)
   ·rw[aA hc];exact HB.out.2.1
  clear tP hc cH;generalize (eH s).2=place;generalize (eH s).1=y at hgt HE ⊢;go_wp2;go_ret;exact HE.out
end
end
section
variable {L ai l:List Int}{W:List Clm}{b i:Nat}{w w1 wr:World}
theorem Hr {cs:List Value}(h:w.rangeAt b 0 cs)(ht:w.there b i 1)(v:Value):(w.setCell ⟨b,i,none⟩ v).rangeAt b 0 (cs.set i v):=λj u hu=>by
 rw[Nat.zero_add];have e:w.setCell ⟨b,i,none⟩ v=w.setCells b i [v]:=rfl
 by_cases hj:i=j
 ·subst hj;have hl:i<cs.length:=by have:=(ee.1 hu).1;rwa[List.length_set] at this
  rw[List.getElem?_set_self hl] at hu;injection hu with hu
  subst hu;have:=World.rangeAt_setCells_same w b i [v] ht 0 v rfl;rwa[Nat.add_zero] at this
 ·rw[List.getElem?_set_ne hj] at hu;rw[e,World.cell?_setCells_out b [v] i w ⟨b,j,none⟩ (λ_ _=>by show j<i∨i+1<=j;omega)];have:=h j u hu;rwa[Nat.zero_add] at this
theorem yF {o n:Nat}(h:w.there b o n)(p:Addr)(hp:p.spot=none)(v:Value):(w.setCell p v).there b o n:=by
 obtain⟨pb,po,ps⟩:=p;simp only at hp;subst hp;exact World.there_setCells h pb po [v]
def sy (l:List Int)(i:Nat):List Int:=l.take i++List.replicate (9 - i) 0
theorem En (hl:l.length=9)(hi:i<=9):(sy l i).length=9:=by
 unfold sy;rw[List.length_append,List.length_take,List.length_replicate];omega
theorem Pz (hl:l.length=9)(hi:i<9):(aJ (sy l i)).set i (.int .i64 (l.getD i 0))=aJ (sy l (i+1)):=by
 apply List.ext_getElem?;intro j;have e1:l.getD i 0=l[i]:=by rw[List.getD_eq_getElem?_getD,bW (by omega)];rfl
 rw[e1];have h9:(aJ (sy l i)).length=9:=by rw[List.length_map];exact En hl (by omega)
 by_cases hj:i=j
 ·subst hj;rw[List.getElem?_set_self (by omega),List.getElem?_map];unfold sy;rw[List.getElem?_append_left (by rw[List.length_take];omega),List.getElem?_take_of_lt (by omega),bW (by omega)];rfl
 ·rw[List.getElem?_set_ne hj,List.getElem?_map,List.getElem?_map]
  congr 1
  unfold sy
  by_cases h1:j<i
  ·rw[List.getElem?_append_left (by rw[List.length_take];omega),List.getElem?_append_left (by rw[List.length_take];omega),List.getElem?_take_of_lt h1,List.getElem?_take_of_lt (by omega)]
  ·rw[List.getElem?_append_right (by rw[List.length_take];omega),List.getElem?_append_right (by rw[List.length_take];omega),List.getElem?_replicate,List.getElem?_replicate,List.length_take,List.length_take]
   by_cases h2:j<9
   ·rw[aE (by omega),aE (by omega)]
   ·rw[aA (by omega),aA (by omega)]
theorem Py (hl:l.length=9):sy l 9=l:=by
 unfold sy;rw[List.take_of_length_le (by omega)];exact List.append_nil _
structure OfI (w w1:World)(W:List Clm)(comes L:List Int)(wr:World):Prop where
 rngW:wr.rangeAt w1.heap.size 0 (bd W)
 rngC:wr.rangeAt (w.heap.size+1) 0 (aJ comes)
 rngS:wr.rangeAt (w1.heap.size+1) 0 (aJ L)
 thrS:wr.there (w1.heap.size+1) 0 9
 res:wr.there (w.heap.size+2) 0 9
 below:Below w.heap.size w wr
 far:w1.heap.size+2<=wr.heap.size
 near:w.heap.size+3<=w1.heap.size
theorem OfI.go {w':World}(h:OfI w w1 W ai L wr)(hB:Below wr.heap.size wr w'):OfI w w1 W ai L w':=by
 have h1:=h.far;have h2:=h.near;exact⟨bB hB (by omega) h.rngW,bB hB (by omega) h.rngC,bB hB (by omega) h.rngS,dH hB (by omega) h.thrS,dH hB (by omega) h.res,h.below.trans (hB.mono (by omega)),Nat.le_trans h1 hB.size,h2⟩
theorem OfI.put {L':List Int}(h:OfI w w1 W ai L wr)(hi:i<9){v:Int}(hL:(aJ L).set i (.int .i64 v)=aJ L'):OfI w w1 W ai L' (wr.setCell ⟨w1.heap.size+1,i,none⟩ (.int .i64 v)):=by
 have h1:=h.far;have h2:=h.near;have e:wr.setCell ⟨w1.heap.size+1,i,none⟩ (.int .i64 v)=wr.setCells (w1.heap.size+1) i [.int .i64 v]:=rfl;refine⟨?_,?_,?_,yF h.thrS _ rfl _,yF h.res _ rfl _,h.below.setCell (by show w.heap.size<=w1.heap.size+1;omega) _,by simpa using h1,h2⟩
 ·rw[e];exact World.rangeAt_setCells_apart h.rngW _ _ _ (ax (by omega))
 ·rw[e];exact World.rangeAt_setCells_apart h.rngC _ _ _ (ax (by omega))
 ·rw[<-hL];exact Hr h.rngS (rq h.thrS (by omega) (by omega)) _
theorem Jg (aa:List PEl)(rs:List dx)(n:Int)(ai:List Int):(MP aa rs n ai).length=9:=by unfold MP;simp
theorem WT (aa:List PEl)(rs:List dx)(n:Int)(ai:List Int){p:Nat}(hp:p<9):(MP aa rs n ai).getD p 0=dV (bL aa rs n) ai 9 p:=by
 unfold MP;rw[List.getD_eq_getElem?_getD,List.getElem?_map,List.getElem?_range hp];rfl
theorem CI {aa:List PEl}{rs:List dx}{n:Int}(h:∀r∈rs,r.ds.length<=400/\∀d∈r.ds,d.fine):jz (bL aa rs n):=ub AL (λr hr=>(h r hr).2)
section
variable (w:World)
theorem TA (b:Nat)(a:Option Addr)(c:Nat)(aa:List PEl)(n:Int)(ar:Option Addr)(cr:Nat)(xs:List Value)(rs:List dx)(ai:List Int)(hc:ai.length=9)(h:TRd w b a c aa)(ho:RsRow w ar cr xs rs):
  Calls prog 128 #[.agg #[.slice ar rs.length cr],.pointer (some ⟨b,1,none⟩),.int .i64 n,.agg (aJ ai).toArray] w λe w'=>YC w (MP aa rs n ai) e w':=by
 have Mz:Hid (jz (bL aa rs n)):=CI ho.decl;have oE:Hid (∀Z:Array Value,Below w.heap.size w (((w.alloc (.cells #[.slice ar rs.length cr] 60)).alloc (.cells (aJ ai).toArray 132)).alloc (.cells Z 132))):=λZ=>((bo.alloc aF _).alloc (by simp) _).alloc (by simp;omega) _;have HT:=bZ h ho;have Uk:=aw (sizeS hc);clear h ho;go_enter func128,ntmps128;go_wp2_with fail;refine(Cr _ b a c aa n ar cr xs rs (HT.out.1.below (oE.out _)) (HT.out.2.below (oE.out _))).mono ?_;rintro e w1 ⟨rfl,hB⟩;have gA:w.heap.size+3<=w1.heap.size:=by have:=hB.size;simp at this;omega
 have FK:=aw (sizeW Mz.out.1);have bT:(bd (bL aa rs n)).toArray.size=63:=List.size_toArray.trans (by rw[iM,Mz.out.1]);have C8:Hid ((prog.info? 210).map (·.size)=some (bd (bL aa rs n)).toArray.size):=by unfold Hid;rw[bT];exact Tryz.sizeW
 have Ya:=aw bT.symm;have zK:Hid ((bd (bL aa rs n)).toArray.all (·.oneCell')=true):=all_oneCell_toArray (vF _)
 have JW:Hid (OfI w w1 (bL aa rs n) ai (sy (MP aa rs n ai) 0) ((w1.alloc (.cells (bd (bL aa rs n)).toArray 210)).alloc (.cells (aJ [0,0,0,0,0,0,0,0,0]).toArray 132))):=by
  have e1:(w1.alloc (.cells (bd (bL aa rs n)).toArray 210)).heap.size=w1.heap.size+1:=by simp
  refine⟨World.rangeAt_alloc (eA w1 _ _) _,World.rangeAt_alloc (World.rangeAt_alloc (bB hB (by simp) ?_) _) _,?_,?_,World.there_alloc (World.there_alloc (dH hB (by simp) ?_) _) _,(((oE.out _).trans (hB.mono (by simp;omega))).alloc (by omega) _).alloc (by simp;omega) _,by simp,gA⟩
  ·have:=eA (w.alloc (.cells #[.slice ar rs.length cr] 60)) (aJ ai) 132;exact World.rangeAt_alloc (by simpa using this) _
  ·have:=eA (w1.alloc (.cells (bd (bL aa rs n)).toArray 210)) (aJ [0,0,0,0,0,0,0,0,0]) 132;rwa[e1] at this
  ·have:=f9 (w1.alloc (.cells (bd (bL aa rs n)).toArray 210)) (aJ [0,0,0,0,0,0,0,0,0]).toArray 132 9 (by decide);rwa[e1] at this
  ·have:=f9 ((w.alloc (.cells #[.slice ar rs.length cr] 60)).alloc (.cells (aJ ai).toArray 132)) (#[.int .i64 0,.int .i64 0,.int .i64 0,.int .i64 0,.int .i64 0,.int .i64 0,.int .i64 0,.int .i64 0,.int .i64 0]:Array Value) 132 9 (by decide);simpa using this
 have HV:Hid (∀p,p<9->(MP aa rs n ai).getD p 0=dV (bL aa rs n) ai 9 p):=λp hp=>WT aa rs n ai hp;have MA:=aw (Jg aa rs n ai);clear hB bT;generalize bL aa rs n=W at Mz FK C8 Ya zK JW HV ⊢;obtain⟨L,hL⟩:∃L,MP aa rs n ai=L:=⟨_,rfl⟩;have HLE:=aw hL;rw[hL] at JW HV MA;clear hL;go_wp2_with (refine aO rfl 210 _ _ rfl _ (bd W).toArray 210 rfl rfl C8.out Ya.out zK.out ?_)
 go_loopg [16] 9 (λgk iv wr=>∃i:Nat,iv=.int .i64 i/\i<=9/\9 - i<=gk/\Hid (OfI w w1 W ai (sy L i) wr))
 case atStart=>exact⟨0,rfl,bm,by omega,JW⟩
 case round=>
  obtain⟨i,rfl,hi,fT,HN⟩:=hrel;have KP:=HN.out.far
  by_cases bc:i<9
  ·have hd:decide ((i:Int)<9)=true:=by simp;omega
   have jQ:(i:Int)<9:=by omega
   go_wp2_with (first | (refine wpList_load_mid rfl 210 _ rfl w1.heap.size 0 rfl (bd W) _ HN.out.rngW underlying210 rfl FK.out ?_) | (refine wpList_load_mid rfl 132 _ rfl (w.heap.size+1) 0 rfl (aJ ai) _ HN.out.rngC underlying132 rfl Uk.out ?_));refine(Hl _ W Mz.out i bc ai hc).mono ?_;rintro e w2 ⟨rfl,hB⟩;have fj:=aw (HN.out.go hB);have q0:w2.cell? ⟨w1.heap.size+1,i,none⟩=some (.int .i64 ((sy L i).getD i 0)):=by have:=fj.out.rngS i _ (ro (by rw[En MA.out hi];exact bc));rwa[Nat.zero_add] at this
   have q1:w2.frozen? ⟨w1.heap.size+1,i,none⟩=false:=by have:=(fj.out.thrS i bc).2;rwa[Nat.zero_add] at this
   have oF:Hid (OfI w w1 W ai (sy L (i+1)) (w2.setCell ⟨w1.heap.size+1,i,none⟩ (.int .i64 (dV W ai 9 i)))):=fj.out.put bc (by rw[<-HV.out i bc];exact Pz MA.out bc);clear hB;generalize dV W ai 9 i=val at oF ⊢;generalize (sy L i).getD i 0=gB at q0;go_wp2;go_roundg (9 - (i+1))
   case measure=>omega
   case rel=>exact⟨i+1,by go_num,by omega,aF,oF⟩
  ·have hd:decide ((i:Int)<9)=false:=by simp;omega
   obtain rfl:i=9:=by omega
   rw[Py MA.out] at HN;have rz:=aw (sizeS MA.out);have bT:(aJ L).toArray.size=9:=List.size_toArray.trans (by rw[List.length_map];exact MA.out);have ac0:Hid ((prog.info? 132).map (·.size)=some (aJ L).toArray.size):=by unfold Hid;rw[bT];exact Tryz.sizeS
   have ur:Hid (wr.there (w.heap.size+2) 0 (aJ L).toArray.size):=by unfold Hid;rw[bT];exact HN.out.res
   have Bp:=aw (gW L);have Bs:Hid ((wr.setCells (w.heap.size+2) 0 (aJ L)).rangeAt (w.heap.size+2) 0 (aJ L)):=World.rangeAt_setCells_same wr _ 0 _ (by have:=ur.out;rwa[show(aJ L).toArray.size=(aJ L).length from List.size_toArray] at this);have vb:Hid (Below w.heap.size w (wr.setCells (w.heap.size+2) 0 (aJ L))):=dj (by omega) _ _ _ HN.out.below;clear bT;go_wp2_with (first | (refine wpList_load_mid rfl 132 _ rfl (w1.heap.size+1) 0 rfl (aJ L) _ HN.out.rngS underlying132 rfl rz.out ?_) | (refine wpList_store_mid rfl 132 _ _ rfl (w.heap.size+2) 0 (aJ L).toArray rfl rfl ur.out ac0.out Bp.out ?_));exact bodyPost_ret (iO Tryz.results128 _ rfl Bs.out underlying132 rfl rz.out) rfl ⟨by rw[HLE.out],vb.out⟩
end
end
section
variable {kl:List (Int × List Int)}{n:Int}
theorem oQ {P:Program}{fn:Func}{s u:Tmp}{t:TypeId}(h:fn.results=#[.cell s t,.tmp u])(tmps:Array Value){w:World}{b:Nat}(hx:tmps.getD s undef=.pointer (some ⟨b,0,none⟩)){cs:List Value}{d:TypeDesc}(hc:w.rangeAt b 0 cs)(hu:P.underlying t=some d)(hd:d.isRow=true)(hi:(P.info? t).map (·.size)=some cs.length):
  (results fn tmps).run P w=.ok (.tuple #[.agg cs.toArray,tmps.getD u undef]) w:=by
 have Ed:tmps[s]?.getD undef=.pointer (some ⟨b,0,none⟩):=by simpa using hx
 simp[results,h,Ed,asAddr,run_loadVar_mid w b 0 t cs d hc hu hd hi]
def bA (kl:List (Int × List Int))(n:Int):Option (List Int):=(kl.find? λx=>decide (x.1=n)).map Prod.snd
abbrev j3:List Int:=[0,0,0,0,0,0,0,0,0]
def VQ (w:World)(r:Option (List Int))(e:Ending)(w':World):Prop:=e=.returned (.tuple #[.agg (aJ (r.getD j3)).toArray,.bool r.isSome])/\Below w.heap.size w w'
theorem OF {i:Nat}(hi:i<kl.length)(ol:∀j (_:j<kl.length),j<i->kl[j].1=n->False)(h:kl[i].1=n):bA kl n=some kl[i].2:=by
 unfold bA
 have:(kl.find? λx=>decide (x.1=n))=some kl[i]:=by
  rw[List.find?_eq_some_iff_getElem];refine⟨by simpa using h,i,hi,rfl,λj hj=>?_⟩;have:=ol j (by omega) hj;simpa using this
 rw[this];rfl
theorem OG (ol:∀j (_:j<kl.length),kl[j].1=n->False):bA kl n=none:=by
 unfold bA
 have:(kl.find? λx=>decide (x.1=n))=none:=by
  rw[List.find?_eq_none];intro x hx;obtain⟨j,hj,rfl⟩:=List.getElem_of_mem hx;simpa using ol j hj
 rw[this];rfl
theorem oh {s:List Int}(h:bA kl n=some s):(n,s)∈kl:=by
 unfold bA at h;cases hf:kl.find? λx=>decide (x.1=n) with
 | none=>rw[hf] at h;cases h
 | some x=>
  rw[hf] at h;have h1:x.1=n:=by simpa using List.find?_some hf
  have h2:x.2=s:=by simpa using h
  have:=List.mem_of_find?_eq_some hf;rw[<-h1,<-h2];exact this
theorem xf (h:bA kl n=none):∀x∈kl,x.1≠n:=by
 unfold bA at h;rw[Option.map_eq_none_iff,List.find?_eq_none] at h;intro x hx;simpa using h x hx
section
theorem rh (w:World)(b:Nat)(v:Value)(kl:List (Int × List Int))(n:Int)(hb:w.cell? ⟨b,3,none⟩=some v)(h:KL w v kl)(bJ:kl.length<=24):
  Calls prog 120 #[.pointer (some ⟨b,3,none⟩),.int .i64 n] w λe w'=>VQ w (bA kl n) e w':=by
 obtain⟨a,c,hv⟩:=h.shape;subst hv;have HP:=aw h;have jM:b<w.heap.size:=World.block_lt_of_cell? w _ hb;clear h;have vc:=aw Tryz.sizeS;go_enter func120,ntmps120;go_wp2_with fail
 go_loopg [13] kl.length (λgk iv wr=>∃i:Nat,iv=.int .i64 i/\i<=kl.length/\kl.length - i<=gk/\Hid (Below w.heap.size w wr/\wr.there w.heap.size 0 9/\w.heap.size<wr.heap.size/\∀j (_:j<kl.length),j<i->kl[j].1=n->False))
 case atStart=>exact⟨0,rfl,bm,by omega,bo.alloc aF _,f9 w _ _ 9 (by decide),by simp,λj _ h=>by omega⟩
 case round=>
  obtain⟨i,rfl,hi,fT,HN⟩:=hrel;have i8:=HN.out.1.size
  by_cases bc:i<kl.length
  ·have hd:decide ((i:Int)<(kl.length:Int))=true:=by simp;omega
   obtain⟨g,hg,di,he⟩:=HP.out.el bc;subst hg;have HE:=aw (he.below HN.out.1 di);have h9:=HP.out.nine _ (bN bc);have HF:Hid (kl[i].1=n->bA kl n=some kl[i].2):=λh=>OF bc HN.out.2.2.2 h
   have iQ:Hid (¬kl[i].1=n->∀j (_:j<kl.length),j<i+1->kl[j].1=n->False):=λhm j hj h1 h2=>by
    by_cases e:j=i
    ·subst e;exact hm h2
    ·exact HN.out.2.2.2 j hj (by omega) h2
   clear he;generalize kl[i]=y at HE HF iQ h9
   have Yo:Hid ((wr.alloc (.cells (kO y).toArray 197)).rangeAt wr.heap.size 1 (aJ y.2)):=λj u hu=>by
    have:=(HE.out.new wr).rng (1+j) u (by rw[Nat.add_comm];exact hu);rwa[Nat.zero_add] at this
   obtain⟨cs,kr⟩:∃cs,kO y=cs:=⟨_,rfl⟩;rw[kr] at HE Yo;clear kr;obtain⟨y1,y2⟩:=y;simp only at HE HF iQ h9 Yo;have c0:cs[0]?=some (.int .i64 y1):=HE.out.c0
   by_cases hy:y1=n
   ·have gy:(y1==n)=true:=by simp[hy]
    have tj:=aw (HF.out hy);have HS1:=aw (sizeS h9);have bT:(aJ y2).toArray.size=9:=List.size_toArray.trans (by rw[List.length_map];exact h9);have qK:Hid ((prog.info? 132).map (·.size)=some (aJ y2).toArray.size):=by unfold Hid;rw[bT];exact Tryz.sizeS
    have ur:Hid ((wr.alloc (.cells cs.toArray 197)).there w.heap.size 0 (aJ y2).toArray.size):=by unfold Hid;rw[bT];exact World.there_alloc HN.out.2.1 _
    have Bp:=aw (gW y2);have Bs:Hid (((wr.alloc (.cells cs.toArray 197)).setCells w.heap.size 0 (aJ y2)).rangeAt w.heap.size 0 (aJ y2)):=World.rangeAt_setCells_same _ _ 0 _ (by have:=ur.out;rwa[show(aJ y2).toArray.size=(aJ y2).length from List.size_toArray] at this);have vb:Hid (Below w.heap.size w ((wr.alloc (.cells cs.toArray 197)).setCells w.heap.size 0 (aJ y2))):=dj aF _ _ _ (HN.out.1.alloc i8 _);clear hy bT HF iQ;go_wp2_with (first | (refine wpList_load_mid rfl 197 _ rfl g (i*10) rfl cs _ HE.out.rng underlying197 rfl HE.out.size ?_) | (refine aO rfl 197 _ _ rfl _ cs.toArray 197 rfl rfl HE.out.size' HE.out.same HE.out.all ?_) | (refine wpList_load_mid rfl 132 _ rfl wr.heap.size 1 rfl (aJ y2) _ Yo.out underlying132 rfl HS1.out ?_) | (refine wpList_store_mid rfl 132 _ _ rfl w.heap.size 0 (aJ y2).toArray rfl rfl ur.out qK.out Bp.out ?_));exact bodyPost_ret (oQ Tryz.results120 _ rfl Bs.out underlying132 rfl HS1.out) rfl ⟨by rw[tj.out];rfl,vb.out⟩
   ·have gy:(y1==n)=false:=by simp[hy]
    have fj:Hid (Below w.heap.size w (wr.alloc (.cells cs.toArray 197))/\(wr.alloc (.cells cs.toArray 197)).there w.heap.size 0 9/\w.heap.size<(wr.alloc (.cells cs.toArray 197)).heap.size/\∀j (_:j<kl.length),j<i+1->kl[j].1=n->False):=⟨HN.out.1.alloc i8 _,World.there_alloc HN.out.2.1 _,by simp;omega,iQ.out hy⟩;clear hy HF iQ;go_wp2_with (first | (refine wpList_load_mid rfl 197 _ rfl g (i*10) rfl cs _ HE.out.rng underlying197 rfl HE.out.size ?_) | (refine aO rfl 197 _ _ rfl _ cs.toArray 197 rfl rfl HE.out.size' HE.out.same HE.out.all ?_));go_roundg (kl.length - (i+1))
    case measure=>omega
    case rel=>exact⟨i+1,by go_num,by omega,aF,fj⟩
  ·have hd:decide ((i:Int)<(kl.length:Int))=false:=by simp;omega
   have tj:Hid (bA kl n=none):=OG (λj hj h=>HN.out.2.2.2 j hj (by omega) h);have ur:=aw HN.out.2.1;have Bp:=aw (gW j3);have Bs:Hid ((wr.setCells w.heap.size 0 (aJ j3)).rangeAt w.heap.size 0 (aJ j3)):=World.rangeAt_setCells_same _ _ 0 _ HN.out.2.1;have vb:Hid (Below w.heap.size w (wr.setCells w.heap.size 0 (aJ j3))):=dj aF _ _ _ HN.out.1;have HS1:Hid ((prog.info? 132).map (·.size)=some (aJ j3).length):=sizeS rfl;go_wp2_with (first | (refine wpList_store_mid rfl 132 _ _ rfl w.heap.size 0 (aJ j3).toArray rfl rfl ur.out vc.out Bp.out ?_));exact bodyPost_ret (oQ Tryz.results120 _ rfl Bs.out underlying132 rfl HS1.out) rfl ⟨by rw[tj.out];rfl,vb.out⟩
end
end
theorem Ce {s:List Int}(h:s.length=9):∃a b c d e f g i j,s=[a,b,c,d,e,f,g,i,j]:=by
 match s,h with
 | [a,b,c,d,e,f,g,i,j],_=>exact⟨a,b,c,d,e,f,g,i,j,rfl⟩
def tr (w:World)(b:Nat)(vS:Value × Value)(v:Value)(ae:Nat)(kl:List (Int × List Int))(e:Ending)(w':World):Prop:=
 e=.returned (.tuple #[])/\∃v',w'.heap[b]?=some (tI (vS.1,v') v ae)/\KL w' v' kl/\Fr w w' (λk=>k=b∨vS.2.ownBlock=some k)/\∀j,v'.ownBlock=some j->vS.2.ownBlock=some j∨w.heap.size<=j
section
theorem Lu (w:World)(b:Nat)(vS:Value × Value)(v:Value)(ae:Nat)(kl:List (Int × List Int))(n:Int)(st:List Int)(hb:w.heap[b]?=some (tI vS v ae))(h:KL w vS.2 kl)(bJ:kl.length<=24)(h9:st.length=9):
  Calls prog 129 #[.pointer (some ⟨b,3,none⟩),.int .i64 n,.agg (aJ st).toArray] w λe w'=>tr w b vS v ae (kl++[(n,st)]) e w':=by
 obtain⟨i0,z0,hi,iz,is,ib,K7⟩:=Tryz.infoK;obtain⟨vs1,vs2⟩:=vS;simp only at h;obtain⟨a,c,hv⟩:=h.shape;subst hv;have HK:=aw h;have rx:=aw hb;have jM:=(bG.1 hb).1;have q3:w.cell? ⟨b,3,none⟩=some (.slice a kl.length c):=au hb rfl;have q3f:w.frozen? ⟨b,3,none⟩=false:=aH hb;have HNE:Hid ((Value.slice a kl.length c).ownBlock≠some b):=aN h.row hb (by decide);obtain⟨s0,s1,s2,s3,s4,s5,s6,s7,s8,Ec⟩:=Ce h9;subst Ec;clear h hb h9
 have fC:Hid (∀(A B:Obj) (w8:World) (v8:Value),w8.ownsRow 0 197 10 v8 (kl.length+1) (oK kl++[.int .i64 n,.int .i64 s0,.int .i64 s1,.int .i64 s2,.int .i64 s3,.int .i64 s4,.int .i64 s5,.int .i64 s6,.int .i64 s7,.int .i64 s8])->(((w.alloc A).alloc B).drew).grownBy w8 (Value.slice a kl.length c).ownBlock->(∀j,v8.ownBlock=some j->(Value.slice a kl.length c).ownBlock=some j∨w.heap.size<=j)->tr w b (vs1,.slice a kl.length c) v ae (kl++[(n,[s0,s1,s2,s3,s4,s5,s6,s7,s8])]) (.returned (.tuple #[])) (w8.setCell ⟨b,3,none⟩ v8)/\w8.cell? ⟨b,3,none⟩=some (.slice a kl.length c)/\w8.frozen? ⟨b,3,none⟩=false/\b<w8.heap.size):=λA B w8 v8 bS hg hj=>by
  have FO:w8.heap[b]?=some (tI (vs1,.slice a kl.length c) v ae):=(hg.block b (by simp[World.drew];omega) (λe=>HNE.out e.symm)).trans ((Below.heap_alloc (w.alloc A) B b (by simp;omega)).trans ((Below.heap_alloc w A b jM).trans rx.out));have KT:v8.ownBlock≠some b:=aN bS FO (by decide);have fF:Fr w w8 (λk=>k=b∨(Value.slice a kl.length c).ownBlock=some k):=((((Fr.refl w (λk=>k=b∨(Value.slice a kl.length c).ownBlock=some k)).alloc A).alloc B).drew1).gb hg (λk hk=>ax (az hk));refine⟨⟨rfl,v8,?_,⟨?_,λx hx=>?_⟩,fF.set (p:=⟨b,3,none⟩) (ax (ax rfl)) _,hj⟩,au FO rfl,aH FO,(bG.1 FO).1⟩
  ·rw[aP FO];rfl
  ·rw[xj,List.length_append];exact bw bS KT _
  ·rcases List.mem_append.1 hx with hx | hx
   ·exact HK.out.nine x hx
   ·rw[ft] at hx;rw[hx];rfl
 go_enter func129,ntmps129;go_upto_region 1 with fail
 go_region_law (refine nQ rfl (.tmp 10) (.tmp 14) 125 rfl 0 197 i0 z0 10 80 underlying125 hi iz is ib K7 (by decide) (.slice a kl.length c) kl.length (oK kl) (by simp[Act.eval]) (((HK.out.row.alloc _).alloc _).drew) ⟨w.heap.size+1,0,none⟩ 1 1 [.int .i64 n,.int .i64 s0,.int .i64 s1,.int .i64 s2,.int .i64 s3,.int .i64 s4,.int .i64 s5,.int .i64 s6,.int .i64 s7,.int .i64 s8] (by simp[Act.eval]) rfl (bg (w.alloc _) _ (by simp) _ _ _ rfl) (xF (n,[s0,s1,s2,s3,s4,s5,s6,s7,s8])) (by unfold maxLen;omega) (by omega) bm ?_;intro v8 w8 xA hg8 FO;obtain⟨a8,c8,hv8⟩:=aK xA;have JZ:=fC.out _ _ w8 v8 xA hg8 (λj hj=>(FO.out j hj).imp id (λh=>Nat.le_trans (by simp[World.drew];omega) h));have y1:=JZ.2.1;have y1f:=JZ.2.2.1;have y1l:=JZ.2.2.2;replace JZ:=JZ.1;rw[hv8] at JZ ⊢;clear hv8 xA hg8 FO)
 all_goals
  go_wp2;go_end0;exact JZ
end
section
variable {g k:Nat}
def js (T:aU)(M:Nat->Mk)(rs:List dx)(kl:List (Int × List Int))(k:Int):List (Int × List Int):=if(bA kl k).isSome then kl else kl++[(k,dU (bp T M) rs k)]
theorem KOK.fresh {T:aU}{M:Nat->Mk}{rs:List dx}{kl:List (Int × List Int)}(h:KOK T M rs kl){l:List Nat}(hk:(k,l)∈T):KOK T M rs (js T M rs kl k):=by
 unfold js;cases hf:bA kl k with
 | none=>exact h.more hk (xf hf)
 | some s=>exact h
theorem PZ (l:List Int):∀v∈aJ l,v.oneCell'=true:=by
 intro v hv;obtain⟨y,_,rfl⟩:=bx.1 hv;rfl
section
variable {w w':World}{b:Nat}{vS:Value × Value}{v:Value}{aa:List PEl}{T:aU}{ae:Nat}{M:Nat->Mk}{rs:List dx}{kl:List (Int × List Int)}{G:Nat->Prop}
theorem Ts {e1 e2:TypeId}{s1 s2 n1 n2:Nat}{v1 v2:Value}{x1 x2:List Value}(h1:w.ownsRow 0 e1 s1 v1 n1 x1)(h2:w.ownsRow 0 e2 s2 v2 n2 x2)(fG:e1≠e2)(hk:v1.ownBlock=some k):v2.ownBlock≠some k:=by
 rcases h1.2 with⟨rfl,_⟩ | ⟨g,ij,gu,rfl,_,hg,_⟩
 ·cases hk
 ·have:g=k:=by simpa[Value.ownBlock] using hk
  subst this;exact aN h2 hg fG
theorem DM.kept (h:DM w b vS v aa T ae M rs kl G){dw:List (Int × List Int)}{e:Ending}(hp:tr w b vS v ae dw e w')(hl:dw.length<=24):e=.returned (.tuple #[])/\∃v2,DM w' b (vS.1,v2) v aa T ae M rs dw G/\Fr w w' (λj=>j=b∨vS.2.ownBlock=some j)/\∀j,v2.ownBlock=some j->vS.2.ownBlock=some j∨w.heap.size<=j:=by
 obtain⟨rfl,v2,hb,hk,hf,hj⟩:=hp;have hvb:v.ownBlock≠some b:=aN h.pb.pl.row h.pb.doc (by decide);refine⟨rfl,v2,⟨⟨hb,⟨jD h.pb.pl.row (λk gg FT=>hf.block k FT (λe=>?_)),h.pb.pl.ok⟩,h.pb.pt,h.pb.few⟩,h.tw,h.mks,h.sh.keep (λk hg FT=>hf.block k FT (λe=>?_)) hf.size,hk,hl,λk hg=>Nat.lt_of_lt_of_le (h.gl k hg) hf.size,h.gb,h.gv,λj MJ hg=>?_⟩,hf,hj⟩
 ·rcases e with e | e
  ·exact hvb (e▸gg)
  ·exact Ts h.pb.pl.row h.kp.row (by decide) gg e
 ·rcases e with e | e
  ·exact h.gb (e▸hg)
  ·exact h.gk k e hg
 ·rcases hj j MJ with h1 | h1
  ·exact h.gk j h1 hg
  ·have:=h.gl j hg;omega
theorem DM.aside (h:DM w b vS v aa T ae M rs kl G)(hk:∀j,j=b∨v.ownBlock=some j∨vS.2.ownBlock=some j∨G j->w'.heap[j]?=w.heap[j]?)(hz:w.heap.size<=w'.heap.size):DM w' b vS v aa T ae M rs kl G:=
 ⟨⟨(hk b (ax rfl)).trans h.pb.doc,⟨jD h.pb.pl.row (λk gg _=>hk k (az (ax gg))),h.pb.pl.ok⟩,h.pb.pt,h.pb.few⟩,h.tw,h.mks,h.sh.keep (λk hg _=>hk k (az (az (az hg)))) hz,⟨jD h.kp.row (λk gg _=>hk k (az (az (ax gg)))),h.kp.nine⟩,h.few,λk hg=>Nat.lt_of_lt_of_le (h.gl k hg) hz,h.gb,h.gv,h.gk⟩
theorem kn {wx wy:World}{o n:Nat}(h:wx.there g o n)(hk:wy.heap[g]?=wx.heap[g]?):wy.there g o n:=λj hj=>by
 obtain⟨h1,h2⟩:=h j hj;unfold World.cell? at h1 ⊢;unfold World.frozen? at h2 ⊢;rw[hk];exact⟨h1,h2⟩
theorem kt (g:Nat):∀(vs:List Value) (o:Nat) (wx:World) (k:Nat),k≠g->(wx.setCells g o vs).heap[k]?=wx.heap[k]?
 | [],_,_,_,_=>rfl
 | u :: vs,o,wx,k,hk=>(kt g vs (o+1) _ k hk).trans (Below.heap_setCell wx ⟨g,o,none⟩ u k hk)
theorem Fr.sets {wa:World}{S:Nat->Prop}(hg:S g∨wa.heap.size<=g):∀(vs:List Value) (o:Nat) {wx:World},Fr wa wx S->Fr wa (wx.setCells g o vs) S
 | [],_,_,h=>h
 | u :: vs,o,_,h=>Fr.sets hg vs (o+1) (h.set (p:=⟨g,o,none⟩) hg u)
theorem DM.own_lt (h:DM w b vS v aa T ae M rs kl G)(hk:k=b∨vS.2.ownBlock=some k):k<w.heap.size:=by
 rcases hk with rfl | hk
 ·exact h.lt
 ·exact(h.kp.row.lt k hk).2
end
section
variable (w:World)(b:Nat)(vS:Value × Value)(v:Value)(aa:List PEl)(T:aU)(ae:Nat)(M:Nat->Mk)(rs:List dx)(kl:List (Int × List Int))(G:Nat->Prop)
def ti (k:Nat)(e:Ending)(w':World):Prop:=
 e=.returned (.agg (aJ (dU (bp T M) rs k)).toArray)/\∃v2,DM w' b (vS.1,v2) v aa T ae M rs (js T M rs kl k) G/\Fr w w' (λj=>j=b∨vS.2.ownBlock=some j)/\∀j,v2.ownBlock=some j->vS.2.ownBlock=some j∨w.heap.size<=j
theorem sI (k:Nat)(l:List Nat)(ai:List Int)(h:DM w b vS v aa T ae M rs kl G)(Wx:KOK T M rs kl)(hk:(k,l)∈T)(hc:ai=iX T M rs (bh T T.length k))(hc9:ai.length=9):
  Calls prog 100 #[.pointer (some ⟨b,0,none⟩),.int .i64 k,.agg (aJ ai).toArray] w λe w'=>ti w b vS v aa T ae M rs kl G k e w':=by
 obtain⟨a,c,hv⟩:=h.pb.pl.shape;subst hv;have HD:=aw h;have HKO:=aw Wx;have jM:b<w.heap.size:=h.lt;have bJ:=h.few
 have RF:Hid (MP aa rs k ai=dU (bp T M) rs k):=by
  unfold Hid;rw[To,T7 h.pb.pt h.tw h.mks.1,yB h.tw hk,hc]
 have acS:Hid ((js T M rs kl k).length<=24):=by
  unfold Hid;have h1:=(Wx.fresh hk).len;have h2:=h.pb.pt.len h.tw;have h3:=h.pb.few;omega
 have HC9:=aw hc9;have Uk:=aw (sizeS hc9);have oE:Hid (∀Z:Array Value,Below w.heap.size w ((w.alloc (.cells (aJ ai).toArray 132)).alloc (.cells Z 132))):=λZ=>(bo.alloc aF _).alloc (by simp) _;clear h Wx hk hc;go_enter func100,ntmps100;go_wp2_with fail;refine(rh _ b vS.2 kl k (au (HD.out.below (oE.out _)).pb.doc rfl) (HD.out.below (oE.out _)).kp bJ).mono ?_;rintro e w1 ⟨rfl,cH⟩;have gA:w.heap.size+2<=w1.heap.size:=by have:=cH.size;simpa using this
 have eu:Hid (Below w.heap.size w w1):=(oE.out _).trans (cH.mono (by simp;omega));have MD:Hid (w1.rangeAt w.heap.size 0 (aJ ai)):=bB cH (by simp;omega) (World.rangeAt_alloc (eA w (aJ ai) 132) _)
 have uq:Hid (w1.there (w.heap.size+1) 0 9):=by
  refine dH cH (by simp) ?_;have:=f9 (w.alloc (.cells (aJ ai).toArray 132)) (#[.int .i64 0,.int .i64 0,.int .i64 0,.int .i64 0,.int .i64 0,.int .i64 0,.int .i64 0,.int .i64 0,.int .i64 0]:Array Value) 132 9 (by decide);simpa using this
 have jK:=aw (HD.out.below eu.out);clear cH;cases hf:bA kl k with
 | some s=>
  have hs:=HKO.out.right _ (oh hf);replace hs:s=dU (bp T M) rs k:=hs;have hs9:s.length=9:=by rw[hs,lS]
  have HFK:Hid (js T M rs kl k=kl):=by unfold Hid js;rw[hf];rfl
  have HS:=aw hs;clear hf hs;show _;simp only[Option.getD_some,Option.isSome_some];have Ys:=aw (sizeS hs9);have bT:(aJ s).toArray.size=9:=List.size_toArray.trans (by rw[List.length_map];exact hs9);have qK:Hid ((prog.info? 132).map (·.size)=some (aJ s).toArray.size):=by unfold Hid;rw[bT];exact Tryz.sizeS
  have Uj:=aw bT.symm;have Bp:=aw (gW s);have HR7:Hid ((w1.alloc (.cells (aJ s).toArray 132)).rangeAt w1.heap.size 0 (aJ s)):=eA w1 _ _;have ur:Hid ((w1.alloc (.cells (aJ s).toArray 132)).there (w.heap.size+1) 0 (aJ s).toArray.size):=by unfold Hid;rw[bT];exact World.there_alloc uq.out _
  have Bs:Hid (((w1.alloc (.cells (aJ s).toArray 132)).setCells (w.heap.size+1) 0 (aJ s)).rangeAt (w.heap.size+1) 0 (aJ s)):=World.rangeAt_setCells_same _ _ 0 _ (by have:=ur.out;rwa[show(aJ s).toArray.size=(aJ s).length from List.size_toArray] at this);have vb:Hid (Below w.heap.size w ((w1.alloc (.cells (aJ s).toArray 132)).setCells (w.heap.size+1) 0 (aJ s))):=dj (by omega) _ _ _ (eu.out.alloc eu.out.size _)
  have HE:Hid (ti w b vS (.slice a aa.length c) aa T ae M rs kl G k (.returned (.agg (aJ s).toArray)) ((w1.alloc (.cells (aJ s).toArray 132)).setCells (w.heap.size+1) 0 (aJ s))):=by
   refine⟨by rw[HS.out],vS.2,?_,(Fr.refl w _).below vb.out,λj hj=>ax hj⟩;rw[HFK.out];exact HD.out.below vb.out
  clear bT jK eu uq MD;go_wp2_with (first | (refine aO rfl 132 _ _ rfl _ (aJ s).toArray 132 rfl rfl qK.out Uj.out Bp.out ?_) | (refine wpList_load_mid rfl 132 _ rfl w1.heap.size 0 rfl (aJ s) _ HR7.out underlying132 rfl Ys.out ?_) | (refine wpList_store_mid rfl 132 _ _ rfl (w.heap.size+1) 0 (aJ s).toArray rfl rfl ur.out qK.out Bp.out ?_));exact bodyPost_ret (iO Tryz.results100 _ rfl Bs.out underlying132 rfl Ys.out) rfl HE.out
 | none=>
  have HFK:Hid (js T M rs kl k=kl++[((k:Int),dU (bp T M) rs k)]):=by unfold Hid js;rw[hf];rfl
  clear hf;simp only[Option.getD_none,Option.isSome_none];obtain⟨ar,cr,xs,I1,eo⟩:=jK.out.sh.row
  have Ip:Hid (w1.cell? ⟨b,0,none⟩=some (.slice ar rs.length cr)):=by
   have:w1.cell? ⟨b,0,none⟩=some vS.1:=au jK.out.pb.doc rfl;unfold Hid;rw[this,I1]
  have J0:=aw eo;clear eo I1;have Uq:=aw Tryz.sizeS;have HZO:=aw (gW j3);have HZ9:Hid (9=(aJ j3).toArray.size):=rfl;go_upto_region 4 with(first | (refine aO rfl 132 _ _ rfl _ (aJ j3).toArray 132 rfl rfl Uq.out HZ9.out HZO.out ?_))
  have eM:Hid (Below w1.heap.size w1 (w1.alloc (.cells #[.int .i64 0,.int .i64 0,.int .i64 0,.int .i64 0,.int .i64 0,.int .i64 0,.int .i64 0,.int .i64 0,.int .i64 0] 132))):=bo.alloc aF _;have HT7:Hid ((w1.alloc (.cells #[.int .i64 0,.int .i64 0,.int .i64 0,.int .i64 0,.int .i64 0,.int .i64 0,.int .i64 0,.int .i64 0,.int .i64 0] 132)).there w1.heap.size 0 9):=f9 w1 _ _ 9 (by decide);have HZ3:Hid ((w1.alloc (.cells #[.int .i64 0,.int .i64 0,.int .i64 0,.int .i64 0,.int .i64 0,.int .i64 0,.int .i64 0,.int .i64 0,.int .i64 0] 132)).heap.size=w1.heap.size+1):=by simp[Hid]
  obtain⟨W2,IQ⟩:∃W2,W2=w1.alloc (.cells #[.int .i64 0,.int .i64 0,.int .i64 0,.int .i64 0,.int .i64 0,.int .i64 0,.int .i64 0,.int .i64 0,.int .i64 0] 132):=⟨_,rfl⟩;rw[<-IQ] at eM HT7 HZ3 ⊢;clear IQ;have nX:=HZ3.out;obtain⟨L,hL⟩:∃L,MP aa rs k ai=L:=⟨_,rfl⟩;have HL:Hid (L=dU (bp T M) rs k):=by unfold Hid;rw[<-hL];exact RF.out
  have IP:L.length=9:=by rw[<-hL];exact Jg _ _ _ _
  have MA:=aw hL;clear hL;have KG:(aJ L).length=9:=by rw[List.length_map];exact IP
  have XD:=sizeS IP;have UA:=PZ L;have ahI:=Uk.out;have hUA:=underlying132;have HC:Hid (∀wx,Below W2.heap.size W2 wx->wx.cell? ⟨b,0,none⟩=some (.slice ar rs.length cr)/\wx.rangeAt w.heap.size 0 (aJ ai)/\wx.there w1.heap.size 0 9):=λwx hb=>⟨(hb.cell (p:=⟨b,0,none⟩) (by show b<_;omega)).trans ((eM.out.cell (p:=⟨b,0,none⟩) (by show b<_;omega)).trans Ip.out),bB hb (by omega) (bB eM.out (by omega) MD.out),dH hb (by omega) HT7.out⟩;have H0:Hid (Below W2.heap.size W2 W2.drew):=bo.drew;have Xg:Hid (∀wx:World,(wx.cell? ⟨b,0,none⟩=some (.slice ar rs.length cr)/\wx.rangeAt w.heap.size 0 (aJ ai)/\wx.there w1.heap.size 0 9)->(wx.setCells w1.heap.size 0 (aJ L)).cell? ⟨b,0,none⟩=some (.slice ar rs.length cr)/\(wx.setCells w1.heap.size 0 (aJ L)).rangeAt w.heap.size 0 (aJ ai)/\(wx.setCells w1.heap.size 0 (aJ L)).there w1.heap.size 0 9):=λwx ⟨h1,h2,h3⟩=>⟨(World.cell?_setCells_out w1.heap.size (aJ L) 0 wx ⟨b,0,none⟩ (λe=>by replace e:b=w1.heap.size:=e;omega)).trans h1,World.rangeAt_setCells_apart h2 _ _ _ (ax (by omega)),World.there_setCells h3 _ _ _⟩
  go_cut [7] (λv7 wx=>v7=.pointer (some ⟨w1.heap.size,0,none⟩)/\Hid (Below w1.heap.size w1 wx/\wx.rangeAt w1.heap.size 0 (aJ L)/\w1.heap.size<wx.heap.size))
  case first=>
   go_region_held3 (λw'=>w'.cell? ⟨b,0,none⟩=some (.slice ar rs.length cr)/\w'.rangeAt w.heap.size 0 (aJ ai)/\w'.there w1.heap.size 0 9) (first | exact HC.out _ H0.out | exact HC.out _ HX.out | exact Xg.out _ (HC.out _ HX.out))
    (first | (go_at_call 128;refine(TA _ b a c aa k ar cr xs rs ai HC9.out ((jK.out.below eM.out).below (H0.out)).trd ((J0.out.below eM.out).below H0.out)).mono ?_;rw[MA.out];rintro e w5 ⟨rfl,xr⟩;have HX:Hid (Below W2.heap.size W2 w5):=H0.out.trans xr;clear xr))
   all_goals
    go_wp2_with fail;go_meet;refine⟨rfl,dj aF _ _ _ (eM.out.trans (HX.out.mono eM.out.size)),World.rangeAt_setCells_same _ _ 0 _ (by rw[KG];exact(HC.out _ HX.out).2.2),?_⟩;rw[eU];have:=HX.out.size;omega
  case rest=>
   obtain⟨rfl,HX⟩:=hcut;obtain⟨W4,rfl⟩:∃W4,W4=wc:=⟨_,rfl⟩;have Vp:=aw (jK.out.below HX.out.1);have Yu:Hid (W4.there (w.heap.size+1) 0 9):=dH HX.out.1 (by omega) uq.out;have hz4:=HX.out.2.2;have HR7:Hid (W4.rangeAt w1.heap.size 0 (aJ L)):=HX.out.2.1;have HF4:Hid (Fr w W4 (λj=>j=b∨vS.2.ownBlock=some j)):=((Fr.refl w _).below eu.out).below HX.out.1;have Xq:=aw HR7.out;have hLt:=KG;clear HX HC Xg H0 HT7 eM HZ3 nX J0 Ip;have vx:Hid ((kl++[((k:Int),L)]).length<=24):=by have:=acS.out;rw[HFK.out] at this;simpa[Hid] using this
   have MX:Hid (∀j,j=b∨vS.2.ownBlock=some j->j<w.heap.size):=λj hj=>HD.out.own_lt hj;have Vv:Hid (∀w6,Fr W4.drew w6 (λj=>j=b∨vS.2.ownBlock=some j)->w6.rangeAt w1.heap.size 0 (aJ L)):=λw6 hf=>yb Xq.out (hf.block w1.heap.size hz4 (λe=>by have:=MX.out _ e;omega));have Vr:=aw (Vp.out.below (Below.refl W4.heap.size W4).drew);go_upto_region 5 with fail
   go_cut [7] (λv7 wx=>v7=.pointer (some ⟨w1.heap.size,0,none⟩)/\Hid (∃v2,DM wx b (vS.1,v2) (.slice a aa.length c) aa T ae M rs (kl++[((k:Int),L)]) G/\Fr W4.drew wx (λj=>j=b∨vS.2.ownBlock=some j)/\∀j,v2.ownBlock=some j->vS.2.ownBlock=some j∨W4.heap.size<=j))
   case first=>
    go_region_held3 (λw'=>w'.rangeAt w1.heap.size 0 (aJ L)) (first | exact Xq.out | exact Vv.out _ HY.out.2.1)
     (first | (go_at_call 129;refine(Lu _ b vS (.slice a aa.length c) ae kl k L Vr.out.pb.doc Vr.out.kp bJ IP).mono ?_;intro e w6 hp;obtain⟨rfl,v2,hd6,IT,hj6⟩:=Vr.out.kept hp vx.out;have HY:Hid (DM w6 b (vS.1,v2) (.slice a aa.length c) aa T ae M rs (kl++[((k:Int),L)]) G/\Fr W4.drew w6 (λj=>j=b∨vS.2.ownBlock=some j)/\∀j,v2.ownBlock=some j->vS.2.ownBlock=some j∨W4.heap.size<=j):=⟨hd6,IT,hj6⟩;clear hp hd6 IT hj6))
    all_goals
     go_wp2_with fail;go_meet;exact⟨rfl,v2,HY.out⟩
   case rest=>
    obtain⟨rfl,HY⟩:=hcut;obtain⟨W6,rfl⟩:∃W6,W6=wc:=⟨_,rfl⟩;obtain⟨v2,hY⟩:=HY.out;have Un:=aw hY;have RK:=aw (Vv.out W6 Un.out.2.1);have bT:=List.size_toArray.trans KG;have hz6:W4.heap.size<=W6.heap.size:=Un.out.2.1.size
    have ur:Hid (W6.there (w.heap.size+1) 0 (aJ L).toArray.size):=by
     unfold Hid;rw[bT];exact kn (Yu.out:W4.drew.there _ _ _) (Un.out.2.1.block (w.heap.size+1) (by show w.heap.size+1<W4.heap.size;omega) (λe=>by have:=MX.out _ e;omega))
    have qK:Hid ((prog.info? 132).map (·.size)=some (aJ L).toArray.size):=by unfold Hid;rw[bT];exact Tryz.sizeS
    have rz:=aw XD;have Bp:=aw (gW L);have Bs:Hid ((W6.setCells (w.heap.size+1) 0 (aJ L)).rangeAt (w.heap.size+1) 0 (aJ L)):=World.rangeAt_setCells_same _ _ 0 _ (by have:=ur.out;rwa[show(aJ L).toArray.size=(aJ L).length from List.size_toArray] at this)
    have HE:Hid (ti w b vS (.slice a aa.length c) aa T ae M rs kl G k (.returned (.agg (aJ L).toArray)) (W6.setCells (w.heap.size+1) 0 (aJ L))):=by
     refine⟨by rw[HL.out],v2,?_,?_,λj hj=>(Un.out.2.2 j hj).imp id (λh=>by omega)⟩
     ·rw[HFK.out,<-HL.out];refine Un.out.1.aside (λj hj=>kt _ _ _ _ _ (λe=>?_)) (by rw[eU];exact aF);subst e;rcases hj with h1 | h1 | h1 | h1
      ·omega
      ·have:=(HD.out.pb.pl.row.lt _ h1).2;omega
      ·rcases Un.out.2.2 _ h1 with h2 | h2
       ·have:=MX.out _ (az h2);omega
       ·omega
      ·have:=HD.out.gl _ h1;omega
     ·have hF6:=(HF4.out.drew1).trans Un.out.2.1;exact Fr.sets (az (by omega)) _ _ hF6
    clear HY Un hY bT Vv Xq Yu HF4 HR7 Vr Vp eu MD uq jK;go_wp2_with (first | (refine wpList_load_mid rfl 132 _ rfl w1.heap.size 0 rfl (aJ L) _ RK.out underlying132 rfl rz.out ?_) | (refine wpList_store_mid rfl 132 _ _ rfl (w.heap.size+1) 0 (aJ L).toArray rfl rfl ur.out qK.out Bp.out ?_));exact bodyPost_ret (iO Tryz.results100 _ rfl Bs.out underlying132 rfl rz.out) rfl HE.out
end
end
section
variable (w:World)(b:Nat)(a:Option Addr)(c:Nat)(aa:List PEl)(n:Int)
theorem Hf (h:TRd w b a c aa):Calls prog 99 #[.pointer (some ⟨b,1,none⟩),.int .i64 n] w λe w'=>oI w (bY aa aa.length n) e w':=by
 obtain⟨i0,hi,gP,gQ,gR⟩:=info_parts Tryz.info3;have HT:=aw h;have bJ:=h.few;have q0:=h.cell;clear h;go_enter func99,ntmps99;go_wp2_with fail
 go_loopg [1,5,11] aa.length (λgk nv v iv wr=>∃(i:Nat) (m:Int) (L:List Int),iv=.int .i64 i/\nv=.int .i64 m/\i<=aa.length/\aa.length - i<=gk/\L.length<=i/\Hid (wr.ownsRow w.heap.size 3 1 v L.length (aJ L)/\Below w.heap.size w wr/\bY aa aa.length n=L++bY aa (aa.length - i) m))
 case atStart=>exact⟨0,n,[],rfl,rfl,bm,by omega,by simp,eB,bo,by simp⟩
 case round=>
  obtain⟨i,m,L,rfl,rfl,jQ,fT,hL,HN⟩:=hrel;obtain⟨a2,c2,jJ⟩:=aK HN.out.1;subst jJ;have i8:=HN.out.2.1.size
  by_cases bc:i<aa.length
  ·have hd:decide ((i:Int)<(aa.length:Int))=true:=by simp;omega
   have MG:=aw (HT.out.below HN.out.2.1);clear q0;go_wp2_with fail;refine(jh wr b _ aa m MG.out.cell MG.out.pl bJ).mono ?_;rintro e w1 ⟨rfl,cH⟩;have dk:=HN.out.2.1.trans (cH.mono i8);have HO:=aw (aY HN.out.1 (cH.mono aF));have GM:=dk.size;have eM:=aw dk;clear cH dk
   by_cases hp:parP aa m=-1
   ·have gp:(parP aa m==-1)=true:=by simp[hp]
    have HE:Hid (oI w (bY aa aa.length n) (.returned (.slice a2 L.length c2)) w1):=by
     have e1:bY aa aa.length n=L:=by rw[HN.out.2.2,wM hp,List.append_nil]
     unfold Hid;rw[e1];exact⟨a2,c2,rfl,HO.out,eM.out⟩
    clear hp;generalize parP aa m=p at gp ⊢;go_wp2;go_ret;exact HE.out
   ·have gp:(parP aa m==-1)=false:=by simp[hp]
    have HA:Hid (bY aa aa.length n=(L++[parP aa m])++bY aa (aa.length - (i+1)) (parP aa m)):=by
     unfold Hid;rw[HN.out.2.2,show aa.length - i=aa.length - (i+1)+1 from by omega,Dh hp];simp
    clear hp HN;generalize parP aa m=p at gp HA ⊢;go_wp2_with (at_builtin;refine wpList_append_own _ rfl (.tmp 19) (.tmp 21) 28 rfl w.heap.size 3 i0 (.int .i64 0) 1 8 underlying28 hi gP gQ gR rfl (by decide) _ _ _ rfl (HO.out.alloc _) ⟨w1.heap.size,0,none⟩ 1 1 [.int .i64 p] rfl rfl ?c1 ?c2 ?c3 ?c4 ?c5 ?_)
    case c1=>exact bg w1 _ rfl _ _ _ rfl
    case c2=>exact sF p
    case c3=>unfold maxLen;omega
    case c4=>omega
    case c5=>simp;omega
    intro v5 w5 cf jn _
    have uo:Hid (w5.ownsRow w.heap.size 3 1 v5 (L++[p]).length (aJ (L++[p]))/\Below w.heap.size w w5/\bY aa aa.length n=(L++[p])++bY aa (aa.length - (i+1)) p):=
     ⟨by simpa using cf,(eM.out.alloc GM _).grown jn (by simp;omega) (λk hk=>(HO.out.lt k hk).1),HA.out⟩
    have Uz:(L++[p]).length<=i+1:=by simp;omega
    clear cf jn HO eM HA MG;generalize L++[p]=L2 at uo Uz;go_wp2;go_roundg (aa.length - (i+1))
    case measure=>omega
    case rel=>exact⟨i+1,p,L2,by go_num,rfl,by omega,aF,Uz,uo⟩
  ·have hd:decide ((i:Int)<(aa.length:Int))=false:=by simp;omega
   obtain rfl:i=aa.length:=by omega
   have HE:Hid (oI w (bY aa aa.length n) (.returned (.slice a2 L.length c2)) wr):=by
    have e1:bY aa aa.length n=L:=by rw[HN.out.2.2,Nat.sub_self];exact List.append_nil _
    unfold Hid;rw[e1];exact⟨a2,c2,rfl,HN.out.1,HN.out.2.1⟩
   go_wp2;go_ret;exact HE.out
end
section
variable {M:Nat->Mk}{T:aU}{k ae:Nat}{kl:List (Int × List Int)}{l:List Nat}{rs:List dx}
def lE (T:aU)(M:Nat->Mk)(rs:List dx)(kl:List (Int × List Int))(xs:List Int):List (Int × List Int):=xs.foldr (λx kl=>js T M rs kl x) kl
def mR (T:aU)(M:Nat->Mk)(rs:List dx)(kl:List (Int × List Int))(k:Int):List (Int × List Int):=js T M rs (lE T M rs kl (bh T T.length k)) k
theorem zV (T:aU)(M:Nat->Mk)(rs:List dx)(xs:List Int):(iX T M rs xs).length=9:=by
 cases xs with
 | nil=>rfl
 | cons x xs=>exact lS _ _ _
theorem tE (h:KOK T M rs kl):∀(xs:List Int),(∀x∈xs,∃k l,x=((k:Nat):Int)/\(k,l)∈T)->KOK T M rs (lE T M rs kl xs)
 | [],_=>h
 | x :: xs,hx=>by
  obtain⟨k,l,rfl,hk⟩:=hx x List.mem_cons_self;exact(tE h xs (λy hy=>hx y (List.mem_cons_of_mem _ hy))).fresh hk
theorem tA (h:TW T ae)(hk:(k,l)∈T):∀x∈bh T T.length k,∃j lj,x=((j:Nat):Int)/\(j,lj)∈T:=λx hx=>by
 obtain⟨i,hi,rfl⟩:=List.getElem_of_mem hx;obtain⟨j,lj,h1,h2,_⟩:=qO h i hk (bW hi);exact⟨j,lj,h1,h2⟩
theorem Be (h:KOK T M rs kl)(hw:TW T ae)(hk:(k,l)∈T):KOK T M rs (mR T M rs kl k):=(tE h _ (tA hw hk)).fresh hk
theorem zO {T:aU}:∀(n:Nat) (e:Int),(bh T n e).length<=n
 | 0,_=>by simp[bh]
 | n+1,e=>by
  show(if bi T e=-1 then[] else bi T e :: bh T n (bi T e)).length<=n+1
  split
  ·simp
  ·have:=zO (T:=T) n (bi T e)
   simp only[List.length_cons]
   omega
section
variable (w:World)(b:Nat)(vS:Value × Value)(v:Value)(aa:List PEl)(T:aU)(ae:Nat)(M:Nat->Mk)(rs:List dx)(kl:List (Int × List Int))(G:Nat->Prop)
def tu (k:Nat)(e:Ending)(w':World):Prop:=
 e=.returned (.agg (aJ (dU (bp T M) rs k)).toArray)/\∃v2,DM w' b (vS.1,v2) v aa T ae M rs (mR T M rs kl k) G/\Fr w w' (λj=>j=b∨vS.2.ownBlock=some j)/\∀j,v2.ownBlock=some j->vS.2.ownBlock=some j∨w.heap.size<=j
structure SOI (w2:World)(t5:Nat)(al:Option Addr)(xs:List Int)(m:Nat)(v2:Value)(wr:World):Prop where
 dm:DM wr b (vS.1,v2) v aa T ae M rs (lE T M rs kl (xs.drop m)) G
 fr:Fr w wr (λj=>j=b∨vS.2.ownBlock=some j)
 own:∀j,v2.ownBlock=some j->vS.2.ownBlock=some j∨w2.heap.size<=j
 rng:wr.rangeAt t5 0 (aJ (iX T M rs (xs.drop m)))
 thr:wr.there t5 0 9
 res:wr.there w.heap.size 0 9
 row:RowI wr al xs
 far:w2.heap.size<=wr.heap.size
end
section
variable {w:World}{b:Nat}{vS:Value × Value}{v:Value}{aa:List PEl}{T:aU}{ae:Nat}{M:Nat->Mk}{rs:List dx}{kl:List (Int × List Int)}{G:Nat->Prop}
variable {w2:World}{t5:Nat}{al:Option Addr}{xs:List Int}{m:Nat}{v2:Value}{wr:World}
theorem SOI.alone (h:SOI w b vS v aa T ae M rs kl G w2 t5 al xs m v2 wr)(h0:∀j,j=b∨vS.2.ownBlock=some j->j<w.heap.size){j:Nat}(h1:w.heap.size<=j)(h2:j<w2.heap.size):¬(j=b∨v2.ownBlock=some j):=by
 rintro(e | e)
 ·have:=h0 j (ax e);omega
 ·rcases h.own j e with e | e
  ·have:=h0 j (az e);omega
  ·omega
end
end
end Go.Proofs.YtblfffbmklkhmabGreat
