/- Own work. -/
import Derived.Test.YtblfffbmklkhmaaGreatPi1
import Derived.Test.YtblfffbmklkhmaaGreatPi9
import Derived.Test.YtblfffbmklkhmaaGreatPi6
import Derived.Test.YtblfffbmklkhmaaGreatPi7
import Derived.Deep.RegionHeld3
import Derived.Test.YtblfffbmklkhmaaGreatPi5
import Derived.Laws.IdiomStrings
import Derived.Laws.AppendOwnNone
import Derived.Test.YtblfffbmklkhmaaGreatPi4
set_option maxRecDepth 100000
set_option maxHeartbeats 40000000
namespace Go.Proofs.YtblfffbmklkhmaaGreat
open Go.RowKit Go.Proofs.Tryz
section
variable {f:REl->REl}{p:REl}
section
variable {w w':World}{d:Nat}{els:List REl}{made:Nat}{hp:Option Addr}{vT:Value}{bi:Bool}{vL:Value}{Rr:List eA}{Gs:Nat->Prop}{M:Nat->Mk}{shn:Nat->Bool}{rs:List dF}
theorem RX.nums (h:RX w d els made hp vT bi vL Rr Gs M shn rs):(els.map REl.num).Nodup:=by have:=h.tw.nums;rw[mC] at this;exact this
theorem RX.apart (h:RX w d els made hp vT bi vL Rr Gs M shn rs):Cu els:=h.rd.apart h.nums
theorem RX.ne (h:RX w d els made hp vT bi vL Rr Gs M shn rs)(ui:p∈els):p.blk≠d:=λe=>by
 have h1:=h.rd.el p ui;rw[e,h.rd.doc] at h1;injection h1 with h1
 injection h1 with _ h2 _
 exact absurd h2 (by decide)
theorem RE.mark (h:RE els M shn)(ha:Cu els)(hn:(els.map REl.num).Nodup)(ui:p∈els)(hf:Q4 f){m:Mk}{b:Bool}(h1:aG (f p).kd=true/\m.kd=bt (f p).kd 0)(h2:∀c,sI c (f p).cl=(decide (97<=c/\c<=122)&&m.cl (c - 97)))(h3:((f p).nm.size=0/\m.nm=0)∨(aG (f p).nm=true/\m.nm=bt (f p).nm 0))(h4:(f p).sh=b)(h5:ClsOK (f p).cl):RE (els.map (fx p.blk f)) (bM M p.num m) (mz shn p.num b):=by
 have nF:∀y∈els.map (fx p.blk f),(y=f p/\y.num=p.num)∨(y∈els/\y.num≠p.num):=λy hy=>by
  obtain⟨x,hx,rfl⟩:=bm.1 hy
  by_cases e:x.blk=p.blk
  ·have oo:=FP hn hx ui ((ha x hx p ui).1 e);subst oo;left;unfold fx;rw[aq rfl];exact⟨rfl,hf.num x⟩
  ·right;unfold fx;rw[aj e];exact⟨hx,λe2=>e ((ha x hx p ui).2 e2)⟩
 have e1:bM M p.num m p.num=m:=by unfold bM;rw[aq rfl]
 have e2:∀k,k≠p.num->bM M p.num m k=M k:=λk hk=>by unfold bM;rw[aj hk]
 refine⟨⟨λy hy=>?_,λy hy=>?_,λy hy=>?_⟩,λy hy=>?_,λy hy=>?_⟩
 all_goals rcases nF y hy with⟨g1,g2⟩ | ⟨g1,g2⟩
 ·rw[g2,e1,g1];exact h1
 ·rw[e2 _ g2];exact h.rm.kd y g1
 ·rw[g2,e1,g1];exact h2
 ·rw[e2 _ g2];exact h.rm.cl y g1
 ·rw[g2,e1,g1];exact h3
 ·rw[e2 _ g2];exact h.rm.nm y g1
 ·show y.sh=if y.num=p.num then b else shn y.num
  rw[aq g2,g1];exact h4
 ·show y.sh=if y.num=p.num then b else shn y.num
  rw[aj g2];exact h.shw y g1
 ·rw[g1];exact h5
 ·exact h.cls y g1
theorem AG (shn:Nat->Bool)(k:Nat):mz shn k (shn k)=shn:=by
 funext j;unfold mz;split
 ·rename_i h;rw[h]
 ·rfl
theorem RX.mark (h:RX w d els made hp vT bi vL Rr Gs M shn rs)(hf:Q4 f)(ft:Fr w w' (jQ d els vL))(hR:RD w' d (els.map (fx p.blk f)) made hp vT false vL){M':Nat->Mk}{P6:Nat->Bool}(yz:RE (els.map (fx p.blk f)) M' P6):RX w' d (els.map (fx p.blk f)) made hp vT false vL Rr Gs M' P6 rs:=
 h.turn ft hR (by rw[mE hf];exact h.tw) yz (λk hk=>af ((rE hf p.blk k).1 hk))
end
section
variable (w:World)(d:Nat)(els:List REl)(made:Nat)(hp:Option Addr)(vT:Value)(bi:Bool)(vL:Value)(Rr:List eA)(Gs:Nat->Prop)(M:Nat->Mk)(shn:Nat->Bool)(rs:List dF)
def ji (c:ByteArray)(x:REl):REl:={x with cl:=c}
def aap (c:ByteArray)(x:REl):REl:={x with nm:=c}
def aaz (b:Bool)(x:REl):REl:={x with sh:=b}
theorem nO (c:ByteArray):Q4 (ji c):=⟨λ_=>rfl,λ_=>rfl,λ_=>rfl,λ_=>rfl⟩
theorem rU (c:ByteArray):Q4 (aap c):=⟨λ_=>rfl,λ_=>rfl,λ_=>rfl,λ_=>rfl⟩
theorem mc (b:Bool):Q4 (aaz b):=⟨λ_=>rfl,λ_=>rfl,λ_=>rfl,λ_=>rfl⟩
theorem Lx (p:Nat)(a b:ByteArray)(els:List REl):(els.map (fx p (ji a))).map (fx p (ji b))=els.map (fx p (ji b)):=by
 rw[List.map_map];apply List.map_congr_left;intro x _;show fx p (ji b) (fx p (ji a) x)=fx p (ji b) x
 by_cases h:x.blk=p
 ·have e1:fx p (ji a) x=ji a x:=aq h;have e2:fx p (ji b) x=ji b x:=aq h;have h2:(ji a x).blk=p:=h;have e3:fx p (ji b) (ji a x)=ji b (ji a x):=aq h2;rw[e1,e2,e3];rfl
 ·have e1:fx p (ji a) x=x:=aj h;rw[e1]
def iY (n:Int)(s:ByteArray)(on:Bool)(e:Ending)(w':World):Prop:=
 (cf (aK els) n s≠0/\e=.returned (.int .i64 (cf (aK els) n s))/\w'=w)∨
 (cf (aK els) n s=0/\e=.returned (.int .i64 0)/\∃p,bJ els n=some p/\aG s=true/\RX w' d (els.map (fx p.blk (ji (i5 p.cl s on)))) made hp vT false vL Rr Gs (bM M n.toNat (kj (M n.toNat) s on)) shn rs/\Fr w w' (jQ d els vL))
theorem xG (n:Int)(s:ByteArray)(on:Bool)(h:RX w d els made hp vT bi vL Rr Gs M shn rs):
  Calls prog 148 #[.pointer (some ⟨d,0,none⟩),.int .i64 n,.string s,.bool on] w λe w'=>iY w d els made hp vT vL Rr Gs M shn rs n s on e w':=by
 have HX:=ae h;clear h;go_enter func148,ntmps148;go_wp2_with fail;refine(eB w d els made hp vT bi vL n HX.out.rd).mono ?_;rintro e w1 ⟨rfl,rfl⟩;obtain⟨w,rfl⟩:∃w,w=w1:=⟨_,rfl⟩;cases hf:bJ els n with
 | none=>
  have he:fa none=.pointer none:=rfl;rw[he]
  have HE:Hid (iY w d els made hp vT vL Rr Gs M shn rs n s on (.returned (.int .i64 5)) w):=by
   have hc:cf (aK els) n s=5:=by unfold cf;rw[cK hf]
   exact af ⟨by rw[hc];decide,by rw[hc],rfl⟩
  clear he hf;go_wp2;go_ret;exact HE.out
 | some p=>
  have he:fa (some p)=.pointer (some ⟨p.blk,0,none⟩):=rfl;rw[he];have HF:=ae hf;clear he hf;go_wp2_with fail;refine(nV w s).mono ?_;rintro e w1 ⟨rfl,rfl⟩;obtain⟨w,rfl⟩:∃w,w=w1:=⟨_,rfl⟩;cases hl:aG s with
  | false=>
   have HE:Hid (iY w d els made hp vT vL Rr Gs M shn rs n s on (.returned (.int .i64 4)) w):=by
    have hc:cf (aK els) n s=4:=by unfold cf;rw[cH HF.out];exact aq hl
    exact af ⟨by rw[hc];decide,by rw[hc],rfl⟩
   clear hl;go_wp2;go_ret;exact HE.out
  | true=>
   have HL:=ae hl;clear hl;obtain⟨fA,qB⟩:=cN HF.out;have sP:=bT fA qB;have d4:w.cell? ⟨d,4,none⟩=some (.bool bi):=aa HX.out.rd.doc rfl;have d4f:w.frozen? ⟨d,4,none⟩=false:=ax HX.out.rd.doc;have QG:=(bx.1 HX.out.rd.doc).1;have lU:=(bx.1 (HX.out.rd.el p fA)).1;have fY:=HX.out.ne fA;have kz:Hid (RD (w.setCell ⟨d,4,none⟩ (.bool false)) d els made hp vT false vL):=HX.out.rd.setDoc' rfl;have zj:Hid (Fr w (w.setCell ⟨d,4,none⟩ (.bool false)) (jQ d els vL)):=(Fr.refl w _).set (p:=⟨d,4,none⟩) (af (af rfl)) _;have ac4:=(HX.out.re.cls p fA).few
   have iA:s.size=1:=by
    have:=HL.out;unfold aG at this;rw[Bool.and_eq_true,bF] at this;exact this.1
   clear qB;go_upto_region 8 with fail;generalize w.setCell ⟨d,4,none⟩ (.bool false)=W1 at kz zj ⊢;have p2:W1.cell? ⟨p.blk,2,none⟩=some (.string p.cl):=aa (kz.out.el p fA) rfl;have p2f:W1.frozen? ⟨p.blk,2,none⟩=false:=ax (kz.out.el p fA);have aiw:=(bx.1 (kz.out.el p fA)).1;clear d4 d4f;go_wp2_with fail;refine(xN W1 p.cl s (by omega) iA).mono ?_;rintro e w2 ⟨rfl,rfl⟩;obtain⟨W1,rfl⟩:∃W1,W1=w2:=⟨_,rfl⟩;have oE:Hid (RD (W1.setCell ⟨p.blk,2,none⟩ (.string (iT p.cl (bt s 0) p.cl.size))) d (els.map (fx p.blk (ji (iT p.cl (bt s 0) p.cl.size)))) made hp vT false vL):=kz.out.setE HX.out.nums fA (nO _) rfl;have sO:Hid (Fr w (W1.setCell ⟨p.blk,2,none⟩ (.string (iT p.cl (bt s 0) p.cl.size))) (jQ d els vL)):=zj.out.set (p:=⟨p.blk,2,none⟩) (af (ai (af ⟨p,fA,rfl⟩))) _;have hwz:(iT p.cl (bt s 0) p.cl.size).size<=26:=Nat.le_trans (I9 au) ac4;go_upto_region 9 with fail;generalize W1.setCell ⟨p.blk,2,none⟩ (.string (iT p.cl (bt s 0) p.cl.size))=W2 at oE sO ⊢;have Wq:Hid (fx p.blk (ji (iT p.cl (bt s 0) p.cl.size)) p∈els.map (fx p.blk (ji (iT p.cl (bt s 0) p.cl.size)))):=bm.2 ⟨p,fA,rfl⟩;have A9:Hid (fx p.blk (ji (iT p.cl (bt s 0) p.cl.size)) p=ji (iT p.cl (bt s 0) p.cl.size) p):=aq rfl
   have Me:Hid (W2.heap[p.blk]?=some (.cells (ji (iT p.cl (bt s 0) p.cl.size) p).cells 176 (0,0))):=by
    have:=oE.out.el _ Wq.out;rw[A9.out] at this;exact this
   have q2:W2.cell? ⟨p.blk,2,none⟩=some (.string (iT p.cl (bt s 0) p.cl.size)):=aa Me.out rfl;have q2f:W2.frozen? ⟨p.blk,2,none⟩=false:=ax Me.out;have adv:=(bx.1 Me.out).1
   have fm:Hid (∀W3,RD W3 d (els.map (fx p.blk (ji (i5 p.cl s on)))) made hp vT false vL->Fr w W3 (jQ d els vL)->iY w d els made hp vT vL Rr Gs M shn rs n s on (.returned (.int .i64 0)) W3):=λW3 hr ft=>by
    have hc:cf (aK els) n s=0:=by unfold cf;rw[cH HF.out];exact aj (by rw[HL.out];simp)
    have Fj:n.toNat=p.num:=by have:=sP.out.2;omega
    refine ai ⟨hc,rfl,p,HF.out,HL.out,?_,ft⟩;rw[Fj];have yz:=HX.out.re;have hk:=yz.rm.kd p fA
    have hm:=HX.out.re.mark HX.out.apart HX.out.nums fA (nO (i5 p.cl s on)) (m:=kj (M p.num) s on) (b:=shn p.num) hk (λc=>by
     show sI c (i5 p.cl s on)=(decide (97<=c/\c<=122)&&(if c - 97+97=bt s 0 then on else(M p.num).cl (c - 97)));rw[JG HL.out,yz.rm.cl p fA c];have hsb:=Js (qt HL.out).2
     by_cases e1:c=bt s 0
     ·rw[aq e1,aq (by omega),decide_eq_true (by omega)];rfl
     ·rw[aj e1]
      by_cases e2:97<=c/\c<=122
      ·rw[aj (by omega)]
      ·rw[decide_eq_false e2];rfl) (yz.rm.nm p fA) (yz.shw p fA) (ND HL.out on (yz.cls p fA))
    rw[AG] at hm;exact HX.out.mark (nO _) ft hr hm
   clear p2 p2f kz zj;cases on with
   | false=>
    have HE:=ae (fm.out W2 oE.out sO.out);clear oE sO fm Me Wq A9;go_wp2;go_ret;exact HE.out
   | true=>
    have HE:Hid (iY w d els made hp vT vL Rr Gs M shn rs n s true (.returned (.int .i64 0)) (W2.setCell ⟨p.blk,2,none⟩ (.string (iT p.cl (bt s 0) p.cl.size++s)))):=by
     refine fm.out _ ?_ (sO.out.set (p:=⟨p.blk,2,none⟩) (af (ai (af ⟨p,fA,rfl⟩))) _)
     have zR:((els.map (fx p.blk (ji (iT p.cl (bt s 0) p.cl.size)))).map REl.num).Nodup:=by
      rw[List.map_map];have:(els.map (REl.num ∘ fx p.blk (ji (iT p.cl (bt s 0) p.cl.size))))=els.map REl.num:=List.map_congr_left λx _=>(fR (nO _) p.blk x).2.1;rw[this];exact HX.out.nums
     have h1:=oE.out.setE zR Wq.out (nO (iT p.cl (bt s 0) p.cl.size++s)) (o:=2) (u:=.string (iT p.cl (bt s 0) p.cl.size++s)) (by rw[A9.out];rfl);rw[A9.out] at h1;have h2:(ji (iT p.cl (bt s 0) p.cl.size) p).blk=p.blk:=rfl;rw[h2,Lx] at h1;exact h1
    clear oE sO fm Me Wq A9;go_wp2;go_ret;exact HE.out
end
end
section
variable (w:World)(d:Nat)(els:List REl)(made:Nat)(hp:Option Addr)(vT:Value)(bi:Bool)(vL:Value)(Rr:List eA)(Gs:Nat->Prop)(M:Nat->Mk)(shn:Nat->Bool)(rs:List dF)
def jG (n:Int)(s:ByteArray)(e:Ending)(w':World):Prop:=
 (ct (aK els) n s≠0/\e=.returned (.int .i64 (ct (aK els) n s))/\w'=w)∨
 (ct (aK els) n s=0/\e=.returned (.int .i64 0)/\∃p,bJ els n=some p/\(s.size=0∨aG s=true)/\RX w' d (els.map (fx p.blk (aap s))) made hp vT false vL Rr Gs (bM M n.toNat (fM (M n.toNat) s)) shn rs/\Fr w w' (jQ d els vL))
theorem Az (n:Int)(s:ByteArray)(h:RX w d els made hp vT bi vL Rr Gs M shn rs):
  Calls prog 150 #[.pointer (some ⟨d,0,none⟩),.int .i64 n,.string s] w λe w'=>jG w d els made hp vT vL Rr Gs M shn rs n s e w':=by
 have HX:=ae h;clear h;go_enter func150,ntmps150;go_wp2_with fail;refine(eB w d els made hp vT bi vL n HX.out.rd).mono ?_;rintro e w1 ⟨rfl,rfl⟩;obtain⟨w,rfl⟩:∃w,w=w1:=⟨_,rfl⟩;cases hf:bJ els n with
 | none=>
  have he:fa none=.pointer none:=rfl;rw[he]
  have HE:Hid (jG w d els made hp vT vL Rr Gs M shn rs n s (.returned (.int .i64 5)) w):=by
   have hc:ct (aK els) n s=5:=by unfold ct;rw[cK hf]
   exact af ⟨by rw[hc];decide,by rw[hc],rfl⟩
  clear he hf;go_wp2;go_ret;exact HE.out
 | some p=>
  have he:fa (some p)=.pointer (some ⟨p.blk,0,none⟩):=rfl;rw[he];have HF:=ae hf;clear he hf;obtain⟨fA,qB⟩:=cN HF.out;have sP:=bT fA qB;have d4:w.cell? ⟨d,4,none⟩=some (.bool bi):=aa HX.out.rd.doc rfl;have d4f:w.frozen? ⟨d,4,none⟩=false:=ax HX.out.rd.doc;have QG:=(bx.1 HX.out.rd.doc).1;have fY:=HX.out.ne fA;have kz:Hid (RD (w.setCell ⟨d,4,none⟩ (.bool false)) d els made hp vT false vL):=HX.out.rd.setDoc' rfl;have zj:Hid (Fr w (w.setCell ⟨d,4,none⟩ (.bool false)) (jQ d els vL)):=(Fr.refl w _).set (p:=⟨d,4,none⟩) (af (af rfl)) _
  have fm:Hid (∀W1,RD W1 d els made hp vT false vL->Fr w W1 (jQ d els vL)->(s.size=0∨aG s=true)->jG w d els made hp vT vL Rr Gs M shn rs n s (.returned (.int .i64 0)) (W1.setCell ⟨p.blk,3,none⟩ (.string s))):=λW1 hr ft hs=>by
   have hc:ct (aK els) n s=0:=by
    unfold ct;rw[cH HF.out];refine aj ?_;rintro⟨h1,h2⟩;rcases hs with hs | hs
    ·exact h1 hs
    ·rw[hs] at h2;cases h2
   have Fj:n.toNat=p.num:=by have:=sP.out.2;omega
   refine ai ⟨hc,rfl,p,HF.out,hs,?_,ft.set (p:=⟨p.blk,3,none⟩) (af (ai (af ⟨p,fA,rfl⟩))) _⟩;rw[Fj];have yz:=HX.out.re
   have hm:=HX.out.re.mark HX.out.apart HX.out.nums fA (rU s) (m:=fM (M p.num) s) (b:=shn p.num) (yz.rm.kd p fA) (yz.rm.cl p fA) (by
    rcases hs with hs | hs
    ·left;refine⟨hs,?_⟩;show(if s.size=0 then(0:Int) else(bt s 0:Int))=0;rw[aq hs]
    ·right;refine⟨hs,?_⟩;show(if s.size=0 then(0:Int) else(bt s 0:Int))=(bt s 0:Int)
     have hz:s.size=1:=by
      unfold aG at hs;rw[Bool.and_eq_true,bF] at hs;exact hs.1
     rw[aj (by omega)]) (yz.shw p fA) (yz.cls p fA)
   rw[AG] at hm;exact HX.out.mark (rU _) (ft.set (p:=⟨p.blk,3,none⟩) (af (ai (af ⟨p,fA,rfl⟩))) _) (hr.setE HX.out.nums fA (rU s) rfl) hm
  have qT:Hid (∀W1,RD W1 d els made hp vT false vL->W1.cell? ⟨p.blk,3,none⟩=some (.string p.nm)/\W1.frozen? ⟨p.blk,3,none⟩=false/\p.blk<W1.heap.size):=λW1 hr=>⟨aa (hr.el p fA) rfl,ax (hr.el p fA),(bx.1 (hr.el p fA)).1⟩;clear qB;go_wp2_with fail;refine(nV w s).mono ?_;rintro e w1 ⟨rfl,rfl⟩;obtain⟨w,rfl⟩:∃w,w=w1:=⟨_,rfl⟩;cases hl:aG s with
  | false=>
   by_cases hz:s.size=0
   ·have HL:Hid (s.size=0∨aG s=true):=af hz;have T9:=eJ hz;have gz:s.toList.isEmpty=true:=by rw[T9];unfold ByteArray.toList;unfold ByteArray.toList.loop;rw[aj (by decide)];rfl
    clear hl hz T9;go_upto_region 8 with fail;generalize w.setCell ⟨d,4,none⟩ (.bool false)=W1 at kz zj ⊢;obtain⟨p3,p3f,lU⟩:=qT.out W1 kz.out;have HE:=fm.out W1 kz.out zj.out HL.out;have Xd:=ae HE;clear HE d4 d4f fm qT kz zj gz;go_wp2;go_ret;exact Xd.out
   ·have HE:Hid (jG w d els made hp vT vL Rr Gs M shn rs n s (.returned (.int .i64 4)) w):=by
     have hc:ct (aK els) n s=4:=by unfold ct;rw[cH HF.out];exact aq ⟨hz,hl⟩
     exact af ⟨by rw[hc];decide,by rw[hc],rfl⟩
    have gz:=iF s (by omega);clear hl hz fm qT kz zj;go_wp2;go_ret;exact HE.out
  | true=>
   have HL:Hid (s.size=0∨aG s=true):=ai hl;clear hl;go_upto_region 8 with fail;generalize w.setCell ⟨d,4,none⟩ (.bool false)=W1 at kz zj ⊢;obtain⟨p3,p3f,lU⟩:=qT.out W1 kz.out;have HE:=fm.out W1 kz.out zj.out HL.out;have Xd:=ae HE;clear HE d4 d4f fm qT kz zj;go_wp2;go_ret;exact Xd.out
def vO (n:Int)(on:Bool)(e:Ending)(w':World):Prop:=
 (bJ els n=none/\e=.returned (.int .i64 5)/\w'=w)∨
 (e=.returned (.int .i64 0)/\∃p,bJ els n=some p/\RX w' d (els.map (fx p.blk (aaz on))) made hp vT bi vL Rr Gs M (mz shn n.toNat on) rs/\Fr w w' (jQ d els vL))
theorem K5 (n:Int)(on:Bool)(h:RX w d els made hp vT bi vL Rr Gs M shn rs):
  Calls prog 107 #[.pointer (some ⟨d,0,none⟩),.int .i64 n,.bool on] w λe w'=>vO w d els made hp vT bi vL Rr Gs M shn rs n on e w':=by
 have HX:=ae h;clear h;go_enter func107,ntmps107;go_wp2_with fail;refine(eB w d els made hp vT bi vL n HX.out.rd).mono ?_;rintro e w1 ⟨rfl,rfl⟩;obtain⟨w,rfl⟩:∃w,w=w1:=⟨_,rfl⟩;cases hf:bJ els n with
 | none=>
  have he:fa none=.pointer none:=rfl;rw[he];have HE:Hid (vO w d els made hp vT bi vL Rr Gs M shn rs n on (.returned (.int .i64 5)) w):=af ⟨hf,rfl,rfl⟩;clear he hf;go_wp2;go_ret;exact HE.out
 | some p=>
  have he:fa (some p)=.pointer (some ⟨p.blk,0,none⟩):=rfl;rw[he];obtain⟨fA,qB⟩:=cN hf
  have HE:Hid (vO w d els made hp vT bi vL Rr Gs M shn rs n on (.returned (.int .i64 0)) (w.setCell ⟨p.blk,5,none⟩ (.bool on))):=by
   have hX:=HX.out;have ft:Fr w (w.setCell ⟨p.blk,5,none⟩ (.bool on)) (jQ d els vL):=(Fr.refl w _).set (p:=⟨p.blk,5,none⟩) (af (ai (af ⟨p,fA,rfl⟩))) _;refine ai ⟨rfl,p,hf,?_,ft⟩;have Fj:n.toNat=p.num:=by omega
   rw[Fj];have yz:=hX.re;have hm:=yz.mark hX.apart hX.nums fA (mc on) (m:=M p.num) (b:=on) (yz.rm.kd p fA) (yz.rm.cl p fA) (yz.rm.nm p fA) rfl (yz.cls p fA)
   have L6:bM M p.num (M p.num)=M:=by
    funext j;unfold bM;split
    ·rename_i h;rw[h]
    ·rfl
   rw[L6] at hm;refine⟨hX.rd.setE hX.nums fA (mc on) rfl,by rw[mE (mc on)];exact hX.tw,hm,hX.sh.keep (λk hg hl=>ft.block k hl (hX.ga k hg)) ft.size,hX.rel,hX.few,λhh=>?_,λk hg=>Nat.lt_of_lt_of_le (hX.gl k hg) ft.size,λk hg hx=>hX.ga k hg ((rE (mc on) p.blk k).1 hx)⟩;obtain⟨Tb,h1,h2⟩:=hX.tb hh;refine⟨Tb,?_,?_⟩
   ·rw[List.length_map];exact bj h1 (aB h1 (hX.rd.el p fA) (by decide)) _
   ·intro i y hy q hq;rw[mE (mc on)];rw[List.getElem?_map] at hy;cases hx:els[i]? with
    | none=>rw[hx] at hy;cases hy
    | some x=>
     rw[hx] at hy;injection hy with hy
     rw[<-hy,(fR (mc on) p.blk x).2.1];exact h2 i x hx q hq
  have p5:w.cell? ⟨p.blk,5,none⟩=some (.bool p.sh):=aa (HX.out.rd.el p fA) rfl;have p5f:w.frozen? ⟨p.blk,5,none⟩=false:=ax (HX.out.rd.el p fA);have lU:=(bx.1 (HX.out.rd.el p fA)).1;clear he hf qB;go_wp2;go_ret;exact HE.out
def rh (s:ByteArray)(e:Ending)(w':World):Prop:=
 e=.returned (.int .i64 (gP s).1)/\(((gP s).1≠0/\Below w.heap.size w w')∨
 ((gP s).1=0/\∃pa Rr',RX w' d els made pa vT false vL Rr' (λk=>w.heap.size<=k/\k<w'.heap.size) M shn (eH s)/\Fr w w' (jQ d els vL)))
theorem GQ (s:ByteArray)(hs:s.size<=maxLen)(h:RX w d els made hp vT bi vL Rr Gs M shn rs):
  Calls prog 104 #[.pointer (some ⟨d,0,none⟩),.string s] w λe w'=>rh w d els made vT vL M shn s e w':=by
 have HX:=ae h;clear h;go_enter func104,ntmps104;go_wp2_with fail;refine(uw _ s hs).mono ?_;intro e w1 cX
 by_cases hc:(gP s).1=0
 ·obtain⟨pa,Rr',rfl,hB,hSh,ZF,bC⟩:=xM hs cX hc;have kz:Hid (RD w1 d els made hp vT bi vL):=HX.out.rd.keep (λk _ hl=>hB.block k hl);have oE:Hid (RD (w1.setCell ⟨d,0,none⟩ (.pointer pa)) d els made pa vT bi vL):=kz.out.setDoc' rfl;have QG:=(bx.1 kz.out.doc).1;have c0:w1.cell? ⟨d,0,none⟩=some (.pointer hp):=aa kz.out.doc rfl;have c4:w1.cell? ⟨d,4,none⟩=some (.bool bi):=aa kz.out.doc rfl;have df:∀k,w1.frozen? ⟨d,k,none⟩=false:=λk=>ax kz.out.doc
  have HE:Hid (rh w d els made vT vL M shn s (.returned (.int .i64 0)) ((w1.setCell ⟨d,0,none⟩ (.pointer pa)).setCell ⟨d,4,none⟩ (.bool false))):=by
   refine⟨by rw[hc],ai ⟨hc,pa,Rr',?_,?_⟩⟩
   ·have hX:=HX.out;have ue:=FV hX.rd;have hdw:d<w.heap.size:=ue d (af rfl)
    have hk:∀k,(w.heap.size<=k/\k<w1.heap.size)->k<w1.heap.size->((w1.setCell ⟨d,0,none⟩ (.pointer pa)).setCell ⟨d,4,none⟩ (.bool false)).heap[k]?=w1.heap[k]?:=λk hk _=>
     (Below.heap_setCell _ _ _ _ (by show k≠d;omega)).trans (Below.heap_setCell _ _ _ _ (by show k≠d;omega))
    have hz:((w1.setCell ⟨d,0,none⟩ (.pointer pa)).setCell ⟨d,4,none⟩ (.bool false)).heap.size=w1.heap.size:=by simp
    refine⟨oE.out.setDoc' rfl,hX.tw,hX.re,?_,ZF,bC,λhh=>(by cases hh),λk hk=>hk.2,λk hk hx=>?_⟩
    ·have:=hSh.keep hk (by omega);rw[<-hz] at this;exact this
    ·have:=ue k hx;omega
   ·exact(((Fr.refl w _).below hB).set (p:=⟨d,0,none⟩) (af (af rfl)) _).set (p:=⟨d,4,none⟩) (af (af rfl)) _
  generalize (gP s).2=c2;clear hB hSh ZF bC cX kz oE hc;go_wp2;go_ret;exact HE.out
 ·obtain⟨pa,rfl,hB,_⟩:=cX;have HE:Hid (rh w d els made vT vL M shn s (.returned (.int .i64 (gP s).1)) w1):=⟨rfl,af ⟨hc,hB⟩⟩;have gc:((gP s).1==0)=false:=by simp[hc]
  generalize (gP s).2=c2;generalize (gP s).1=c1 at gc hc HE ⊢;clear hB;go_wp2;go_ret;exact HE.out
end
section
variable (w:World)(b:Nat)(a:Option Addr)(c:Nat)(els:List PEl)(n:Int)
theorem JO {els:List PEl}{n:Int}(h:∀j (_:j<els.length),¬els[j].par=n):iQ els n=(dk els n).isSome:=by
 unfold iQ
 have:(els.all λy=>decide (¬y.par=n))=true:=by
  rw[List.all_eq_true];intro y hy;obtain⟨j,hj,rfl⟩:=List.getElem_of_mem hy;simpa using h j hj
 rw[this,Bool.true_and]
theorem NW {els:List PEl}{n:Int}{j:Nat}(hj:j<els.length)(h:els[j].par=n):iQ els n=false:=by
 unfold iQ
 have:(els.all λy=>decide (¬y.par=n))=false:=by
  rw[List.all_eq_false];exact⟨els[j],bK hj,by simp[h]⟩
 rw[this,Bool.false_and]
theorem GJ (h:TRd w b a c els):Calls prog 230 #[.pointer (some ⟨b,1,none⟩),.int .i64 n] w λe w'=>bD w (iQ els n) e w':=by
 have HT:=ae h;have bC:=h.few;have q0:=h.cell;clear h;go_enter func230,ntmps230;go_wp2_with fail
 go_loopg [12] els.length (λgk iv wr=>∃(i:Nat),iv=.int .i64 i/\i<=els.length/\els.length - i<=gk/\Hid (Below w.heap.size w wr/\∀j (_:j<els.length),j<i->¬els[j].par=n))
 case atStart=>exact⟨0,rfl,aZ,by omega,bd,λj _ h=>by omega⟩
 case round=>
  obtain⟨i,rfl,jJ,fS,HN⟩:=hrel
  by_cases aU:i<els.length
  ·have hd:decide ((i:Int)<(els.length:Int))=true:=by simp;omega
   obtain⟨g,hg,dn,he⟩:=HT.out.pl.el aU;subst hg;have HE:=ae (he.below HN.out.1 dn);have HY:Hid (els[i].par=n->iQ els n=false):=λh=>NW aU h
   have iH:Hid (¬els[i].par=n->∀j (_:j<els.length),j<i+1->¬els[j].par=n):=λhm j hj h1=>by
    by_cases e:j=i
    ·subst e;exact hm
    ·exact HN.out.2 j hj (by omega)
   clear he q0;generalize els[i].par=py at HE HY iH;generalize els[i].num=ny at HE;generalize els[i].cells=cs at HE;have c1:cs[1]?=some (.int .i64 py):=HE.out.c1;have eD:Hid (Below w.heap.size w (wr.alloc (.cells cs.toArray 134))):=HN.out.1.alloc HN.out.1.size _
   by_cases hp:py=n
   ·have gp:(py==n)=true:=by simp[hp]
    have HR:Hid (bD w (iQ els n) (.returned (.bool false)) (wr.alloc (.cells cs.toArray 134))):=⟨by rw[HY.out hp],eD.out⟩;clear hp;go_wp2_with (first | (refine wpList_load_mid rfl 134 _ rfl g (i*31) rfl cs _ HE.out.rng underlying134 rfl HE.out.size ?_) | (refine aE rfl 134 _ _ rfl _ cs.toArray 134 rfl rfl HE.out.size' HE.out.same HE.out.all ?_));go_ret;exact HR.out
   ·have gp:(py==n)=false:=by simp[hp]
    have og:Hid (Below w.heap.size w (wr.alloc (.cells cs.toArray 134))/\∀j (_:j<els.length),j<i+1->¬els[j].par=n):=⟨eD.out,iH.out hp⟩;clear hp;go_wp2_with (first | (refine wpList_load_mid rfl 134 _ rfl g (i*31) rfl cs _ HE.out.rng underlying134 rfl HE.out.size ?_) | (refine aE rfl 134 _ _ rfl _ cs.toArray 134 rfl rfl HE.out.size' HE.out.same HE.out.all ?_));go_roundg (els.length - (i+1))
    case measure=>omega
    case rel=>exact⟨i+1,by go_num,by omega,au,og⟩
  ·have hd:decide ((i:Int)<(els.length:Int))=false:=by simp;omega
   have HY:Hid (iQ els n=(dk els n).isSome):=JO (λj hj=>HN.out.2 j hj (by omega));have LW:=ae (HT.out.below HN.out.1);have iW:=HN.out.1.size;clear q0;go_wp2_with fail;refine(Ea wr b a c els n LW.out).mono ?_;rintro e w1 ⟨rfl,cq⟩;have HR:Hid (bD w (iQ els n) (.returned (.bool (dk els n).isSome)) w1):=⟨by rw[HY.out],HN.out.1.trans (cq.mono iW)⟩;clear cq;generalize (dk els n).isSome=r at HR ⊢;go_wp2;go_ret;exact HR.out
theorem PE (place st sr:Int)(h1:0<=place/\place<=100)(h2:-48<=st/\st<=207)(h3:-48<=sr/\sr<=207):Calls prog 231 #[.int .i64 place,.int .i64 st,.int .i64 sr] w λe w'=>bD w (m9 place st sr) e w':=by
 obtain⟨h1a,h1b⟩:=h1;obtain⟨h2a,h2b⟩:=h2;obtain⟨h3a,h3b⟩:=h3
 by_cases hs:st<=0
 ·have HR:Hid (m9 place st sr=(place==sr)):=by unfold Hid m9;rw[aq (af hs)]
  have d1:decide (st<=0)=true:=by simpa using hs
  clear hs;have HE:Hid (∀r,(place==sr)=r->bD w (m9 place st sr) (.returned (.bool r)) w):=λr hr=>⟨by rw[HR.out,hr],bd⟩;go_enter func231,ntmps231;go_wp2;go_ret;exact HE.out _ rfl
 have d1:decide (st<=0)=false:=by simpa using hs
 by_cases hp:place<sr
 ·have HR:Hid (m9 place st sr=(place==sr)):=by unfold Hid m9;rw[aq (ai hp)]
  have d2:decide (place<sr)=true:=by simpa using hp
  clear hs hp;have HE:Hid (∀r,(place==sr)=r->bD w (m9 place st sr) (.returned (.bool r)) w):=λr hr=>⟨by rw[HR.out,hr],bd⟩;go_enter func231,ntmps231;go_wp2;go_ret;exact HE.out _ rfl
 ·have d2:decide (place<sr)=false:=by simpa using hp
  have HR:Hid (m9 place st sr=((place - sr) % st==0)):=by
   unfold Hid m9;rw[aj (by omega)]
  have DJ:(st==0)=false:=by rw[ff];omega
  have aiH:st≠0:=by omega
  have aiI:(st==-1)=false:=by rw[ff];omega
  have HE:Hid (∀r,((place - sr) % st==0)=r->bD w (m9 place st sr) (.returned (.bool r)) w):=λr hr=>⟨by rw[HR.out,hr],bd⟩;clear hs;go_enter func231,ntmps231;go_wp2;go_ret;exact HE.out _ rfl
theorem Av (a2:Option Addr)(l:List Int)(c2:Nat)(hl:l.length<=24)(hc:l.length<=c2)(yK:c2<=maxLen)(h:RowI w a2 l):Calls prog 222 #[.slice a2 l.length c2] w λe w'=>kY w (l.take 1) e w':=by
 have HL:=ae h;clear h;have HM:=ae yK;unfold maxLen at yK;cases l with
 | nil=>
  have HE:Hid (kY w (([]:List Int).take 1) (.returned (.slice none 0 0)) w):=⟨none,0,rfl,au,aZ,λi hi=>absurd hi (by simp),bd⟩;have hz:(([]:List Int).length:Int)=0:=rfl;go_enter func222,ntmps222;go_wp2;go_ret;exact HE.out
 | cons x l=>
  obtain⟨g,hg,dn,hq⟩:=HL.out 0 (by simp);subst hg
  have HE:Hid (kY w ((x :: l).take 1) (.returned (.slice (some ⟨g,0,none⟩) 1 c2)) w):=⟨some ⟨g,0,none⟩,c2,rfl,by simp at hc ⊢;omega,HM.out,λi hi=>⟨g,rfl,dn,by
   obtain rfl:i=0:=by simpa using hi
   exact hq⟩,bd⟩
  simp only[List.length_cons] at hl hc ⊢;generalize l.length=k at hl hc ⊢;have hz:(((k+1:Nat):Int)==0)=false:=by rw[ff];omega
  clear hq;go_enter func222,ntmps222;go_wp2;go_ret;exact HE.out
end
section
variable (w:World)(b:Nat)(a:Option Addr)(c:Nat)(els:List PEl)(n:Int)
theorem Ef (sg:Int)(h:TRd w b a c els):Calls prog 217 #[.int .u8 sg,.pointer (some ⟨b,1,none⟩),.int .i64 n] w λe w'=>kY w (dK els sg n) e w':=by
 have HT:=ae h;have bC:=h.few;clear h
 have hal:(bQ els els.length n).length<=24:=by
  have:∀k m,(bQ els k m).length<=k:=by
   intro k
   induction k with
   | zero=>intro m;simp[bQ]
   | succ k ih=>
    intro m;show(if parP els m=-1 then[] else _).length<=_;split
    ·simp
    ·have:=ih (parP els m);simp;omega
  have:=this els.length n;omega
 have hhl:=nL els n
 by_cases h1:sg=32
 ·have g1:(sg==32)=true:=by simp[h1]
  have HR:Hid (dK els sg n=bQ els els.length n):=by unfold Hid dK;rw[aq h1]
  clear h1;go_enter func217,ntmps217;go_wp2_with fail;refine(xr w b a c els n HT.out).mono ?_;rintro e w1 ⟨a2,c2,rfl,k1,k2,k3,hB⟩;have HE:Hid (kY w (dK els sg n) (.returned (.slice a2 (bQ els els.length n).length c2)) w1):=by unfold Hid;rw[HR.out];exact⟨a2,c2,rfl,k1,k2,k3,hB⟩
  clear k1 k2 k3 hB;go_wp2;go_ret;exact HE.out
 have g1:(sg==32)=false:=by simp[h1]
 by_cases h2:sg=62
 ·have g2:(sg==62)=true:=by simp[h2]
  have HR:Hid (dK els sg n=(bQ els els.length n).take 1):=by unfold Hid dK;rw[aj h1,aq h2]
  clear h1 h2;go_enter func217,ntmps217;go_wp2_with fail;refine(xr w b a c els n HT.out).mono ?_;rintro e w1 ⟨a2,c2,rfl,k1,k2,k3,hB⟩;have HK:=zM k1 k2 k3 hB;clear k1 k2 k3 hB;go_wp2_with fail;refine(Av w1 a2 (bQ els els.length n) c2 hal HK.out.1 HK.out.2.1 HK.out.2.2.1).mono ?_;rintro e w2 ⟨a3,c3,rfl,k1,k2,k3,hB⟩;have HE:Hid (kY w (dK els sg n) (.returned (.slice a3 ((bQ els els.length n).take 1).length c3)) w2):=by unfold Hid;rw[HR.out];exact⟨a3,c3,rfl,k1,k2,k3,HK.out.2.2.2.trans (hB.mono HK.out.2.2.2.size)⟩
  clear k1 k2 k3 hB;generalize ((bQ els els.length n).take 1).length=m at HE ⊢;go_wp2;go_ret;exact HE.out
 have g2:(sg==62)=false:=by simp[h2]
 by_cases h3:sg=126
 ·have g3:(sg==126)=true:=by simp[h3]
  have HR:Hid (dK els sg n=cB els n):=by unfold Hid dK;rw[aj h1,aj h2,aq h3]
  clear h1 h2 h3;go_enter func217,ntmps217;go_wp2_with fail;refine(qJ w b a c els n HT.out).mono ?_;rintro e w1 ⟨a2,c2,rfl,k1,k2,k3,hB⟩;have HE:Hid (kY w (dK els sg n) (.returned (.slice a2 (cB els n).length c2)) w1):=by unfold Hid;rw[HR.out];exact⟨a2,c2,rfl,k1,k2,k3,hB⟩
  clear k1 k2 k3 hB;go_wp2;go_ret;exact HE.out
 have g3:(sg==126)=false:=by simp[h3]
 by_cases h4:sg=43
 ·have g4:(sg==43)=true:=by simp[h4]
  have HR:Hid (dK els sg n=(cB els n).take 1):=by unfold Hid dK;rw[aj h1,aj h2,aj h3,aq h4]
  clear h1 h2 h3 h4;go_enter func217,ntmps217;go_wp2_with fail;refine(qJ w b a c els n HT.out).mono ?_;rintro e w1 ⟨a2,c2,rfl,k1,k2,k3,hB⟩;have HK:=zM k1 k2 k3 hB;clear k1 k2 k3 hB;go_wp2_with fail;refine(Av w1 a2 (cB els n) c2 (by omega) HK.out.1 HK.out.2.1 HK.out.2.2.1).mono ?_;rintro e w2 ⟨a3,c3,rfl,k1,k2,k3,hB⟩;have HE:Hid (kY w (dK els sg n) (.returned (.slice a3 ((cB els n).take 1).length c3)) w2):=by unfold Hid;rw[HR.out];exact⟨a3,c3,rfl,k1,k2,k3,HK.out.2.2.2.trans (hB.mono HK.out.2.2.2.size)⟩
  clear k1 k2 k3 hB;generalize ((cB els n).take 1).length=m at HE ⊢;go_wp2;go_ret;exact HE.out
 ·have g4:(sg==43)=false:=by simp[h4]
  have HR:Hid (dK els sg n=[]):=by unfold Hid dK;rw[aj h1,aj h2,aj h3,aj h4]
  clear h1 h2 h3 h4;have HE:Hid (kY w (dK els sg n) (.returned (.slice none 0 0)) w):=by unfold Hid;rw[HR.out];exact⟨none,0,rfl,au,aZ,λi hi=>absurd hi (by simp),bd⟩
  go_enter func217,ntmps217;go_wp2;go_ret;exact HE.out
theorem KQ (h:TRd w b a c els):Calls prog 229 #[.pointer (some ⟨b,1,none⟩),.int .i64 n] w λe w'=>bD w (ko els n) e w':=by
 have HT:=ae h;have bC:=h.few;clear h;go_enter func229,ntmps229;go_wp2_with fail;refine(dP w b _ els n HT.out.cell HT.out.pl HT.out.few).mono ?_;rintro e w1 ⟨hB,⟨hf,rfl⟩ | ⟨ip,x,hx,hf,rfl⟩⟩
 ·have HE:Hid (bD w (ko els n) (.returned (.bool false)) w1):=by unfold ko;rw[hf];exact⟨rfl,hB⟩
  clear hf hB;go_wp2;go_ret;exact HE.out
 ·have nD:=(dY.1 hx).1;have om:=(dY.1 hx).2
  have HA:Hid (ko els n=(els.drop (ip+1)).all λy=>decide (¬y.par=x.par)):=by
   unfold Hid ko;rw[hf];have h1:=(dI hf).2;have h2:=qC HT.out.nums hx;rw[h1] at h2;show((els.drop (mX els n+1)).all λy=>decide (¬y.par=x.par))=_;rw[h2]
  have T1:=HT.out.below hB;have J4:=lX T1.pl.row;have Ig:=na T1.pl.row;obtain⟨g,hg,dn,he⟩:=T1.pl.el nD;subst hg;have q1:=he.cell1;rw[om] at q1;have q0:=T1.cell;have jJ:(ip:Int)<(els.length:Int):=by omega
  have eg:=ae hB;have iA:(prog.info? 134).map (·.size)=some 31:=Tryz.size134;unfold maxLen at Ig;clear hf hB hx om he T1;generalize x.par=par at HA q1;have jF:=HT.out.lt
  have hgw:g<w.heap.size:=by
   obtain⟨g2,ij,lM,_⟩:=HT.out.pl.el nD;injection ij with ij
   injection ij with ij _ _
   subst ij;exact lM
  have HQ:Hid (w.cell? ⟨g,ip*31+1,none⟩=some (.int .i64 par)):=(eg.out.cell (p:=⟨g,ip*31+1,none⟩) hgw).symm.trans q1;go_wp2_with fail
  case inl=>
   rename_i J5;have qw:els.length=ip+1:=by omega
   have HR:Hid (bD w (ko els n) (.returned (.bool true)) w1):=⟨by rw[HA.out,List.drop_of_length_le (by omega)];rfl,eg.out⟩;have e0:els.length - (ip+1)=0:=by omega
   rw[e0];clear qw e0 jJ nD J4 HA
   go_loopg [25] 0 (λgk iv wr=>iv=.int .i64 0/\wr=w1)
   case atStart=>exact⟨rfl,rfl⟩
   case round=>
    obtain⟨rfl,rfl⟩:=hrel;go_wp2;go_ret;exact HR.out
  case inr=>
   rename_i J5;obtain⟨m,hm⟩:∃m,els.length - (ip+1)=m:=⟨_,rfl⟩;have hml:m<=24:=by omega
   have HM:=ae hm;rw[hm];clear hm q0 q1
   go_loopg [25] m (λgk iv wr=>∃i:Nat,iv=.int .i64 i/\i<=m/\m - i<=gk/\Hid (Below w.heap.size w wr/\∀j (hj:ip+1+j<els.length),j<i->¬els[ip+1+j].par=par))
   case atStart=>exact⟨0,rfl,aZ,by omega,eg.out,λj _ h=>by omega⟩
   case round=>
    obtain⟨i,rfl,hi,fS,HN⟩:=hrel
    by_cases aU:i<m
    ·have hd:decide ((i:Int)<(m:Int))=true:=by simp;omega
     have Gm:ip+1+i<els.length:=by have:=HM.out;omega
     obtain⟨g2,ij,lM,he⟩:=HT.out.pl.el Gm;injection ij with ij
     injection ij with ij _ _
     subst ij
     have HE:Hid (ElAt wr g ((ip+1)*31+i*31) els[ip+1+i].cells els[ip+1+i].num els[ip+1+i].par):=by
      rw[show(ip+1)*31+i*31=(ip+1+i)*31 from by omega];exact he.below HN.out.1 lM
     have q0:wr.cell? ⟨b,1,none⟩=some (.slice (some ⟨g,0,none⟩) els.length c):=(HN.out.1.cell (p:=⟨b,1,none⟩) jF).trans HT.out.cell;have q1:wr.cell? ⟨g,ip*31+1,none⟩=some (.int .i64 par):=(HN.out.1.cell (p:=⟨g,ip*31+1,none⟩) hgw).trans HQ.out;have iW:=HN.out.1.size;have Vv:b<wr.heap.size:=by omega
     have ah4:g<wr.heap.size:=by omega
     have HY:Hid (els[ip+1+i].par=par->ko els n=false):=λh=>by
      rw[HA.out,List.all_eq_false];refine⟨els[ip+1+i],?_,by simp[h]⟩;rw[List.mem_iff_getElem];exact⟨i,by simp;omega,by simp⟩
     have iH:Hid (¬els[ip+1+i].par=par->∀j (hj:ip+1+j<els.length),j<i+1->¬els[ip+1+j].par=par):=λhm j hj h1=>by
      by_cases e:j=i
      ·subst e;exact hm
      ·exact HN.out.2 j hj (by omega)
     clear he;generalize els[ip+1+i].par=py at HE HY iH;generalize els[ip+1+i].num=ny at HE;generalize els[ip+1+i].cells=cs at HE;have c1:cs[1]?=some (.int .i64 py):=HE.out.c1;have eD:Hid (∀k,Below w.heap.size w ((wr.alloc (.cells cs.toArray 134)).drewN k)):=λk=>dR (HN.out.1.alloc iW _) k
     by_cases hp:py=par
     ·have gp:(py==par)=true:=by simp[hp]
      have HR:Hid (∀k,bD w (ko els n) (.returned (.bool false)) ((wr.alloc (.cells cs.toArray 134)).drewN k)):=λk=>⟨by rw[HY.out hp],eD.out k⟩;clear hp;go_upto_region 7 with(first | (refine wpList_load_mid rfl 134 _ rfl g ((ip+1)*31+i*31) rfl cs _ HE.out.rng underlying134 rfl HE.out.size ?_) | (refine aE rfl 134 _ _ rfl _ cs.toArray 134 rfl rfl HE.out.size' HE.out.same HE.out.all ?_))
      go_quiet (fail);go_wp2;go_ret;exact HR.out _
     ·have gp:(py==par)=false:=by simp[hp]
      have og:Hid (∀k,Below w.heap.size w ((wr.alloc (.cells cs.toArray 134)).drewN k)/\∀j (hj:ip+1+j<els.length),j<i+1->¬els[ip+1+j].par=par):=λk=>⟨eD.out k,iH.out hp⟩;clear hp;go_upto_region 7 with(first | (refine wpList_load_mid rfl 134 _ rfl g ((ip+1)*31+i*31) rfl cs _ HE.out.rng underlying134 rfl HE.out.size ?_) | (refine aE rfl 134 _ _ rfl _ cs.toArray 134 rfl rfl HE.out.size' HE.out.same HE.out.all ?_))
      go_quiet (fail);go_wp2;go_roundg (m - (i+1))
      case measure=>omega
      case rel=>exact⟨i+1,by go_num,by omega,au,og.out _⟩
    ·have hd:decide ((i:Int)<(m:Int))=false:=by simp;omega
     have HR:Hid (bD w (ko els n) (.returned (.bool true)) wr):=by
      refine⟨?_,HN.out.1⟩
      have:ko els n=true:=by
       rw[HA.out,List.all_eq_true];intro y hy;rw[List.mem_iff_getElem] at hy;obtain⟨j,hj,rfl⟩:=hy;simp only[List.length_drop] at hj;rw[List.getElem_drop];simpa using HN.out.2 j (by omega) (by have:=HM.out;omega)
      rw[this]
     go_wp2;go_ret;exact HR.out
end
section
variable (w:World)(b:Nat)(a:Option Addr)(c:Nat)(els:List PEl)(n:Int)
theorem ur (nt:Bool)(kd lt st sr:Int)(h:TRd w b a c els)(hp:PPt.fine ⟨nt,kd,lt,st,sr⟩):Calls prog 221 #[.agg #[.bool nt,.int .i64 kd,.int .u8 lt,.int .i64 st,.int .i64 sr],.pointer (some ⟨b,1,none⟩),.int .i64 n] w λe w'=>bD w (dL els ⟨nt,kd,lt,st,sr⟩ n) e w':=by
 have HT:Hid (TRd (w.alloc (.cells #[.bool nt,.int .i64 kd,.int .u8 lt,.int .i64 st,.int .i64 sr] 192)) b a c els):=h.below (bd.alloc au _);have HF:=ae hp;have bC:=h.few;have hhl:=nL els n;have HB:Hid (∀(r:Bool) w1,dL els ⟨nt,kd,lt,st,sr⟩ n=r->Below (w.heap.size+1) (w.alloc (.cells #[.bool nt,.int .i64 kd,.int .u8 lt,.int .i64 st,.int .i64 sr] 192)) w1->bD w (dL els ⟨nt,kd,lt,st,sr⟩ n) (.returned (.bool r)) w1):=λr w1 hr hb=>⟨by rw[hr],(bd.alloc au _).trans (hb.mono (by omega))⟩
 have HS:Hid (dL els ⟨nt,kd,lt,st,sr⟩ n=if kd=1 then dW els n lt else if kd=2 then ei els n lt else if kd=3 then gG els n lt
  else if kd=4 then decide (((cB els n).length:Int)+1=1) else if kd=5 then ko els n else if kd=6 then iQ els n
  else if kd=7 then m9 (((cB els n).length:Int)+1) st sr else false):=rfl
 clear h hp
 by_cases h1:kd=1
 ·have HR:Hid (dL els ⟨nt,kd,lt,st,sr⟩ n=dW els n lt):=by unfold Hid;rw[HS.out,aq h1]
  have g1:(kd==1)=true:=by simp[h1]
  clear h1 HS;go_enter func221,ntmps221;go_wp2_with fail;refine(r9 _ b a c els n lt HT.out).mono ?_;rintro e w1 ⟨rfl,hB⟩;have HE:=HB.out _ w1 HR.out (hB.mono (by simp));clear hB;generalize dW els n lt=r at HE ⊢;go_wp2;go_ret;exact HE
 have g1:(kd==1)=false:=by simp[h1]
 by_cases h2:kd=2
 ·have HR:Hid (dL els ⟨nt,kd,lt,st,sr⟩ n=ei els n lt):=by unfold Hid;rw[HS.out,aj h1,aq h2]
  have g2:(kd==2)=true:=by simp[h2]
  clear h1 h2 HS;go_enter func221,ntmps221;go_wp2_with fail;refine(yY _ b a c els n lt HT.out).mono ?_;rintro e w1 ⟨rfl,hB⟩;have HE:=HB.out _ w1 HR.out (hB.mono (by simp));clear hB;generalize ei els n lt=r at HE ⊢;go_wp2;go_ret;exact HE
 have g2:(kd==2)=false:=by simp[h2]
 by_cases h3:kd=3
 ·have HR:Hid (dL els ⟨nt,kd,lt,st,sr⟩ n=gG els n lt):=by unfold Hid;rw[HS.out,aj h1,aj h2,aq h3]
  have g3:(kd==3)=true:=by simp[h3]
  clear h1 h2 h3 HS;go_enter func221,ntmps221;go_wp2_with fail;refine(BV _ b a c els n lt HT.out).mono ?_;rintro e w1 ⟨rfl,hB⟩;have HE:=HB.out _ w1 HR.out (hB.mono (by simp));clear hB;generalize gG els n lt=r at HE ⊢;go_wp2;go_ret;exact HE
 have g3:(kd==3)=false:=by simp[h3]
 by_cases h4:kd=4
 ·have HR:Hid (dL els ⟨nt,kd,lt,st,sr⟩ n=((((cB els n).length:Int)+1)==1)):=by unfold Hid;rw[HS.out,aj h1,aj h2,aj h3,aq h4];rfl
  have g4:(kd==4)=true:=by simp[h4]
  clear h1 h2 h3 h4 HS;go_enter func221,ntmps221;go_wp2_with fail;refine(se _ b a c els n HT.out).mono ?_;rintro e w1 ⟨rfl,hB⟩;have HE:=HB.out _ w1 HR.out (hB.mono (by simp));clear hB HR;obtain⟨r,hr⟩:∃r,(((cB els n).length:Int)+1)=r:=⟨_,rfl⟩;rw[hr] at HE ⊢;clear hr;go_wp2;go_ret;exact HE
 have g4:(kd==4)=false:=by simp[h4]
 by_cases h5:kd=5
 ·have HR:Hid (dL els ⟨nt,kd,lt,st,sr⟩ n=ko els n):=by unfold Hid;rw[HS.out,aj h1,aj h2,aj h3,aj h4,aq h5]
  have g5:(kd==5)=true:=by simp[h5]
  clear h1 h2 h3 h4 h5 HS;go_enter func221,ntmps221;go_wp2_with fail;refine(KQ _ b a c els n HT.out).mono ?_;rintro e w1 ⟨rfl,hB⟩;have HE:=HB.out _ w1 HR.out (hB.mono (by simp));clear hB;generalize ko els n=r at HE ⊢;go_wp2;go_ret;exact HE
 have g5:(kd==5)=false:=by simp[h5]
 by_cases h6:kd=6
 ·have HR:Hid (dL els ⟨nt,kd,lt,st,sr⟩ n=iQ els n):=by unfold Hid;rw[HS.out,aj h1,aj h2,aj h3,aj h4,aj h5,aq h6]
  have g6:(kd==6)=true:=by simp[h6]
  clear h1 h2 h3 h4 h5 h6 HS;go_enter func221,ntmps221;go_wp2_with fail;refine(GJ _ b a c els n HT.out).mono ?_;rintro e w1 ⟨rfl,hB⟩;have HE:=HB.out _ w1 HR.out (hB.mono (by simp));clear hB;generalize iQ els n=r at HE ⊢;go_wp2;go_ret;exact HE
 have g6:(kd==6)=false:=by simp[h6]
 by_cases h7:kd=7
 ·have HR:Hid (dL els ⟨nt,kd,lt,st,sr⟩ n=m9 (((cB els n).length:Int)+1) st sr):=by unfold Hid;rw[HS.out,aj h1,aj h2,aj h3,aj h4,aj h5,aj h6,aq h7]
  have g7:(kd==7)=true:=by simp[h7]
  clear h1 h2 h3 h4 h5 h6 h7 HS;go_enter func221,ntmps221;go_wp2_with fail;refine(se _ b a c els n HT.out).mono ?_;rintro e w1 ⟨rfl,hB⟩;have gK:w.heap.size<w1.heap.size:=by have:=hB.size;simp at this;omega
  have q3:w1.cell? ⟨w.heap.size,3,none⟩=some (.int .i64 st):=(hB.cell (p:=⟨w.heap.size,3,none⟩) (by simp)).trans (aa (heap_alloc_new w _) rfl);have q4:w1.cell? ⟨w.heap.size,4,none⟩=some (.int .i64 sr):=(hB.cell (p:=⟨w.heap.size,4,none⟩) (by simp)).trans (aa (heap_alloc_new w _) rfl);have eg:Hid (Below (w.heap.size+1) (w.alloc (.cells #[.bool nt,.int .i64 kd,.int .u8 lt,.int .i64 st,.int .i64 sr] 192)) w1):=hB.mono (by simp);have iW:=eg.out.size;clear hB;have lU:0<=(((cB els n).length:Int)+1)/\(((cB els n).length:Int)+1)<=100:=by omega
  go_wp2_with fail;refine(PE w1 _ st sr lU HF.out.1.1 HF.out.1.2).mono ?_;rintro e w2 ⟨rfl,dq⟩;have HE:=HB.out _ w2 HR.out (eg.out.trans (dq.mono (by omega)));clear dq;generalize m9 (((cB els n).length:Int)+1) st sr=r at HE ⊢;go_wp2;go_ret;exact HE
 ·have HR:Hid (dL els ⟨nt,kd,lt,st,sr⟩ n=false):=by unfold Hid;rw[HS.out,aj h1,aj h2,aj h3,aj h4,aj h5,aj h6,aj h7]
  have g7:(kd==7)=false:=by simp[h7]
  clear h1 h2 h3 h4 h5 h6 h7 HS;have HE:=HB.out _ _ HR.out bd;go_enter func221,ntmps221;go_wp2;go_ret;exact HE
end
section
variable {els:List PEl}{n:Int}{x:d9}
theorem NL (h0:¬x.ty=0)(h:dW els n x.ty=false):hJ els x n=false:=by
 unfold hJ;have:(x.ty==0)=false:=by simp[h0]
 rw[this,h];rfl
theorem C2 {i:Nat}(hi:i<x.ps.length)(h:dL els x.ps[i] n=x.ps[i].nt):hJ els x n=false:=by
 unfold hJ
 have:(x.ps.all λp=>dL els p n != p.nt)=false:=by
  rw[List.all_eq_false];exact⟨x.ps[i],bK hi,by simp[h]⟩
 rw[this,Bool.and_false]
theorem C3 (h0:x.ty=0∨dW els n x.ty=true)(h:∀j (_:j<x.ps.length),¬dL els x.ps[j] n=x.ps[j].nt):hJ els x n=true:=by
 unfold hJ
 have h1:(x.ps.all λp=>dL els p n != p.nt)=true:=by
  rw[List.all_eq_true];intro p hp;obtain⟨j,hj,rfl⟩:=List.getElem_of_mem hp;simpa using h j hj
 rw[h1,Bool.and_true];rcases h0 with h0 | h0
 ·simp[h0]
 ·rw[h0,Bool.or_true]
def Hl (w:World)(ap:Option Addr)(cp:Nat)(xs:List Value)(x:d9):Prop:=w.ownsRow 0 192 5 (.slice ap x.ps.length cp) x.ps.length xs/\Kinds xs x.ps/\∀p∈x.ps,p.fine
section
variable (w:World)(b:Nat)(a:Option Addr)(c:Nat)(els:List PEl)(n:Int)
theorem KJ (x:d9)(ap:Option Addr)(cp:Nat)(xs:List Value)(h:TRd w b a c els)(ho:Hl w ap cp xs x)(hl:x.ps.length<=400):Calls prog 216 #[.agg #[.int .u8 x.sg,.int .u8 x.ty,.slice ap x.ps.length cp],.pointer (some ⟨b,1,none⟩),.int .i64 n] w λe w'=>bD w (hJ els x n) e w':=by
 have HT:Hid (TRd w b a c els):=h;have HO:Hid (Hl w ap cp xs x):=ho;clear h ho
 by_cases h0:x.ty=0
 ·have g0:((x.ty:Int) != 0)=false:=by simp[h0]
  have HTY:Hid (x.ty=0∨dW els n x.ty=true):=af h0;have eg:Hid (Below w.heap.size w (w.alloc (.cells #[.int .u8 x.sg,.int .u8 x.ty,.slice ap x.ps.length cp] 190))):=bd.alloc au _;clear h0;generalize (x.ty:Int)=tz at g0 eg;go_enter func216,ntmps216;go_wp2_with fail
  go_loopg [23] x.ps.length (λgk iv wr=>∃i:Nat,iv=.int .i64 i/\i<=x.ps.length/\x.ps.length - i<=gk/\Hid (Below w.heap.size w wr/\∀j (_:j<x.ps.length),j<i->¬dL els x.ps[j] n=x.ps[j].nt))
  case atStart=>exact⟨0,rfl,aZ,by omega,eg.out,λj _ h=>by omega⟩
  case round=>
   obtain⟨i,rfl,hi,fS,HN⟩:=hrel;have iW:=HN.out.1.size
   by_cases aU:i<x.ps.length
   ·have hd:decide ((i:Int)<(x.ps.length:Int))=true:=by simp;omega
    obtain⟨g,hg,dn,iC⟩:=aR HO.out.1 (by omega);subst hg;obtain⟨e0,e1,e2,e3,e4⟩:=oZ HO.out.2.1 aU;have c0:=(HN.out.1.cell (p:=⟨g,i*5,none⟩) dn).trans (iC _ _ e0);have c1:=(HN.out.1.cell (p:=⟨g,i*5+1,none⟩) dn).trans (iC _ _ e1);have c2:=(HN.out.1.cell (p:=⟨g,i*5+2,none⟩) dn).trans (iC _ _ e2);have c3:=(HN.out.1.cell (p:=⟨g,i*5+3,none⟩) dn).trans (iC _ _ e3);have c4:=(HN.out.1.cell (p:=⟨g,i*5+4,none⟩) dn).trans (iC _ _ e4);have HF:Hid (PPt.fine ⟨x.ps[i].nt,x.ps[i].kd,x.ps[i].lt,x.ps[i].st,x.ps[i].sr⟩):=HO.out.2.2 x.ps[i] (bK aU);have HY:Hid (dL els ⟨x.ps[i].nt,x.ps[i].kd,x.ps[i].lt,x.ps[i].st,x.ps[i].sr⟩ n=x.ps[i].nt->hJ els x n=false):=λh=>C2 aU h
    have iH:Hid (¬dL els ⟨x.ps[i].nt,x.ps[i].kd,x.ps[i].lt,x.ps[i].st,x.ps[i].sr⟩ n=x.ps[i].nt->∀j (_:j<x.ps.length),j<i+1->¬dL els x.ps[j] n=x.ps[j].nt):=λhm j hj h1=>by
     by_cases e:j=i
     ·subst e;exact hm
     ·exact HN.out.2 j hj (by omega)
    clear e0 e1 e2 e3 e4 iC;generalize x.ps[i].nt=nt at c0 HF HY iH;generalize x.ps[i].kd=kd at c1 HF HY iH;generalize x.ps[i].lt=lt at c2 HF HY iH;generalize x.ps[i].st=st at c3 HF HY iH;generalize x.ps[i].sr=sr at c4 HF HY iH;have uU:Hid (Below w.heap.size w (wr.alloc (.cells #[.bool nt,.int .i64 kd,.int .u8 lt,.int .i64 st,.int .i64 sr] 192)).drew):=(HN.out.1.alloc iW _).drew;have tY:Hid (TRd (wr.alloc (.cells #[.bool nt,.int .i64 kd,.int .u8 lt,.int .i64 st,.int .i64 sr] 192)).drew b a c els):=HT.out.below uU.out
    have HC:Hid (∀wx,Below (wr.heap.size+1) (wr.alloc (.cells #[.bool nt,.int .i64 kd,.int .u8 lt,.int .i64 st,.int .i64 sr] 192)).drew wx->wx.cell? ⟨wr.heap.size,0,none⟩=some (.bool nt)/\wx.cell? ⟨wr.heap.size,1,none⟩=some (.int .i64 kd)/\wx.cell? ⟨wr.heap.size,2,none⟩=some (.int .u8 lt)/\wx.cell? ⟨wr.heap.size,3,none⟩=some (.int .i64 st)/\wx.cell? ⟨wr.heap.size,4,none⟩=some (.int .i64 sr)):=λwx hb=>
     have mU:(wr.alloc (.cells #[.bool nt,.int .i64 kd,.int .u8 lt,.int .i64 st,.int .i64 sr] 192)).drew.heap[wr.heap.size]?=some (.cells #[.bool nt,.int .i64 kd,.int .u8 lt,.int .i64 st,.int .i64 sr] 192):=heap_alloc_new wr _;have hx:wx.heap[wr.heap.size]?=some (.cells #[.bool nt,.int .i64 kd,.int .u8 lt,.int .i64 st,.int .i64 sr] 192):=(hb.block _ (by omega)).trans mU
     ⟨aa hx rfl,aa hx rfl,aa hx rfl,aa hx rfl,aa hx rfl⟩
    have H0:Hid (Below (wr.heap.size+1) (wr.alloc (.cells #[.bool nt,.int .i64 kd,.int .u8 lt,.int .i64 st,.int .i64 sr] 192)).drew (wr.alloc (.cells #[.bool nt,.int .i64 kd,.int .u8 lt,.int .i64 st,.int .i64 sr] 192)).drew):=bd;go_upto_region 6 with fail
    go_cut [33] (λv wx=>v=.bool (dL els ⟨nt,kd,lt,st,sr⟩ n==nt)/\Hid (Below w.heap.size w wx))
    case first=>
     go_region_held3 (λw'=>w'.cell? ⟨wr.heap.size,0,none⟩=some (.bool nt)/\w'.cell? ⟨wr.heap.size,1,none⟩=some (.int .i64 kd)/\w'.cell? ⟨wr.heap.size,2,none⟩=some (.int .u8 lt)/\w'.cell? ⟨wr.heap.size,3,none⟩=some (.int .i64 st)/\w'.cell? ⟨wr.heap.size,4,none⟩=some (.int .i64 sr)) (first | exact HC.out _ H0.out | exact HC.out _ HX.out.1)
      (first | (go_at_call 221;refine(ur _ b a c els n nt kd lt st sr tY.out HF.out).mono ?_;rintro e w1 ⟨rfl,cq⟩;have HX:Hid (Below (wr.heap.size+1) (wr.alloc (.cells #[.bool nt,.int .i64 kd,.int .u8 lt,.int .i64 st,.int .i64 sr] 192)).drew w1/\Below w.heap.size w w1):=⟨cq.mono (by simp[World.drew]),uU.out.trans (cq.mono uU.out.size)⟩))
     all_goals
      go_wp2_with fail;go_meet;exact⟨rfl,HX.out.2⟩
    case rest=>
     obtain⟨rfl,HX⟩:=hcut
     by_cases hs:dL els ⟨nt,kd,lt,st,sr⟩ n=nt
     ·have HR:Hid (bD w (hJ els x n) (.returned (.bool false)) wc):=⟨by rw[HY.out hs],HX.out⟩;have gs:(dL els ⟨nt,kd,lt,st,sr⟩ n==nt)=true:=by simp[hs]
      clear hs c0 c1 c2 c3 c4;generalize (dL els ⟨nt,kd,lt,st,sr⟩ n==nt)=z at gs ⊢;subst gs;go_wp2;go_ret;exact HR.out
     ·have e9:Hid (Below w.heap.size w wc/\∀j (_:j<x.ps.length),j<i+1->¬dL els x.ps[j] n=x.ps[j].nt):=⟨HX.out,iH.out hs⟩;have gs:(dL els ⟨nt,kd,lt,st,sr⟩ n==nt)=false:=by simp[hs]
      clear hs c0 c1 c2 c3 c4;generalize (dL els ⟨nt,kd,lt,st,sr⟩ n==nt)=z at gs ⊢;subst gs;go_wp2;go_roundg (x.ps.length - (i+1))
      case measure=>omega
      case rel=>exact⟨i+1,by go_num,by omega,au,e9⟩
   ·have hd:decide ((i:Int)<(x.ps.length:Int))=false:=by simp;omega
    have HR:Hid (bD w (hJ els x n) (.returned (.bool true)) wr):=⟨by rw[C3 HTY.out (λj hj=>HN.out.2 j hj (by omega))],HN.out.1⟩;go_wp2;go_ret;exact HR.out
 ·have g0:((x.ty:Int) != 0)=true:=by simp;omega
  have HZ:Hid (¬x.ty=0):=h0;have HT0:Hid (TRd (w.alloc (.cells #[.int .u8 x.sg,.int .u8 x.ty,.slice ap x.ps.length cp] 190)) b a c els):=HT.out.below (bd.alloc au _);clear h0;go_enter func216,ntmps216;go_wp2_with fail;refine(r9 _ b a c els n x.ty HT0.out).mono ?_;rintro e w1 ⟨rfl,hB⟩;have gK:w.heap.size<w1.heap.size:=by have:=hB.size;simp at this;omega
  have q2:w1.cell? ⟨w.heap.size,2,none⟩=some (.slice ap x.ps.length cp):=(hB.cell (p:=⟨w.heap.size,2,none⟩) (by simp)).trans (aa (heap_alloc_new w _) rfl);have eg:Hid (Below w.heap.size w w1):=(bd.alloc au _).trans (hB.mono (by simp));clear hB;cases hr:dW els n x.ty with
  | false=>
   have HR:Hid (bD w (hJ els x n) (.returned (.bool false)) w1):=⟨by rw[NL HZ.out hr],eg.out⟩;clear hr;go_wp2;go_ret;exact HR.out
  | true=>
   have HTY:Hid (x.ty=0∨dW els n x.ty=true):=ai hr;clear hr;go_wp2_with fail
   go_loopg [23] x.ps.length (λgk iv wr=>∃i:Nat,iv=.int .i64 i/\i<=x.ps.length/\x.ps.length - i<=gk/\Hid (Below w.heap.size w wr/\∀j (_:j<x.ps.length),j<i->¬dL els x.ps[j] n=x.ps[j].nt))
   case atStart=>exact⟨0,rfl,aZ,by omega,eg.out,λj _ h=>by omega⟩
   case round=>
    obtain⟨i,rfl,hi,fS,HN⟩:=hrel;have iW:=HN.out.1.size
    by_cases aU:i<x.ps.length
    ·have hd:decide ((i:Int)<(x.ps.length:Int))=true:=by simp;omega
     obtain⟨g,hg,dn,iC⟩:=aR HO.out.1 (by omega);subst hg;obtain⟨e0,e1,e2,e3,e4⟩:=oZ HO.out.2.1 aU;have c0:=(HN.out.1.cell (p:=⟨g,i*5,none⟩) dn).trans (iC _ _ e0);have c1:=(HN.out.1.cell (p:=⟨g,i*5+1,none⟩) dn).trans (iC _ _ e1);have c2:=(HN.out.1.cell (p:=⟨g,i*5+2,none⟩) dn).trans (iC _ _ e2);have c3:=(HN.out.1.cell (p:=⟨g,i*5+3,none⟩) dn).trans (iC _ _ e3);have c4:=(HN.out.1.cell (p:=⟨g,i*5+4,none⟩) dn).trans (iC _ _ e4);have HF:Hid (PPt.fine ⟨x.ps[i].nt,x.ps[i].kd,x.ps[i].lt,x.ps[i].st,x.ps[i].sr⟩):=HO.out.2.2 x.ps[i] (bK aU);have HY:Hid (dL els ⟨x.ps[i].nt,x.ps[i].kd,x.ps[i].lt,x.ps[i].st,x.ps[i].sr⟩ n=x.ps[i].nt->hJ els x n=false):=λh=>C2 aU h
     have iH:Hid (¬dL els ⟨x.ps[i].nt,x.ps[i].kd,x.ps[i].lt,x.ps[i].st,x.ps[i].sr⟩ n=x.ps[i].nt->∀j (_:j<x.ps.length),j<i+1->¬dL els x.ps[j] n=x.ps[j].nt):=λhm j hj h1=>by
      by_cases e:j=i
      ·subst e;exact hm
      ·exact HN.out.2 j hj (by omega)
     clear e0 e1 e2 e3 e4 iC;generalize x.ps[i].nt=nt at c0 HF HY iH;generalize x.ps[i].kd=kd at c1 HF HY iH;generalize x.ps[i].lt=lt at c2 HF HY iH;generalize x.ps[i].st=st at c3 HF HY iH;generalize x.ps[i].sr=sr at c4 HF HY iH;have uU:Hid (Below w.heap.size w (wr.alloc (.cells #[.bool nt,.int .i64 kd,.int .u8 lt,.int .i64 st,.int .i64 sr] 192)).drew):=(HN.out.1.alloc iW _).drew;have tY:Hid (TRd (wr.alloc (.cells #[.bool nt,.int .i64 kd,.int .u8 lt,.int .i64 st,.int .i64 sr] 192)).drew b a c els):=HT.out.below uU.out
     have HC:Hid (∀wx,Below (wr.heap.size+1) (wr.alloc (.cells #[.bool nt,.int .i64 kd,.int .u8 lt,.int .i64 st,.int .i64 sr] 192)).drew wx->wx.cell? ⟨wr.heap.size,0,none⟩=some (.bool nt)/\wx.cell? ⟨wr.heap.size,1,none⟩=some (.int .i64 kd)/\wx.cell? ⟨wr.heap.size,2,none⟩=some (.int .u8 lt)/\wx.cell? ⟨wr.heap.size,3,none⟩=some (.int .i64 st)/\wx.cell? ⟨wr.heap.size,4,none⟩=some (.int .i64 sr)):=λwx hb=>
      have mU:(wr.alloc (.cells #[.bool nt,.int .i64 kd,.int .u8 lt,.int .i64 st,.int .i64 sr] 192)).drew.heap[wr.heap.size]?=some (.cells #[.bool nt,.int .i64 kd,.int .u8 lt,.int .i64 st,.int .i64 sr] 192):=heap_alloc_new wr _;have hx:wx.heap[wr.heap.size]?=some (.cells #[.bool nt,.int .i64 kd,.int .u8 lt,.int .i64 st,.int .i64 sr] 192):=(hb.block _ (by omega)).trans mU
      ⟨aa hx rfl,aa hx rfl,aa hx rfl,aa hx rfl,aa hx rfl⟩
     have H0:Hid (Below (wr.heap.size+1) (wr.alloc (.cells #[.bool nt,.int .i64 kd,.int .u8 lt,.int .i64 st,.int .i64 sr] 192)).drew (wr.alloc (.cells #[.bool nt,.int .i64 kd,.int .u8 lt,.int .i64 st,.int .i64 sr] 192)).drew):=bd;go_upto_region 6 with fail
     go_cut [33] (λv wx=>v=.bool (dL els ⟨nt,kd,lt,st,sr⟩ n==nt)/\Hid (Below w.heap.size w wx))
     case first=>
      go_region_held3 (λw'=>w'.cell? ⟨wr.heap.size,0,none⟩=some (.bool nt)/\w'.cell? ⟨wr.heap.size,1,none⟩=some (.int .i64 kd)/\w'.cell? ⟨wr.heap.size,2,none⟩=some (.int .u8 lt)/\w'.cell? ⟨wr.heap.size,3,none⟩=some (.int .i64 st)/\w'.cell? ⟨wr.heap.size,4,none⟩=some (.int .i64 sr)) (first | exact HC.out _ H0.out | exact HC.out _ HX.out.1)
       (first | (go_at_call 221;refine(ur _ b a c els n nt kd lt st sr tY.out HF.out).mono ?_;rintro e w1 ⟨rfl,cq⟩;have HX:Hid (Below (wr.heap.size+1) (wr.alloc (.cells #[.bool nt,.int .i64 kd,.int .u8 lt,.int .i64 st,.int .i64 sr] 192)).drew w1/\Below w.heap.size w w1):=⟨cq.mono (by simp[World.drew]),uU.out.trans (cq.mono uU.out.size)⟩))
      all_goals
       go_wp2_with fail;go_meet;exact⟨rfl,HX.out.2⟩
     case rest=>
      obtain⟨rfl,HX⟩:=hcut
      by_cases hs:dL els ⟨nt,kd,lt,st,sr⟩ n=nt
      ·have HR:Hid (bD w (hJ els x n) (.returned (.bool false)) wc):=⟨by rw[HY.out hs],HX.out⟩;have gs:(dL els ⟨nt,kd,lt,st,sr⟩ n==nt)=true:=by simp[hs]
       clear hs c0 c1 c2 c3 c4;generalize (dL els ⟨nt,kd,lt,st,sr⟩ n==nt)=z at gs ⊢;subst gs;go_wp2;go_ret;exact HR.out
      ·have e9:Hid (Below w.heap.size w wc/\∀j (_:j<x.ps.length),j<i+1->¬dL els x.ps[j] n=x.ps[j].nt):=⟨HX.out,iH.out hs⟩;have gs:(dL els ⟨nt,kd,lt,st,sr⟩ n==nt)=false:=by simp[hs]
       clear hs c0 c1 c2 c3 c4;generalize (dL els ⟨nt,kd,lt,st,sr⟩ n==nt)=z at gs ⊢;subst gs;go_wp2;go_roundg (x.ps.length - (i+1))
       case measure=>omega
       case rel=>exact⟨i+1,by go_num,by omega,au,e9⟩
    ·have hd:decide ((i:Int)<(x.ps.length:Int))=false:=by simp;omega
     have HR:Hid (bD w (hJ els x n) (.returned (.bool true)) wr):=⟨by rw[C3 HTY.out (λj hj=>HN.out.2 j hj (by omega))],HN.out.1⟩;go_wp2;go_ret;exact HR.out
end
end
section
variable {els:List PEl}{n:Int}{r:List d9}{x:d9}
structure ClRow (w:World)(ac:Option Addr)(cc:Nat)(xs:List Value)(cs:List d9):Prop where
 row:w.ownsRow 0 190 3 (.slice ac cs.length cc) cs.length xs
 comps:Comps w 0 xs cs
 few:cs.length<=400
 short:∀x∈cs,x.ps.length<=400
 fine:∀x∈cs,∀p∈x.ps,p.fine
theorem ClRow.below {w w':World}{ac:Option Addr}{cc:Nat}{xs:List Value}{cs:List d9}(h:ClRow w ac cc xs cs)(hB:Below w.heap.size w w'):ClRow w' ac cc xs cs:=
 ⟨aN h.row hB,h.comps.keep (ik hB _ _),h.few,h.short,h.fine⟩
theorem zt (h:hJ els x n=false∨r=[]):dS els (x :: r) n=hJ els x n:=by
 cases r with
 | nil=>rfl
 | cons d r=>
  rcases h with h | h
  ·show(hJ els x n&&_)=_;rw[h];rfl
  ·cases h
theorem JE (h:hJ els x n=true)(hr:r≠[]):dS els (x :: r) n=(dK els x.sg n).any (dS els r):=by
 cases r with
 | nil=>exact absurd rfl hr
 | cons d r=>
  show(hJ els x n&&_)=_;rw[h];rfl
theorem GY (els:List PEl)(sg n:Int):(dK els sg n).length<=els.length:=by
 have h1:∀k m,(bQ els k m).length<=k:=by
  intro k
  induction k with
  | zero=>intro m;simp[bQ]
  | succ k ih=>
   intro m;show(if parP els m=-1 then[] else _).length<=_;split
   ·simp
   ·have:=ih (parP els m);simp;omega
 have h2:=h1 els.length n;have h3:=nL els n;unfold dK
 (repeat' split)<;>(try rw[List.length_take])<;>(try simp)<;>omega
section
variable (b:Nat)(a:Option Addr)(c:Nat)(els:List PEl)
theorem xz (ac:Option Addr)(cc:Nat)(xs:List Value)(cs:List d9):∀(m:Nat) (w:World) (n:Int),m<=cs.length->TRd w b a c els->ClRow w ac cc xs cs->
  Calls prog 209 #[.slice ac m cc,.pointer (some ⟨b,1,none⟩),.int .i64 n] w λe w'=>bD w (dS els (cs.take m).reverse n) e w'
 | 0,w,n,_,_,_=>by
  have HR:Hid (bD w (dS els (cs.take 0).reverse n) (.returned (.bool false)) w):=⟨rfl,bd⟩;go_enter func209,ntmps209;go_wp2;go_ret;exact HR.out
 | m+1,w,n,hm,h,ho=>by
  have IH:Hid (∀(w:World) (n:Int),TRd w b a c els->ClRow w ac cc xs cs->Calls prog 209 #[.slice ac m cc,.pointer (some ⟨b,1,none⟩),.int .i64 n] w λe w'=>bD w (dS els (cs.take m).reverse n) e w'):=λw n=>xz ac cc xs cs m w n (by omega);have HT:=ae h;have HO:=ae ho;have bC:=h.few;have hcf:=ho.few;have J4:=lX ho.row;have Ig:=na ho.row;unfold maxLen at Ig;obtain⟨g,hg,dn,iC⟩:=aR ho.row (by omega);subst hg;have aU:m<cs.length:=by omega
  obtain⟨ap,cp,ps,e0,e1,e2,e3,e4⟩:=rz ho.comps aU;have c0:=iC _ _ e0;have c1:=iC _ _ e1;have c2:=iC _ _ e2;have HL:Hid ((cs.take (m+1)).reverse=cs[m] :: (cs.take m).reverse):=by unfold Hid;rw[fU aU,List.reverse_append];rfl
  have HCP:Hid (Hl w ap cp ps cs[m]):=⟨e3,e4,ho.fine _ (bK aU)⟩;have lU:=ho.short _ (bK aU)
  have HM:Hid (m≠0->(cs.take m).reverse≠[]):=λh0 h1=>by
   have h2:(cs.take m).reverse.length=0:=by rw[h1];rfl
   rw[List.length_reverse,List.length_take] at h2;omega
  have Xn:Hid (m=0->(cs.take m).reverse=[]):=λh0=>by rw[h0];rfl
  have hgs:((m:Int)+1 - 1)=m:=by omega
  clear h ho e0 e1 e2 e3 e4 iC;generalize cs[m]=x at c0 c1 c2 HL HCP lU;have Xc:Hid (Hl (w.alloc (.cells #[.int .u8 x.sg,.int .u8 x.ty,.slice ap x.ps.length cp] 190)) ap cp ps x):=⟨HCP.out.1.alloc _,HCP.out.2⟩;have eg:Hid (Below w.heap.size w (w.alloc (.cells #[.int .u8 x.sg,.int .u8 x.ty,.slice ap x.ps.length cp] 190))):=bd.alloc au _;have LW:=ae (HT.out.below eg.out);go_enter func209,ntmps209;go_wp2_with fail;refine(KJ _ b a c els n x ap cp ps LW.out Xc.out lU).mono ?_;rintro e w1 ⟨rfl,hB⟩;have gK:w.heap.size<w1.heap.size:=by have:=hB.size;simp at this;omega
  have q0:w1.cell? ⟨w.heap.size,0,none⟩=some (.int .u8 x.sg):=(hB.cell (p:=⟨w.heap.size,0,none⟩) (by simp)).trans (aa (heap_alloc_new w _) rfl);have eD:Hid (Below w.heap.size w w1):=eg.out.trans (hB.mono (by simp));have ox:=ae (HT.out.below eD.out);clear hB c0 c1 c2 Xc HCP LW eg;cases hr:hJ els x n with
  | false=>
   have HR:Hid (bD w (dS els (cs.take (m+1)).reverse n) (.returned (.bool false)) w1):=⟨by rw[HL.out,zt (af hr),hr],eD.out⟩;clear hr;go_wp2;go_ret;exact HR.out
  | true=>
   by_cases Co:m=0
   ·have HR:Hid (bD w (dS els (cs.take (m+1)).reverse n) (.returned (.bool true)) w1):=⟨by rw[HL.out,zt (ai (Xn.out Co)),hr],eD.out⟩;clear hr;have gm:((m:Int)==0)=true:=by simp[Co]
    clear Co HM Xn;go_wp2;go_ret;exact HR.out
   ·have HS:Hid (dS els (cs.take (m+1)).reverse n=(dK els x.sg n).any (dS els (cs.take m).reverse)):=by unfold Hid;rw[HL.out,JE hr (HM.out Co)]
    have gm:((m:Int)==0)=false:=by rw[ff];omega
    have L5:=GY els x.sg n;clear hr Co HM Xn HL;go_wp2_with fail;refine(Ef w1 b a c els n x.sg ox.out).mono ?_;rintro e w2 ⟨a2,c2,rfl,k1,k2,k3,hB⟩;have iG:=ae (eD.out.trans (hB.mono eD.out.size));have HI:=ae k3;clear hB k3 eD ox q0;generalize dK els x.sg n=l at HI HS L5 k1 ⊢;generalize (cs.take m).reverse=r at IH HS;go_wp2_with fail
    go_loopg [44] l.length (λgk iv wr=>∃i:Nat,iv=.int .i64 i/\i<=l.length/\l.length - i<=gk/\Hid (Below w.heap.size w wr/\Below w2.heap.size w2 wr/\∀j (_:j<l.length),j<i->dS els r l[j]=false))
    case atStart=>exact⟨0,rfl,aZ,by omega,iG.out,bd,λj _ h=>by omega⟩
    case round=>
     obtain⟨i,rfl,hi,fS,HN⟩:=hrel;have iW:=HN.out.1.size
     by_cases hli:i<l.length
     ·have hd:decide ((i:Int)<(l.length:Int))=true:=by simp;omega
      obtain⟨g2,ij,lM,yP⟩:=HI.out i hli;subst ij;have q1:=(HN.out.2.1.cell (p:=⟨g2,i,none⟩) lM).trans yP;rw[bO hli] at q1;replace q1:wr.cell? ⟨g2,i,none⟩=some (.int .i64 l[i]):=q1
      have iH:Hid (dS els r l[i]=false->∀j (_:j<l.length),j<i+1->dS els r l[j]=false):=λhm j hj h1=>by
       by_cases e:j=i
       ·subst e;exact hm
       ·exact HN.out.2.2 j hj (by omega)
      have HY:Hid (dS els r l[i]=true->l.any (dS els r)=true):=λh=>by
       rw[List.any_eq_true];exact⟨l[i],bK hli,h⟩
      clear yP;generalize l[i]=o at q1 iH HY;have jB:=bT (HT.out.below HN.out.1) (HO.out.below HN.out.1);go_wp2_with fail;refine(IH.out wr o jB.out.1 jB.out.2).mono ?_;rintro e w3 ⟨rfl,fj⟩;have zi:=bT (HN.out.1.trans (fj.mono iW)) (HN.out.2.1.trans (fj.mono HN.out.2.1.size));clear fj q1 jB;cases hr:dS els r o with
      | true=>
       have HR:Hid (bD w (dS els (cs.take (m+1)).reverse n) (.returned (.bool true)) w3):=⟨by rw[HS.out,HY.out hr],zi.out.1⟩;clear hr;go_wp2;go_ret;exact HR.out
      | false=>
       have e9:Hid (Below w.heap.size w w3/\Below w2.heap.size w2 w3/\∀j (_:j<l.length),j<i+1->dS els r l[j]=false):=⟨zi.out.1,zi.out.2,iH.out hr⟩;clear hr;go_wp2;go_roundg (l.length - (i+1))
       case measure=>omega
       case rel=>exact⟨i+1,by go_num,by omega,au,e9⟩
     ·have hd:decide ((i:Int)<(l.length:Int))=false:=by simp;omega
      have HR:Hid (bD w (dS els (cs.take (m+1)).reverse n) (.returned (.bool false)) wr):=by
       refine⟨?_,HN.out.1⟩
       have:l.any (dS els r)=false:=by
        rw[List.any_eq_false];intro o ho;obtain⟨j,hj,rfl⟩:=List.getElem_of_mem ho;rw[HN.out.2.2 j hj (by omega)];simp
       rw[HS.out,this]
      go_wp2;go_ret;exact HR.out
theorem zc (w:World)(n:Int)(ac:Option Addr)(cc:Nat)(xs:List Value)(cs:List d9)(h:TRd w b a c els)(ho:ClRow w ac cc xs cs):
  Calls prog 195 #[.agg #[.slice ac cs.length cc],.pointer (some ⟨b,1,none⟩),.int .i64 n] w λe w'=>bD w (tB els cs n) e w':=by
 have eg:Hid (Below w.heap.size w (w.alloc (.cells #[.slice ac cs.length cc] 141))):=bd.alloc au _;have HT:=bT (h.below eg.out) (ho.below eg.out);have HM:Hid (tB els cs n=dS els (cs.take cs.length).reverse n):=by unfold Hid;rw[List.take_length];rfl
 clear h ho;go_enter func195,ntmps195;go_wp2_with fail;refine(xz b a c els ac cc xs cs cs.length _ n au HT.out.1 HT.out.2).mono ?_;rintro e w1 ⟨rfl,hB⟩;have HR:Hid (bD w (tB els cs n) (.returned (.bool (dS els (cs.take cs.length).reverse n))) w1):=⟨by rw[HM.out],eg.out.trans (hB.mono (by simp))⟩;clear hB HM;generalize dS els (cs.take cs.length).reverse n=r at HR ⊢;go_wp2;go_ret;exact HR.out
end
end
def aV (W:List Clm):List Value:=W.flatMap Clm.cells
theorem iB (W:List Clm):(aV W).length=W.length*7:=by
 induction W with
 | nil=>rfl
 | cons x l ih=>
  unfold aV at ih ⊢;rw[List.flatMap_cons,List.length_append,ih,List.length_cons];show 7+_=_;omega
theorem fG {W:List Clm}{i j:Nat}(hi:i<W.length)(hj:j<7):(aV W)[i*7+j]?=W[i].cells[j]?:=by
 induction W generalizing i with
 | nil=>simp at hi
 | cons x l ih=>
  have h1:x.cells.length=7:=rfl;unfold aV;rw[List.flatMap_cons];cases i with
  | zero=>
   rw[List.getElem?_append_left (by omega)];simp
  | succ i=>
   rw[List.getElem?_append_right (by omega),h1,show(i+1)*7+j - 7=i*7+j from by omega];have:=ih (i:=i) (by simpa using hi);unfold aV at this;rw[this];simp
def jr (W:List Clm):Prop:=W.length=9/\∀c∈W,0<=c.va/\c.va<=255
def uK (w:World)(r:Option Nat)(e:Ending)(w':World):Prop:=e=.returned (.tuple #[.int .i64 ((r.getD 0:Nat):Int),.bool r.isSome])/\Below w.heap.size w w'
theorem BJ (w:World)(C:Array Value)(t:TypeId){k:Nat}{v:Value}(h:C[k]?=some v):(w.alloc (.cells C t)).cell? ⟨w.heap.size,k,none⟩=some v:=by
 rw[cell_of_row _ _ k C t (0,0) (heap_alloc_new w _)];exact h
section
variable (w:World)
theorem mw (p:Int)(hp:0<=p/\p<=255):Calls prog 154 #[.int .u8 p] w λe w'=>uK w (bH p) e w':=by
 obtain⟨Im,hp1⟩:=hp
 by_cases h1:65<=p
 ·by_cases h2:p<71
  ·have HR:Hid (uK w (bH p) (.returned (.tuple #[.int .i64 (p - 65),.bool true])) w):=by
    unfold bH;rw[aq ⟨h1,h2⟩];refine⟨?_,bd⟩;have:(((p - 65).toNat:Nat):Int)=p - 65:=by omega
    show _=Ending.returned (.tuple #[.int .i64 (((p - 65).toNat:Nat):Int),.bool true]);rw[this]
   have d1:decide (65<=p)=true:=by simpa using h1
   have d2:decide (p<71)=true:=by simpa using h2
   go_enter func154,ntmps154;go_wp2;go_ret2;exact HR.out
  ·have d1:decide (65<=p)=true:=by simpa using h1
   have d2:decide (p<71)=false:=by simpa using h2
   by_cases h3:88<=p
   ·have d3:decide (88<=p)=true:=by simpa using h3
    by_cases h4:p<91
    ·have d4:decide (p<91)=true:=by simpa using h4
     have HR:Hid (uK w (bH p) (.returned (.tuple #[.int .i64 (6+(p - 88)),.bool true])) w):=by
      unfold bH;rw[aj (by omega),aq ⟨h3,h4⟩];refine⟨?_,bd⟩;have:((6+(p - 88).toNat:Nat):Int)=6+(p - 88):=by omega
      show _=Ending.returned (.tuple #[.int .i64 ((6+(p - 88).toNat:Nat):Int),.bool true]);rw[this]
     go_enter func154,ntmps154;go_wp2;go_ret2;exact HR.out
    ·have d4:decide (p<91)=false:=by simpa using h4
     have HR:Hid (uK w (bH p) (.returned (.tuple #[.int .i64 0,.bool false])) w):=by
      unfold bH;rw[aj (by omega),aj (by omega)];exact⟨rfl,bd⟩
     go_enter func154,ntmps154;go_wp2;go_ret2;exact HR.out
   ·have d3:decide (88<=p)=false:=by simpa using h3
    have HR:Hid (uK w (bH p) (.returned (.tuple #[.int .i64 0,.bool false])) w):=by
     unfold bH;rw[aj (by omega),aj (by omega)];exact⟨rfl,bd⟩
    go_enter func154,ntmps154;go_wp2;go_ret2;exact HR.out
 ·have d1:decide (65<=p)=false:=by simpa using h1
  have d3:decide (88<=p)=false:=by simp;omega
  have HR:Hid (uK w (bH p) (.returned (.tuple #[.int .i64 0,.bool false])) w):=by
   unfold bH;rw[aj (by omega),aj (by omega)];exact⟨rfl,bd⟩
  go_enter func154,ntmps154;go_wp2;go_ret2;exact HR.out
def i9 (s:ByteArray):Option Nat:=if s.size=1 then bH (bt s 0) else none
theorem za (s:ByteArray):Calls prog 114 #[.string s] w λe w'=>uK w (i9 s) e w':=by
 by_cases h1:s.size=1
 ·have HP:Hid (i9 s=bH (bt s 0)):=by unfold Hid i9;rw[aq h1]
  have g1:((s.size:Int) != 1)=false:=by simp[h1]
  have hb:=zq s 0;have h0:0<s.size:=by omega
  have hq:s[0].toNat=bt s 0:=by unfold bt;simp[h0]
  clear h1;go_enter func114,ntmps114;go_wp2_with fail;refine(mw w (bt s 0) ⟨by omega,by omega⟩).mono ?_;rintro e w1 ⟨rfl,hB⟩;have HR:Hid (uK w (i9 s) (.returned (.tuple #[.int .i64 (((bH (bt s 0)).getD 0:Nat):Int),.bool (bH (bt s 0)).isSome])) w1):=by unfold Hid;rw[HP.out];exact⟨rfl,hB⟩
  clear hB HP hq;generalize (bH (bt s 0)).getD 0=r at HR ⊢;generalize (bH (bt s 0)).isSome=r2 at HR ⊢;go_wp2;go_ret2;exact HR.out
 ·have HP:Hid (uK w (i9 s) (.returned (.tuple #[.int .i64 0,.bool false])) w):=by unfold Hid i9;rw[aj h1];exact⟨rfl,bd⟩
  have g1:((s.size:Int) != 1)=true:=by simp;omega
  clear h1;go_enter func114,ntmps114;go_wp2;go_ret2;exact HP.out
theorem KK (p:Nat):Calls prog 197 #[.int .i64 p] w λe w'=>bD w (mK p) e w':=by
 by_cases h1:p<3
 ·have d1:decide ((p:Int)<3)=true:=by simp;omega
  have HR:Hid (bD w (mK p) (.returned (.bool true)) w):=⟨by unfold mK;rw[decide_eq_true (by omega)],bd⟩;clear h1;go_enter func197,ntmps197;go_wp2;go_ret;exact HR.out
 ·have d1:decide ((p:Int)<3)=false:=by simp;omega
  by_cases h2:6<=p
  ·have d2:decide ((6:Int)<=p)=true:=by simp;omega
   have HR:Hid (bD w (mK p) (.returned (.bool true)) w):=⟨by unfold mK;rw[decide_eq_true (by omega)],bd⟩;clear h1 h2;go_enter func197,ntmps197;go_wp2;go_ret;exact HR.out
  ·have d2:decide ((6:Int)<=p)=false:=by simp;omega
   have HR:Hid (bD w (mK p) (.returned (.bool false)) w):=⟨by unfold mK;rw[decide_eq_false (by omega)],bd⟩;clear h1 h2;go_enter func197,ntmps197;go_wp2;go_ret;exact HR.out
theorem GI (th im:Bool)(ly wt kd nu va:Int)(QM Kk:Bool)(DU Ja Ko KB Ly:Int):Calls prog 196 #[.agg #[.bool th,.bool im,.int .i64 ly,.int .i64 wt,.int .i64 kd,.int .i64 nu,.int .u8 va],.agg #[.bool QM,.bool Kk,.int .i64 DU,.int .i64 Ja,.int .i64 Ko,.int .i64 KB,.int .u8 Ly]] w λe w'=>bD w (iO ⟨th,im,ly,wt,kd,nu,va⟩ ⟨QM,Kk,DU,Ja,Ko,KB,Ly⟩) e w':=by
 have HB:Hid (Below w.heap.size w ((w.alloc (.cells #[.bool th,.bool im,.int .i64 ly,.int .i64 wt,.int .i64 kd,.int .i64 nu,.int .u8 va] 221)).alloc (.cells #[.bool QM,.bool Kk,.int .i64 DU,.int .i64 Ja,.int .i64 Ko,.int .i64 KB,.int .u8 Ly] 221))):=(bd.alloc au _).alloc (by simp) _;cases QM with
 | false=>
  have HR:Hid (bD w (iO ⟨th,im,ly,wt,kd,nu,va⟩ ⟨false,Kk,DU,Ja,Ko,KB,Ly⟩) (.returned (.bool true)) _):=⟨rfl,HB.out⟩;go_enter func196,ntmps196;go_wp2;go_ret;exact HR.out
 | true=>
  by_cases hi:im=Kk
  ·subst hi
   by_cases hl:ly=DU
   ·have HR:Hid (bD w (iO ⟨th,im,ly,wt,kd,nu,va⟩ ⟨true,im,DU,Ja,Ko,KB,Ly⟩) (.returned (.bool (decide (Ja<=wt)))) _):=⟨by unfold iO;simp[hl],HB.out⟩;have gl:(ly != DU)=false:=by simp[hl]
    have gi:(im != im)=false:=by cases im<;>rfl
    clear hl;go_enter func196,ntmps196;go_wp2;go_ret;exact HR.out
   ·have HR:Hid (bD w (iO ⟨th,im,ly,wt,kd,nu,va⟩ ⟨true,im,DU,Ja,Ko,KB,Ly⟩) (.returned (.bool (decide (ly<DU)==im))) _):=⟨by unfold iO;simp[hl],HB.out⟩;have gl:(ly != DU)=true:=by simp[hl]
    have gi:(im != im)=false:=by cases im<;>rfl
    clear hl;go_enter func196,ntmps196;go_wp2;go_ret;exact HR.out
  ·have HR:Hid (bD w (iO ⟨th,im,ly,wt,kd,nu,va⟩ ⟨true,Kk,DU,Ja,Ko,KB,Ly⟩) (.returned (.bool im)) _):=⟨by unfold iO;simp[hi],HB.out⟩;cases im<;>cases Kk
   ·exact absurd rfl hi
   ·clear hi;go_enter func196,ntmps196;go_wp2;go_ret;exact HR.out
   ·clear hi;go_enter func196,ntmps196;go_wp2;go_ret;exact HR.out
   ·exact absurd rfl hi
theorem tI (W:List Clm)(hF:jr W)(p:Nat)(hp:p<9):Calls prog 184 #[.agg (aV W).toArray,.int .i64 p] w λe w'=>uK w (bV W p) e w':=by
 have hW:=hF.1;have hv:=hF.2 (W[p]'(by omega)) (bK _);have HB:Hid (Below w.heap.size w (w.alloc (.cells (aV W).toArray 223))):=bd.alloc au _;have q0:(w.alloc (.cells (aV W).toArray 223)).cell? ⟨w.heap.size,p*7+4,none⟩=some (.int .i64 W[p].kd):=BJ w _ _ (by rw[List.getElem?_toArray,fG (by omega) (by omega)];rfl);have q1:(w.alloc (.cells (aV W).toArray 223)).cell? ⟨w.heap.size,p*7+4+2,none⟩=some (.int .u8 W[p].va):=BJ w _ _ (by rw[List.getElem?_toArray,show p*7+4+2=p*7+6 from rfl,fG (by omega) (by omega)];rfl);have HN:Hid (bV W p=if W[p].kd=5 then bH W[p].va else none):=by unfold Hid bV;rw[List.getD_eq_getElem?_getD,bO (by omega)];rfl
 have lU:(p:Int)<9:=by omega
 clear hF;generalize W[p].kd=kd at q0 HN;generalize W[p].va=va at q1 HN hv;generalize (aV W).toArray=C at q0 q1 HB ⊢
 by_cases hk:kd=5
 ·have e9:Hid (bV W p=bH va):=by unfold Hid;rw[HN.out,aq hk]
  have gk:(kd != 5)=false:=by simp[hk]
  clear hk HN;go_enter func184,ntmps184;go_wp2_with fail;refine(mw _ va hv).mono ?_;rintro e w1 ⟨rfl,hB⟩;have HR:Hid (uK w (bV W p) (.returned (.tuple #[.int .i64 (((bH va).getD 0:Nat):Int),.bool (bH va).isSome])) w1):=by unfold Hid;rw[e9.out];exact⟨rfl,HB.out.trans (hB.mono (by simp))⟩
  clear hB e9;generalize (bH va).getD 0=r at HR ⊢;generalize (bH va).isSome=r2 at HR ⊢;go_wp2;go_ret2;exact HR.out
 ·have HR:Hid (uK w (bV W p) (.returned (.tuple #[.int .i64 0,.bool false])) (w.alloc (.cells C 223))):=by unfold Hid;rw[HN.out,aj hk];exact⟨rfl,HB.out⟩
  have gk:(kd != 5)=true:=by simp[hk]
  clear hk HN;go_enter func184,ntmps184;go_wp2;go_ret2;exact HR.out
end
def bq (T:aJ)(n:Int)(s:ByteArray):Int:=match bw T n with | none=>5 | some _=>match i9 s with | none=>4 | some _=>0
def eu (T:aJ)(M:Nat->Mk)(rs:List dF)(n:Int)(s:ByteArray):Int:=if bq T n s=0 then(dM (bg T M) rs n).getD ((i9 s).getD 0) 0 else 0
structure WX (DS:World->Value->aJ->Nat->(Nat->Mk)->List dF->(Nat->Prop)->Prop):Prop where
 ptr:∀{w px T made M rs F},DS w px T made M rs F->∃a,px=.pointer (some a)
 tw:∀{w px T made M rs F},DS w px T made M rs F->TW T made
 mark:∀{w px T made M M' rs F},DS w px T made M rs F->(∀k l,(k,l)∈T->M k=M' k)->DS w px T made M' rs F
 keep:∀{w w' px T made M rs F},DS w px T made M rs F->(∀k,F k->k<w.heap.size->w'.heap[k]?=w.heap[k]?)->w.heap.size<=w'.heap.size->DS w' px T made M rs F
 here:∀{w px T made M rs F},DS w px T made M rs F->DS w px T made M rs (λk=>F k/\k<w.heap.size)
 new:∀(w:World) (s root:ByteArray),s.size<=maxLen->Calls prog 24 #[.string s,.string root] w λe w'=>
  Below w.heap.size w w'/\((et s root≠0/\e=.returned (.tuple #[.pointer none,.int .i64 (et s root)]))∨(et s root=0/\∃px,e=.returned (.tuple #[px,.int .i64 0])/\DS w' px [(0,[])] 1 (λ_=>d8 root) (eH s) (λk=>w.heap.size<=k)))
 ins:∀(w:World) (px:Value) (T:aJ) (made:Nat) (M:Nat->Mk) (rs:List dF) (F:Nat->Prop) (par at':Int) (kind:ByteArray),DS w px T made M rs F->made<=4611686018427387904->Calls prog 36 #[px,.int .i64 par,.int .i64 at',.string kind] w λe w'=>
  ∃y T' made' n,e=.returned (.tuple #[.int .i64 n,.int .i64 y])/\TIns T made par at' kind y T' made' n/\DS w' px T' made' (if y=0 then bM M made (d8 kind) else M) rs (cJ F w)/\Fr w w' F
 rem:∀(w:World) (px:Value) (T:aJ) (made:Nat) (M:Nat->Mk) (rs:List dF) (F:Nat->Prop) (n:Int),DS w px T made M rs F->Calls prog 116 #[px,.int .i64 n] w λe w'=>
  ∃y T',e=.returned (.int .i64 y)/\TRem T n y T'/\DS w' px T' made M rs (cJ F w)/\Fr w w' F
 mov:∀(w:World) (px:Value) (T:aJ) (made:Nat) (M:Nat->Mk) (rs:List dF) (F:Nat->Prop) (n m at':Int),DS w px T made M rs F->Calls prog 119 #[px,.int .i64 n,.int .i64 m,.int .i64 at'] w λe w'=>
  ∃y T',e=.returned (.int .i64 y)/\TMov T n m at' y T'/\DS w' px T' made M rs (cJ F w)/\Fr w w' F
 cls:∀(w:World) (px:Value) (T:aJ) (made:Nat) (M:Nat->Mk) (rs:List dF) (F:Nat->Prop) (n:Int) (s:ByteArray) (on:Bool),DS w px T made M rs F->Calls prog 46 #[px,.int .i64 n,.string s,.bool on] w λe w'=>
  ∃y,e=.returned (.int .i64 y)/\y=cf T n s/\DS w' px T made (if y=0 then bM M n.toNat (kj (M n.toNat) s on) else M) rs (cJ F w)/\Fr w w' F
 nam:∀(w:World) (px:Value) (T:aJ) (made:Nat) (M:Nat->Mk) (rs:List dF) (F:Nat->Prop) (n:Int) (s:ByteArray),DS w px T made M rs F->Calls prog 21 #[px,.int .i64 n,.string s] w λe w'=>
  ∃y,e=.returned (.int .i64 y)/\y=ct T n s/\DS w' px T made (if y=0 then bM M n.toNat (fM (M n.toNat) s) else M) rs (cJ F w)/\Fr w w' F
 sht:∀(w:World) (px:Value) (T:aJ) (made:Nat) (M:Nat->Mk) (rs:List dF) (F:Nat->Prop) (s:ByteArray),s.size<=maxLen->DS w px T made M rs F->Calls prog 28 #[px,.string s] w λe w'=>
  ∃y,e=.returned (.int .i64 y)/\y=(gP s).1/\DS w' px T made M (if y=0 then eH s else rs) (cJ F w)/\Fr w w' F
 qry:∀(w:World) (px:Value) (T:aJ) (made:Nat) (M:Nat->Mk) (rs:List dF) (F:Nat->Prop) (n:Int) (s:ByteArray),DS w px T made M rs F->Calls prog 37 #[px,.int .i64 n,.string s] w λe w'=>
  e=.returned (.tuple #[.int .i64 (eu T M rs n s),.int .i64 (bq T n s)])/\DS w' px T made M rs (cJ F w)/\Fr w w' F
section
variable {made:Nat}{b:Nat}
end
section
variable {Fp Fx Fy:Nat->Prop}{at' n y y':Int}{l':List Nat}{o:Obj}{v':Value}{w' w1:World}
structure YS where
 T:aJ
 made:Nat
 M:Nat->Mk
 shn:Nat->Bool
 rs:List dF
theorem YS.same {X Y:YS}(h1:X.T=Y.T)(h2:X.made=Y.made)(h3:X.M=Y.M)(h4:X.shn=Y.shn)(h5:X.rs=Y.rs):X=Y:=by
 cases X;cases Y;cases h1;cases h2;cases h3;cases h4;cases h5;rfl
def YIns (X:YS)(par at':Int)(kind:ByteArray)(y:Int)(X':YS)(n:Int):Prop:=
 TIns X.T X.made par at' kind y X'.T X'.made n/\X'.M=(if y=0 then bM X.M X.made (d8 kind) else X.M)/\X'.shn=(if y=0 then mz X.shn X.made false else X.shn)/\X'.rs=X.rs
def YRem (X:YS)(n:Int)(y:Int)(X':YS):Prop:=TRem X.T n y X'.T/\X'.made=X.made/\X'.M=X.M/\X'.shn=X.shn/\X'.rs=X.rs
def YMov (X:YS)(n m at':Int)(y:Int)(X':YS):Prop:=TMov X.T n m at' y X'.T/\X'.made=X.made/\X'.M=X.M/\X'.shn=X.shn/\X'.rs=X.rs
def eP (X:YS)(n:Int)(s:ByteArray)(on:Bool):YS:=if cf X.T n s=0 then{X with M:=bM X.M n.toNat (kj (X.M n.toNat) s on)} else X
def eQ (X:YS)(n:Int)(s:ByteArray):YS:=if ct X.T n s=0 then{X with M:=bM X.M n.toNat (fM (X.M n.toNat) s)} else X
def gX (X:YS)(s:ByteArray):YS:=if(gP s).1=0 then{X with rs:=eH s} else X
theorem YIns.one {X:YS}{par:Int}{kind:ByteArray}{U U':YS}{n':Int}(h:YIns X par at' kind y U n)(h':YIns X par at' kind y' U' n'):y=y'/\U=U'/\n=n':=by
 obtain⟨e1,e2,e3,e4⟩:=h.1.one h'.1;subst e1;exact⟨rfl,YS.same e2 e3 (h.2.1.trans h'.2.1.symm) (h.2.2.1.trans h'.2.2.1.symm) (h.2.2.2.trans h'.2.2.2.symm),e4⟩
theorem YRem.one {X:YS}{U U':YS}(h:YRem X n y U)(h':YRem X n y' U'):y=y'/\U=U':=by
 obtain⟨e1,e2⟩:=h.1.one h'.1;exact⟨e1,YS.same e2 (h.2.1.trans h'.2.1.symm) (h.2.2.1.trans h'.2.2.1.symm) (h.2.2.2.1.trans h'.2.2.2.1.symm) (h.2.2.2.2.trans h'.2.2.2.2.symm)⟩
theorem YMov.one {X:YS}{m:Int}{U U':YS}(h:YMov X n m at' y U)(h':YMov X n m at' y' U'):y=y'/\U=U':=by
 obtain⟨e1,e2⟩:=h.1.one h'.1;exact⟨e1,YS.same e2 (h.2.1.trans h'.2.1.symm) (h.2.2.1.trans h'.2.2.1.symm) (h.2.2.2.1.trans h'.2.2.2.1.symm) (h.2.2.2.2.trans h'.2.2.2.2.symm)⟩
inductive fw where
 | ins (par y:Int)
 | rem (n y:Int)
 | mov (n m y:Int)
 | cls (n:Int) (s:ByteArray) (on:Bool)
 | nam (n:Int) (s:ByteArray)
 | sht (s:ByteArray)
 | qry (n:Int) (s:ByteArray)
def CM (w:World)(T:aJ)(n:Int)(e:Ending)(w':World):Prop:=
 Below w.heap.size w w'/\((bw T n=none/\e=.returned (.tuple #[.slice none 0 0,.int .i64 5]))∨(∃l a c,bw T n=some l/\e=.returned (.tuple #[.slice a l.length c,.int .i64 0])/\w'.ownsRow w.heap.size 3 1 (.slice a l.length c) l.length (bh l)))
structure cG (PS:World->Value->YS->List Nat->(Nat->Prop)->Prop)(Q:fw->YS->List Nat->YS->List Nat->Prop):Prop where
 ptr:∀{w px X st F},PS w px X st F->∃a,px=.pointer (some a)
 keep:∀{w w' px X st F},PS w px X st F->(∀k,F k->k<w.heap.size->w'.heap[k]?=w.heap[k]?)->w.heap.size<=w'.heap.size->PS w' px X st F
 here:∀{w px X st F},PS w px X st F->PS w px X st (λk=>F k/\k<w.heap.size)
 new:∀(w:World) (s root:ByteArray),s.size<=maxLen->Calls prog 24 #[.string s,.string root] w λe w'=>
  Below w.heap.size w w'/\((et s root≠0/\e=.returned (.tuple #[.pointer none,.int .i64 (et s root)]))∨(et s root=0/\∃px,e=.returned (.tuple #[px,.int .i64 0])/\PS w' px ⟨[(0,[])],1,λ_=>d8 root,λ_=>false,eH s⟩ [0] (λk=>w.heap.size<=k)))
 ins:∀(w:World) (px:Value) (X:YS) (st:List Nat) (F:Nat->Prop) (par at':Int) (kind:ByteArray),PS w px X st F->X.made<=1099511627776->Calls prog 36 #[px,.int .i64 par,.int .i64 at',.string kind] w λe w'=>
  ∃y X' cA n,e=.returned (.tuple #[.int .i64 n,.int .i64 y])/\YIns X par at' kind y X' n/\Q (.ins par y) X st X' cA/\PS w' px X' cA (cJ F w)/\Fr w w' F
 rem:∀(w:World) (px:Value) (X:YS) (st:List Nat) (F:Nat->Prop) (n:Int),PS w px X st F->Calls prog 116 #[px,.int .i64 n] w λe w'=>
  ∃y X' cA,e=.returned (.int .i64 y)/\YRem X n y X'/\Q (.rem n y) X st X' cA/\PS w' px X' cA (cJ F w)/\Fr w w' F
 mov:∀(w:World) (px:Value) (X:YS) (st:List Nat) (F:Nat->Prop) (n m at':Int),PS w px X st F->Calls prog 119 #[px,.int .i64 n,.int .i64 m,.int .i64 at'] w λe w'=>
  ∃y X' cA,e=.returned (.int .i64 y)/\YMov X n m at' y X'/\Q (.mov n m y) X st X' cA/\PS w' px X' cA (cJ F w)/\Fr w w' F
 chi:∀(w:World) (px:Value) (X:YS) (st:List Nat) (F:Nat->Prop) (n:Int),PS w px X st F->Calls prog 91 #[px,.int .i64 n] w λe w'=>CM w X.T n e w'
 cls:∀(w:World) (px:Value) (X:YS) (st:List Nat) (F:Nat->Prop) (n:Int) (s:ByteArray) (on:Bool),PS w px X st F->Calls prog 46 #[px,.int .i64 n,.string s,.bool on] w λe w'=>
  ∃cA,e=.returned (.int .i64 (cf X.T n s))/\Q (.cls n s on) X st (eP X n s on) cA/\PS w' px (eP X n s on) cA (cJ F w)/\Fr w w' F
 nam:∀(w:World) (px:Value) (X:YS) (st:List Nat) (F:Nat->Prop) (n:Int) (s:ByteArray),PS w px X st F->Calls prog 21 #[px,.int .i64 n,.string s] w λe w'=>
  ∃cA,e=.returned (.int .i64 (ct X.T n s))/\Q (.nam n s) X st (eQ X n s) cA/\PS w' px (eQ X n s) cA (cJ F w)/\Fr w w' F
 sht:∀(w:World) (px:Value) (X:YS) (st:List Nat) (F:Nat->Prop) (s:ByteArray),s.size<=maxLen->PS w px X st F->Calls prog 28 #[px,.string s] w λe w'=>
  ∃cA,e=.returned (.int .i64 (gP s).1)/\Q (.sht s) X st (gX X s) cA/\PS w' px (gX X s) cA (cJ F w)/\Fr w w' F
 qry:∀(w:World) (px:Value) (X:YS) (st:List Nat) (F:Nat->Prop) (n:Int) (s:ByteArray),PS w px X st F->Calls prog 37 #[px,.int .i64 n,.string s] w λe w'=>
  ∃cA,e=.returned (.tuple #[.int .i64 (eu X.T X.M X.rs n s),.int .i64 (bq X.T n s)])/\Q (.qry n s) X st X cA/\PS w' px X cA (cJ F w)/\Fr w w' F
structure gu where
 vm:Value
 vy:Value
 vs:Value
 cnt:Int
 held:Bool
 lm:List Nat
 ly:List Nat
 ls:List Nat
abbrev RY (w:World)(d:Nat)(Y:YS)(F:Nat->Prop):Prop:=RSd w d Y.T Y.made Y.M Y.shn Y.rs F
structure PJ2 (PS:World->Value->YS->List Nat->(Nat->Prop)->Prop)(w:World)(b:Nat)(X:YS)(st:List Nat)(Y:YS)(px:Value)(d:Nat)(K:gu)(Fp Fx Fy:Nat->Prop):Prop where
 pb:PB w b px d K.vm K.vy K.cnt K.vs K.held
 ps:PS w px X st Fx
 rs:RY w d Y Fy
 must:w.ownsRow 0 3 1 K.vm K.lm.length (bh K.lm)
 may:w.ownsRow 0 3 1 K.vy K.ly.length (bh K.ly)
 seen:w.ownsRow 0 3 1 K.vs K.ls.length (bh K.ls)
 inb:Fp b
 inm:∀j,K.vm.ownBlock=some j->Fp j
 iny:∀j,K.vy.ownBlock=some j->Fp j
 ins:∀j,K.vs.ownBlock=some j->Fp j
 px:∀k,Fp k->¬Fx k
 py:∀k,Fp k->¬Fy k
 xy:∀k,Fx k->¬Fy k
 here:∀k,Fp k∨Fx k∨Fy k->k<w.heap.size
section
variable {PS:World->Value->YS->List Nat->(Nat->Prop)->Prop}{Q:fw->YS->List Nat->YS->List Nat->Prop}{w:World}{b:Nat}{X Y:YS}{st:List Nat}{px:Value}{d:Nat}{K:gu}{Fp Fx Fy:Nat->Prop}
theorem PJ2.prog (hP:cG PS Q)(h:PJ2 PS w b X st Y px d K Fp Fx Fy){X1:YS}{br:List Nat}(hs:PS w1 px X1 br (cJ Fx w))(hf:Fr w w1 Fx):PJ2 PS w1 b X1 br Y px d K Fp (nG Fx w w1) Fy:=by
 have kp:∀k,Fp k->k<w.heap.size->w1.heap[k]?=w.heap[k]?:=λk hk hl=>hf.block k hl (h.px k hk);refine⟨(kp b h.inb (h.here b (af h.inb))).trans h.pb,hP.here hs,h.rs.keep (λk hk hl=>hf.block k hl (λx=>h.xy k x hk)) hf.size,cO h.must (λk hk hl=>kp k (h.inm k hk) hl),cO h.may (λk hk hl=>kp k (h.iny k hk) hl),cO h.seen (λk hk hl=>kp k (h.ins k hk) hl),h.inb,h.inm,h.iny,h.ins,λk hk hx=>?_,h.py,λk hx hk=>?_,λk hk=>?_⟩
 ·rcases hx.1 with hx | hx
  ·exact h.px k hk hx
  ·have:=h.here k (af hk);omega
 ·rcases hx.1 with hx | hx
  ·exact h.xy k hx hk
  ·have:=h.here k (ai (ai hk));omega
 ·have:=hf.size;rcases hk with hk | hk | hk
  ·have:=h.here k (af hk);omega
  ·exact hk.2
  ·have:=h.here k (ai (ai hk));omega
theorem PJ2.ref (hP:cG PS Q)(h:PJ2 PS w b X st Y px d K Fp Fx Fy){Y1:YS}(hs:RY w1 d Y1 (cJ Fy w))(hf:Fr w w1 Fy):PJ2 PS w1 b X st Y1 px d K Fp Fx (nG Fy w w1):=by
 have kp:∀k,Fp k->k<w.heap.size->w1.heap[k]?=w.heap[k]?:=λk hk hl=>hf.block k hl (h.py k hk);refine⟨(kp b h.inb (h.here b (af h.inb))).trans h.pb,hP.keep h.ps (λk hk hl=>hf.block k hl (h.xy k hk)) hf.size,hs.here,cO h.must (λk hk hl=>kp k (h.inm k hk) hl),cO h.may (λk hk hl=>kp k (h.iny k hk) hl),cO h.seen (λk hk hl=>kp k (h.ins k hk) hl),h.inb,h.inm,h.iny,h.ins,h.px,λk hk hx=>?_,λk hk hx=>?_,λk hk=>?_⟩
 ·rcases hx.1 with hx | hx
  ·exact h.py k hk hx
  ·have:=h.here k (af hk);omega
 ·rcases hx.1 with hx | hx
  ·exact h.xy k hk hx
  ·have:=h.here k (ai (af hk));omega
 ·have:=hf.size;rcases hk with hk | hk | hk
  ·have:=h.here k (af hk);omega
  ·have:=h.here k (ai (af hk));omega
  ·exact hk.2
theorem PJ2.pair (hP:cG PS Q)(h:PJ2 PS w b X st Y px d K Fp Fx Fy)(hf:Fr w w1 Fp){K':gu}(hb:PB w1 b px d K'.vm K'.vy K'.cnt K'.vs K'.held)
  (hm:w1.ownsRow 0 3 1 K'.vm K'.lm.length (bh K'.lm)) (hy:w1.ownsRow 0 3 1 K'.vy K'.ly.length (bh K'.ly)) (hn:w1.ownsRow 0 3 1 K'.vs K'.ls.length (bh K'.ls)) (im:∀j,K'.vm.ownBlock=some j->Fp j∨w.heap.size<=j) (iy:∀j,K'.vy.ownBlock=some j->Fp j∨w.heap.size<=j) (is:∀j,K'.vs.ownBlock=some j->Fp j∨w.heap.size<=j):PJ2 PS w1 b X st Y px d K' (nG Fp w w1) Fx Fy:=by
 have iA:=hf.size;refine⟨hb,hP.keep h.ps (λk hk hl=>hf.block k hl (λx=>h.px k x hk)) hf.size,h.rs.keep (λk hk hl=>hf.block k hl (λx=>h.py k x hk)) hf.size,hm,hy,hn,⟨af h.inb,?_⟩,λj hj=>⟨im j hj,(hm.lt j hj).2⟩,λj hj=>⟨iy j hj,(hy.lt j hj).2⟩,λj hj=>⟨is j hj,(hn.lt j hj).2⟩,λk hk hx=>?_,λk hk hx=>?_,h.xy,λk hk=>?_⟩
 ·have:=h.here b (af h.inb);omega
 ·rcases hk.1 with hk | hk
  ·exact h.px k hk hx
  ·have:=h.here k (ai (af hx));omega
 ·rcases hk.1 with hk | hk
  ·exact h.py k hk hx
  ·have:=h.here k (ai (ai hx));omega
 ·rcases hk with hk | hk | hk
  ·exact hk.2
  ·have:=h.here k (ai (af hk));omega
  ·have:=h.here k (ai (ai hk));omega
theorem PJ2.keep (hP:cG PS Q)(h:PJ2 PS w b X st Y px d K Fp Fx Fy)(iA:w.heap.size<=w1.heap.size)(hk:∀k,Fp k∨Fx k∨Fy k->w1.heap[k]?=w.heap[k]?):PJ2 PS w1 b X st Y px d K Fp Fx Fy:=
 ⟨(hk b (af h.inb)).trans h.pb,hP.keep h.ps (λk hx _=>hk k (ai (af hx))) iA,h.rs.keep (λk hx _=>hk k (ai (ai hx))) iA,cO h.must (λk hx _=>hk k (af (h.inm k hx))),cO h.may (λk hx _=>hk k (af (h.iny k hx))),cO h.seen (λk hx _=>hk k (af (h.ins k hx))),h.inb,h.inm,h.iny,h.ins,h.px,h.py,h.xy,λk hx=>Nat.lt_of_lt_of_le (h.here k hx) iA⟩
end
def PQ2 (PS:World->Value->YS->List Nat->(Nat->Prop)->Prop)(w0:World)(G:Nat->Prop)(w:World)(b:Nat)(X:YS)(st:List Nat)(Y:YS)(px:Value)(d:Nat)(K:gu):Prop:=
 ∃Fp Fx Fy,PJ2 PS w b X st Y px d K Fp Fx Fy/\(∀k,Fp k∨Fx k∨Fy k->G k∨w0.heap.size<=k)/\Fr w0 w G
section
variable {PS:World->Value->YS->List Nat->(Nat->Prop)->Prop}{Q:fw->YS->List Nat->YS->List Nat->Prop}{w0:World}{G:Nat->Prop}{w:World}{b:Nat}{X Y:YS}{st:List Nat}{px:Value}{d:Nat}{K:gu}
theorem PQ2.pb (h:PQ2 PS w0 G w b X st Y px d K):PB w b px d K.vm K.vy K.cnt K.vs K.held:=by
 obtain⟨_,_,_,h,_⟩:=h;exact h.pb
theorem PQ2.fr (h:PQ2 PS w0 G w b X st Y px d K):Fr w0 w G:=by
 obtain⟨_,_,_,_,_,h⟩:=h;exact h
theorem PQ2.must (h:PQ2 PS w0 G w b X st Y px d K):w.ownsRow 0 3 1 K.vm K.lm.length (bh K.lm):=by
 obtain⟨_,_,_,h,_⟩:=h;exact h.must
theorem PQ2.may (h:PQ2 PS w0 G w b X st Y px d K):w.ownsRow 0 3 1 K.vy K.ly.length (bh K.ly):=by
 obtain⟨_,_,_,h,_⟩:=h;exact h.may
theorem PQ2.seen (h:PQ2 PS w0 G w b X st Y px d K):w.ownsRow 0 3 1 K.vs K.ls.length (bh K.ls):=by
 obtain⟨_,_,_,h,_⟩:=h;exact h.seen
theorem PQ2.rs (h:PQ2 PS w0 G w b X st Y px d K):∃F,RY w d Y F:=by
 obtain⟨_,_,Fy,h,_⟩:=h;exact⟨Fy,h.rs⟩
theorem PQ2.tw (h:PQ2 PS w0 G w b X st Y px d K):TW Y.T Y.made:=by
 obtain⟨_,h⟩:=h.rs;exact h.tw
theorem PQ2.few (h:PQ2 PS w0 G w b X st Y px d K):Y.T.length<=24:=by
 obtain⟨_,h⟩:=h.rs;exact h.few
theorem PQ2.below (hP:cG PS Q)(h:PQ2 PS w0 G w b X st Y px d K)(hB:Below w.heap.size w w1):PQ2 PS w0 G w1 b X st Y px d K:=by
 obtain⟨Fp,Fx,Fy,h1,h2,h3⟩:=h;exact⟨Fp,Fx,Fy,h1.keep hP hB.size (λk hk=>hB.block k (h1.here k hk)),h2,h3.below hB⟩
theorem PQ2.drew (hP:cG PS Q)(h:PQ2 PS w0 G w b X st Y px d K):PQ2 PS w0 G w.drew b X st Y px d K:=h.below hP (Below.refl _ w).drew
theorem PQ2.drewN (hP:cG PS Q)(h:PQ2 PS w0 G w b X st Y px d K):∀n,PQ2 PS w0 G (w.drewN n) b X st Y px d K
 | 0=>h
 | n+1=>(PQ2.drewN hP h n).drew hP
theorem PQ2.prog (hP:cG PS Q)(h:PQ2 PS w0 G w b X st Y px d K):∃Fx,PS w px X st Fx/\∀w1 X1 br,PS w1 px X1 br (cJ Fx w)->Fr w w1 Fx->PQ2 PS w0 G w1 b X1 br Y px d K:=by
 obtain⟨Fp,Fx,Fy,h1,h2,h3⟩:=h;refine⟨Fx,h1.ps,λw1 X1 br hs hf=>⟨Fp,nG Fx w w1,Fy,h1.prog hP hs hf,λk hk=>?_,h3.comp hf (λj hj=>h2 j (ai (af hj)))⟩⟩;rcases hk with hk | hk | hk
 ·exact h2 k (af hk)
 ·exact hk.1.elim (λx=>h2 k (ai (af x))) (λx=>ai (Nat.le_trans h3.size x))
 ·exact h2 k (ai (ai hk))
theorem PQ2.ref (hP:cG PS Q)(h:PQ2 PS w0 G w b X st Y px d K):∃Fy,RY w d Y Fy/\∀w1 Y1,RY w1 d Y1 (cJ Fy w)->Fr w w1 Fy->PQ2 PS w0 G w1 b X st Y1 px d K:=by
 obtain⟨Fp,Fx,Fy,h1,h2,h3⟩:=h;refine⟨Fy,h1.rs,λw1 Y1 hs hf=>⟨Fp,Fx,nG Fy w w1,h1.ref hP hs hf,λk hk=>?_,h3.comp hf (λj hj=>h2 j (ai (ai hj)))⟩⟩;rcases hk with hk | hk | hk
 ·exact h2 k (af hk)
 ·exact h2 k (ai (af hk))
 ·exact hk.1.elim (λx=>h2 k (ai (ai x))) (λx=>ai (Nat.le_trans h3.size x))
theorem PQ2.pair (hP:cG PS Q)(h:PQ2 PS w0 G w b X st Y px d K)(hf:Fr w w1 (λk=>k=b)){K':gu}(hb:PB w1 b px d K'.vm K'.vy K'.cnt K'.vs K'.held)
  (hm:w1.ownsRow 0 3 1 K'.vm K'.lm.length (bh K'.lm)) (hy:w1.ownsRow 0 3 1 K'.vy K'.ly.length (bh K'.ly)) (hn:w1.ownsRow 0 3 1 K'.vs K'.ls.length (bh K'.ls)) (im:∀j,K'.vm.ownBlock=some j->(K.vm.ownBlock=some j∨K.vy.ownBlock=some j∨K.vs.ownBlock=some j)∨w.heap.size<=j) (iy:∀j,K'.vy.ownBlock=some j->(K.vm.ownBlock=some j∨K.vy.ownBlock=some j∨K.vs.ownBlock=some j)∨w.heap.size<=j) (is:∀j,K'.vs.ownBlock=some j->(K.vm.ownBlock=some j∨K.vy.ownBlock=some j∨K.vs.ownBlock=some j)∨w.heap.size<=j):PQ2 PS w0 G w1 b X st Y px d K':=by
 obtain⟨Fp,Fx,Fy,h1,h2,h3⟩:=h;have Sb:Fr w w1 Fp:=hf.mono (λk hk=>by rw[hk];exact h1.inb);have own:∀j,(K.vm.ownBlock=some j∨K.vy.ownBlock=some j∨K.vs.ownBlock=some j)->Fp j:=λj hj=>hj.elim (h1.inm j) (λhj=>hj.elim (h1.iny j) (h1.ins j));refine⟨nG Fp w w1,Fx,Fy,h1.pair hP Sb hb hm hy hn (λj hj=>(im j hj).imp (own j) id) (λj hj=>(iy j hj).imp (own j) id) (λj hj=>(is j hj).imp (own j) id),λk hk=>?_,h3.comp Sb (λj hj=>h2 j (af hj))⟩;rcases hk with hk | hk | hk
 ·exact hk.1.elim (λx=>h2 k (af x)) (λx=>ai (Nat.le_trans h3.size x))
 ·exact h2 k (ai (af hk))
 ·exact h2 k (ai (ai hk))
theorem PQ2.setB (hP:cG PS Q)(h:PQ2 PS w0 G w b X st Y px d K)(hB:Below w.heap.size w w1){K':gu}{o:Nat}{u:Value}(hc:(#[px,Value.pointer (some ⟨d,0,none⟩),K.vm,K.vy,.int .i64 K.cnt,K.vs,.bool K.held]:Array Value).setIfInBounds o u=#[px,.pointer (some ⟨d,0,none⟩),K'.vm,K'.vy,.int .i64 K'.cnt,K'.vs,.bool K'.held])
  (hm:w1.ownsRow 0 3 1 K'.vm K'.lm.length (bh K'.lm)) (hy:w1.ownsRow 0 3 1 K'.vy K'.ly.length (bh K'.ly)) (hn:w1.ownsRow 0 3 1 K'.vs K'.ls.length (bh K'.ls)) (im:∀j,K'.vm.ownBlock=some j->(K.vm.ownBlock=some j∨K.vy.ownBlock=some j∨K.vs.ownBlock=some j)∨w.heap.size<=j) (iy:∀j,K'.vy.ownBlock=some j->(K.vm.ownBlock=some j∨K.vy.ownBlock=some j∨K.vs.ownBlock=some j)∨w.heap.size<=j) (is:∀j,K'.vs.ownBlock=some j->(K.vm.ownBlock=some j∨K.vy.ownBlock=some j∨K.vs.ownBlock=some j)∨w.heap.size<=j):PQ2 PS w0 G (w1.setCell ⟨b,o,none⟩ u) b X st Y px d K':=by
 have qW:=(hB.block b (bx.1 h.pb.blk).1).trans h.pb.blk;refine h.pair hP (((Fr.refl w (λk=>k=b)).below hB).set (p:=⟨b,o,none⟩) (af rfl) u) ?_ (bj hm (aB hm qW (by decide)) _) (bj hy (aB hy qW (by decide)) _) (bj hn (aB hn qW (by decide)) _) im iy is;show(World.setCell _ _ _).heap[b]?=_;rw[aF qW,hc]
theorem PQ2.setMust (hP:cG PS Q)(h:PQ2 PS w0 G w b X st Y px d K)(hB:Below w.heap.size w w1)(ho:w1.ownsRow 0 3 1 v' l'.length (bh l'))(hi:∀j,v'.ownBlock=some j->K.vm.ownBlock=some j∨w.heap.size<=j):PQ2 PS w0 G (w1.setCell ⟨b,2,none⟩ v') b X st Y px d {K with vm:=v',lm:=l'}:=
 h.setB hP hB rfl ho (aN h.may hB) (aN h.seen hB) (λj hj=>(hi j hj).imp af id) (λ_ hj=>af (ai (af hj))) (λ_ hj=>af (ai (ai hj)))
theorem PQ2.setMay (hP:cG PS Q)(h:PQ2 PS w0 G w b X st Y px d K)(hB:Below w.heap.size w w1)(ho:w1.ownsRow 0 3 1 v' l'.length (bh l'))(hi:∀j,v'.ownBlock=some j->K.vy.ownBlock=some j∨w.heap.size<=j):PQ2 PS w0 G (w1.setCell ⟨b,3,none⟩ v') b X st Y px d {K with vy:=v',ly:=l'}:=
 h.setB hP hB rfl (aN h.must hB) ho (aN h.seen hB) (λ_ hj=>af (af hj)) (λj hj=>(hi j hj).imp (λx=>ai (af x)) id) (λ_ hj=>af (ai (ai hj)))
theorem PQ2.setCnt (hP:cG PS Q)(h:PQ2 PS w0 G w b X st Y px d K)(c:Int):PQ2 PS w0 G (w.setCell ⟨b,4,none⟩ (.int .i64 c)) b X st Y px d {K with cnt:=c}:=
 h.setB hP (Below.refl _ w) rfl h.must h.may h.seen (λ_ hj=>af (af hj)) (λ_ hj=>af (ai (af hj))) (λ_ hj=>af (ai (ai hj)))
theorem PQ2.setHeld (hP:cG PS Q)(h:PQ2 PS w0 G w b X st Y px d K)(c:Bool):PQ2 PS w0 G (w.setCell ⟨b,6,none⟩ (.bool c)) b X st Y px d {K with held:=c}:=
 h.setB hP (Below.refl _ w) rfl h.must h.may h.seen (λ_ hj=>af (af hj)) (λ_ hj=>af (ai (af hj))) (λ_ hj=>af (ai (ai hj)))
theorem PQ2.from (h:PQ2 PS (w.alloc o) G w' b X st Y px d K):PQ2 PS w G w' b X st Y px d K:=by
 obtain⟨Fp,Fx,Fy,h1,h2,h3⟩:=h;have iA:(w.alloc o).heap.size=w.heap.size+1:=by simp
 exact⟨Fp,Fx,Fy,h1,λk hk=>(h2 k hk).imp id (λx=>by omega),⟨h3.os,h3.tape,h3.output,by have:=h3.size;omega,λk hk hn=>(h3.block k (by omega) hn).trans (Below.heap_alloc w o k hk)⟩⟩
theorem PQ2.alloc (hP:cG PS Q)(h:PJ2 PS w b X st Y px d K Fp Fx Fy)(hG:∀k,Fp k∨Fx k∨Fy k->G k)(o:Obj):PQ2 PS (w.alloc o) G (w.alloc o) b X st Y px d K:=
 ⟨Fp,Fx,Fy,h.keep hP (by simp) (λk hk=>Below.heap_alloc w o k (h.here k hk)),λk hk=>af (hG k hk),Fr.refl _ _⟩
theorem PQ2.start (h:PJ2 PS w b X st Y px d K Fp Fx Fy)(hG:∀k,Fp k∨Fx k∨Fy k->G k):PQ2 PS w G w b X st Y px d K:=
 ⟨Fp,Fx,Fy,h,λk hk=>af (hG k hk),Fr.refl _ _⟩
theorem PQ2.op (h:PQ2 PS (w.alloc o) G w' b X st Y px d K)(hG:∀k,G k->k<w.heap.size):w'.heap[w.heap.size]?=some o:=
 (h.fr.block w.heap.size (by simp) (λx=>by have:=hG _ x;omega)).trans (heap_alloc_new w o)
end
end
section
variable {F:Nat->Prop}{T:aJ}{Y:YS}{l:List Nat}
noncomputable def kG (T:aJ)(f:Int)(m:List Nat):List Nat:=T.foldl (λm e=>if dJ T f e.1=true then dE m e.1 else m) m
def jL (T:aJ)(l:List Nat):List Nat:=l.filter λk=>(bw T k).isSome
theorem Ke (els:List REl)(f n:Int):jX els f n=dJ (aK els) f n:=by
 unfold jX dJ;rw[dV,ld]
theorem Lp (els:List REl)(f:Int)(m:List Nat):gg els f els m=kG (aK els) f m:=by
 unfold gg kG
 have nF:∀(l:List REl) (m:List Nat),l.foldl (λm e=>if jX els f e.num=true then dE m e.num else m) m=(aK l).foldl (λm e=>if dJ (aK els) f e.1=true then dE m e.1 else m) m:=λl=>by
  induction l with
  | nil=>intro m;rfl
  | cons x l ih=>
   intro m;rw[List.foldl_cons,ih];show _=List.foldl _ (if dJ (aK els) f (x.num:Nat)=true then dE m x.num else m) (aK l);rw[Ke]
 exact nF els m
theorem Pg (els:List REl)(l:List Nat):lB els l=jL (aK els) l:=by
 unfold lB jL;apply List.filter_congr;intro k _;cases hf:bJ els k with
 | none=>rw[cK hf];rfl
 | some e=>rw[cH hf];rfl
def sH (T:aJ)(K:gu):Prop:=LT T K.lm/\LT T K.ly
theorem LT.spoil (h:LT T l)(f:Int):LT T (kG T f l):=by
 unfold kG
 have nF:∀(U:aJ) (l:List Nat),(∀e∈U,e∈T)->LT T l->LT T (U.foldl (λm e=>if dJ T f e.1=true then dE m e.1 else m) l):=λU=>by
  induction U with
  | nil=>intro l _ h;exact h
  | cons x U ih=>
   intro l hs h;rw[List.foldl_cons];refine ih _ (λe he=>hs e (List.mem_cons_of_mem _ he)) ?_;split
   ·exact h.with (n:=x.1) (c:=x.2) (hs x List.mem_cons_self)
   ·exact h
 exact nF T l (λ_ h=>h) h
theorem LT.only (h:l.Nodup):LT T (jL T l):=by
 refine⟨h.filter _,λk hk=>?_⟩;have h1:=(dA.1 hk).2;obtain⟨c,hc⟩:=Option.isSome_iff_exists.1 h1;obtain⟨a,ha,hm⟩:=gj hc;exact⟨c,by rw[show k=a from by omega];exact hm⟩
def TurnPost2 (PS:World->Value->YS->List Nat->(Nat->Prop)->Prop)(w:World)(G:Nat->Prop)(b:Nat)(px:Value)(d:Nat)(R:YS->List Nat->gu->Prop)(e:Ending)(w':World):Prop:=
 e=.returned (.bool true)/\∃X' cA K',PQ2 PS w G w' b X' cA X' px d K'/\sH X'.T K'/\R X' cA K'
section
variable {PS:World->Value->YS->List Nat->(Nat->Prop)->Prop}{Q:fw->YS->List Nat->YS->List Nat->Prop}{w0:World}{G:Nat->Prop}{w:World}{b:Nat}{X Y:YS}{st:List Nat}{px:Value}{d:Nat}{K:gu}
def Rg (PS:World->Value->YS->List Nat->(Nat->Prop)->Prop)(w0:World)(G:Nat->Prop)(b:Nat)(X:YS)(st:List Nat)(Y:YS)(px:Value)(d:Nat)(K:gu)(f:Int)(e:Ending)(w':World):Prop:=
 e=.returned (.tuple #[])/\∃vy',PQ2 PS w0 G w' b X st Y px d {K with vy:=vy',ly:=kG Y.T f K.ly,cnt:=-1,held:=false}
theorem il (hP:cG PS Q)(h:PQ2 PS w0 G w b X st Y px d K)(TZ:LT Y.T K.ly)(f:Int):
  Calls prog 144 #[.pointer (some ⟨b,0,none⟩),.int .i64 f] w λe w'=>Rg PS w0 G b X st Y px d K f e w':=by
 obtain⟨F,els,hp,vT,bi,vL,Rr,Gs,hX,hA,_⟩:=h.rs;obtain⟨rk,Sq⟩:=pj hX.tw;rw[hA] at TZ;refine(G0 w b px d els Y.made hp vT bi vL K.vm K.vy K.vs K.cnt K.held K.ly f h.pb hX.rd rk Sq h.may (aao.1 TZ)).mono ?_;rintro e W7 ⟨rfl,a7,c7,pb7,BS,WE,hn7⟩;rw[Lp,<-hA] at pb7 BS hn7;have aau:W7.ownsRow 0 3 1 K.vm K.lm.length (bh K.lm):=cO h.must (λj hj hl=>WE.block j hl (λe=>aB h.must h.pb.blk (by decide) (e▸hj)));have aav:W7.ownsRow 0 3 1 K.vs K.ls.length (bh K.ls):=cO h.seen (λj hj hl=>WE.block j hl (λe=>aB h.seen h.pb.blk (by decide) (e▸hj)));exact⟨rfl,_,h.pair hP WE pb7 aau BS aav (λj hj=>af (af hj)) (λj hj=>(hn7 j hj).imp (λx=>ai (af x)) id) (λj hj=>af (ai (ai hj)))⟩
def Q7 (w:World)(l':List Nat)(e:Ending)(w':World):Prop:=
 ∃(a:Option Addr) (c:Nat),e=.returned (.slice a l'.length c)/\w'.ownsRow 0 3 1 (.slice a l'.length c) l'.length (bh l')/\Below w.heap.size w w'/\Hid (∀j,(Value.slice a l'.length c).ownBlock=some j->w.heap.size<=j)
theorem AA (h:PQ2 PS w0 G w b X st Y px d K)(a:Option Addr)(c:Nat)(l:List Nat)(ho:w.ownsRow 0 3 1 (.slice a l.length c) l.length (bh l))(hl:l.length<=24):
  Calls prog 146 #[.pointer (some ⟨b,0,none⟩),.slice a l.length c] w λe w'=>Q7 w (jL Y.T l) e w':=by
 obtain⟨F,els,hp,vT,bi,vL,Rr,Gs,hX,hA,_⟩:=h.rs;refine(Ph w b px d els Y.made hp vT bi vL K.vm K.vy K.vs K.cnt K.held a c l h.pb hX.rd ho hl).mono ?_;rintro e w' ⟨a',c',rfl,own,hB⟩;rw[Pg,<-hA] at own ⊢;exact⟨a',c',rfl,aP own aZ,hB,λj hj=>(own.lt j hj).1⟩
theorem ph (h:PQ2 PS w0 G w b X st Y px d K)(n:Int):
  Calls prog 97 #[.pointer (some ⟨d,0,none⟩),.int .i64 n] w λe w'=>e=.returned (.int .i64 (aY Y.T n))/\w'=w:=by
 obtain⟨F,els,hp,vT,bi,vL,Rr,Gs,hX,hA,_⟩:=h.rs;rw[hA,dV];exact f9 w d els Y.made hp vT bi vL n hX.rd
theorem KZ (h:RY w d Y F)(hm:Y.made<=1099511627776)(par at':Int)(kind:ByteArray):
  Calls prog 142 #[.pointer (some ⟨d,0,none⟩),.int .i64 par,.int .i64 at',.string kind] w λe w'=>∃y Y' n,e=.returned (.tuple #[.int .i64 n,.int .i64 y])/\YIns Y par at' kind y Y' n/\RY w' d Y' (cJ F w)/\Fr w w' F:=by
 refine(Ei w d Y.T Y.made Y.M Y.shn Y.rs F par at' kind h hm).mono ?_;rintro e w' ⟨y,T',made',n,he,h1,h2,h3⟩;exact⟨y,⟨T',made',_,_,Y.rs⟩,n,he,⟨h1,rfl,rfl,rfl⟩,h2,h3⟩
theorem K4 (h:RY w d Y F)(n:Int):
  Calls prog 145 #[.pointer (some ⟨d,0,none⟩),.int .i64 n] w λe w'=>∃y Y',e=.returned (.int .i64 y)/\YRem Y n y Y'/\RY w' d Y' (cJ F w)/\Fr w w' F:=by
 refine(Ek w d Y.T Y.made Y.M Y.shn Y.rs F n h).mono ?_;rintro e w' ⟨y,T',he,h1,h2,h3⟩;exact⟨y,⟨T',Y.made,Y.M,Y.shn,Y.rs⟩,he,⟨h1,rfl,rfl,rfl,rfl⟩,h2,h3⟩
theorem K3 (h:RY w d Y F)(n m at':Int):
  Calls prog 147 #[.pointer (some ⟨d,0,none⟩),.int .i64 n,.int .i64 m,.int .i64 at'] w λe w'=>∃y Y',e=.returned (.int .i64 y)/\YMov Y n m at' y Y'/\RY w' d Y' (cJ F w)/\Fr w w' F:=by
 refine(KX w d Y.T Y.made Y.M Y.shn Y.rs F n m at' h).mono ?_;rintro e w' ⟨y,T',he,h1,h2,h3⟩;exact⟨y,⟨T',Y.made,Y.M,Y.shn,Y.rs⟩,he,⟨h1,rfl,rfl,rfl,rfl⟩,h2,h3⟩
end
def Q8 (Q:fw->YS->List Nat->YS->List Nat->Prop)(X:YS)(st:List Nat)(K:gu)(par at':Int)(kind:ByteArray)(X':YS)(cA:List Nat)(K':gu):Prop:=
 ∃y n,YIns X par at' kind y X' n/\Q (.ins par y) X st X' cA/\((y≠0/\K'=K)∨(y=0/\K'.lm=dE K.lm X.made/\K'.ly=kG X'.T par (dE K.ly X.made)/\K'.ls=K.ls/\K'.cnt=-1/\K'.held=false))
theorem zd {PS:World->Value->YS->List Nat->(Nat->Prop)->Prop}{Q:fw->YS->List Nat->YS->List Nat->Prop}(hP:cG PS Q)(w:World)(b:Nat)(X:YS)(st:List Nat)(pa:Addr)(d:Nat)(K:gu)(G Fp Fx Fy:Nat->Prop)
  (h:PJ2 PS w b X st X (.pointer (some pa)) d K Fp Fx Fy) (hG:∀k,Fp k∨Fx k∨Fy k->G k) (zL:∀k,G k->k<w.heap.size) (ln:sH X.T K) (mW:X.made<=1099511627776) (kd at' xx yy zz:Int) (S Tt:ByteArray) (on:Bool) :
  Calls prog 100 #[.pointer (some ⟨b,0,none⟩),.agg #[.int .i64 kd,.int .i64 at',.int .i64 xx,.int .i64 yy,.int .i64 zz,.string S,.string Tt,.bool on]] w λe w'=>TurnPost2 PS w G b (.pointer (some pa)) d (Q8 Q X st K xx yy Tt) e w':=by
 have HP:=ae hP;have HW:=bT h.rs.tw ln;have HG:=ae zL;have H0:Hid (PQ2 PS (w.alloc (aH kd at' xx yy zz S Tt on)) G (w.alloc (aH kd at' xx yy zz S Tt on)).drew b X st X (.pointer (some pa)) d K):=(PQ2.alloc hP h hG _).drew hP;clear h hP ln hG zL;obtain⟨WY,dU,DD⟩:=H0.out.prog HP.out;have CG:=ae dU;have CE:=ae DD;clear dU DD
 have HC:Hid (∀(wx:World) X1 br Y1,PQ2 PS (w.alloc (aH kd at' xx yy zz S Tt on)) G wx b X1 br Y1 (.pointer (some pa)) d K->wx.cell? ⟨b,0,none⟩=some (.pointer (some pa))/\wx.cell? ⟨b,1,none⟩=some (.pointer (some ⟨d,0,none⟩))/\wx.cell? ⟨w.heap.size,2,none⟩=some (.int .i64 xx)/\wx.cell? ⟨w.heap.size,3,none⟩=some (.int .i64 yy)/\wx.cell? ⟨w.heap.size,6,none⟩=some (.string Tt)):=λwx X1 br Y1 hq=>
  ⟨aa hq.pb.blk rfl,aa hq.pb.blk rfl,aa (hq.op HG.out) rfl,aa (hq.op HG.out) rfl,aa (hq.op HG.out) rfl⟩
 go_enter func100,ntmps100;go_upto_region 1 with fail
 go_cut [5,6] (λnv yv wx=>∃(y n:Int) (X1:YS) (br:List Nat),nv=.int .i64 n/\yv=.int .i64 y/\Hid (YIns X xx yy Tt y X1 n/\Q (.ins xx y) X st X1 br/\PQ2 PS (w.alloc (aH kd at' xx yy zz S Tt on)) G wx b X1 br X (.pointer (some pa)) d K))
 case first=>
  go_region_held3 (λw'=>w'.cell? ⟨b,0,none⟩=some (.pointer (some pa))/\w'.cell? ⟨b,1,none⟩=some (.pointer (some ⟨d,0,none⟩))/\w'.cell? ⟨w.heap.size,2,none⟩=some (.int .i64 xx)/\w'.cell? ⟨w.heap.size,3,none⟩=some (.int .i64 yy)/\w'.cell? ⟨w.heap.size,6,none⟩=some (.string Tt)) (first | exact HC.out _ _ _ _ H0.out | exact HC.out _ _ _ _ HT.out.2.2)
   (first | (go_at_call 36;refine(HP.out.ins _ (.pointer (some pa)) X st WY xx yy Tt CG.out mW).mono ?_;rintro e w1 ⟨y,X1,br,n,rfl,hT,hq,qd,ft⟩;have HT:Hid (YIns X xx yy Tt y X1 n/\Q (.ins xx y) X st X1 br/\PQ2 PS (w.alloc (aH kd at' xx yy zz S Tt on)) G w1 b X1 br X (.pointer (some pa)) d K):=⟨hT,hq,CE.out w1 X1 br qd ft⟩))
  all_goals
   go_wp2_with fail;go_meet;exact⟨y,n,X1,br,rfl,rfl,HT⟩
 case rest=>
  obtain⟨y,n,X1,br,rfl,rfl,HT⟩:=hcut;obtain⟨Fy2,hrs2,hny2⟩:=(HT.out.2.2.drew HP.out).ref HP.out;have CH:=ae hrs2;have CF:=ae hny2;have ix:=ae (HT.out.2.2.drew HP.out);clear hrs2 hny2 H0 CG CE;go_upto_region 2 with fail
  go_cut [7,8] (λnv yv wx=>nv=.int .i64 n/\yv=.int .i64 y/\Hid (PQ2 PS (w.alloc (aH kd at' xx yy zz S Tt on)) G wx b X1 br X1 (.pointer (some pa)) d K))
  case first=>
   go_region_held3 (λw'=>w'.cell? ⟨b,0,none⟩=some (.pointer (some pa))/\w'.cell? ⟨b,1,none⟩=some (.pointer (some ⟨d,0,none⟩))/\w'.cell? ⟨w.heap.size,2,none⟩=some (.int .i64 xx)/\w'.cell? ⟨w.heap.size,3,none⟩=some (.int .i64 yy)/\w'.cell? ⟨w.heap.size,6,none⟩=some (.string Tt)) (first | exact HC.out _ _ _ _ ix.out | exact HC.out _ _ _ _ jB.out)
    (first | (go_at_call 142;refine(KZ CH.out mW xx yy Tt).mono ?_;rintro e w1 ⟨y',Y1,n',rfl,Ob,Gq,ft⟩;obtain⟨rfl,rfl,rfl⟩:=HT.out.1.one Ob;have jB:Hid (PQ2 PS (w.alloc (aH kd at' xx yy zz S Tt on)) G w1 b X1 br X1 (.pointer (some pa)) d K):=CF.out w1 X1 Gq ft))
   all_goals
    go_wp2_with fail;go_meet;exact⟨rfl,rfl,jB⟩
  case rest=>
   obtain⟨rfl,rfl,HQ⟩:=hcut;clear ix CH CF;go_wp2_with fail;refine(bI _ y).mono ?_;rintro e w5 ⟨rfl,rfl⟩;obtain⟨wd,rfl⟩:∃wd,wd=w5:=⟨_,rfl⟩
   by_cases hy:y=0
   ·subst hy;have HI:=bT HT.out.1 HT.out.2.1;obtain⟨hu0,hn,hm,p,k,hu1,hu2,⟨l,hl,hu3⟩,TQ⟩:=HT.out.1.1.2.resolve_left (λx=>x.1 rfl)
    have HL:Hid (LT X1.T (dE K.lm X.made)/\LT X1.T (dE K.ly X.made)/\K.lm.length<=24/\K.ly.length<=24/\n=X.made):=by
     have jS:(X.made,[])∈X1.T:=by rw[TQ];exact cE.2 (ai rfl)
     have Z8:LT X1.T K.lm:=by rw[TQ];exact HW.out.2.1.ins p k X.made
     have Z9:LT X1.T K.ly:=by rw[TQ];exact HW.out.2.2.ins p k X.made
     have RZ:=HQ.out.few;have h1:=Z8.len;have h2:=Z9.len;exact⟨Z8.with jS,Z9.with jS,by omega,by omega,hn⟩
    clear hu0 hm hu1 hu2 hu3 hl TQ HT;subst hn;have J9:K.lm.length<=24:=HL.out.2.2.1;have tr:K.ly.length<=24:=HL.out.2.2.2.1;obtain⟨am,cm,yA⟩:=aA HQ.out.must;obtain⟨ay,cy,hvy⟩:=aA HQ.out.may;have di:=HQ.out.must;rw[yA] at di;have b2:wd.cell? ⟨b,2,none⟩=some (.slice am K.lm.length cm):=by rw[<-yA];exact aa HQ.out.pb.blk rfl
    go_wp2_with fail;refine(sE wd am cm K.lm X.made di J9).mono ?_;rintro e W3 ⟨a3,c3,rfl,bA,lT,iG⟩;have r7:=(lT.block b (bx.1 HQ.out.pb.blk).1).trans HQ.out.pb.blk;have e2:W3.cell? ⟨b,2,none⟩=some (.slice am K.lm.length cm):=by rw[<-yA];exact aa r7 rfl
    have ez:∀k,W3.frozen? ⟨b,k,none⟩=false:=λ_=>ax r7;have oA:Hid (PQ2 PS (w.alloc (aH kd at' xx yy zz S Tt on)) G (W3.setCell ⟨b,2,none⟩ (.slice a3 (dE K.lm X.made).length c3)) b X1 br X1 (.pointer (some pa)) d {K with vm:=.slice a3 (dE K.lm X.made).length c3,lm:=dE K.lm X.made}):=HQ.out.setMust HP.out lT bA (λj hj=>by rw[yA];exact iG.out j hj);clear bA lT iG r7 b2 HQ di yA;go_upto_region 7 with fail;obtain⟨W4,Dq⟩:∃W4,W4=W3.setCell ⟨b,2,none⟩ (.slice a3 (dE K.lm X.made).length c3):=⟨_,rfl⟩;rw[<-Dq] at oA ⊢;clear Dq e2 ez;have D4:=oA.out.may;have yT:K.vy=.slice ay K.ly.length cy:=hvy;have D5:W4.ownsRow 0 3 1 (.slice ay K.ly.length cy) K.ly.length (bh K.ly):=by rw[<-yT];exact D4
    have b3:W4.cell? ⟨b,3,none⟩=some (.slice ay K.ly.length cy):=by rw[<-yT];exact aa oA.out.pb.blk rfl
    go_wp2_with fail;refine(sE W4 ay cy K.ly X.made D5 tr).mono ?_;rintro e W5 ⟨a5,c5,rfl,bR,yI,ql⟩;have Ma:=(yI.block b (bx.1 oA.out.pb.blk).1).trans oA.out.pb.blk;have e3:W5.cell? ⟨b,3,none⟩=some (.slice ay K.ly.length cy):=by rw[<-yT];exact aa Ma rfl
    have ez:∀k,W5.frozen? ⟨b,k,none⟩=false:=λ_=>ax Ma;have Ho:Hid (PQ2 PS (w.alloc (aH kd at' xx yy zz S Tt on)) G (W5.setCell ⟨b,3,none⟩ (.slice a5 (dE K.ly X.made).length c5)) b X1 br X1 (.pointer (some pa)) d {K with vm:=.slice a3 (dE K.lm X.made).length c3,lm:=dE K.lm X.made,vy:=.slice a5 (dE K.ly X.made).length c5,ly:=dE K.ly X.made}):=oA.out.setMay HP.out yI bR (λj hj=>by show K.vy.ownBlock=some j∨_;rw[yT];exact ql.out j hj);clear bR yI ql Ma b3 oA D4 D5 hvy yT;go_upto_region 8 with fail;obtain⟨W6,Dr⟩:∃W6,W6=W5.setCell ⟨b,3,none⟩ (.slice a5 (dE K.ly X.made).length c5):=⟨_,rfl⟩;rw[<-Dr] at Ho ⊢;clear Dr e3 ez;have o2:W6.cell? ⟨w.heap.size,2,none⟩=some (.int .i64 xx):=aa (Ho.out.op HG.out) rfl;go_wp2_with fail;refine(il HP.out Ho.out HL.out.2.1 xx).mono ?_;rintro e W7 ⟨rfl,V9,zW⟩;have HE:Hid (TurnPost2 PS w G b (.pointer (some pa)) d (Q8 Q X st K xx yy Tt) (.returned (.bool true)) W7):=⟨rfl,X1,br,_,zW.from,⟨HL.out.1,HL.out.2.1.spoil xx⟩,0,(X.made:Int),HI.out.1,HI.out.2,ai ⟨rfl,rfl,rfl,rfl,rfl,rfl⟩⟩;clear zW Ho o2;go_wp2;go_ret;exact HE.out
   ·have gy:(y==0)=false:=by simp[hy]
    have HE:Hid (TurnPost2 PS w G b (.pointer (some pa)) d (Q8 Q X st K xx yy Tt) (.returned (.bool true)) wd):=by
     obtain⟨_,_,TQ,yx⟩:=HT.out.1.1.2.resolve_right (λx=>hy x.1);exact⟨rfl,X1,br,K,HQ.out.from,by rw[TQ];exact HW.out.2,y,n,HT.out.1,HT.out.2.1,af ⟨hy,rfl⟩⟩
    clear hy;go_wp2;go_ret;exact HE.out
end
end Go.Proofs.YtblfffbmklkhmaaGreat
