import Derived.Test.YtblfffbmklkhmaaGreatSt34
import Derived.Test.YtblfffbmklkhmaaGreatSt21
import Derived.Test.YtblfffbmklkhmaaGreatSt26
namespace Go.Proofs.YtblfffbmklkhmaaGreat
open Go.RowKit
section
variable {w w':World} {d:Nat} {els:List REl} {made:Nat} {hp:Option Addr} {vT:Value} {aR:Bool} {vL:Value} {Rr:List dx} {Gs:Nat→Prop} {M:Nat→Mk} {shn:Nat→Bool} {rs:List cQ}
theorem RX.nums (h:RX w d els made hp vT aR vL Rr Gs M shn rs):(els.map REl.num).Nodup:=by have:=h.tw.nums;rw [kR] at this;exact this
theorem RX.apart (h:RX w d els made hp vT aR vL Rr Gs M shn rs):AC els:=h.rd.apart h.nums
theorem RX.ne (h:RX w d els made hp vT aR vL Rr Gs M shn rs) {p:REl} (sB:p∈els):p.blk≠d:=fun e=>by
 have h1:=h.rd.el p sB
 rw [e,h.rd.doc] at h1
 injection h1 with h1
 injection h1 with _ h2 _
 exact absurd h2 (by decide)
theorem RE.mark (h:RE els M shn) (ha:AC els) (hn:(els.map REl.num).Nodup) {p:REl} (sB:p∈els) {f:REl→REl} (hf:PH f) {m:Mk} {b:Bool} (h1:ax (f p).kd=true∧m.kd=bt (f p).kd 0) (h2:∀ c,qy c (f p).cl=(decide (97≤c∧c≤122)&&m.cl (c - 97))) (h3:((f p).nm.size=0∧m.nm=0)∨(ax (f p).nm=true∧m.nm=bt (f p).nm 0)) (h4:(f p).sh=b) (h5:ClsOK (f p).cl):RE (els.map (eu p.blk f)) (bQ M p.num m) (BS shn p.num b):=by
 have ol:∀ y∈els.map (eu p.blk f),(y=f p∧y.num=p.num)∨(y∈els∧y.num≠p.num):=fun y hy=>by
  obtain ⟨x,hx,rfl⟩:=List.mem_map.1 hy
  by_cases e:x.blk=p.blk
  ·have nK:x=p:=C5 hn hx sB ((ha x hx p sB).1 e)
   subst nK
   left
   unfold eu
   rw [if_pos rfl]
   exact ⟨rfl,hf.num x⟩
  ·right
   unfold eu
   rw [if_neg e]
   exact ⟨hx,fun e2=>e ((ha x hx p sB).2 e2)⟩
 have e1:bQ M p.num m p.num=m:=by unfold bQ;rw [if_pos rfl]
 have e2:∀ k,k≠p.num→bQ M p.num m k=M k:=fun k hk=>by unfold bQ;rw [if_neg hk]
 refine ⟨⟨fun y hy=>?_,fun y hy=>?_,fun y hy=>?_⟩,fun y hy=>?_,fun y hy=>?_⟩
 all_goals rcases ol y hy with ⟨g1,g2⟩ | ⟨g1,g2⟩
 ·rw [g2,e1,g1];exact h1
 ·rw [e2 _ g2];exact h.rm.kd y g1
 ·rw [g2,e1,g1];exact h2
 ·rw [e2 _ g2];exact h.rm.cl y g1
 ·rw [g2,e1,g1];exact h3
 ·rw [e2 _ g2];exact h.rm.nm y g1
 ·show y.sh=if y.num=p.num then b else shn y.num
  rw [if_pos g2,g1];exact h4
 ·show y.sh=if y.num=p.num then b else shn y.num
  rw [if_neg g2];exact h.shw y g1
 ·rw [g1];exact h5
 ·exact h.cls y g1
theorem wC (shn:Nat→Bool) (k:Nat):BS shn k (shn k)=shn:=by
 funext j
 unfold BS
 split
 ·rename_i h;rw [h]
 ·rfl
theorem RX.mark (h:RX w d els made hp vT aR vL Rr Gs M shn rs) {p:REl} {f:REl→REl} (hf:PH f) (hH:Fr w w' (gQ d els vL)) (hR:RD w' d (els.map (eu p.blk f)) made hp vT false vL) {M':Nat→Mk} {Kp:Nat→Bool} (B7:RE (els.map (eu p.blk f)) M' Kp):RX w' d (els.map (eu p.blk f)) made hp vT false vL Rr Gs M' Kp rs:=
 h.turn hH hR (by rw [ts hf];exact h.tw) B7 (fun k hk=>Or.inl ((yb hf p.blk k).1 hk))
end
section
set_option maxRecDepth 100000
set_option maxHeartbeats 4000000
variable (w:World) (d:Nat) (els:List REl) (made:Nat) (hp:Option Addr) (vT:Value) (aR:Bool) (vL:Value) (Rr:List dx) (Gs:Nat→Prop) (M:Nat→Mk) (shn:Nat→Bool) (rs:List cQ)
def gM (c:ByteArray) (x:REl):REl:={x with cl:=c}
def R7 (c:ByteArray) (x:REl):REl:={x with nm:=c}
theorem lL (c:ByteArray):PH (gM c):=⟨fun _=>rfl,fun _=>rfl,fun _=>rfl,fun _=>rfl⟩
theorem pT (c:ByteArray):PH (R7 c):=⟨fun _=>rfl,fun _=>rfl,fun _=>rfl,fun _=>rfl⟩
theorem Ih (p:Nat) (a b:ByteArray) (els:List REl):(els.map (eu p (gM a))).map (eu p (gM b))=els.map (eu p (gM b)):=by
 rw [List.map_map]
 apply List.map_congr_left
 intro x _
 show eu p (gM b) (eu p (gM a) x)=eu p (gM b) x
 by_cases h:x.blk=p
 ·have e1:eu p (gM a) x=gM a x:=if_pos h
  have e2:eu p (gM b) x=gM b x:=if_pos h
  have h2:(gM a x).blk=p:=h
  have e3:eu p (gM b) (gM a x)=gM b (gM a x):=if_pos h2
  rw [e1,e2,e3]
  rfl
 ·have e1:eu p (gM a) x=x:=if_neg h
  rw [e1]
def fu (n:Int) (s:ByteArray) (on:Bool) (e:Ending) (w':World):Prop:=
 (bK (aB els) n s≠0∧e=.returned (.int .i64 (bK (aB els) n s))∧w'=w)∨
 (bK (aB els) n s=0∧e=.returned (.int .i64 0)∧∃ p,aZ els n=some p∧ax s=true∧RX w' d (els.map (eu p.blk (gM (it p.cl s on)))) made hp vT false vL Rr Gs (bQ M n.toNat (jz (M n.toNat) s on)) shn rs∧Fr w w' (gQ d els vL))
theorem ux (n:Int) (s:ByteArray) (on:Bool) (h:RX w d els made hp vT aR vL Rr Gs M shn rs) :
  Calls Tryz.prog 148 #[.pointer (some ⟨d,0,none⟩),.int .i64 n,.string s,.bool on] w fun e w'=>fu w d els made hp vT vL Rr Gs M shn rs n s on e w':=by
 have HX:Hid (RX w d els made hp vT aR vL Rr Gs M shn rs):=h
 clear h
 go_enter Tryz.func148,Tryz.ntmps148
 go_wp2_with fail
 refine (eb w d els made hp vT aR vL n HX.out.rd).mono ?_
 rintro e w1 ⟨rfl,rfl⟩
 obtain ⟨w,rfl⟩:∃ w,w=w1:=⟨_,rfl⟩
 cases hf:aZ els n with
 | none=>
  have he:ey none=.pointer none:=rfl
  rw [he]
  have HE:Hid (fu w d els made hp vT vL Rr Gs M shn rs n s on (.returned (.int .i64 5)) w):=by
   have hc:bK (aB els) n s=5:=by unfold bK;rw [co hf]
   exact Or.inl ⟨by rw [hc];decide,by rw [hc],rfl⟩
  clear he hf
  go_wp2
  go_ret
  exact HE.out
 | some p=>
  have he:ey (some p)=.pointer (some ⟨p.blk,0,none⟩):=rfl
  rw [he]
  have HF:Hid (aZ els n=some p):=hf
  clear he hf
  go_wp2_with fail
  refine (lT w s).mono ?_
  rintro e w1 ⟨rfl,rfl⟩
  obtain ⟨w,rfl⟩:∃ w,w=w1:=⟨_,rfl⟩
  cases hl:ax s with
  | false=>
   have HE:Hid (fu w d els made hp vT vL Rr Gs M shn rs n s on (.returned (.int .i64 4)) w):=by
    have hc:bK (aB els) n s=4:=by unfold bK;rw [bT HF.out];exact if_pos hl
    exact Or.inl ⟨by rw [hc];decide,by rw [hc],rfl⟩
   clear hl
   go_wp2
   go_ret
   exact HE.out
  | true=>
   have HL:Hid (ax s=true):=hl
   clear hl
   obtain ⟨fp,pc⟩:=cg HF.out
   have qm:Hid (p∈els∧(p.num:Int)=n):=⟨fp,pc⟩
   have d4:w.cell? ⟨d,4,none⟩=some (.bool aR):=aa HX.out.rd.doc rfl
   have Wz:w.frozen? ⟨d,4,none⟩=false:=ag HX.out.rd.doc
   have Qy:d<w.heap.size:=(Array.getElem?_eq_some_iff.1 HX.out.rd.doc).1
   have kL:p.blk<w.heap.size:=(Array.getElem?_eq_some_iff.1 (HX.out.rd.el p fp)).1
   have eV:p.blk≠d:=HX.out.ne fp
   have kM:Hid (RD (w.setCell ⟨d,4,none⟩ (.bool false)) d els made hp vT false vL):=HX.out.rd.setDoc' rfl
   have xY:Hid (Fr w (w.setCell ⟨d,4,none⟩ (.bool false)) (gQ d els vL)):=(Fr.refl w _).set (p:=⟨d,4,none⟩) (Or.inl (Or.inl rfl)) _
   have XQ:p.cl.size≤26:=(HX.out.re.cls p fp).few
   have fT:s.size=1:=by
    have:=HL.out
    unfold ax at this
    rw [Bool.and_eq_true,decide_eq_true_eq] at this
    exact this.1
   clear pc
   go_upto_region 8 with fail
   generalize w.setCell ⟨d,4,none⟩ (.bool false)=W1 at kM xY ⊢
   have p2:W1.cell? ⟨p.blk,2,none⟩=some (.string p.cl):=aa (kM.out.el p fp) rfl
   have p2f:W1.frozen? ⟨p.blk,2,none⟩=false:=ag (kM.out.el p fp)
   have adg:p.blk<W1.heap.size:=(Array.getElem?_eq_some_iff.1 (kM.out.el p fp)).1
   clear d4 Wz
   go_wp2_with fail
   refine (tp W1 p.cl s (by omega) fT).mono ?_
   rintro e w2 ⟨rfl,rfl⟩
   obtain ⟨W1,rfl⟩:∃ W1,W1=w2:=⟨_,rfl⟩
   have rB:Hid (RD (W1.setCell ⟨p.blk,2,none⟩ (.string (gG p.cl (bt s 0) p.cl.size))) d (els.map (eu p.blk (gM (gG p.cl (bt s 0) p.cl.size)))) made hp vT false vL):=kM.out.setE HX.out.nums fp (lL _) rfl
   have qT:Hid (Fr w (W1.setCell ⟨p.blk,2,none⟩ (.string (gG p.cl (bt s 0) p.cl.size))) (gQ d els vL)):=xY.out.set (p:=⟨p.blk,2,none⟩) (Or.inl (Or.inr (Or.inl ⟨p,fp,rfl⟩))) _
   have hwz:(gG p.cl (bt s 0) p.cl.size).size≤26:=Nat.le_trans (E7 (Nat.le_refl _)) XQ
   go_upto_region 9 with fail
   generalize W1.setCell ⟨p.blk,2,none⟩ (.string (gG p.cl (bt s 0) p.cl.size))=W2 at rB qT ⊢
   have TP:Hid (eu p.blk (gM (gG p.cl (bt s 0) p.cl.size)) p∈els.map (eu p.blk (gM (gG p.cl (bt s 0) p.cl.size)))):=List.mem_map.2 ⟨p,fp,rfl⟩
   have Cf:Hid (eu p.blk (gM (gG p.cl (bt s 0) p.cl.size)) p=gM (gG p.cl (bt s 0) p.cl.size) p):=if_pos rfl
   have K7:Hid (W2.heap[p.blk]?=some (.cells (gM (gG p.cl (bt s 0) p.cl.size) p).cells 176 (0,0))):=by
    have:=rB.out.el _ TP.out
    rw [Cf.out] at this
    exact this
   have q2:W2.cell? ⟨p.blk,2,none⟩=some (.string (gG p.cl (bt s 0) p.cl.size)):=aa K7.out rfl
   have q2f:W2.frozen? ⟨p.blk,2,none⟩=false:=ag K7.out
   have Ye:p.blk<W2.heap.size:=(Array.getElem?_eq_some_iff.1 K7.out).1
   have gf:Hid (∀ W3,RD W3 d (els.map (eu p.blk (gM (it p.cl s on)))) made hp vT false vL→Fr w W3 (gQ d els vL)→fu w d els made hp vT vL Rr Gs M shn rs n s on (.returned (.int .i64 0)) W3):=fun W3 hr hH=>by
    have hc:bK (aB els) n s=0:=by unfold bK;rw [bT HF.out];exact if_neg (by rw [HL.out];simp)
    have Fd:n.toNat=p.num:=by have:=qm.out.2;omega
    refine Or.inr ⟨hc,rfl,p,HF.out,HL.out,?_,hH⟩
    rw [Fd]
    have B7:=HX.out.re
    have hk:=B7.rm.kd p fp
    have hm:=HX.out.re.mark HX.out.apart HX.out.nums fp (lL (it p.cl s on)) (m:=jz (M p.num) s on) (b:=shn p.num) hk (fun c=>by
     show qy c (it p.cl s on)=(decide (97≤c∧c≤122)&&(if c - 97+97=bt s 0 then on else (M p.num).cl (c - 97)))
     rw [Hw HL.out,B7.rm.cl p fp c]
     have hsb:=GF (oI HL.out).2
     by_cases e1:c=bt s 0
     ·rw [if_pos e1,if_pos (by omega),decide_eq_true (by omega)]
      rfl
     ·rw [if_neg e1]
      by_cases e2:97≤c∧c≤122
      ·rw [if_neg (by omega)]
      ·rw [decide_eq_false e2]
       rfl) (B7.rm.nm p fp) (B7.shw p fp) (JR HL.out on (B7.cls p fp))
    rw [wC] at hm
    exact HX.out.mark (lL _) hH hr hm
   clear p2 p2f kM xY
   cases on with
   | false=>
    have HE:Hid (fu w d els made hp vT vL Rr Gs M shn rs n s false (.returned (.int .i64 0)) W2):=gf.out W2 rB.out qT.out
    clear rB qT gf K7 TP Cf
    go_wp2
    go_ret
    exact HE.out
   | true=>
    have HE:Hid (fu w d els made hp vT vL Rr Gs M shn rs n s true (.returned (.int .i64 0)) (W2.setCell ⟨p.blk,2,none⟩ (.string (gG p.cl (bt s 0) p.cl.size++s)))):=by
     refine gf.out _ ?_ (qT.out.set (p:=⟨p.blk,2,none⟩) (Or.inl (Or.inr (Or.inl ⟨p,fp,rfl⟩))) _)
     have DI:((els.map (eu p.blk (gM (gG p.cl (bt s 0) p.cl.size)))).map REl.num).Nodup:=by
      rw [List.map_map]
      have:(els.map (REl.num ∘ eu p.blk (gM (gG p.cl (bt s 0) p.cl.size))))=els.map REl.num:=List.map_congr_left fun x _=>(fb (lL _) p.blk x).2.1
      rw [this]
      exact HX.out.nums
     have h1:=rB.out.setE DI TP.out (lL (gG p.cl (bt s 0) p.cl.size++s)) (o:=2) (u:=.string (gG p.cl (bt s 0) p.cl.size++s)) (by rw [Cf.out];rfl)
     rw [Cf.out] at h1
     have h2:(gM (gG p.cl (bt s 0) p.cl.size) p).blk=p.blk:=rfl
     rw [h2,Ih] at h1
     exact h1
    clear rB qT gf K7 TP Cf
    go_wp2
    go_ret
    exact HE.out
end
end Go.Proofs.YtblfffbmklkhmaaGreat
namespace Go.Proofs.YtblfffbmklkhmaaGreat
open Go.RowKit
section
set_option maxRecDepth 100000
set_option maxHeartbeats 4000000
variable (w:World) (d:Nat) (els:List REl) (made:Nat) (hp:Option Addr) (vT:Value) (aR:Bool) (vL:Value) (Rr:List dx) (Gs:Nat→Prop) (M:Nat→Mk) (shn:Nat→Bool) (rs:List cQ)
def fC (n:Int) (s:ByteArray) (e:Ending) (w':World):Prop:=
 (bM (aB els) n s≠0∧e=.returned (.int .i64 (bM (aB els) n s))∧w'=w)∨
 (bM (aB els) n s=0∧e=.returned (.int .i64 0)∧∃ p,aZ els n=some p∧(s.size=0∨ax s=true)∧RX w' d (els.map (eu p.blk (R7 s))) made hp vT false vL Rr Gs (bQ M n.toNat (fy (M n.toNat) s)) shn rs∧Fr w w' (gQ d els vL))
theorem xa (n:Int) (s:ByteArray) (h:RX w d els made hp vT aR vL Rr Gs M shn rs) :
  Calls Tryz.prog 150 #[.pointer (some ⟨d,0,none⟩),.int .i64 n,.string s] w fun e w'=>fC w d els made hp vT vL Rr Gs M shn rs n s e w':=by
 have HX:Hid (RX w d els made hp vT aR vL Rr Gs M shn rs):=h
 clear h
 go_enter Tryz.func150,Tryz.ntmps150
 go_wp2_with fail
 refine (eb w d els made hp vT aR vL n HX.out.rd).mono ?_
 rintro e w1 ⟨rfl,rfl⟩
 obtain ⟨w,rfl⟩:∃ w,w=w1:=⟨_,rfl⟩
 cases hf:aZ els n with
 | none=>
  have he:ey none=.pointer none:=rfl
  rw [he]
  have HE:Hid (fC w d els made hp vT vL Rr Gs M shn rs n s (.returned (.int .i64 5)) w):=by
   have hc:bM (aB els) n s=5:=by unfold bM;rw [co hf]
   exact Or.inl ⟨by rw [hc];decide,by rw [hc],rfl⟩
  clear he hf
  go_wp2
  go_ret
  exact HE.out
 | some p=>
  have he:ey (some p)=.pointer (some ⟨p.blk,0,none⟩):=rfl
  rw [he]
  have HF:Hid (aZ els n=some p):=hf
  clear he hf
  obtain ⟨fp,pc⟩:=cg HF.out
  have qm:Hid (p∈els∧(p.num:Int)=n):=⟨fp,pc⟩
  have d4:w.cell? ⟨d,4,none⟩=some (.bool aR):=aa HX.out.rd.doc rfl
  have Wz:w.frozen? ⟨d,4,none⟩=false:=ag HX.out.rd.doc
  have Qy:d<w.heap.size:=(Array.getElem?_eq_some_iff.1 HX.out.rd.doc).1
  have eV:p.blk≠d:=HX.out.ne fp
  have kM:Hid (RD (w.setCell ⟨d,4,none⟩ (.bool false)) d els made hp vT false vL):=HX.out.rd.setDoc' rfl
  have xY:Hid (Fr w (w.setCell ⟨d,4,none⟩ (.bool false)) (gQ d els vL)):=(Fr.refl w _).set (p:=⟨d,4,none⟩) (Or.inl (Or.inl rfl)) _
  have gf:Hid (∀ W1,RD W1 d els made hp vT false vL→Fr w W1 (gQ d els vL)→(s.size=0∨ax s=true)→fC w d els made hp vT vL Rr Gs M shn rs n s (.returned (.int .i64 0)) (W1.setCell ⟨p.blk,3,none⟩ (.string s))):=fun W1 hr hH hs=>by
   have hc:bM (aB els) n s=0:=by
    unfold bM
    rw [bT HF.out]
    refine if_neg ?_
    rintro ⟨h1,h2⟩
    rcases hs with hs | hs
    ·exact h1 hs
    ·rw [hs] at h2;cases h2
   have Fd:n.toNat=p.num:=by have:=qm.out.2;omega
   refine Or.inr ⟨hc,rfl,p,HF.out,hs,?_,hH.set (p:=⟨p.blk,3,none⟩) (Or.inl (Or.inr (Or.inl ⟨p,fp,rfl⟩))) _⟩
   rw [Fd]
   have B7:=HX.out.re
   have hm:=HX.out.re.mark HX.out.apart HX.out.nums fp (pT s) (m:=fy (M p.num) s) (b:=shn p.num) (B7.rm.kd p fp) (B7.rm.cl p fp) (by
    rcases hs with hs | hs
    ·left
     refine ⟨hs,?_⟩
     show (if s.size=0 then (0:Int) else (bt s 0:Int))=0
     rw [if_pos hs]
    ·right
     refine ⟨hs,?_⟩
     show (if s.size=0 then (0:Int) else (bt s 0:Int))=(bt s 0:Int)
     have hz:s.size=1:=by
      unfold ax at hs
      rw [Bool.and_eq_true,decide_eq_true_eq] at hs
      exact hs.1
     rw [if_neg (by omega)]) (B7.shw p fp) (B7.cls p fp)
   rw [wC] at hm
   exact HX.out.mark (pT _) (hH.set (p:=⟨p.blk,3,none⟩) (Or.inl (Or.inr (Or.inl ⟨p,fp,rfl⟩))) _) (hr.setE HX.out.nums fp (pT s) rfl) hm
  have sy:Hid (∀ W1,RD W1 d els made hp vT false vL→W1.cell? ⟨p.blk,3,none⟩=some (.string p.nm)∧W1.frozen? ⟨p.blk,3,none⟩=false∧p.blk<W1.heap.size):=fun W1 hr=>⟨aa (hr.el p fp) rfl,ag (hr.el p fp),(Array.getElem?_eq_some_iff.1 (hr.el p fp)).1⟩
  clear pc
  go_wp2_with fail
  refine (lT w s).mono ?_
  rintro e w1 ⟨rfl,rfl⟩
  obtain ⟨w,rfl⟩:∃ w,w=w1:=⟨_,rfl⟩
  cases hl:ax s with
  | false=>
   by_cases hz:s.size=0
   ·have HL:Hid (s.size=0∨ax s=true):=Or.inl hz
    have PV:=dX hz
    have gz:s.toList.isEmpty=true:=by rw [PV];unfold ByteArray.toList;unfold ByteArray.toList.loop;rw [if_neg (by decide)];rfl
    clear hl hz PV
    go_upto_region 8 with fail
    generalize w.setCell ⟨d,4,none⟩ (.bool false)=W1 at kM xY ⊢
    obtain ⟨p3,p3f,kL⟩:=sy.out W1 kM.out
    have HE:=gf.out W1 kM.out xY.out HL.out
    have Ur:Hid (fC w d els made hp vT vL Rr Gs M shn rs n s (.returned (.int .i64 0)) (W1.setCell ⟨p.blk,3,none⟩ (.string s))):=HE
    clear HE d4 Wz gf sy kM xY gz
    go_wp2
    go_ret
    exact Ur.out
   ·have HE:Hid (fC w d els made hp vT vL Rr Gs M shn rs n s (.returned (.int .i64 4)) w):=by
     have hc:bM (aB els) n s=4:=by unfold bM;rw [bT HF.out];exact if_pos ⟨hz,hl⟩
     exact Or.inl ⟨by rw [hc];decide,by rw [hc],rfl⟩
    have gz:=fR s (by omega)
    clear hl hz gf sy kM xY
    go_wp2
    go_ret
    exact HE.out
  | true=>
   have HL:Hid (s.size=0∨ax s=true):=Or.inr hl
   clear hl
   go_upto_region 8 with fail
   generalize w.setCell ⟨d,4,none⟩ (.bool false)=W1 at kM xY ⊢
   obtain ⟨p3,p3f,kL⟩:=sy.out W1 kM.out
   have HE:=gf.out W1 kM.out xY.out HL.out
   have Ur:Hid (fC w d els made hp vT vL Rr Gs M shn rs n s (.returned (.int .i64 0)) (W1.setCell ⟨p.blk,3,none⟩ (.string s))):=HE
   clear HE d4 Wz gf sy kM xY
   go_wp2
   go_ret
   exact Ur.out
def p9 (s:ByteArray) (e:Ending) (w':World):Prop:=
 e=.returned (.int .i64 (fa s).1)∧(((fa s).1≠0∧Below w.heap.size w w')∨
 ((fa s).1=0∧∃ pa XT,RX w' d els made pa vT false vL XT (fun k=>w.heap.size≤k∧k<w'.heap.size) M shn (dQ s)∧Fr w w' (gQ d els vL)))
theorem C1 (s:ByteArray) (hs:s.size≤maxLen) (h:RX w d els made hp vT aR vL Rr Gs M shn rs) :
  Calls Tryz.prog 104 #[.pointer (some ⟨d,0,none⟩),.string s] w fun e w'=>p9 w d els made vT vL M shn s e w':=by
 have HX:Hid (RX w d els made hp vT aR vL Rr Gs M shn rs):=h
 clear h
 go_enter Tryz.func104,Tryz.ntmps104
 go_wp2_with fail
 refine (rr _ s hs).mono ?_
 intro e w1 dB
 by_cases hc:(fa s).1=0
 ·obtain ⟨pa,XT,rfl,hB,hSh,VY,bw⟩:=tH hs dB hc
  have kM:Hid (RD w1 d els made hp vT aR vL):=HX.out.rd.keep (fun k _ hl=>hB.block k hl)
  have rB:Hid (RD (w1.setCell ⟨d,0,none⟩ (.pointer pa)) d els made pa vT aR vL):=kM.out.setDoc' rfl
  have Qy:d<w1.heap.size:=(Array.getElem?_eq_some_iff.1 kM.out.doc).1
  have c0:w1.cell? ⟨d,0,none⟩=some (.pointer hp):=aa kM.out.doc rfl
  have c4:w1.cell? ⟨d,4,none⟩=some (.bool aR):=aa kM.out.doc rfl
  have df:∀ k,w1.frozen? ⟨d,k,none⟩=false:=fun k=>ag kM.out.doc
  have HE:Hid (p9 w d els made vT vL M shn s (.returned (.int .i64 0)) ((w1.setCell ⟨d,0,none⟩ (.pointer pa)).setCell ⟨d,4,none⟩ (.bool false))):=by
   refine ⟨by rw [hc],Or.inr ⟨hc,pa,XT,?_,?_⟩⟩
   ·have hX:=HX.out
    have rt:=CV hX.rd
    have hdw:d<w.heap.size:=rt d (Or.inl rfl)
    have hk:∀ k,(w.heap.size≤k∧k<w1.heap.size)→k<w1.heap.size→((w1.setCell ⟨d,0,none⟩ (.pointer pa)).setCell ⟨d,4,none⟩ (.bool false)).heap[k]?=w1.heap[k]?:=fun k hk _=>
     (Below.heap_setCell _ _ _ _ (by show k≠d;omega)).trans (Below.heap_setCell _ _ _ _ (by show k≠d;omega))
    have hz:((w1.setCell ⟨d,0,none⟩ (.pointer pa)).setCell ⟨d,4,none⟩ (.bool false)).heap.size=w1.heap.size:=by simp
    refine ⟨rB.out.setDoc' rfl,hX.tw,hX.re,?_,VY,bw,fun hh=>(by cases hh),fun k hk=>hk.2,fun k hk hx=>?_⟩
    ·have:=hSh.keep hk (by omega)
     rw [←hz] at this
     exact this
    ·have:=rt k hx;omega
   ·exact (((Fr.refl w _).below hB).set (p:=⟨d,0,none⟩) (Or.inl (Or.inl rfl)) _).set (p:=⟨d,4,none⟩) (Or.inl (Or.inl rfl)) _
  generalize (fa s).2=c2
  clear hB hSh VY bw dB kM rB hc
  go_wp2
  go_ret
  exact HE.out
 ·obtain ⟨pa,rfl,hB,_⟩:=dB
  have HE:Hid (p9 w d els made vT vL M shn s (.returned (.int .i64 (fa s).1)) w1):=⟨rfl,Or.inl ⟨hc,hB⟩⟩
  have gc:((fa s).1==0)=false:=by simp [hc]
  generalize (fa s).2=c2
  generalize (fa s).1=c1 at gc hc HE ⊢
  clear hB
  go_wp2
  go_ret
  exact HE.out
end
end Go.Proofs.YtblfffbmklkhmaaGreat
namespace Go.Proofs.YtblfffbmklkhmaaGreat
open Go.RowKit
section
set_option maxRecDepth 100000
set_option maxHeartbeats 4000000
variable (w:World) (b:Nat) (a:Option Addr) (c:Nat) (els:List PEl) (n:Int)
theorem IK {els:List PEl} {n:Int} (h:∀ j (_:j<els.length),¬ els[j].par=n):f9 els n=(bU els n).isSome:=by
 unfold f9
 have:(els.all fun y=>decide (¬ y.par=n))=true:=by
  rw [List.all_eq_true]
  intro y hy
  obtain ⟨j,hj,rfl⟩:=List.getElem_of_mem hy
  simpa using h j hj
 rw [this,Bool.true_and]
theorem Kl {els:List PEl} {n:Int} {j:Nat} (hj:j<els.length) (h:els[j].par=n):f9 els n=false:=by
 unfold f9
 have:(els.all fun y=>decide (¬ y.par=n))=false:=by
  rw [List.all_eq_false]
  exact ⟨els[j],List.getElem_mem hj,by simp [h]⟩
 rw [this,Bool.false_and]
theorem El (h:TRd w b a c els):Calls Tryz.prog 230 #[.pointer (some ⟨b,1,none⟩),.int .i64 n] w fun e w'=>bh w (f9 els n) e w':=by
 have HT:Hid (TRd w b a c els):=h
 have bw:=h.few
 have q0:=h.cell
 clear h
 go_enter Tryz.func230,Tryz.ntmps230
 go_wp2_with fail
 go_loopg [12] els.length (fun gk iv wr=>∃ (i:Nat),iv=.int .i64 i∧i≤els.length∧els.length - i≤gk∧Hid (Below w.heap.size w wr∧∀ j (_:j<els.length),j<i→¬ els[j].par=n))
 case atStart=>exact ⟨0,rfl,Nat.zero_le _,by omega,Below.refl _ _,fun j _ h=>by omega⟩
 case round=>
  obtain ⟨i,rfl,jC,fK,HN⟩:=hrel
  by_cases aN:i<els.length
  ·have hd:decide ((i:Int)<(els.length:Int))=true:=by simp;omega
   obtain ⟨g,hg,db,he⟩:=HT.out.pl.el aN
   subst hg
   have HE:Hid (ElAt wr g (i*31) els[i].cells els[i].num els[i].par):=he.below HN.out.1 db
   have HY:Hid (els[i].par=n→f9 els n=false):=fun h=>Kl aN h
   have jl:Hid (¬ els[i].par=n→∀ j (_:j<els.length),j<i+1→¬ els[j].par=n):=fun hm j hj h1=>by
    by_cases e:j=i
    ·subst e;exact hm
    ·exact HN.out.2 j hj (by omega)
   clear he q0
   generalize els[i].par=py at HE HY jl
   generalize els[i].num=ny at HE
   generalize els[i].cells=cs at HE
   have c1:cs[1]?=some (.int .i64 py):=HE.out.c1
   have ea:Hid (Below w.heap.size w (wr.alloc (.cells cs.toArray 134))):=HN.out.1.alloc HN.out.1.size _
   by_cases hp:py=n
   ·have gp:(py==n)=true:=by simp [hp]
    have HR:Hid (bh w (f9 els n) (.returned (.bool false)) (wr.alloc (.cells cs.toArray 134))):=⟨by rw [HY.out hp],ea.out⟩
    clear hp
    go_wp2_with (first | (refine wpList_load_mid rfl 134 _ rfl g (i*31) rfl cs _ HE.out.rng Tryz.underlying134 rfl HE.out.size ?_) | (refine aw rfl 134 _ _ rfl _ cs.toArray 134 rfl rfl HE.out.size' HE.out.same HE.out.all ?_))
    go_ret
    exact HR.out
   ·have gp:(py==n)=false:=by simp [hp]
    have nR:Hid (Below w.heap.size w (wr.alloc (.cells cs.toArray 134))∧∀ j (_:j<els.length),j<i+1→¬ els[j].par=n):=⟨ea.out,jl.out hp⟩
    clear hp
    go_wp2_with (first | (refine wpList_load_mid rfl 134 _ rfl g (i*31) rfl cs _ HE.out.rng Tryz.underlying134 rfl HE.out.size ?_) | (refine aw rfl 134 _ _ rfl _ cs.toArray 134 rfl rfl HE.out.size' HE.out.same HE.out.all ?_))
    go_roundg (els.length - (i+1))
    case measure=>omega
    case rel=>exact ⟨i+1,by go_num,by omega,Nat.le_refl _,nR⟩
  ·have hd:decide ((i:Int)<(els.length:Int))=false:=by simp;omega
   have HY:Hid (f9 els n=(bU els n).isSome):=IK (fun j hj=>HN.out.2 j hj (by omega))
   have I2:Hid (TRd wr b a c els):=HT.out.below HN.out.1
   have iS:=HN.out.1.size
   clear q0
   go_wp2_with fail
   refine (Af wr b a c els n I2.out).mono ?_
   rintro e w1 ⟨rfl,cF⟩
   have HR:Hid (bh w (f9 els n) (.returned (.bool (bU els n).isSome)) w1):=⟨by rw [HY.out],HN.out.1.trans (cF.mono iS)⟩
   clear cF
   generalize (bU els n).isSome=r at HR ⊢
   go_wp2
   go_ret
   exact HR.out
theorem Mp (place st sr:Int) (h1:0≤place∧place≤100) (h2:-48≤st∧st≤207) (h3:-48≤sr∧sr≤207):Calls Tryz.prog 231 #[.int .i64 place,.int .i64 st,.int .i64 sr] w fun e w'=>bh w (ld place st sr) e w':=by
 obtain ⟨h1a,h1b⟩:=h1
 obtain ⟨h2a,h2b⟩:=h2
 obtain ⟨h3a,h3b⟩:=h3
 by_cases hs:st≤0
 ·have HR:Hid (ld place st sr=(place==sr)):=by unfold Hid ld;rw [if_pos (Or.inl hs)]
  have d1:decide (st≤0)=true:=by simpa using hs
  clear hs
  have HE:Hid (∀ r,(place==sr)=r→bh w (ld place st sr) (.returned (.bool r)) w):=fun r hr=>⟨by rw [HR.out,hr],Below.refl _ _⟩
  go_enter Tryz.func231,Tryz.ntmps231
  go_wp2
  go_ret
  exact HE.out _ rfl
 have d1:decide (st≤0)=false:=by simpa using hs
 by_cases hp:place<sr
 ·have HR:Hid (ld place st sr=(place==sr)):=by unfold Hid ld;rw [if_pos (Or.inr hp)]
  have d2:decide (place<sr)=true:=by simpa using hp
  clear hs hp
  have HE:Hid (∀ r,(place==sr)=r→bh w (ld place st sr) (.returned (.bool r)) w):=fun r hr=>⟨by rw [HR.out,hr],Below.refl _ _⟩
  go_enter Tryz.func231,Tryz.ntmps231
  go_wp2
  go_ret
  exact HE.out _ rfl
 ·have d2:decide (place<sr)=false:=by simpa using hp
  have HR:Hid (ld place st sr=((place - sr) % st==0)):=by
   unfold Hid ld
   rw [if_neg (by omega)]
  have Al:(st==0)=false:=by rw [beq_eq_false_iff_ne];omega
  have acY:st≠0:=by omega
  have ad2:(st==-1)=false:=by rw [beq_eq_false_iff_ne];omega
  have HE:Hid (∀ r,((place - sr) % st==0)=r→bh w (ld place st sr) (.returned (.bool r)) w):=fun r hr=>⟨by rw [HR.out,hr],Below.refl _ _⟩
  clear hs
  go_enter Tryz.func231,Tryz.ntmps231
  go_wp2
  go_ret
  exact HE.out _ rfl
theorem wL (a2:Option Addr) (l:List Int) (c2:Nat) (hl:l.length≤24) (hc:l.length≤c2) (yI:c2≤maxLen) (h:RowI w a2 l):Calls Tryz.prog 222 #[.slice a2 l.length c2] w fun e w'=>jN w (l.take 1) e w':=by
 have HL:Hid (RowI w a2 l):=h
 clear h
 have HM:Hid (c2≤maxLen):=yI
 unfold maxLen at yI
 cases l with
 | nil=>
  have HE:Hid (jN w (([]:List Int).take 1) (.returned (.slice none 0 0)) w):=⟨none,0,rfl,Nat.le_refl _,Nat.zero_le _,fun i hi=>absurd hi (by simp),Below.refl _ _⟩
  have hz:(([]:List Int).length:Int)=0:=rfl
  go_enter Tryz.func222,Tryz.ntmps222
  go_wp2
  go_ret
  exact HE.out
 | cons x l=>
  obtain ⟨g,hg,db,hq⟩:=HL.out 0 (by simp)
  subst hg
  have HE:Hid (jN w ((x :: l).take 1) (.returned (.slice (some ⟨g,0,none⟩) 1 c2)) w):=⟨some ⟨g,0,none⟩,c2,rfl,by simp at hc ⊢;omega,HM.out,fun i hi=>⟨g,rfl,db,by
   obtain rfl:i=0:=by simpa using hi
   exact hq⟩,Below.refl _ _⟩
  simp only [List.length_cons] at hl hc ⊢
  generalize l.length=k at hl hc ⊢
  have hz:(((k+1:Nat):Int)==0)=false:=by rw [beq_eq_false_iff_ne];omega
  clear hq
  go_enter Tryz.func222,Tryz.ntmps222
  go_wp2
  go_ret
  exact HE.out
end
end Go.Proofs.YtblfffbmklkhmaaGreat
namespace Go.Proofs.YtblfffbmklkhmaaGreat
open Go.RowKit
section
set_option maxRecDepth 100000
set_option maxHeartbeats 4000000
variable (w:World) (b:Nat) (a:Option Addr) (c:Nat) (els:List PEl) (n:Int)
theorem Ao (sg:Int) (h:TRd w b a c els):Calls Tryz.prog 217 #[.int .u8 sg,.pointer (some ⟨b,1,none⟩),.int .i64 n] w fun e w'=>jN w (cK els sg n) e w':=by
 have HT:Hid (TRd w b a c els):=h
 have bw:=h.few
 clear h
 have hal:(bp els els.length n).length≤24:=by
  have:∀ k m,(bp els k m).length≤k:=by
   intro k
   induction k with
   | zero=>intro m;simp [bp]
   | succ k ih=>
    intro m
    show (if parP els m=-1 then [] else _).length≤_
    split
    ·simp
    ·have:=ih (parP els m);simp;omega
  have:=this els.length n
  omega
 have hhl:=lI els n
 by_cases h1:sg=32
 ·have g1:(sg==32)=true:=by simp [h1]
  have HR:Hid (cK els sg n=bp els els.length n):=by unfold Hid cK;rw [if_pos h1]
  clear h1
  go_enter Tryz.func217,Tryz.ntmps217
  go_wp2_with fail
  refine (uD w b a c els n HT.out).mono ?_
  rintro e w1 ⟨a2,c2,rfl,k1,k2,k3,hB⟩
  have HE:Hid (jN w (cK els sg n) (.returned (.slice a2 (bp els els.length n).length c2)) w1):=by unfold Hid;rw [HR.out];exact ⟨a2,c2,rfl,k1,k2,k3,hB⟩
  clear k1 k2 k3 hB
  go_wp2
  go_ret
  exact HE.out
 have g1:(sg==32)=false:=by simp [h1]
 by_cases h2:sg=62
 ·have g2:(sg==62)=true:=by simp [h2]
  have HR:Hid (cK els sg n=(bp els els.length n).take 1):=by unfold Hid cK;rw [if_neg h1,if_pos h2]
  clear h1 h2
  go_enter Tryz.func217,Tryz.ntmps217
  go_wp2_with fail
  refine (uD w b a c els n HT.out).mono ?_
  rintro e w1 ⟨a2,c2,rfl,k1,k2,k3,hB⟩
  have HK:Hid ((bp els els.length n).length≤c2∧c2≤maxLen∧RowI w1 a2 (bp els els.length n)∧Below w.heap.size w w1):=⟨k1,k2,k3,hB⟩
  clear k1 k2 k3 hB
  go_wp2_with fail
  refine (wL w1 a2 (bp els els.length n) c2 hal HK.out.1 HK.out.2.1 HK.out.2.2.1).mono ?_
  rintro e w2 ⟨a3,c3,rfl,k1,k2,k3,hB⟩
  have HE:Hid (jN w (cK els sg n) (.returned (.slice a3 ((bp els els.length n).take 1).length c3)) w2):=by unfold Hid;rw [HR.out];exact ⟨a3,c3,rfl,k1,k2,k3,HK.out.2.2.2.trans (hB.mono HK.out.2.2.2.size)⟩
  clear k1 k2 k3 hB
  generalize ((bp els els.length n).take 1).length=m at HE ⊢
  go_wp2
  go_ret
  exact HE.out
 have g2:(sg==62)=false:=by simp [h2]
 by_cases h3:sg=126
 ·have g3:(sg==126)=true:=by simp [h3]
  have HR:Hid (cK els sg n=bJ els n):=by unfold Hid cK;rw [if_neg h1,if_neg h2,if_pos h3]
  clear h1 h2 h3
  go_enter Tryz.func217,Tryz.ntmps217
  go_wp2_with fail
  refine (oQ w b a c els n HT.out).mono ?_
  rintro e w1 ⟨a2,c2,rfl,k1,k2,k3,hB⟩
  have HE:Hid (jN w (cK els sg n) (.returned (.slice a2 (bJ els n).length c2)) w1):=by unfold Hid;rw [HR.out];exact ⟨a2,c2,rfl,k1,k2,k3,hB⟩
  clear k1 k2 k3 hB
  go_wp2
  go_ret
  exact HE.out
 have g3:(sg==126)=false:=by simp [h3]
 by_cases h4:sg=43
 ·have g4:(sg==43)=true:=by simp [h4]
  have HR:Hid (cK els sg n=(bJ els n).take 1):=by unfold Hid cK;rw [if_neg h1,if_neg h2,if_neg h3,if_pos h4]
  clear h1 h2 h3 h4
  go_enter Tryz.func217,Tryz.ntmps217
  go_wp2_with fail
  refine (oQ w b a c els n HT.out).mono ?_
  rintro e w1 ⟨a2,c2,rfl,k1,k2,k3,hB⟩
  have HK:Hid ((bJ els n).length≤c2∧c2≤maxLen∧RowI w1 a2 (bJ els n)∧Below w.heap.size w w1):=⟨k1,k2,k3,hB⟩
  clear k1 k2 k3 hB
  go_wp2_with fail
  refine (wL w1 a2 (bJ els n) c2 (by omega) HK.out.1 HK.out.2.1 HK.out.2.2.1).mono ?_
  rintro e w2 ⟨a3,c3,rfl,k1,k2,k3,hB⟩
  have HE:Hid (jN w (cK els sg n) (.returned (.slice a3 ((bJ els n).take 1).length c3)) w2):=by unfold Hid;rw [HR.out];exact ⟨a3,c3,rfl,k1,k2,k3,HK.out.2.2.2.trans (hB.mono HK.out.2.2.2.size)⟩
  clear k1 k2 k3 hB
  generalize ((bJ els n).take 1).length=m at HE ⊢
  go_wp2
  go_ret
  exact HE.out
 ·have g4:(sg==43)=false:=by simp [h4]
  have HR:Hid (cK els sg n=[]):=by unfold Hid cK;rw [if_neg h1,if_neg h2,if_neg h3,if_neg h4]
  clear h1 h2 h3 h4
  have HE:Hid (jN w (cK els sg n) (.returned (.slice none 0 0)) w):=by unfold Hid;rw [HR.out];exact ⟨none,0,rfl,Nat.le_refl _,Nat.zero_le _,fun i hi=>absurd hi (by simp),Below.refl _ _⟩
  go_enter Tryz.func217,Tryz.ntmps217
  go_wp2
  go_ret
  exact HE.out
theorem Ix (h:TRd w b a c els):Calls Tryz.prog 229 #[.pointer (some ⟨b,1,none⟩),.int .i64 n] w fun e w'=>bh w (jg els n) e w':=by
 have HT:Hid (TRd w b a c els):=h
 have bw:=h.few
 clear h
 go_enter Tryz.func229,Tryz.ntmps229
 go_wp2_with fail
 refine (dq w b _ els n HT.out.cell HT.out.pl HT.out.few).mono ?_
 rintro e w1 ⟨hB,⟨hf,rfl⟩ | ⟨ip,x,hx,hf,rfl⟩⟩
 ·have HE:Hid (bh w (jg els n) (.returned (.bool false)) w1):=by unfold jg;rw [hf];exact ⟨rfl,hB⟩
  clear hf hB
  go_wp2
  go_ret
  exact HE.out
 ·have nZ:ip<els.length:=(List.getElem?_eq_some_iff.1 hx).1
  have mZ:els[ip]=x:=(List.getElem?_eq_some_iff.1 hx).2
  have HA:Hid (jg els n=(els.drop (ip+1)).all fun y=>decide (¬ y.par=x.par)):=by
   unfold Hid jg
   rw [hf]
   have h1:=(du hf).2
   have h2:=oJ HT.out.nums hx
   rw [h1] at h2
   show ((els.drop (kO els n+1)).all fun y=>decide (¬ y.par=x.par))=_
   rw [h2]
  have T1:=HT.out.below hB
  have LE:=lP T1.pl.row
  have FX:c≤maxLen:=kS T1.pl.row
  obtain ⟨g,hg,db,he⟩:=T1.pl.el nZ
  subst hg
  have q1:=he.cell1
  rw [mZ] at q1
  have q0:=T1.cell
  have jC:(ip:Int)<(els.length:Int):=by omega
  have ed:Hid (Below w.heap.size w w1):=hB
  have fT:(Tryz.prog.info? 134).map (·.size)=some 31:=Tryz.size134
  unfold maxLen at FX
  clear hf hB hx mZ he T1
  generalize x.par=par at HA q1
  have jI:=HT.out.lt
  have hgw:g<w.heap.size:=by
   obtain ⟨g2,hJ,mj,_⟩:=HT.out.pl.el nZ
   injection hJ with hJ
   injection hJ with hJ _ _
   subst hJ
   exact mj
  have HQ:Hid (w.cell? ⟨g,ip*31+1,none⟩=some (.int .i64 par)):=(ed.out.cell (p:=⟨g,ip*31+1,none⟩) hgw).symm.trans q1
  go_wp2_with fail
  case inl=>
   rename_i Gk
   have oz:els.length=ip+1:=by omega
   have HR:Hid (bh w (jg els n) (.returned (.bool true)) w1):=⟨by rw [HA.out,List.drop_of_length_le (by omega)];rfl,ed.out⟩
   have e0:els.length - (ip+1)=0:=by omega
   rw [e0]
   clear oz e0 jC nZ LE HA
   go_loopg [25] 0 (fun gk iv wr=>iv=.int .i64 0∧wr=w1)
   case atStart=>exact ⟨rfl,rfl⟩
   case round=>
    obtain ⟨rfl,rfl⟩:=hrel
    go_wp2
    go_ret
    exact HR.out
  case inr=>
   rename_i Gk
   obtain ⟨m,hm⟩:∃ m,els.length - (ip+1)=m:=⟨_,rfl⟩
   have Xg:m≤24:=by omega
   have HM:Hid (els.length - (ip+1)=m):=hm
   rw [hm]
   clear hm q0 q1
   go_loopg [25] m (fun gk iv wr=>∃ i:Nat,iv=.int .i64 i∧i≤m∧m - i≤gk∧Hid (Below w.heap.size w wr∧∀ j (hj:ip+1+j<els.length),j<i→¬ els[ip+1+j].par=par))
   case atStart=>exact ⟨0,rfl,Nat.zero_le _,by omega,ed.out,fun j _ h=>by omega⟩
   case round=>
    obtain ⟨i,rfl,hi,fK,HN⟩:=hrel
    by_cases aN:i<m
    ·have hd:decide ((i:Int)<(m:Int))=true:=by simp;omega
     have QE:ip+1+i<els.length:=by have:=HM.out;omega
     obtain ⟨g2,hJ,mj,he⟩:=HT.out.pl.el QE
     injection hJ with hJ
     injection hJ with hJ _ _
     subst hJ
     have HE:Hid (ElAt wr g ((ip+1)*31+i*31) els[ip+1+i].cells els[ip+1+i].num els[ip+1+i].par):=by
      rw [show (ip+1)*31+i*31=(ip+1+i)*31 from by omega]
      exact he.below HN.out.1 mj
     have q0:wr.cell? ⟨b,1,none⟩=some (.slice (some ⟨g,0,none⟩) els.length c):=(HN.out.1.cell (p:=⟨b,1,none⟩) jI).trans HT.out.cell
     have q1:wr.cell? ⟨g,ip*31+1,none⟩=some (.int .i64 par):=(HN.out.1.cell (p:=⟨g,ip*31+1,none⟩) hgw).trans HQ.out
     have iS:=HN.out.1.size
     have XP:b<wr.heap.size:=by omega
     have adE:g<wr.heap.size:=by omega
     have HY:Hid (els[ip+1+i].par=par→jg els n=false):=fun h=>by
      rw [HA.out,List.all_eq_false]
      refine ⟨els[ip+1+i],?_,by simp [h]⟩
      rw [List.mem_iff_getElem]
      exact ⟨i,by simp;omega,by simp⟩
     have jl:Hid (¬ els[ip+1+i].par=par→∀ j (hj:ip+1+j<els.length),j<i+1→¬ els[ip+1+j].par=par):=fun hm j hj h1=>by
      by_cases e:j=i
      ·subst e;exact hm
      ·exact HN.out.2 j hj (by omega)
     clear he
     generalize els[ip+1+i].par=py at HE HY jl
     generalize els[ip+1+i].num=ny at HE
     generalize els[ip+1+i].cells=cs at HE
     have c1:cs[1]?=some (.int .i64 py):=HE.out.c1
     have ea:Hid (∀ k,Below w.heap.size w ((wr.alloc (.cells cs.toArray 134)).drewN k)):=fun k=>Bs (HN.out.1.alloc iS _) k
     by_cases hp:py=par
     ·have gp:(py==par)=true:=by simp [hp]
      have HR:Hid (∀ k,bh w (jg els n) (.returned (.bool false)) ((wr.alloc (.cells cs.toArray 134)).drewN k)):=fun k=>⟨by rw [HY.out hp],ea.out k⟩
      clear hp
      go_upto_region 7 with (first | (refine wpList_load_mid rfl 134 _ rfl g ((ip+1)*31+i*31) rfl cs _ HE.out.rng Tryz.underlying134 rfl HE.out.size ?_) | (refine aw rfl 134 _ _ rfl _ cs.toArray 134 rfl rfl HE.out.size' HE.out.same HE.out.all ?_))
      go_quiet (fail)
      go_wp2
      go_ret
      exact HR.out _
     ·have gp:(py==par)=false:=by simp [hp]
      have nR:Hid (∀ k,Below w.heap.size w ((wr.alloc (.cells cs.toArray 134)).drewN k)∧∀ j (hj:ip+1+j<els.length),j<i+1→¬ els[ip+1+j].par=par):=fun k=>⟨ea.out k,jl.out hp⟩
      clear hp
      go_upto_region 7 with (first | (refine wpList_load_mid rfl 134 _ rfl g ((ip+1)*31+i*31) rfl cs _ HE.out.rng Tryz.underlying134 rfl HE.out.size ?_) | (refine aw rfl 134 _ _ rfl _ cs.toArray 134 rfl rfl HE.out.size' HE.out.same HE.out.all ?_))
      go_quiet (fail)
      go_wp2
      go_roundg (m - (i+1))
      case measure=>omega
      case rel=>exact ⟨i+1,by go_num,by omega,Nat.le_refl _,nR.out _⟩
    ·have hd:decide ((i:Int)<(m:Int))=false:=by simp;omega
     have HR:Hid (bh w (jg els n) (.returned (.bool true)) wr):=by
      refine ⟨?_,HN.out.1⟩
      have:jg els n=true:=by
       rw [HA.out,List.all_eq_true]
       intro y hy
       rw [List.mem_iff_getElem] at hy
       obtain ⟨j,hj,rfl⟩:=hy
       simp only [List.length_drop] at hj
       rw [List.getElem_drop]
       simpa using HN.out.2 j (by omega) (by have:=HM.out;omega)
      rw [this]
     go_wp2
     go_ret
     exact HR.out
end
end Go.Proofs.YtblfffbmklkhmaaGreat
