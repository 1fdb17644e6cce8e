import Derived.Test.YtblfffbmklkhmaaGreatSt31
namespace Go.Proofs.YtblfffbmklkhmaaGreat
open Go.RowKit
def ValRel (t:ByteArray) (kd nu va:Int):Prop:=
 (t.size=1∧bt t 0=105∧kd=2)∨(t.size=1∧bt t 0=114∧kd=3)∨(t.size=1∧bt t 0=117∧kd=4)∨
 (t.size=2∧bt t 0=36∧kd=5∧va=bt t 1∧qH (bt t 1)=true)∨
 (kd=1∧0<t.size∧t.size≤3∧(∀ k,k<t.size→fk (bt t k)=true)∧nu=(i9 t t.size:Nat))
theorem ValRel.pos {t:ByteArray} {kd nu va:Int} (h:ValRel t kd nu va):0<t.size:=by
 rcases h with h | h | h | h | h<;>omega
structure CI (rd:dg) (d:PDc):Prop where
 pr:(rd.pr:Int)=d.pr
 isp:ua rd.pr=true
 im:rd.must=d.im
 val:ValRel rd.val d.kd d.nu d.va
structure vC (r:dx) (p:cQ):Prop where
 ly:r.ly=p.ly
 sels:Rel2 DE r.sels p.ss
 dl:Rel2 CI r.dl p.ds
 fs:r.sels.length≤400
 fd:r.dl.length≤400
theorem oW (c:Nat):eh c=bj (c:Int):=by
 unfold eh bj
 by_cases h1:65≤c∧c≤70
 ·rw [if_pos h1,if_pos (by omega)]
  congr 1
  omega
 ·have tR:¬ (65≤(c:Int)∧(c:Int)<71):=by omega
  rw [if_neg h1,if_neg tR]
  by_cases h2:88≤c∧c≤90
  ·have C7:88≤(c:Int)∧(c:Int)<91:=by omega
   rw [if_pos h2,if_pos C7]
   congr 1
   omega
  ·have C7:¬ (88≤(c:Int)∧(c:Int)<91):=by omega
   rw [if_neg h2,if_neg C7]
theorem xU {c:Nat} (h:ua c=true):∃ q,eh c=some q∧q<9:=by
 unfold ua qH at h
 rw [Bool.or_eq_true,decide_eq_true_eq,decide_eq_true_eq] at h
 unfold eh
 rcases h with h | h
 ·rw [if_pos h];exact ⟨_,rfl,by omega⟩
 ·rw [if_neg (by omega),if_pos h];exact ⟨_,rfl,by omega⟩
def G0 (n:Int) (o:ByteArray × Cl) (c:Clm):Prop:=
 (o.1.size=0∧c=Clm.none)∨(c.th=true∧ValRel o.1 c.kd c.nu c.va∧o.2.d.must=c.im∧o.2.ly=c.ly∧o.2.hv=c.wt∧o.2.no≤n)
def RowRel (n:Int) (R:Nat→ByteArray × Cl) (W:List Clm):Prop:=W.length=9∧∀ q,q<9→G0 n (R q) (W.getD q Clm.none)
theorem RowRel.mono {n m:Int} {R:Nat→ByteArray × Cl} {W:List Clm} (h:RowRel n R W) (hn:n≤m):RowRel m R W:=by
 refine ⟨h.1,fun q hq=>?_⟩
 rcases h.2 q hq with h1 | ⟨h1,h2,h3,h4,h5,h6⟩
 ·exact Or.inl h1
 ·exact Or.inr ⟨h1,h2,h3,h4,h5,by omega⟩
theorem zj {W:List Clm} {C:Clm} {i j:Nat} (h:i≠j):(W.set i C).getD j Clm.none=W.getD j Clm.none:=by
 rw [List.getD_eq_getElem?_getD,List.getD_eq_getElem?_getD,List.getElem?_set_ne h]
theorem yR {W:List Clm} {C:Clm} {i:Nat} (h:i<W.length):(W.set i C).getD i Clm.none=C:=by
 rw [List.getD_eq_getElem?_getD,List.getElem?_set_self h]
 rfl
theorem Er {n:Int} {o:ByteArray × Cl} {c:Clm} (h:G0 n o c) {rd:dg} {d:PDc} (hd:CI rd d) (ly wt no:Int) (mm:n<no):(o.1.size=0∨t7 {d:=rd,ly:=ly,hv:=wt,no:=no} o.2=true)↔fX (kB ly wt d) c=true:=by
 rcases h with ⟨h1,rfl⟩ | ⟨h1,h2,h3,h4,h5,h6⟩
 ·constructor
  ·intro _;rfl
  ·intro _;exact Or.inl h1
 ·have hp:=h2.pos
  have hz:¬ o.1.size=0:=by omega
  have hth:¬ c.th=false:=by rw [h1];simp
  unfold fX t7 lu
  rw [if_neg hth]
  show _↔(if d.im≠c.im then d.im else if ly≠c.ly then decide (ly<c.ly)==d.im else decide (c.wt≤wt))=true
  have e1:rd.must=d.im:=hd.im
  show (o.1.size=0∨(if rd.must≠o.2.d.must then rd.must else if ly≠o.2.ly then (if rd.must=true then decide (ly<o.2.ly) else decide (o.2.ly<ly)) else if wt≠o.2.hv then decide (o.2.hv<wt) else decide (o.2.no<no))=true)↔_
  rw [e1,h3,h4,h5]
  by_cases k1:d.im≠c.im
  ·rw [if_pos k1,if_pos k1]
   exact ⟨fun h=>h.resolve_left hz,Or.inr⟩
  rw [if_neg k1,if_neg k1]
  by_cases k2:ly≠c.ly
  ·rw [if_pos k2,if_pos k2]
   constructor
   ·intro h
    have h:=h.resolve_left hz
    cases hi:d.im with
    | true=>rw [hi,if_pos rfl] at h;rw [h];rfl
    | false=>
     rw [hi,if_neg (by simp),decide_eq_true_eq] at h
     rw [decide_eq_false (by omega)]
     rfl
   ·intro h
    right
    cases hi:d.im with
    | true=>
     rw [hi] at h
     rw [if_pos rfl]
     simpa using h
    | false=>
     rw [hi] at h
     rw [if_neg (by simp),decide_eq_true_eq]
     have:¬ ly<c.ly:=by simpa using h
     omega
  rw [if_neg k2,if_neg k2]
  by_cases k3:wt≠c.wt
  ·rw [if_pos k3,decide_eq_true_eq,decide_eq_true_eq]
   constructor
   ·intro h
    have h:=h.resolve_left hz
    omega
   ·intro h
    right
    omega
  ·rw [if_neg k3,decide_eq_true_eq,decide_eq_true_eq]
   constructor
   ·intro _;omega
   ·intro _;right;omega
theorem LX {n:Int} {R:Nat→ByteArray × Cl} {W:List Clm} (h:RowRel n R W) {rd:dg} {d:PDc} (hd:CI rd d) {ly wt no:Int} (hwt:0≤wt) (mm:n<no) {p:Nat} (hp:eh rd.pr=some p):RowRel no (fun q=>if q=p then qO wt ⟨rd,ly,0,no⟩ (R q) else R q) (dL ly wt W d):=by
 have kL:bj d.pr=some p:=by rw [←hd.pr,←oW,hp]
 have MI:=kw kL
 have h9:=h.1
 unfold dL
 rw [kL]
 show RowRel no _ (if fX (kB ly wt d) (W.getD p Clm.none)=true then W.set p (kB ly wt d) else W)
 have U2:=Er (h.2 p MI) hd ly wt no mm
 have hm:=h.mono (Int.le_of_lt mm)
 by_cases hb:fX (kB ly wt d) (W.getD p Clm.none)=true
 ·rw [if_pos hb]
  refine ⟨by rw [List.length_set];exact h9,fun q hq=>?_⟩
  by_cases e:q=p
  ·subst e
   rw [yR (by omega)]
   show G0 no (if q=q then _ else _) _
   rw [if_pos rfl]
   unfold qO
   rw [if_neg (by omega),if_pos (U2.2 hb)]
   exact Or.inr ⟨rfl,hd.val,hd.im,rfl,rfl,Int.le_refl _⟩
  ·rw [zj (fun h=>e h.symm)]
   show G0 no (if q=p then _ else _) _
   rw [if_neg e]
   exact hm.2 q hq
 ·rw [if_neg hb]
  refine ⟨h9,fun q hq=>?_⟩
  show G0 no (if q=p then _ else _) _
  by_cases e:q=p
  ·subst e
   rw [if_pos rfl]
   unfold qO
   rw [if_neg (by omega),if_neg (fun h=>hb (U2.1 h))]
   exact hm.2 q hq
  ·rw [if_neg e]
   exact hm.2 q hq
section
variable {els:List REl} {made:Nat} {M:Nat→Mk}
theorem GE {ds:List PDc} {k:Nat} (h:k<ds.length) (ly wt:Int) (W:List Clm):(ds.take (k+1)).foldl (dL ly wt) W=dL ly wt ((ds.take k).foldl (dL ly wt) W) ds[k]:=by
 rw [List.take_succ_eq_append_getElem h,List.foldl_append]
 rfl
theorem tj {n:Nat} {hv:Nat→Int} {dl:List dg} {ds:List PDc} (hd:Rel2 CI dl ds) (bR:dl.length≤400) {ly:Int} {n0:Nat} {S:ms} {i:Nat} (hi:i<n) {m:Bool} {wt:Int} (hwt:0≤wt) (hm:(m=true∧hv i=wt)∨(m=false∧hv i<0)) {W:List Clm} (h:RowRel (n0:Int) (S i) W):∀ k,k≤dl.length→RowRel ((n0+k:Nat):Int) (mX n hv ly dl n0 S k i) (if m=true then (ds.take k).foldl (dL ly wt) W else W)
 | 0,_=>by
  have e:(if m=true then (ds.take 0).foldl (dL ly wt) W else W)=W:=by
   split
   ·rw [List.take_zero];rfl
   ·rfl
  rw [e]
  exact h
 | k+1,hk=>by
  have QH:k<ds.length:=by rw [←hd.1];omega
  have Xb:=hd.at' (i:=k) (by omega)
  have ih:=tj (ly:=ly) hd bR hi hwt hm h k (by omega)
  obtain ⟨p,hp,MI⟩:=xU Xb.isp
  have e1:mX n hv ly dl n0 S (k+1) i=fun q=>if q=p then qO (hv i) ⟨dl[k],ly,0,((n0+k+1:Nat):Int)⟩ (mX n hv ly dl n0 S k i q) else mX n hv ly dl n0 S k i q:=by
   funext q
   show (match dl[k]? with | none=>mX n hv ly dl n0 S k | some x=>fj (mX n hv ly dl n0 S k) ⟨x,ly,0,((n0+k+1:Nat):Int)⟩ hv (Gp x.pr) n) i q=_
   rw [List.getElem?_eq_getElem (by omega:k<dl.length)]
   show fj _ _ _ (Gp dl[k].pr) n i q=_
   unfold Gp fj
   rw [hp]
   show (if i<n∧q=p then _ else _)=_
   by_cases e:q=p
   ·rw [if_pos ⟨hi,e⟩,if_pos e]
   ·rw [if_neg (fun h=>e h.2),if_neg e]
  rw [e1]
  rcases hm with ⟨vt,zG⟩ | ⟨vt,zG⟩
  ·rw [if_pos vt] at ih ⊢
   rw [GE QH,zG]
   exact LX ih Xb hwt (by omega) hp
  ·rw [if_neg (by rw [vt];simp)] at ih ⊢
   refine (⟨ih.1,fun q hq=>?_⟩:RowRel _ _ _)
   have h2:=(ih.mono (m:=((n0+(k+1):Nat):Int)) (by omega)).2 q hq
   show G0 _ (if q=p then _ else _) _
   by_cases e:q=p
   ·rw [if_pos e]
    unfold qO
    rw [if_pos zG]
    exact h2
   ·rw [if_neg e]
    exact h2
theorem H6:RowRel 0 (fun _=>(⟨#[]⟩,m8)) (List.replicate 9 Clm.none):=by
 refine ⟨by simp,fun q hq=>Or.inl ⟨rfl,?_⟩⟩
 rw [List.getD_eq_getElem?_getD,List.getElem?_replicate,if_pos hq]
 rfl
theorem JC (v:Vw) (e:Int) {rs:List cQ} {k:Nat} (h:k<rs.length) (W:List Clm):(rs.take (k+1)).foldl (fg v e) W=fg v e ((rs.take k).foldl (fg v e) W) rs[k]:=by
 rw [List.take_succ_eq_append_getElem h,List.foldl_append]
 rfl
theorem uu (hw:TW (aB els) made) (hm:RM els M) {Rr:List dx} {rs:List cQ} (h:Rel2 vC Rr rs) {i:Nat} {y:REl} (hy:els[i]?=some y):∀ k,k≤Rr.length→RowRel ((kb Rr k:Nat):Int) (qh els Rr k i) ((rs.take k).foldl (fg (aY (aB els) M) y.num) (List.replicate 9 Clm.none))
 | 0,_=>by
  rw [List.take_zero]
  exact H6
 | k+1,hk=>by
  have hi:=(List.getElem?_eq_some_iff.1 hy).1
  have hkr:k<rs.length:=by rw [←h.1];omega
  have hr:=h.at' (i:=k) (by omega)
  have ih:=uu hw hm h hy k (by omega)
  have TL:=vc hw hm hr.sels hy Rr[k].sels.length (Nat.le_refl _)
  rw [List.take_of_length_le (by have:=hr.sels.1;omega)] at TL
  have hwp:=rh (aY (aB els) M) y.num rs[k].ss rs[k].ss.length
  rw [List.take_length] at hwp
  have e1:qh els Rr (k+1)=mX els.length (fun i=>(br els Rr[k].sels Rr[k].sels.length)[i]?.getD 0) Rr[k].ly Rr[k].dl (kb Rr k) (qh els Rr k) Rr[k].dl.length:=by
   show (match Rr[k]? with | none=>_ | some x=>_)=_
   rw [List.getElem?_eq_getElem (by omega:k<Rr.length)]
  have e2:kb Rr (k+1)=kb Rr k+Rr[k].dl.length:=by
   show kb Rr k+(Rr[k]?.map fun x=>x.dl.length).getD 0=_
   rw [List.getElem?_eq_getElem (by omega:k<Rr.length)]
   rfl
  rw [e1,e2,JC _ _ hkr]
  have hd:=tj (n:=els.length) (hv:=fun i=>(br els Rr[k].sels Rr[k].sels.length)[i]?.getD 0) hr.dl hr.fd (ly:=Rr[k].ly) (n0:=kb Rr k) (S:=qh els Rr k) hi (m:=(ew (aY (aB els) M) y.num rs[k].ss).2) (wt:=(ew (aY (aB els) M) y.num rs[k].ss).1) hwp.1 (by
   show ((ew (aY (aB els) M) y.num rs[k].ss).2=true∧(br els Rr[k].sels Rr[k].sels.length)[i]?.getD 0=_)∨((ew (aY (aB els) M) y.num rs[k].ss).2=false∧(br els Rr[k].sels Rr[k].sels.length)[i]?.getD 0<0)
   rw [TL]
   cases hb:(ew (aY (aB els) M) y.num rs[k].ss).2 with
   | true=>left;exact ⟨rfl,by rw [if_pos rfl];rfl⟩
   | false=>right;exact ⟨rfl,by rw [if_neg (by simp)];show (-1:Int)<0;decide⟩) ih Rr[k].dl.length (Nat.le_refl _)
  rw [show rs[k].ds.take Rr[k].dl.length=rs[k].ds from List.take_of_length_le (by have:=hr.dl.1;omega),hr.ly] at hd
  rw [hr.ly]
  exact hd
theorem DN (hw:TW (aB els) made) (hm:RM els M) {Rr:List dx} {rs:List cQ} (h:Rel2 vC Rr rs) {i:Nat} {y:REl} (hy:els[i]?=some y) {q:Nat} (hq:q<9):((IF els Rr i q).size=0∧(eo (aY (aB els) M) rs y.num).getD q Clm.none=Clm.none)∨ValRel (IF els Rr i q) ((eo (aY (aB els) M) rs y.num).getD q Clm.none).kd ((eo (aY (aB els) M) rs y.num).getD q Clm.none).nu ((eo (aY (aB els) M) rs y.num).getD q Clm.none).va:=by
 have h1:=(uu hw hm h hy Rr.length (Nat.le_refl _)).2 q hq
 rw [List.take_of_length_le (by have:=h.1;omega)] at h1
 rcases h1 with h1 | ⟨_,h1,_⟩
 ·exact Or.inl h1
 ·exact Or.inr h1
end
end Go.Proofs.YtblfffbmklkhmaaGreat
namespace Go.Proofs.YtblfffbmklkhmaaGreat
open Go.RowKit
def RelV (t:ByteArray) (c:Clm):Prop:=(t.size=0∧c=Clm.none)∨ValRel t c.kd c.nu c.va
theorem QP {c:Nat} (h:qH c=true):88≤c∧c≤90:=by simpa [qH] using h
theorem RelV.ok {t:ByteArray} {c:Clm} (h:RelV t c):ng t∧oY t:=by
 rcases h with ⟨h,_⟩ | h
 ·refine ⟨⟨by omega,fun h1=>by omega⟩,⟨fun h1=>by omega,fun h1=>?_⟩⟩
  rw [qt t 0 (by omega)] at h1
  cases h1
 ·rcases h with ⟨h1,h2,_⟩ | ⟨h1,h2,_⟩ | ⟨h1,h2,_⟩ | ⟨h1,h2,_,_,h5⟩ | ⟨_,h1,h2,h3,_⟩
  ·exact ⟨⟨by omega,fun _ h=>by omega⟩,⟨fun _ _ h=>by omega,fun h=>by omega⟩⟩
  ·exact ⟨⟨by omega,fun _ h=>by omega⟩,⟨fun _ _ _ h=>by omega,fun h=>by omega⟩⟩
  ·exact ⟨⟨by omega,fun _ h=>by omega⟩,⟨fun _ _ _ _ h=>by omega,fun h=>h1⟩⟩
  ·have hb:=QP h5
   refine ⟨⟨by omega,fun _ _=>⟨by omega,bt t 1 - 82,?_,by omega,by omega⟩⟩,⟨fun _ h=>by omega,fun h=>by omega⟩⟩
   unfold eh
   rw [if_neg (by omega),if_pos hb]
  ·have hd:=vW (h3 0 h1)
   exact ⟨⟨by omega,fun _ h=>by omega⟩,⟨fun _ _ _ _ _=>⟨h2,fun k hk=>vW (h3 k hk)⟩,fun h=>by omega⟩⟩
section
variable {W:Nat→ByteArray} {Wc:List Clm}
theorem uI {p:Nat} (h:RelV (W p) (Wc.getD p Clm.none)):d8 (W p)=bA Wc p:=by
 unfold d8 bA
 rcases h with ⟨h,hc⟩ | h
 ·rw [if_pos h,hc]
  rfl
 ·have hp:=h.pos
  rw [if_neg (by omega)]
  rcases h with ⟨h1,h2,h3⟩ | ⟨h1,h2,h3⟩ | ⟨h1,h2,h3⟩ | ⟨h1,h2,h3,h4,h5⟩ | ⟨h3,h1,h2,h4,_⟩
  ·rw [if_neg (by omega),h3];rfl
  ·rw [if_neg (by omega),h3];rfl
  ·rw [if_neg (by omega),h3];rfl
  ·rw [if_pos h2,h3,if_pos rfl,h4,oW]
  ·have hd:=vW (h4 0 h1)
   rw [if_neg (by omega),h3];rfl
theorem AO (h:∀ q,q<9→RelV (W q) (Wc.getD q Clm.none)) (v:Nat):∀ (n a:Nat),a<9→bx W v n a=ix Wc v n (bA Wc a)
 | 0,_,_=>rfl
 | n+1,a,ha=>by
  have hn:=uI (h a ha)
  unfold bx
  rw [hn]
  cases hq:bA Wc a with
  | none=>rfl
  | some q=>
   have Hf:q<9:=by
    rw [←hn] at hq
    exact (kZ (h a ha).ok.1 hq).2
   show (if q=v then true else bx W v n q)=(if q=v then true else ix Wc v n (bA Wc q))
   rw [AO h v n q Hf]
def bk (nx:Nat→Option Nat) (v:Nat):Nat→Option Nat→Bool
 | 0,_=>false
 | _+1,none=>false
 | k+1,some p=>if p=v then true else bk nx v k (nx p)
theorem Mr (v:Nat):∀ (k:Nat) (q:Option Nat),ix Wc v k q=bk (bA Wc) v k q
 | 0,_=>rfl
 | k+1,none=>rfl
 | k+1,some p=>by
  show (if p=v then true else ix Wc v k (bA Wc p))=(if p=v then true else bk (bA Wc) v k (bA Wc p))
  rw [Mr v k]
theorem Lc {nx:Nat→Option Nat} {v:Nat} (hv:∀ a q,nx a=some q→q≠v):∀ (k a:Nat),bk nx v k (nx a)=false
 | 0,_=>rfl
 | k+1,a=>by
  cases h:nx a with
  | none=>rfl
  | some q=>
   show (if q=v then true else bk nx v k (nx q))=false
   rw [if_neg (hv a q h),Lc hv k q]
theorem bk_step (nx:Nat→Option Nat) (v k p:Nat):bk nx v (k+1) (some p)=if p=v then true else bk nx v k (nx p):=rfl
theorem M4 (nx:Nat→Option Nat) (v k:Nat):bk nx v k none=false:=by cases k<;>rfl
theorem Nu {nx:Nat→Option Nat} (h:∀ a q,nx a=some q→q=6∨q=7∨q=8) (v a:Nat) (YJ:v=a):bk nx v 9 (nx a)=bk nx v 3 (nx a):=by
 subst YJ
 by_cases hv:v=6∨v=7∨v=8
 ·have h6:nx 6=none∨nx 6=some 6∨nx 6=some 7∨nx 6=some 8:=by
   cases e:nx 6 with
   | none=>exact Or.inl rfl
   | some q=>rcases h 6 q e with rfl | rfl | rfl<;>simp
  have h7:nx 7=none∨nx 7=some 6∨nx 7=some 7∨nx 7=some 8:=by
   cases e:nx 7 with
   | none=>exact Or.inl rfl
   | some q=>rcases h 7 q e with rfl | rfl | rfl<;>simp
  have h8:nx 8=none∨nx 8=some 6∨nx 8=some 7∨nx 8=some 8:=by
   cases e:nx 8 with
   | none=>exact Or.inl rfl
   | some q=>rcases h 8 q e with rfl | rfl | rfl<;>simp
  rcases hv with rfl | rfl | rfl<;>rcases h6 with e6 | e6 | e6 | e6<;>rcases h7 with e7 | e7 | e7 | e7<;>rcases h8 with e8 | e8 | e8 | e8 <;>
   simp only [e6,e7,e8,bk_step,M4,bk]<;>rfl
 ·rw [Lc (fun a q hq e=>hv (by rw [←e];exact h a q hq)),Lc (fun a q hq e=>hv (by rw [←e];exact h a q hq))]
theorem M8 (h:∀ q,q<9→RelV (W q) (Wc.getD q Clm.none)) (hl:Wc.length=9):∀ a q,bA Wc a=some q→q=6∨q=7∨q=8:=fun a q hq=>by
 by_cases ha:a<9
 ·rw [←uI (h a ha)] at hq
  have:=kZ (h a ha).ok.1 hq
  omega
 ·unfold bA at hq
  rw [List.getD_eq_getElem?_getD,List.getElem?_eq_none (by omega)] at hq
  have h0:(none.getD Clm.none:Clm).kd=0:=rfl
  rw [if_neg (by rw [h0];decide)] at hq
  cases hq
theorem tq (h:∀ q,q<9→RelV (W q) (Wc.getD q Clm.none)) (hl:Wc.length=9) {p:Nat} (hp:p<9):bx W p 9 p=ix Wc p 3 (bA Wc p):=by
 rw [AO h p 9 p hp,Mr,Mr]
 exact Nu (M8 h hl) p p rfl
theorem pI {p:Nat} (hp:p<9):dE p=dO.getD p 0:=by
 have:p=0∨p=1∨p=2∨p=3∨p=4∨p=5∨p=6∨p=7∨p=8:=by omega
 rcases this with rfl | rfl | rfl | rfl | rfl | rfl | rfl | rfl | rfl<;>rfl
theorem xi {p:Nat}:ii p=kW p:=by
 unfold ii kW
 rw [Bool.eq_iff_iff,Bool.or_eq_true,decide_eq_true_eq,decide_eq_true_eq,decide_eq_true_eq]
 omega
theorem xm (h:∀ q,q<9→RelV (W q) (Wc.getD q Clm.none)) (hl:Wc.length=9) {C:Nat→Int} {comes:List Int} (hc:∀ q,q<9→C q=comes.getD q 0):∀ (f a b p:Nat),p<9→uW W f p→f<a→f<b→ct W C a p=cV Wc comes b p
 | f,a,b,p,hp,ht,ha,hb=>by
  obtain ⟨a,rfl⟩:∃ a',a=a'+1:=⟨a - 1,by omega⟩
  obtain ⟨b,rfl⟩:∃ b',b=b'+1:=⟨b - 1,by omega⟩
  have zv:=tq h hl hp
  have wZ:=uI (h p hp)
  unfold ct
  show _=(if ix Wc p 3 (bA Wc p)=true then comes.getD p 0 else match bA Wc p with | none=>bH Wc p comes | some q=>cV Wc comes b q)
  rw [←zv]
  rcases h p hp with ⟨h0,mf⟩ | hv
  ·
   have hn:bA Wc p=none:=by rw [←wZ];unfold d8;rw [if_pos h0]
   have mr:bx W p 9 p=false:=by unfold bx;rw [wZ,hn]
   have hR:(if bx W p 9 p=true then comes.getD p 0 else match bA Wc p with | none=>bH Wc p comes | some q=>cV Wc comes b q)=bH Wc p comes:=by rw [mr,hn];rfl
   rw [hR,if_pos (Or.inl h0)]
   unfold bH
   rw [mf,xi,hc p hp,pI hp]
   rfl
  ·have j8:=hv.pos
   rcases hv with ⟨h1,h2,h3⟩ | ⟨h1,h2,h3⟩ | ⟨h1,h2,h3⟩ | ⟨h1,h2,h3,h4,h5⟩ | ⟨h3,h1,h2,h4,h5⟩
   ·have hn:bA Wc p=none:=by unfold bA;rw [h3];rfl
    have mr:bx W p 9 p=false:=by unfold bx;rw [wZ,hn]
    have hR:(if bx W p 9 p=true then comes.getD p 0 else match bA Wc p with | none=>bH Wc p comes | some q=>cV Wc comes b q)=bH Wc p comes:=by rw [mr,hn];rfl
    rw [hR,if_neg (by omega),if_pos h2]
    unfold bH
    rw [h3,hc p hp]
    rfl
   ·have hn:bA Wc p=none:=by unfold bA;rw [h3];rfl
    have mr:bx W p 9 p=false:=by unfold bx;rw [wZ,hn]
    have hR:(if bx W p 9 p=true then comes.getD p 0 else match bA Wc p with | none=>bH Wc p comes | some q=>cV Wc comes b q)=bH Wc p comes:=by rw [mr,hn];rfl
    rw [hR,if_neg (by omega),if_neg (by omega),if_pos h2]
    unfold bH
    rw [h3,pI hp]
    rfl
   ·have hn:bA Wc p=none:=by unfold bA;rw [h3];rfl
    have mr:bx W p 9 p=false:=by unfold bx;rw [wZ,hn]
    have hR:(if bx W p 9 p=true then comes.getD p 0 else match bA Wc p with | none=>bH Wc p comes | some q=>cV Wc comes b q)=bH Wc p comes:=by rw [mr,hn];rfl
    rw [hR,if_pos (Or.inr h2)]
    unfold bH
    rw [h3,xi,hc p hp,pI hp]
    rfl
   ·rw [if_neg (by omega),if_neg (by omega),if_neg (by omega),if_pos h2]
    cases mr:bx W p 9 p with
    | true=>rw [if_pos rfl,if_pos rfl];exact hc p hp
    | false=>
     rw [if_neg (by simp),if_neg (by simp)]
     have Yy:=QP h5
     have Xy:d8 (W p)=eh (bt (W p) 1):=by unfold d8;rw [if_neg (by omega),if_pos h2]
     obtain ⟨q,hq,Hf⟩:∃ q,eh (bt (W p) 1)=some q∧q<9:=by
      unfold eh
      rw [if_neg (by omega),if_pos Yy]
      exact ⟨_,rfl,by omega⟩
     rw [←wZ,Xy,hq]
     show ct W C a q=cV Wc comes b q
     cases f with
     | zero=>
      rcases ht with ht | ht
      ·rw [Xy,hq] at ht;cases ht
      ·rw [mr] at ht;cases ht
     | succ f=>
      rcases ht with ht | ht | ⟨q',zF,ht⟩
      ·rw [Xy,hq] at ht;cases ht
      ·rw [mr] at ht;cases ht
      ·rw [Xy,hq] at zF
       injection zF with zF
       subst zF
       exact xm h hl hc f a b q Hf ht (by omega) (by omega)
   ·have hd:=vW (h4 0 h1)
    have hn:bA Wc p=none:=by unfold bA;rw [h3];rfl
    have mr:bx W p 9 p=false:=by unfold bx;rw [wZ,hn]
    have hR:(if bx W p 9 p=true then comes.getD p 0 else match bA Wc p with | none=>bH Wc p comes | some q=>cV Wc comes b q)=bH Wc p comes:=by rw [mr,hn];rfl
    rw [hR,if_neg (by omega),if_neg (by omega),if_neg (by omega),if_neg (by omega)]
    unfold bH
    rw [h3,if_pos rfl,h5]
end
section
variable {els:List REl} {made:Nat} {M:Nat→Mk}
theorem BW (hn:(els.map REl.num).Nodup) {i:Nat} {y:REl} (hy:els[i]?=some y):∀ k,fH els y.num k=if i<k then some i else none
 | 0=>by rw [if_neg (by omega)];rfl
 | k+1=>by
  unfold fH
  by_cases h:(els[k]?.map fun e=>(e.num:Int))=some (y.num:Int)
  ·rw [if_pos h]
   have h2:k=i:=by
    cases hk:els[k]? with
    | none=>rw [hk] at h;cases h
    | some z=>
     rw [hk] at h
     have h':(z.num:Int)=(y.num:Int):=Option.some.inj h
     obtain ⟨vE,e1⟩:=List.getElem?_eq_some_iff.1 hk
     obtain ⟨hi1,e2⟩:=List.getElem?_eq_some_iff.1 hy
     have e3:(els.map REl.num)[k]'(by simpa using vE)=(els.map REl.num)[i]'(by simpa using hi1):=by simp only [List.getElem_map];rw [e1,e2];omega
     rcases Nat.lt_trichotomy k i with h3 | h3 | h3
     ·exact absurd e3 (List.pairwise_iff_getElem.1 hn k i _ _ h3)
     ·exact h3
     ·exact absurd e3.symm (List.pairwise_iff_getElem.1 hn i k _ _ h3)
   rw [if_pos (by omega),h2]
  ·rw [if_neg h,BW hn hy k]
   have h2:k≠i:=fun e=>h (by rw [e,hy];rfl)
   by_cases h3:i<k
   ·rw [if_pos h3,if_pos (by omega)]
   ·rw [if_neg h3,if_neg (by omega)]
theorem I9 (v:Vw) (rs:List cQ) (e:Int):(eo v rs e).length=9:=by
 unfold eo
 have ol:∀ (rs:List cQ) (W:List Clm),(rs.foldl (fg v e) W).length=W.length:=fun rs=>by
  induction rs with
  | nil=>intro W;rfl
  | cons r rs ih=>
   intro W
   rw [List.foldl_cons,ih]
   unfold fg
   split
   ·unfold Cy
    generalize r.ds=ds
    induction ds generalizing W with
    | nil=>rfl
    | cons d ds OE=>rw [List.foldl_cons,OE,xA]
   ·rfl
 rw [ol,List.length_replicate]
theorem Mj (v:Vw) (rs:List cQ) (e:Int) (comes:List Int) {q:Nat} (hq:q<9):(CM v rs e comes).getD q 0=cV (eo v rs e) comes 9 q:=by
 unfold CM
 rw [List.getD_eq_getElem?_getD,List.getElem?_map,List.getElem?_range hq]
 rfl
def TabR (els:List REl) (M:Nat→Mk) (rs:List cQ) (Tb:Nat→Nat→ByteArray):Prop:=∀ (i:Nat) (y:REl),els[i]?=some y→∀ q,q<9→RelV (Tb i q) ((eo (aY (aB els) M) rs y.num).getD q Clm.none)
theorem FY (hw:TW (aB els) made) (hm:RM els M) {Rr:List dx} {rs:List cQ} (h:Rel2 vC Rr rs):TabR els M rs (IF els Rr):=fun _ _ hy _ hq=>DN hw hm h hy hq
theorem TabR.ok {rs:List cQ} {Tb:Nat→Nat→ByteArray} (h:TabR els M rs Tb):∀ i p,i<els.length→p<9→ng (Tb i p)∧oY (Tb i p):=fun i p hi hp=>(h i els[i] (List.getElem?_eq_getElem hi) p hp).ok
theorem x9 (hw:TW (aB els) made) {rs:List cQ} {Tb:Nat→Nat→ByteArray} (h:TabR els M rs Tb) {i:Nat} {y:REl} (hy:els[i]?=some y) {C:Nat→Int} {comes:List Int} (hc:∀ q,q<9→C q=comes.getD q 0) {p:Nat} (hp:p<9):ct (yf Tb (fH els y.num els.length)) C 4 p=(CM (aY (aB els) M) rs y.num comes).getD p 0:=by
 have hn:(els.map REl.num).Nodup:=by have:=hw.nums;rw [kR] at this;exact this
 have hi:=(List.getElem?_eq_some_iff.1 hy).1
 have fY:yf Tb (fH els y.num els.length)=Tb i:=by
  funext q
  rw [BW hn hy,if_pos hi]
  rfl
 have hrel:=h i y hy
 rw [fY,Mj _ _ _ _ hp]
 exact xm hrel (I9 _ _ _) hc 3 4 9 p hp (FV (fun i hi=>(hrel i hi).ok.1) hp) (by omega) (by omega)
theorem tQ (hw:TW (aB els) made) {rs:List cQ} {Tb:Nat→Nat→ByteArray} (h:TabR els M rs Tb):∀ (f:Nat) {y:REl},y∈els→uP els f y.num→∀ p,p<9→jq els Tb f y.num p=(dj (aY (aB els) M) rs y.num).getD p 0
 | f,y,hy,hd,p,hp=>by
  obtain ⟨i,hi,hiy⟩:=List.getElem_of_mem hy
  have ZI:els[i]?=some y:=by rw [List.getElem?_eq_getElem hi,hiy]
  rw [ue hw (iE hy)]
  rcases l9 hw (iE hy) with ha | ⟨q,hq,KV,ha⟩
  ·
   have eg:aJ els y.num<0:=by
    rw [←dk]
    rcases cB (aB els) y.num with ⟨h1,_⟩ | ⟨q,hq,h1,h2⟩
    ·omega
    ·exfalso
     have h3:(q.1:Int)∈aW (aB els) (aB els).length y.num:=(ou hw q.1 (iE hy)).2 ⟨by omega,by rw [h2];exact hE _ _⟩
     rw [ha] at h3
     cases h3
   rw [ha]
   show _=(CM _ rs y.num dO).getD p 0
   have E8:∀ q,q<9→dE q=dO.getD q 0:=fun q hq=>pI hq
   cases f with
   | zero=>exact x9 hw h ZI E8 hp
   | succ f=>
    unfold jq
    rw [if_pos eg]
    exact x9 hw h ZI E8 hp
  ·have eg:aJ els y.num=q.1:=by rw [←dk];exact hw.parent hq KV
   rw [ha]
   obtain ⟨z,hz,fO,_⟩:=vb (k:=q.1) (l:=q.2) hq
   cases f with
   | zero=>
    have:aJ els y.num<0:=hd
    omega
   | succ f=>
    have hdz:uP els f z.num:=by
     rcases hd with hd | hd
     ·omega
     ·rw [eg,←fO] at hd;exact hd
    unfold jq
    rw [if_neg (by omega),eg,←fO]
    refine x9 hw h ZI (fun q' zF=>?_) hp
    exact tQ hw h f hz hdz q' zF
theorem xD {els:List REl}:∀ (f:Nat) (n:Int),jm (aB els) (f+1) n<0→uP els f n
 | 0,n,h=>by
  have h1:aU (aB els) n<0:=h
  rw [dk] at h1
  exact h1
 | f+1,n,h=>by
  right
  have h1:jm (aB els) (f+1) (aU (aB els) n)<0:=h
  rw [dk] at h1
  exact xD f _ h1
end
end Go.Proofs.YtblfffbmklkhmaaGreat
