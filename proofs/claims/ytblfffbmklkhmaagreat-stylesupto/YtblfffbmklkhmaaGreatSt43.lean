import Derived.Test.YtblfffbmklkhmaaGreatSt42
namespace Go.Proofs.YtblfffbmklkhmaaGreat
open Go.RowKit
def I6 (Q:ft→YS→List Nat→YS→List Nat→Prop) (X:YS) (st:List Nat) (K:fm) (s:ByteArray) (X':YS) (fQ:List Nat) (K':fm):Prop:=
 X'=gE X s∧Q (.sht s) X st X' fQ∧(((fa s).1≠0∧K'=K)∨((fa s).1=0∧K'.lm=K.lm∧K'.ly=X.T.map Prod.fst∧K'.ls=K.ls∧K'.cnt=-1∧K'.held=false))
def ro (so su:Bool) (c:Int):Int:=if (su&&decide (0<(if (so&&!su)=true then (-1:Int) else c)))=true then (if (so&&!su)=true then (-1:Int) else c) - 1 else if (so&&!su)=true then -1 else c
def Ez (T:aA) (e:Int) (s:List Nat × List Nat × Int):Nat→List Nat × List Nat × Int
 | 0=>s
 | j+1=>(af (jm T j e) (Ez T e s j).1,af (jm T j e) (Ez T e s j).2.1,ro (lV (Ez T e s j).2.1 (jm T j e)) (lV (Ez T e s j).1 (jm T j e)) (Ez T e s j).2.2)
def LF (Q:ft→YS→List Nat→YS→List Nat→Prop) (X:YS) (st:List Nat) (K:fm) (n:Int) (s:ByteArray) (X':YS) (fQ:List Nat) (K':fm):Prop:=
 X'=X∧Q (.qry n s) X st X' fQ∧((bP X.T n s≠0∧K'=K)∨(bP X.T n s=0∧K'.ls=K.ls∧K'.held=false∧∃ j,jm X.T j n<0∧(∀ i,i<j→0≤jm X.T i n)∧(K'.lm,K'.ly,K'.cnt)=Ez X.T n (K.lm,K.ly,K.cnt) j))
structure i8 (Q:ft→YS→List Nat→YS→List Nat→Prop) (I:YS→List Nat→fm→Prop):Prop where
 ins:∀ {X st K par at' kind X' fQ K'},I X st K→oe X.T K→NC Q X st K par at' kind X' fQ K'→I X' fQ K'
 rem:∀ {X st K n X' fQ K'},I X st K→oe X.T K→Og Q X st K n X' fQ K'→I X' fQ K'
 mov:∀ {X st K n m at' X' fQ K'},I X st K→oe X.T K→OD Q X st K n m at' X' fQ K'→I X' fQ K'
 cls:∀ {X st K n s on X' fQ K'},I X st K→oe X.T K→zX Q X st K n s on X' fQ K'→I X' fQ K'
 nam:∀ {X st K n s X' fQ K'},I X st K→oe X.T K→yG Q X st K n s X' fQ K'→I X' fQ K'
 sht:∀ {X st K s X' fQ K'},I X st K→oe X.T K→I6 Q X st K s X' fQ K'→I X' fQ K'
 qry:∀ {X st K n s X' fQ K'},I X st K→oe X.T K→LF Q X st K n s X' fQ K'→I X' fQ K'
 cnt:∀ {X st K},I X st K→-1≤K.cnt∧K.cnt≤24
def PD2 (PS:World→Value→YS→List Nat→(Nat→Prop)→Prop) (I:YS→List Nat→fm→Prop) (w:World) (b made:Nat) (G:Nat→Prop):Prop:=
 ∃ X st pa d K Fp Fx Fy,PJ2 PS w b X st X (.pointer (some pa)) d K Fp Fx Fy∧(∀ k,Fp k∨Fx k∨Fy k→G k)∧(∀ k,G k→k<w.heap.size)∧X.made=made∧oe X.T K∧I X st K
section
variable {PS:World→Value→YS→List Nat→(Nat→Prop)→Prop} {Q:ft→YS→List Nat→YS→List Nat→Prop} {I:YS→List Nat→fm→Prop} {w:World} {b made:Nat} {G:Nat→Prop}
theorem PD2.keep (hP:bi PS Q) (h:PD2 PS I w b made G) {w1:World} (fT:w.heap.size≤w1.heap.size) (hk:∀ k,G k→w1.heap[k]?=w.heap[k]?):PD2 PS I w1 b made G:=by
 obtain ⟨X,st,pa,d,K,Fp,Fx,Fy,h1,h2,h3,h4⟩:=h
 exact ⟨X,st,pa,d,K,Fp,Fx,Fy,h1.keep hP fT (fun k hx=>hk k (h2 k hx)),h2,fun k hx=>Nat.lt_of_lt_of_le (h3 k hx) fT,h4⟩
theorem PD2.lt (h:PD2 PS I w b made G):∀ k,G k→k<w.heap.size:=by
 obtain ⟨X,st,pa,d,K,Fp,Fx,Fy,h1,h2,h3,h4⟩:=h
 exact h3
end
def fF (PS:World→Value→YS→List Nat→(Nat→Prop)→Prop) (I:YS→List Nat→fm→Prop) (w:World) (b made:Nat) (G:Nat→Prop) (e:Ending) (w':World):Prop:=
 e=.returned (.bool true)∧∃ made',made'≤made+1∧PD2 PS I w' b made' (n6 G w w')∧Fr w w' G
theorem PQ2.doc {PS:World→Value→YS→List Nat→(Nat→Prop)→Prop} {I:YS→List Nat→fm→Prop} {w:World} {G:Nat→Prop} {b made:Nat} {pa:Addr} {d:Nat} {w':World} {X:YS} {st:List Nat} {K:fm} (hq:PQ2 PS w G w' b X st X (.pointer (some pa)) d K) (hm:X.made≤made+1) (hl:oe X.T K) (hi:I X st K):fF PS I w b made G (.returned (.bool true)) w':=by
 obtain ⟨Fp,Fx,Fy,hj,hg,hf⟩:=hq
 exact ⟨rfl,X.made,hm,⟨X,st,pa,d,K,Fp,Fx,Fy,hj,fun k hk=>⟨hg k hk,hj.here k hk⟩,fun k hk=>hk.2,rfl,hl,hi⟩,hf⟩
theorem TurnPost2.doc {PS:World→Value→YS→List Nat→(Nat→Prop)→Prop} {I:YS→List Nat→fm→Prop} {w:World} {o:Obj} {G:Nat→Prop} {b made:Nat} {pa:Addr} {d:Nat} {R:YS→List Nat→fm→Prop} {e:Ending} {w':World} (h:TurnPost2 PS (w.alloc o) G b (.pointer (some pa)) d R e w') (hr:∀ X st K,R X st K→X.made≤made+1∧I X st K):fF PS I w b made G e w':=by
 obtain ⟨rfl,X',fQ,K',hq,hl,hR⟩:=h
 obtain ⟨h1,h2⟩:=hr _ _ _ hR
 exact hq.from.doc h1 hl h2
theorem Gf (X:YS) (n:Int) (s:ByteArray) (on:Bool):(dN X n s on).made=X.made:=by unfold dN;split<;>rfl
theorem GH (X:YS) (n:Int) (s:ByteArray):(dM X n s).made=X.made:=by unfold dM;split<;>rfl
theorem qr (X:YS) (s:ByteArray):(gE X s).made=X.made∧(gE X s).T=X.T:=by unfold gE;split<;>exact ⟨rfl,rfl⟩
set_option maxRecDepth 100000 in
set_option maxHeartbeats 2000000 in
theorem zt {PS:World→Value→YS→List Nat→(Nat→Prop)→Prop} {Q:ft→YS→List Nat→YS→List Nat→Prop} (hP:bi PS Q) (w:World) (b:Nat) (X:YS) (st:List Nat) (pa:Addr) (d:Nat) (K:fm) (G Fp Fx Fy:Nat→Prop)
  (h:PJ2 PS w b X st X (.pointer (some pa)) d K Fp Fx Fy) (hG:∀ k,Fp k∨Fx k∨Fy k→G k) (By:∀ k,G k→k<w.heap.size) (mB:oe X.T K) (at' xx yy zz:Int) (S Tt:ByteArray) (on:Bool) (hS:S.size≤maxLen) :
  Calls Tryz.prog 61 #[.pointer (some ⟨b,0,none⟩),.agg #[.int .i64 10,.int .i64 at',.int .i64 xx,.int .i64 yy,.int .i64 zz,.string S,.string Tt,.bool on]] w fun e w'=>TurnPost2 PS w G b (.pointer (some pa)) d (I6 Q X st K S) e w':=by
 have HP:Hid (bi PS Q):=hP
 have HW:Hid (oe X.T K):=mB
 have HG:Hid (∀ k,G k→k<w.heap.size):=By
 have H0:Hid (PQ2 PS (w.alloc (an 10 at' xx yy zz S Tt on)) G (w.alloc (an 10 at' xx yy zz S Tt on)) b X st X (.pointer (some pa)) d K):=PQ2.alloc hP h hG _
 clear h hP mB hG By Fp Fx Fy
 obtain ⟨Fx,Fy,sQ,Sm,vf,rt,Cd,DI⟩:=H0.out.open HP.out
 obtain ⟨els,hp,vT,aR,vL,Rr,Gs,hX,hA,Js,L9,My⟩:=Sm
 have HX:Hid (RX (w.alloc (an 10 at' xx yy zz S Tt on)) d els X.made hp vT aR vL Rr Gs X.M X.shn X.rs∧X.T=aB els):=⟨hX,hA⟩
 have HF:Hid ((∀ k,gQ d els vL k→Fy k)∧(∀ k,Gs k→Fy k)∧(aR=true→∀ k,vT.ownBlock=some k→Fy k)∧(∀ k,Fy k→¬ Fx k)∧(∀ k,Fy k→k<(w.alloc (an 10 at' xx yy zz S Tt on)).heap.size)):=⟨Js,L9,My,vf,rt⟩
 have zH:Hid (PS (w.alloc (an 10 at' xx yy zz S Tt on)).drew (.pointer (some pa)) X st Fx):=HP.out.keep sQ (fun _ _ _=>rfl) (Nat.le_refl _)
 have nn:Hid (∀ w1 X1 aP,PS w1 (.pointer (some pa)) X1 aP (bu Fx (w.alloc (an 10 at' xx yy zz S Tt on)))→Fr (w.alloc (an 10 at' xx yy zz S Tt on)) w1 Fx→PQ2 PS (w.alloc (an 10 at' xx yy zz S Tt on)) G w1 b X1 aP X (.pointer (some pa)) d K):=Cd
 have eL:Hid (∀ w1 X1 aP w2 Y2,PS w1 (.pointer (some pa)) X1 aP (bu Fx (w.alloc (an 10 at' xx yy zz S Tt on)))→Fr (w.alloc (an 10 at' xx yy zz S Tt on)) w1 Fx→RY w2 d Y2 (bu Fy w1)→Fr w1 w2 Fy→PQ2 PS (w.alloc (an 10 at' xx yy zz S Tt on)) G w2 b X1 aP Y2 (.pointer (some pa)) d K):=DI
 clear hX hA Js L9 My sQ vf rt Cd DI
 have HC:Hid (∀ (wx:World) X1 aP Y1,PQ2 PS (w.alloc (an 10 at' xx yy zz S Tt on)) G wx b X1 aP Y1 (.pointer (some pa)) d K→wx.cell? ⟨b,0,none⟩=some (.pointer (some pa))∧wx.cell? ⟨b,1,none⟩=some (.pointer (some ⟨d,0,none⟩))∧wx.cell? ⟨w.heap.size,5,none⟩=some (.string S)):=fun wx X1 aP Y1 hq=>
  ⟨aa hq.pb.blk rfl,aa hq.pb.blk rfl,aa (hq.op HG.out) rfl⟩
 have Ca:Hid (∀ wd w2 e aP,PS wd (.pointer (some pa)) (gE X S) aP (bu Fx (w.alloc (an 10 at' xx yy zz S Tt on)))→Fr (w.alloc (an 10 at' xx yy zz S Tt on)) wd Fx→RX wd d els X.made hp vT aR vL Rr Gs X.M X.shn X.rs→p9 wd d els X.made vT vL X.M X.shn S e w2→e=.returned (.int .i64 (fa S).1)∧PQ2 PS (w.alloc (an 10 at' xx yy zz S Tt on)) G w2 b (gE X S) aP (gE X S) (.pointer (some pa)) d K):=fun wd w2 e aP hs hf hx dB=>by
  have DP:Fr wd w2 Fy∧RY w2 d (gE X S) (bu Fy wd):=by
   rcases dB.2 with ⟨he,hB⟩ | ⟨he,p2,Rr2,Ce,bo⟩
   ·refine ⟨(Fr.refl _ _).below hB,?_⟩
    have e1:gE X S=X:=by unfold gE;rw [if_neg he]
    rw [e1]
    show RSd w2 d X.T X.made X.M X.shn X.rs (bu Fy wd)
    rw [HX.out.2]
    have hx3:=hx.keep (w':=w2) (fun k _ hl=>hB.block k hl) hB.size
    exact hx3.rsd (fun k hk=>Or.inl (HF.out.1 k hk)) (fun k hk=>Or.inl (HF.out.2.1 k hk)) (fun hh k hk=>Or.inl (HF.out.2.2.1 hh k hk))
   ·refine ⟨bo.mono HF.out.1,?_⟩
    have e1:gE X S={X with rs:=dQ S}:=by unfold gE;rw [if_pos he]
    rw [e1]
    show RSd w2 d X.T X.made X.M X.shn (dQ S) (bu Fy wd)
    rw [HX.out.2]
    exact Ce.rsd (fun k hk=>Or.inl (HF.out.1 k hk)) (fun k hk=>Or.inr hk.1) (fun hh=>by cases hh)
  exact ⟨dB.1,eL.out wd _ aP w2 _ hs hf DP.2 DP.1⟩
 have sI:Hid (oe (gE X S).T K):=by unfold Hid;rw [(qr X S).2];exact HW.out
 have k0:(w.alloc (an 10 at' xx yy zz S Tt on)).cell? ⟨w.heap.size,0,none⟩=some (.int .i64 10):=aa (H0.out.op HG.out) rfl
 have tC:Hid (PQ2 PS (w.alloc (an 10 at' xx yy zz S Tt on)) G (w.alloc (an 10 at' xx yy zz S Tt on)).drew b X st X (.pointer (some pa)) d K):=H0.out.drew HP.out
 clear H0
 go_enter Tryz.func61,Tryz.ntmps61
 go_upto_region 11 with fail
 clear k0
 go_cut [5] (fun yv wx=>yv=.int .i64 (fa S).1∧Hid (∃ aP,Q (.sht S) X st (gE X S) aP∧PS wx (.pointer (some pa)) (gE X S) aP (bu Fx (w.alloc (an 10 at' xx yy zz S Tt on)))∧Fr (w.alloc (an 10 at' xx yy zz S Tt on)) wx Fx))
 case first=>
  go_region_held3 (fun w'=>w'.cell? ⟨b,0,none⟩=some (.pointer (some pa))∧w'.cell? ⟨b,1,none⟩=some (.pointer (some ⟨d,0,none⟩))∧w'.cell? ⟨w.heap.size,5,none⟩=some (.string S)) (first | exact HC.out _ _ _ _ tC.out | exact HC.out _ _ _ _ HT.out.2)
   (first | (go_at_call 28;refine (HP.out.sht _ (.pointer (some pa)) X st Fx S hS zH.out).mono ?_;rintro e w1 ⟨aP,rfl,hq,dI,hH⟩;have HT:Hid ((∃ aP,Q (.sht S) X st (gE X S) aP∧PS w1 (.pointer (some pa)) (gE X S) aP (bu Fx (w.alloc (an 10 at' xx yy zz S Tt on)))∧Fr (w.alloc (an 10 at' xx yy zz S Tt on)) w1 Fx)∧PQ2 PS (w.alloc (an 10 at' xx yy zz S Tt on)) G w1 b (gE X S) aP X (.pointer (some pa)) d K):=⟨⟨aP,hq,dI,hH.un1⟩,nn.out w1 _ aP dI hH.un1⟩))
  all_goals
   go_wp2_with fail
   go_meet
   exact ⟨rfl,HT.out.1⟩
 case rest=>
  obtain ⟨rfl,HT⟩:=hcut
  obtain ⟨aP,rH,dI,fq⟩:=HT.out
  have pO:Hid (Q (.sht S) X st (gE X S) aP∧PS wc (.pointer (some pa)) (gE X S) aP (bu Fx (w.alloc (an 10 at' xx yy zz S Tt on)))∧Fr (w.alloc (an 10 at' xx yy zz S Tt on)) wc Fx):=⟨rH,dI,fq⟩
  have mC:Hid (PQ2 PS (w.alloc (an 10 at' xx yy zz S Tt on)) G wc.drew b (gE X S) aP X (.pointer (some pa)) d K):=(nn.out wc _ aP dI fq).drew HP.out
  have B8:Hid (RX wc.drew d els X.made hp vT aR vL Rr Gs X.M X.shn X.rs):=by
   refine HX.out.1.keep (fun k hk hl=>fq.block k hl ?_) fq.size
   rcases hk with hk | hk | ⟨hh,hk⟩
   ·exact HF.out.2.2.2.1 k (HF.out.1 k hk)
   ·exact HF.out.2.2.2.1 k (HF.out.2.1 k hk)
   ·exact HF.out.2.2.2.1 k (HF.out.2.2.1 hh k hk)
  clear rH dI fq HT tC
  go_upto_region 12 with fail
  go_cut [6] (fun yv wx=>yv=.int .i64 (fa S).1∧Hid (PQ2 PS (w.alloc (an 10 at' xx yy zz S Tt on)) G wx b (gE X S) aP (gE X S) (.pointer (some pa)) d K))
  case first=>
   go_region_held3 (fun w'=>w'.cell? ⟨b,0,none⟩=some (.pointer (some pa))∧w'.cell? ⟨b,1,none⟩=some (.pointer (some ⟨d,0,none⟩))∧w'.cell? ⟨w.heap.size,5,none⟩=some (.string S)) (first | exact HC.out _ _ _ _ mC.out | exact HC.out _ _ _ _ jk.out)
    (first | (go_at_call 104;refine (C1 _ d els X.made hp vT aR vL Rr Gs X.M X.shn X.rs S hS B8.out).mono ?_;intro e w2 dB;obtain ⟨rfl,Gj⟩:=Ca.out wc.drew w2 e aP (HP.out.keep pO.out.2.1 (fun _ _ _=>rfl) (Nat.le_refl _)) pO.out.2.2.dr B8.out dB;clear dB;have jk:Hid (PQ2 PS (w.alloc (an 10 at' xx yy zz S Tt on)) G w2 b (gE X S) aP (gE X S) (.pointer (some pa)) d K):=Gj))
   all_goals
    go_wp2_with fail
    go_meet
    exact ⟨rfl,jk⟩
  case rest=>
   obtain ⟨rfl,jk⟩:=hcut
   by_cases hc:(fa S).1=0
   ·have gf:Hid (∀ w5 Uc,PQ2 PS (w.alloc (an 10 at' xx yy zz S Tt on)) G w5 b (gE X S) aP (gE X S) (.pointer (some pa)) d {K with vy:=Uc,ly:=(gE X S).T.map Prod.fst,cnt:=-1,held:=false}→TurnPost2 PS w G b (.pointer (some pa)) d (I6 Q X st K S) (.returned (.bool true)) w5):=fun w5 Uc h1=>⟨rfl,_,aP,_,h1.from,⟨sI.out.1,LT.all h1.tw⟩,rfl,pO.out.1,Or.inr ⟨hc,rfl,by show (gE X S).T.map Prod.fst=_;rw [(qr X S).2],rfl,rfl,rfl⟩⟩
    rw [hc]
    clear hc
    go_wp2_with fail
    refine (Lr HP.out jk.out).mono ?_
    rintro e W7 ⟨rfl,OT,xw⟩
    have HE:=gf.out W7 OT xw
    have Ur:Hid (TurnPost2 PS w G b (.pointer (some pa)) d (I6 Q X st K S) (.returned (.bool true)) W7):=HE
    clear HE xw gf
    go_wp2_with fail
    refine (bF _ 0).mono ?_
    rintro e w5 ⟨rfl,rfl⟩
    go_wp2
    go_ret
    exact Ur.out
   ·have HE:Hid (TurnPost2 PS w G b (.pointer (some pa)) d (I6 Q X st K S) (.returned (.bool true)) wc):=⟨rfl,_,aP,K,jk.out.from,sI.out,rfl,pO.out.1,Or.inl ⟨hc,rfl⟩⟩
    have gy:((fa S).1==0)=false:=by simp [hc]
    generalize (fa S).1=ce at gy
    clear hc
    go_wp2_with fail
    refine (bF _ ce).mono ?_
    rintro e w5 ⟨rfl,rfl⟩
    go_wp2
    go_ret
    exact HE.out
set_option maxRecDepth 100000 in
set_option maxHeartbeats 4000000 in
theorem Bd {PS:World→Value→YS→List Nat→(Nat→Prop)→Prop} {Q:ft→YS→List Nat→YS→List Nat→Prop} {I:YS→List Nat→fm→Prop} (hP:bi PS Q) (hI:i8 Q I) (w:World) (b made:Nat) (G:Nat→Prop) (h:PD2 PS I w b made G) (lz:made≤1099511627776) (kd at' X Y Z:Int) (S Tt:ByteArray) (on:Bool) (hS:S.size≤maxLen) (hk:kd=4∨kd=5∨kd=6∨kd=8∨kd=9∨kd=10) :
  Calls Tryz.prog 61 #[.pointer (some ⟨b,0,none⟩),.agg #[.int .i64 kd,.int .i64 at',.int .i64 X,.int .i64 Y,.int .i64 Z,.string S,.string Tt,.bool on]] w fun e w'=>fF PS I w b made G e w':=by
 obtain ⟨U,st,pa,d,K,Fp,Fx,Fy,h1,h2,h3,h4,h5,h6⟩:=h
 subst h4
 have HJ:Hid (PJ2 PS (w.alloc (an kd at' X Y Z S Tt on)) b U st U (.pointer (some pa)) d K Fp Fx Fy∧(∀ k,G k→k<(w.alloc (an kd at' X Y Z S Tt on)).heap.size)):=⟨h1.keep hP (by simp) (fun k hk=>Below.heap_alloc w _ k (h1.here k hk)),fun k hk=>by have:=h3 k hk;simp;omega⟩
 have HA:Hid ((∀ k,Fp k∨Fx k∨Fy k→G k)∧oe U.T K∧I U st K):=⟨h2,h5,h6⟩
 have HP:Hid (bi PS Q):=hP
 have HI:Hid (i8 Q I):=hI
 have Fn:Hid (kd=10→Calls Tryz.prog 61 #[.pointer (some ⟨b,0,none⟩),.agg #[.int .i64 10,.int .i64 at',.int .i64 X,.int .i64 Y,.int .i64 Z,.string S,.string Tt,.bool on]] w fun e w'=>fF PS I w b U.made G e w'):=fun _=>(zt hP w b U st pa d K G Fp Fx Fy h1 h2 h3 h5 at' X Y Z S Tt on hS).mono fun e w' hp=>by
  obtain ⟨rfl,X',fQ,K',hq,hl,hR⟩:=hp
  exact hq.doc (by rw [hR.1,(qr U S).1];exact Nat.le_succ _) hl (hI.sht h6 h5 hR)
 clear h1 h2 h3 h5 h6 hP hI
 rcases hk with rfl | rfl | rfl | rfl | rfl | rfl
 ·go_enter Tryz.func61,Tryz.ntmps61
  go_wp2_with fail
  refine (vP HP.out _ b U st pa d K G Fp Fx Fy HJ.out.1 HA.out.1 HJ.out.2 HA.out.2.1 lz 4 at' X Y Z S Tt on).mono ?_
  intro e w1 hp
  have HD:Hid (fF PS I w b U.made G e w1):=TurnPost2.doc hp (fun X' fQ K' hR=>⟨by obtain ⟨y,n,h1,_⟩:=hR;exact (h1.1.tw HJ.out.1.rs.tw).2,HI.out.ins HA.out.2.2 HA.out.2.1 hR⟩)
  obtain ⟨rfl,_⟩:=hp
  go_wp2
  go_ret
  exact HD.out
 ·go_enter Tryz.func61,Tryz.ntmps61
  go_wp2_with fail
  refine (yX HP.out _ b U st pa d K G Fp Fx Fy HJ.out.1 HA.out.1 HJ.out.2 HA.out.2.1 at' X Y Z S Tt on).mono ?_
  intro e w1 hp
  have HD:Hid (fF PS I w b U.made G e w1):=TurnPost2.doc hp (fun X' fQ K' hR=>⟨by obtain ⟨y,h1,_⟩:=hR;rw [h1.2.1];exact Nat.le_succ _,HI.out.rem HA.out.2.2 HA.out.2.1 hR⟩)
  obtain ⟨rfl,_⟩:=hp
  go_wp2
  go_ret
  exact HD.out
 ·go_enter Tryz.func61,Tryz.ntmps61
  go_wp2_with fail
  refine (Ec HP.out _ b U st pa d K G Fp Fx Fy HJ.out.1 HA.out.1 HJ.out.2 HA.out.2.1 at' X Y Z S Tt on).mono ?_
  intro e w1 hp
  have HD:Hid (fF PS I w b U.made G e w1):=TurnPost2.doc hp (fun X' fQ K' hR=>⟨by obtain ⟨y,h1,_⟩:=hR;rw [h1.2.1];exact Nat.le_succ _,HI.out.mov HA.out.2.2 HA.out.2.1 hR⟩)
  obtain ⟨rfl,_⟩:=hp
  go_wp2
  go_ret
  exact HD.out
 ·go_enter Tryz.func61,Tryz.ntmps61
  go_wp2_with fail
  refine (zm HP.out _ b U st pa d K G Fp Fx Fy HJ.out.1 HA.out.1 HJ.out.2 HA.out.2.1 8 at' X Y Z S Tt on).mono ?_
  intro e w1 hp
  have HD:Hid (fF PS I w b U.made G e w1):=TurnPost2.doc hp (fun X' fQ K' hR=>⟨by rw [hR.1,Gf];exact Nat.le_succ _,HI.out.cls HA.out.2.2 HA.out.2.1 hR⟩)
  obtain ⟨rfl,_⟩:=hp
  go_wp2
  go_ret
  exact HD.out
 ·go_enter Tryz.func61,Tryz.ntmps61
  go_wp2_with fail
  refine (Ev HP.out _ b U st pa d K G Fp Fx Fy HJ.out.1 HA.out.1 HJ.out.2 HA.out.2.1 9 at' X Y Z S Tt on).mono ?_
  intro e w1 hp
  have HD:Hid (fF PS I w b U.made G e w1):=TurnPost2.doc hp (fun X' fQ K' hR=>⟨by rw [hR.1,GH];exact Nat.le_succ _,HI.out.nam HA.out.2.2 HA.out.2.1 hR⟩)
  obtain ⟨rfl,_⟩:=hp
  go_wp2
  go_ret
  exact HD.out
 ·exact Fn.out rfl
end Go.Proofs.YtblfffbmklkhmaaGreat
namespace Go.Proofs.YtblfffbmklkhmaaGreat
open Go.RowKit
set_option maxRecDepth 100000 in
set_option maxHeartbeats 2000000 in
theorem xu (w:World) (a:Option Addr) (c:Nat) (l:List Nat) (n:Int) (ae:Nat) (ho:w.ownsRow ae 3 1 (.slice a l.length c) l.length (aK l)) (hl:l.length≤24) :
  Calls Tryz.prog 99 #[.slice a l.length c,.int .i64 n] w fun e w'=>uR w (af n l) e w':=by
 obtain ⟨i0,hi,gx,gw,gB⟩:=info_parts Tryz.info3
 have HO:Hid (w.ownsRow ae 3 1 (.slice a l.length c) l.length (aK l)):=ho
 clear ho
 go_enter Tryz.func99,Tryz.ntmps99
 go_wp2_with fail
 go_loopg [5,6] l.length (fun gk v iv wr=>∃ i:Nat,iv=.int .i64 i∧i≤l.length∧l.length - i≤gk∧wr.ownsRow w.heap.size 3 1 v (af n (l.take i)).length (aK (af n (l.take i)))∧Below w.heap.size w wr)
 case atStart=>exact ⟨0,rfl,Nat.zero_le _,by omega,World.ownsRow_nil _ _ _ _,Below.refl _ _⟩
 case round=>
  obtain ⟨i,rfl,jC,fK,bL,hB⟩:=hrel
  obtain ⟨a2,c2,hv⟩:=au bL
  subst hv
  by_cases aN:i<l.length
  ·have hd:decide ((i:Int)<(l.length:Int))=true:=by simp;omega
   obtain ⟨g,hg,db,hc⟩:=aH HO.out (by omega)
   subst hg
   have q:=(hB.cell (p:=⟨g,i,none⟩) db).trans (hc i (.int .i64 ((l[i]:Nat):Int)) (by simp [aN]))
   have rt:(af n (l.take i)).length≤24:=by
    have:=jR n (l.take i)
    have:(l.take i).length≤l.length:=List.length_take_le' _ _
    omega
   have HT:Hid (af n (l.take (i+1))=af n (l.take i)++if ((l[i]:Nat):Int)=n then [] else [l[i]]):=rz aN n
   clear hc
   generalize af n (l.take i)=f at bL rt HT
   generalize l[i]=y at q HT
   by_cases hn:(y:Int)=n
   ·have gn:((y:Int) != n)=false:=by simp [hn]
    have n8:Hid (af n (l.take (i+1))=f):=by unfold Hid;rw [HT.out,if_pos hn];simp
    have HW:Hid (wr.ownsRow w.heap.size 3 1 (.slice a2 f.length c2) f.length (aK f)):=bL
    clear hn HT bL
    go_wp2
    go_roundg (l.length - (i+1))
    case measure=>omega
    case rel=>exact ⟨i+1,by go_num,by omega,Nat.le_refl _,by rw [n8.out];exact HW.out,hB⟩
   ·have gn:((y:Int) != n)=true:=by simp [hn]
    have n8:Hid (af n (l.take (i+1))=f++[y]):=by unfold Hid;rw [HT.out,if_neg hn]
    have hz:=hB.size
    clear hn HT
    go_wp2_with (at_builtin;refine wpList_append_own _ rfl (.tmp 19) (.tmp 24) 40 rfl w.heap.size 3 i0 (.int .i64 0) 1 8 Tryz.underlying40 hi gx gw gB rfl (by decide) _ _ _ rfl (bL.alloc _) ⟨wr.heap.size,0,none⟩ 1 1 [.int .i64 (y:Int)] rfl rfl ?c1 ?c2 ?c3 ?c4 ?c5 ?_)
    case c1=>exact aO wr _ rfl _ _ _ rfl
    case c2=>intro u hu;simp at hu;subst hu;rfl
    case c3=>unfold maxLen;omega
    case c4=>omega
    case c5=>simp;omega
    ·intro v' w3 bB eJ _
     have bg:w3.ownsRow w.heap.size 3 1 v' (f++[y]).length (aK (f++[y])):=by simpa [aK] using bB
     have eS:Below w.heap.size w w3:=(hB.alloc hz _).grown eJ (by simp;omega) (fun k hk=>(bL.lt k hk).1)
     clear bB eJ bL q
     go_wp2
     go_roundg (l.length - (i+1))
     case measure=>omega
     case rel=>exact ⟨i+1,by go_num,by omega,Nat.le_refl _,by rw [n8.out];exact bg,eS⟩
  ·have hd:decide ((i:Int)<(l.length:Int))=false:=by simp;omega
   obtain rfl:i=l.length:=by omega
   rw [List.take_length] at bL
   have HW:Hid (wr.ownsRow w.heap.size 3 1 (.slice a2 (af n l).length c2) (af n l).length (aK (af n l))):=bL
   rw [List.take_length]
   clear bL
   go_wp2
   go_ret
   exact ⟨a2,c2,rfl,HW.out,hB⟩
theorem wQ {T:aA} {l:List Nat} (h:LT T l) (n:Int):LT T (af n l):=⟨h.1.filter _,fun k hk=>h.2 k (List.mem_filter.1 hk).1⟩
theorem Bu {so su:Bool} {c:Int} (h:-1≤c∧c≤24):-1≤ro so su c∧ro so su c≤24:=by
 unfold ro
 cases so<;>cases su<;>simp<;>first | exact h | (split<;>omega) | omega
theorem B6 (T:aA):∀ (j:Nat) (n:Int),jm T (j+1) n=aU T (jm T j n)
 | 0,_=>rfl
 | j+1,n=>B6 T j (aU T n)
section
variable {PS:World→Value→YS→List Nat→(Nat→Prop)→Prop} {Q:ft→YS→List Nat→YS→List Nat→Prop}
structure QI (PS:World→Value→YS→List Nat→(Nat→Prop)→Prop) (w:World) (G:Nat→Prop) (b:Nat) (X:YS) (aP:List Nat) (px:Value) (d:Nat) (K:fm) (n:Int) (j:Nat) (K1:fm) (wr:World):Prop where
 pq:PQ2 PS w G wr b X aP X px d K1
 lk:oe X.T K1
 cnt:-1≤K1.cnt∧K1.cnt≤24
 ls:K1.ls=K.ls
 up:∀ i,i<j→0≤jm X.T i n
 at':(K1.lm,K1.ly,K1.cnt)=Ez X.T n (K.lm,K.ly,K.cnt) j
set_option maxRecDepth 100000 in
set_option maxHeartbeats 4000000 in
theorem pe (hP:bi PS Q) (w:World) (b:Nat) (X:YS) (st:List Nat) (pa:Addr) (d:Nat) (K:fm) (G Fp Fx Fy:Nat→Prop)
  (h:PJ2 PS w b X st X (.pointer (some pa)) d K Fp Fx Fy) (hG:∀ k,Fp k∨Fx k∨Fy k→G k) (mB:oe X.T K) (OB:-1≤K.cnt∧K.cnt≤24) (n:Int) (s:ByteArray) :
  Calls Tryz.prog 60 #[.pointer (some ⟨b,0,none⟩),.int .i64 n,.string s] w fun e w'=>TurnPost2 PS w G b (.pointer (some pa)) d (LF Q X st K n s) e w':=by
 have HP:Hid (bi PS Q):=hP
 have HW:Hid (oe X.T K∧(-1≤K.cnt∧K.cnt≤24)):=⟨mB,OB⟩
 have H0:Hid (PQ2 PS w G w b X st X (.pointer (some pa)) d K):=PQ2.start h hG
 clear h hP mB hG OB Fp Fx Fy
 obtain ⟨Fx,Fy,sQ,Sm,vf,rt,Cd,DI⟩:=H0.out.open HP.out
 obtain ⟨els,hp,vT,aR,vL,Rr,Gs,hX,hA,Js,L9,My⟩:=Sm
 have HX:Hid (RX w d els X.made hp vT aR vL Rr Gs X.M X.shn X.rs∧X.T=aB els):=⟨hX,hA⟩
 have HF:Hid ((∀ k,gQ d els vL k→Fy k)∧(∀ k,Gs k→Fy k)∧(aR=true→∀ k,vT.ownBlock=some k→Fy k)∧(∀ k,Fy k→¬ Fx k)∧(∀ k,Fy k→k<w.heap.size)):=⟨Js,L9,My,vf,rt⟩
 have zH:Hid (PS w (.pointer (some pa)) X st Fx):=sQ
 have nn:Hid (∀ w1 X1 aP,PS w1 (.pointer (some pa)) X1 aP (bu Fx w)→Fr w w1 Fx→PQ2 PS w G w1 b X1 aP X (.pointer (some pa)) d K):=Cd
 have eL:Hid (∀ w1 X1 aP w2 Y2,PS w1 (.pointer (some pa)) X1 aP (bu Fx w)→Fr w w1 Fx→RY w2 d Y2 (bu Fy w1)→Fr w1 w2 Fy→PQ2 PS w G w2 b X1 aP Y2 (.pointer (some pa)) d K):=DI
 clear hX hA Js L9 My sQ vf rt Cd DI
 have HB:Hid (∀ {wx:World} {X1 aP Y1 K1},PQ2 PS w G wx b X1 aP Y1 (.pointer (some pa)) d K1→wx.heap[b]?=some (.cells #[.pointer (some pa),.pointer (some ⟨d,0,none⟩),K1.vm,K1.vy,.int .i64 K1.cnt,K1.vs,.bool K1.held] 124 (0,0))):=fun hq=>hq.pb.blk
 have b0:w.cell? ⟨b,0,none⟩=some (.pointer (some pa)):=aa (HB.out H0.out) rfl
 go_enter Tryz.func60,Tryz.ntmps60
 go_wp2_with fail
 refine (HP.out.qry w (.pointer (some pa)) X st Fx n s zH.out).mono ?_
 rintro e w1 ⟨aP,rfl,rH,dI,fq⟩
 have pO:Hid (Q (.qry n s) X st X aP∧PS w1 (.pointer (some pa)) X aP (bu Fx w)∧Fr w w1 Fx):=⟨rH,dI,fq⟩
 have tC:Hid (PQ2 PS w G w1 b X aP X (.pointer (some pa)) d K):=nn.out w1 X aP dI fq
 have B8:Hid (RX w1 d els X.made hp vT aR vL Rr Gs X.M X.shn X.rs):=by
  refine HX.out.1.keep (fun k hk hl=>fq.block k hl ?_) fq.size
  rcases hk with hk | hk | ⟨hh,hk⟩
  ·exact HF.out.2.2.2.1 k (HF.out.1 k hk)
  ·exact HF.out.2.2.2.1 k (HF.out.2.1 k hk)
  ·exact HF.out.2.2.2.1 k (HF.out.2.2.1 hh k hk)
 have b1:w1.cell? ⟨b,1,none⟩=some (.pointer (some ⟨d,0,none⟩)):=aa (HB.out tC.out) rfl
 clear rH dI fq b0
 go_wp2_with fail
 refine (DD w1 d els X.made hp vT aR vL Rr Gs X.M X.shn X.rs n s B8.out).mono ?_
 intro e w2 dB
 have Pq:=HX.out.2
 rcases dB with ⟨he,rfl,rfl⟩ | ⟨he,rfl,vT2,NU,jr,bo⟩
 ·rw [←Pq] at he ⊢
  have hv0:jn X.T X.M X.rs n s=0:=by unfold jn;rw [if_neg he]
  have HE:Hid (TurnPost2 PS w G b (.pointer (some pa)) d (LF Q X st K n s) (.returned (.bool true)) w2):=⟨rfl,X,aP,K,tC.out,HW.out.1,rfl,pO.out.1,Or.inl ⟨he,rfl⟩⟩
  have gy:(bP X.T n s != 0)=true:=by simp [he]
  rw [hv0]
  generalize bP X.T n s=ce at gy
  clear hv0 he Pq
  go_wp2_with fail
  refine (bF _ ce).mono ?_
  rintro e w5 ⟨rfl,rfl⟩
  go_wp2
  go_ret
  exact HE.out
 ·rw [←Pq] at he ⊢
  have mC:Hid (PQ2 PS w G w2 b X aP X (.pointer (some pa)) d K):=by
   refine eL.out w1 X aP w2 X pO.out.2.1 pO.out.2.2 ?_ (bo.mono HF.out.1)
   show RSd w2 d X.T X.made X.M X.shn X.rs (bu Fy w1)
   rw [Pq]
   refine NU.rsd (fun k hk=>Or.inl (HF.out.1 k hk)) (fun k hk=>Or.inl (HF.out.2.1 k hk)) (fun _ k hk=>?_)
   rcases jr with ⟨e1,e2⟩ | jr
   ·rw [e1] at hk;exact Or.inl (HF.out.2.2.1 e2 k hk)
   ·exact Or.inr (jr k hk)
  have gf:Hid (∀ w5 K' j,QI PS w G b X aP (.pointer (some pa)) d K n j K' w5→jm X.T j n<0→TurnPost2 PS w G b (.pointer (some pa)) d (LF Q X st K n s) (.returned (.bool true)) (w5.setCell ⟨b,6,none⟩ (.bool false))):=fun w5 K' j hi hj=>⟨rfl,X,aP,_,hi.pq.setHeld HP.out false,hi.lk,rfl,pO.out.1,Or.inr ⟨he,hi.ls,rfl,j,hj,hi.up,hi.at'⟩⟩
  have Cf:Hid (∀ j,X.T.length≤j→jm X.T j n<0):=fun j hj=>by
   have hf:∃ l,bn X.T n=some l:=by
    unfold bP at he
    cases hft:bn X.T n with
    | none=>rw [hft] at he;cases he
    | some l=>exact ⟨l,rfl⟩
   obtain ⟨l,hl⟩:=hf
   obtain ⟨k,rfl,hk⟩:=fx hl
   exact mC.out.tw.up_end hk hj
  have JU:Hid (QI PS w G b X aP (.pointer (some pa)) d K n 0 K w2):=⟨mC.out,HW.out.1,HW.out.2,rfl,fun i hi=>absurd hi (Nat.not_lt_zero i),rfl⟩
  have Vh:Hid (X.T.length≤24):=mC.out.few
  rw [he]
  clear NU jr bo he Pq b1
  generalize jn X.T X.M X.rs n s=vv
  go_wp2_with fail
  refine (bF _ 0).mono ?_
  rintro e w5 ⟨rfl,rfl⟩
  obtain ⟨w2,rfl⟩:∃ w2,w2=w5:=⟨_,rfl⟩
  go_wp2_with fail
  go_loopg [11] X.T.length (fun gk nv wr=>∃ (j:Nat) (K1:fm),nv=.int .i64 (jm X.T j n)∧X.T.length - j≤gk∧Hid (QI PS w G b X aP (.pointer (some pa)) d K n j K1 wr))
  case atStart=>exact ⟨0,K,rfl,by omega,JU⟩
  case round=>
   obtain ⟨j,K1,rfl,fK,HI⟩:=hrel
   by_cases mp:jm X.T j n<0
   ·have HE:Hid (TurnPost2 PS w G b (.pointer (some pa)) d (LF Q X st K n s) (.returned (.bool true)) (wr.setCell ⟨b,6,none⟩ (.bool false))):=gf.out wr K1 j HI.out mp
    have b6:wr.cell? ⟨b,6,none⟩=some (.bool K1.held):=aa (HB.out HI.out.pq) rfl
    have b6f:wr.frozen? ⟨b,6,none⟩=false:=ag (HB.out HI.out.pq)
    have jI:b<wr.heap.size:=(Array.getElem?_eq_some_iff.1 (HB.out HI.out.pq)).1
    generalize jm X.T j n=m at mp
    have gm:decide (0≤m)=false:=by simp;omega
    clear HI
    go_wp2
    go_ret
    exact HE.out
   ·have Il:j<X.T.length:=by
     rcases Nat.lt_or_ge j X.T.length with h1 | h1
     ·exact h1
     ·exact absurd (Cf.out j h1) mp
    have jl:Hid (jm X.T (j+1) n=aU X.T (jm X.T j n)):=B6 X.T j n
    have OW:Hid (∀ W K2,PQ2 PS w G W b X aP X (.pointer (some pa)) d K2→K2.lm=af (jm X.T j n) K1.lm→K2.ly=af (jm X.T j n) K1.ly→K2.ls=K1.ls→K2.cnt=ro (lV K1.ly (jm X.T j n)) (lV K1.lm (jm X.T j n)) K1.cnt→QI PS w G b X aP (.pointer (some pa)) d K n (j+1) K2 W):=fun W K2 h1 h2 h3 h4 h5=>by
     have hi:=HI.out
     refine ⟨h1,⟨by rw [h2];exact wQ hi.lk.1 _,by rw [h3];exact wQ hi.lk.2 _⟩,by rw [h5];exact Bu hi.cnt,h4.trans hi.ls,fun i WZ=>?_,?_⟩
     ·rcases Nat.lt_or_ge i j with h6 | h6
      ·exact hi.up i h6
      ·obtain rfl:i=j:=by omega
       omega
     ·show (K2.lm,K2.ly,K2.cnt)=(af (jm X.T j n) (Ez X.T n (K.lm,K.ly,K.cnt) j).1,af (jm X.T j n) (Ez X.T n (K.lm,K.ly,K.cnt) j).2.1,ro (lV (Ez X.T n (K.lm,K.ly,K.cnt) j).2.1 (jm X.T j n)) (lV (Ez X.T n (K.lm,K.ly,K.cnt) j).1 (jm X.T j n)) (Ez X.T n (K.lm,K.ly,K.cnt) j).2.2)
      rw [←hi.at',h2,h3,h5]
    obtain ⟨m2,zG⟩:∃ m2,jm X.T (j+1) n=m2:=⟨_,rfl⟩
    have MK:Hid (jm X.T (j+1) n=m2):=zG
    rw [zG] at jl
    clear zG
    generalize jm X.T j n=m at mp jl OW ⊢
    have gm:decide (0≤m)=true:=by simp;omega
    have Gd:K1.lm.length≤24:=by have:=HI.out.lk.1.len;have:=Vh.out;omega
    have GL:K1.ly.length≤24:=by have:=HI.out.lk.2.len;have:=Vh.out;omega
    have HCN:Hid (-1≤K1.cnt∧K1.cnt≤24):=HI.out.cnt
    obtain ⟨am,cm,GU⟩:=au HI.out.pq.must
    obtain ⟨ay,cy,OP⟩:=au HI.out.pq.may
    have HVM:Hid (K1.vm=.slice am K1.lm.length cm∧K1.vy=.slice ay K1.ly.length cy):=⟨GU,OP⟩
    have Rf:Hid (PQ2 PS w G wr b X aP X (.pointer (some pa)) d K1):=HI.out.pq
    have HRM:Hid (∀ wx K2,PQ2 PS w G wx b X aP X (.pointer (some pa)) d K2→K2.vm=K1.vm→K2.lm=K1.lm→wx.ownsRow 0 3 1 (.slice am K1.lm.length cm) K1.lm.length (aK K1.lm)∧wx.cell? ⟨b,2,none⟩=some (.slice am K1.lm.length cm)):=fun wx K2 hq e1 e2=>by
     rw [←HVM.out.1,←e1,←e2]
     exact ⟨hq.must,aa (HB.out hq) rfl⟩
    have HRY:Hid (∀ wx K2,PQ2 PS w G wx b X aP X (.pointer (some pa)) d K2→K2.vy=K1.vy→K2.ly=K1.ly→wx.ownsRow 0 3 1 (.slice ay K1.ly.length cy) K1.ly.length (aK K1.ly)∧wx.cell? ⟨b,3,none⟩=some (.slice ay K1.ly.length cy)):=fun wx K2 hq e1 e2=>by
     rw [←HVM.out.2,←e1,←e2]
     exact ⟨hq.may,aa (HB.out hq) rfl⟩
    obtain ⟨v9,b2⟩:=HRM.out wr K1 Rf.out rfl rfl
    obtain ⟨Vl,b3⟩:=HRY.out wr K1 Rf.out rfl rfl
    clear HI GU OP
    go_wp2_with fail
    refine (zn wr am cm K1.lm m 0 v9 Gd).mono ?_
    rintro e w5 ⟨rfl,rfl⟩
    obtain ⟨wr,rfl⟩:∃ wr,wr=w5:=⟨_,rfl⟩
    go_wp2_with fail
    refine (zn wr ay cy K1.ly m 0 Vl GL).mono ?_
    rintro e w5 ⟨rfl,rfl⟩
    obtain ⟨wr,rfl⟩:∃ wr,wr=w5:=⟨_,rfl⟩
    clear v9 Vl b2 b3
    generalize lV K1.lm m=su at OW ⊢
    generalize lV K1.ly m=so at OW ⊢
    have b4:wr.cell? ⟨b,4,none⟩=some (.int .i64 K1.cnt):=aa (HB.out Rf.out) rfl
    have Rx:wr.frozen? ⟨b,4,none⟩=false:=ag (HB.out Rf.out)
    have jI:b<wr.heap.size:=(Array.getElem?_eq_some_iff.1 (HB.out Rf.out)).1
    go_upto_region 12 with fail
    go_cut [70] from 66 to 69 (fun pv wx=>pv=.bool (so&&!su)∧Hid (PQ2 PS w G wx b X aP X (.pointer (some pa)) d K1))
    case first=>
     cases so<;>cases su
     all_goals
      go_wp2_with fail
      go_meet
      exact ⟨rfl,Rf⟩
    case rest=>
     obtain ⟨rfl,yM⟩:=hcut
     clear Rf b4 Rx jI
     have b4:wc.cell? ⟨b,4,none⟩=some (.int .i64 K1.cnt):=aa (HB.out yM.out) rfl
     have Rx:wc.frozen? ⟨b,4,none⟩=false:=ag (HB.out yM.out)
     have jI:b<wc.heap.size:=(Array.getElem?_eq_some_iff.1 (HB.out yM.out)).1
     obtain ⟨tt,Yi⟩:∃ tt,(so&&!su)=tt:=⟨_,rfl⟩
     have HTT:Hid ((so&&!su)=tt):=Yi
     rw [Yi]
     clear Yi
     go_upto_if 70 with fail
     go_cut [11,12] from 46 to 106 (fun nv sv wx=>nv=.int .i64 m∧sv=.bool su∧Hid (PQ2 PS w G wx b X aP X (.pointer (some pa)) d {K1 with cnt:=if (so&&!su)=true then (-1:Int) else K1.cnt}))
     case first=>
      cases tt with
      | true=>
       have HC:Hid (PQ2 PS w G (wc.setCell ⟨b,4,none⟩ (.int .i64 (-1))) b X aP X (.pointer (some pa)) d {K1 with cnt:=if (so&&!su)=true then (-1:Int) else K1.cnt}):=by unfold Hid;rw [if_pos HTT.out];exact yM.out.setCnt HP.out (-1)
       go_wp2_with fail
       go_meet
       exact ⟨rfl,rfl,HC⟩
      | false=>
       have HC:Hid (PQ2 PS w G wc b X aP X (.pointer (some pa)) d {K1 with cnt:=if (so&&!su)=true then (-1:Int) else K1.cnt}):=by unfold Hid;rw [if_neg (by rw [HTT.out];decide)];exact yM.out
       go_wp2_with fail
       go_meet
       exact ⟨rfl,rfl,HC⟩
     case rest=>
      obtain ⟨rfl,rfl,HC⟩:=hcut
      clear b4 Rx jI yM
      obtain ⟨c1,oj⟩:∃ c1:Int,(if (so&&!su)=true then (-1:Int) else K1.cnt)=c1:=⟨_,rfl⟩
      rw [oj] at HC
      have TX:Hid ((if (so&&!su)=true then (-1:Int) else K1.cnt)=c1):=oj
      have zo:-1≤c1∧c1≤24:=by
       have:=HCN.out
       rw [←oj]
       split<;>omega
      have Yd:=zo.1
      have ZB:=zo.2
      clear oj zo
      have b4:wc.cell? ⟨b,4,none⟩=some (.int .i64 c1):=aa (HB.out HC.out) rfl
      have Rx:wc.frozen? ⟨b,4,none⟩=false:=ag (HB.out HC.out)
      have jI:b<wc.heap.size:=(Array.getElem?_eq_some_iff.1 (HB.out HC.out)).1
      go_upto_region 14 with fail
      go_cut [81] from 74 to 80 (fun pv wx=>pv=.bool (su&&decide (0<c1))∧Hid (PQ2 PS w G wx b X aP X (.pointer (some pa)) d {K1 with cnt:=c1}))
      case first=>
       cases su with
       | false=>
        go_wp2_with fail
        go_meet
        exact ⟨rfl,HC⟩
       | true=>
        go_wp2_with fail
        go_meet
        exact ⟨rfl,HC⟩
      case rest=>
       obtain ⟨rfl,yM⟩:=hcut
       clear HC b4 Rx jI
       have b4:wc.cell? ⟨b,4,none⟩=some (.int .i64 c1):=aa (HB.out yM.out) rfl
       have Rx:wc.frozen? ⟨b,4,none⟩=false:=ag (HB.out yM.out)
       have jI:b<wc.heap.size:=(Array.getElem?_eq_some_iff.1 (HB.out yM.out)).1
       obtain ⟨t2,Yp⟩:∃ t2,(su&&decide (0<c1))=t2:=⟨_,rfl⟩
       have n8:Hid ((su&&decide (0<c1))=t2):=Yp
       rw [Yp]
       clear Yp
       go_upto_if 81 with fail
       go_cut [11] from 46 to 106 (fun nv wx=>nv=.int .i64 m∧Hid (PQ2 PS w G wx b X aP X (.pointer (some pa)) d {K1 with cnt:=if (su&&decide (0<c1))=true then c1 - 1 else c1}))
       case first=>
        cases t2 with
        | true=>
         have HD:Hid (PQ2 PS w G (wc.setCell ⟨b,4,none⟩ (.int .i64 (c1 - 1))) b X aP X (.pointer (some pa)) d {K1 with cnt:=if (su&&decide (0<c1))=true then c1 - 1 else c1}):=by unfold Hid;rw [if_pos n8.out];exact yM.out.setCnt HP.out (c1 - 1)
         go_wp2_with fail
         go_meet
         exact ⟨rfl,HD⟩
        | false=>
         have HD:Hid (PQ2 PS w G wc b X aP X (.pointer (some pa)) d {K1 with cnt:=if (su&&decide (0<c1))=true then c1 - 1 else c1}):=by unfold Hid;rw [if_neg (by rw [n8.out];decide)];exact yM.out
         go_wp2_with fail
         go_meet
         exact ⟨rfl,HD⟩
       case rest=>
        obtain ⟨rfl,HD⟩:=hcut
        clear b4 Rx jI yM
        obtain ⟨c2,yI⟩:∃ c2:Int,(if (su&&decide (0<c1))=true then c1 - 1 else c1)=c2:=⟨_,rfl⟩
        rw [yI] at HD
        have zI:Hid (c2=ro so su K1.cnt):=by
         unfold Hid ro
         rw [TX.out]
         rw [←yI]
        clear yI Yd ZB HCN
        obtain ⟨v9,b2⟩:=HRM.out wc _ HD.out rfl rfl
        go_wp2_with fail
        refine (xu wc am cm K1.lm m 0 v9 Gd).mono ?_
        rintro e W3 ⟨a3,c3,rfl,bg,mq⟩
        have yP:=(mq.block b (Array.getElem?_eq_some_iff.1 (HB.out HD.out)).1).trans (HB.out HD.out)
        have e2:W3.cell? ⟨b,2,none⟩=some K1.vm:=aa yP rfl
        have ez:∀ k,W3.frozen? ⟨b,k,none⟩=false:=fun _=>ag yP
        have jI:b<W3.heap.size:=(Array.getElem?_eq_some_iff.1 yP).1
        have mu:Hid (PQ2 PS w G (W3.setCell ⟨b,2,none⟩ (.slice a3 (af m K1.lm).length c3)) b X aP X (.pointer (some pa)) d {K1 with cnt:=c2,vm:=.slice a3 (af m K1.lm).length c3,lm:=af m K1.lm}):=HD.out.setMust HP.out mq (aG bg (Nat.zero_le _)) (fun j hj=>Or.inr (bg.lt j hj).1)
        clear bg mq yP b2 v9 HD
        go_upto_region 17 with fail
        obtain ⟨W4,Ac⟩:∃ W4,W4=W3.setCell ⟨b,2,none⟩ (.slice a3 (af m K1.lm).length c3):=⟨_,rfl⟩
        rw [←Ac] at mu ⊢
        clear Ac e2 ez jI
        obtain ⟨Vl,b3⟩:=HRY.out W4 _ mu.out rfl rfl
        go_wp2_with fail
        refine (xu W4 ay cy K1.ly m 0 Vl GL).mono ?_
        rintro e W5 ⟨a5,c5,rfl,cX,vR⟩
        have I3:=(vR.block b (Array.getElem?_eq_some_iff.1 (HB.out mu.out)).1).trans (HB.out mu.out)
        have e3:W5.cell? ⟨b,3,none⟩=some K1.vy:=aa I3 rfl
        have ez:∀ k,W5.frozen? ⟨b,k,none⟩=false:=fun _=>ag I3
        have jI:b<W5.heap.size:=(Array.getElem?_eq_some_iff.1 I3).1
        have EL:Hid (PQ2 PS w G (W5.setCell ⟨b,3,none⟩ (.slice a5 (af m K1.ly).length c5)) b X aP X (.pointer (some pa)) d {K1 with cnt:=c2,vm:=.slice a3 (af m K1.lm).length c3,lm:=af m K1.lm,vy:=.slice a5 (af m K1.ly).length c5,ly:=af m K1.ly}):=mu.out.setMay HP.out vR (aG cX (Nat.zero_le _)) (fun j hj=>Or.inr (cX.lt j hj).1)
        clear cX vR I3 b3 Vl mu
        have HQI:Hid (QI PS w G b X aP (.pointer (some pa)) d K n (j+1) {K1 with cnt:=c2,vm:=.slice a3 (af m K1.lm).length c3,lm:=af m K1.lm,vy:=.slice a5 (af m K1.ly).length c5,ly:=af m K1.ly} (W5.setCell ⟨b,3,none⟩ (.slice a5 (af m K1.ly).length c5))):=OW.out _ _ EL.out rfl rfl rfl zI.out
        go_upto_region 9 with fail
        obtain ⟨W6,FE⟩:∃ W6,W6=W5.setCell ⟨b,3,none⟩ (.slice a5 (af m K1.ly).length c5):=⟨_,rfl⟩
        rw [←FE] at EL HQI ⊢
        clear FE e3 ez jI
        have b1:W6.cell? ⟨b,1,none⟩=some (.pointer (some ⟨d,0,none⟩)):=aa (HB.out EL.out) rfl
        go_wp2_with fail
        refine (mz EL.out m).mono ?_
        rintro e w5 ⟨rfl,rfl⟩
        obtain ⟨W6,rfl⟩:∃ W6,W6=w5:=⟨_,rfl⟩
        rw [←jl.out]
        clear EL b1
        go_wp2
        go_roundg (X.T.length - (j+1))
        case measure=>omega
        case rel=>exact ⟨j+1,_,by rw [MK.out],Nat.le_refl _,HQI⟩
end
end Go.Proofs.YtblfffbmklkhmaaGreat
