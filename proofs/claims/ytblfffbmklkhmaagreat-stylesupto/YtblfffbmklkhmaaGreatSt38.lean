import Derived.Test.YtblfffbmklkhmaaGreatSt37
namespace Go.Proofs.YtblfffbmklkhmaaGreat
open Go.RowKit
noncomputable def rf (T:aA) (f n:Int):Bool:=decide (aU T f<0)||bI T (aU T f) n
noncomputable def jP (T:aA) (f:Int) (m:List Nat):List Nat:=T.foldl (fun m e=>if rf T f e.1=true then dw m e.1 else m) m
def iO (T:aA) (l:List Nat):List Nat:=l.filter fun k=>(bn T k).isSome
theorem He (els:List REl) (f n:Int):iV els f n=rf (aB els) f n:=by
 unfold iV rf
 rw [dk,oT]
theorem GV (els:List REl) (f:Int) (m:List Nat):eO els f els m=jP (aB els) f m:=by
 unfold eO jP
 have ol:∀ (l:List REl) (m:List Nat),l.foldl (fun m e=>if iV els f e.num=true then dw m e.num else m) m=(aB l).foldl (fun m e=>if rf (aB els) f e.1=true then dw m e.1 else m) m:=fun l=>by
  induction l with
  | nil=>intro m;rfl
  | cons x l ih=>
   intro m
   rw [List.foldl_cons,ih]
   show _=List.foldl _ (if rf (aB els) f (x.num:Nat)=true then dw m x.num else m) (aB l)
   rw [He]
 exact ol els m
theorem J0 (els:List REl) (l:List Nat):iP els l=iO (aB els) l:=by
 unfold iP iO
 apply List.filter_congr
 intro k _
 cases hf:aZ els k with
 | none=>rw [co hf];rfl
 | some e=>rw [bT hf];rfl
def oe (T:aA) (K:fm):Prop:=LT T K.lm∧LT T K.ly
theorem LT.spoil {T:aA} {l:List Nat} (h:LT T l) (f:Int):LT T (jP T f l):=by
 unfold jP
 have ol:∀ (U:aA) (l:List Nat),(∀ e∈U,e∈T)→LT T l→LT T (U.foldl (fun m e=>if rf T f e.1=true then dw m e.1 else m) l):=fun U=>by
  induction U with
  | nil=>intro l _ h;exact h
  | cons x U ih=>
   intro l hs h
   rw [List.foldl_cons]
   refine ih _ (fun e he=>hs e (List.mem_cons_of_mem _ he)) ?_
   split
   ·exact h.with (n:=x.1) (c:=x.2) (hs x List.mem_cons_self)
   ·exact h
 exact ol T l (fun _ h=>h) h
theorem LT.only {T:aA} {l:List Nat} (h:l.Nodup):LT T (iO T l):=by
 refine ⟨h.filter _,fun k hk=>?_⟩
 have h1:=(List.mem_filter.1 hk).2
 obtain ⟨c,hc⟩:=Option.isSome_iff_exists.1 h1
 obtain ⟨a,ha,hm⟩:=fx hc
 exact ⟨c,by rw [show k=a from by omega];exact hm⟩
def TurnPost2 (PS:World→Value→YS→List Nat→(Nat→Prop)→Prop) (w:World) (G:Nat→Prop) (b:Nat) (px:Value) (d:Nat) (R:YS→List Nat→fm→Prop) (e:Ending) (w':World):Prop:=
 e=.returned (.bool true)∧∃ X' fQ K',PQ2 PS w G w' b X' fQ X' px d K'∧oe X'.T K'∧R X' fQ K'
section
variable {PS:World→Value→YS→List Nat→(Nat→Prop)→Prop} {Q:ft→YS→List Nat→YS→List Nat→Prop} {w0:World} {G:Nat→Prop} {w:World} {b:Nat} {X Y:YS} {st:List Nat} {px:Value} {d:Nat} {K:fm}
def Oc (PS:World→Value→YS→List Nat→(Nat→Prop)→Prop) (w0:World) (G:Nat→Prop) (b:Nat) (X:YS) (st:List Nat) (Y:YS) (px:Value) (d:Nat) (K:fm) (f:Int) (e:Ending) (w':World):Prop:=
 e=.returned (.tuple #[])∧∃ Uc,PQ2 PS w0 G w' b X st Y px d {K with vy:=Uc,ly:=jP Y.T f K.ly,cnt:=-1,held:=false}
theorem fA (hP:bi PS Q) (h:PQ2 PS w0 G w b X st Y px d K) (PU:LT Y.T K.ly) (f:Int) :
  Calls Tryz.prog 144 #[.pointer (some ⟨b,0,none⟩),.int .i64 f] w fun e w'=>Oc PS w0 G b X st Y px d K f e w':=by
 obtain ⟨F,els,hp,vT,aR,vL,Rr,Gs,hX,hA,_⟩:=h.rs
 obtain ⟨rk,PZ⟩:=pL hX.tw
 rw [hA] at PU
 refine (Co w b px d els Y.made hp vT aR vL K.vm K.vy K.vs K.cnt K.held K.ly f h.pb hX.rd rk PZ h.may (Uz.1 PU)).mono ?_
 rintro e W7 ⟨rfl,a7,c7,pb7,yk,TK,hn7⟩
 rw [GV,←hA] at pb7 yk hn7
 have Uu:W7.ownsRow 0 3 1 K.vm K.lm.length (aK K.lm):=bZ h.must (fun j hj hl=>TK.block j hl (fun e=>aj h.must h.pb.blk (by decide) (e▸hj)))
 have UN:W7.ownsRow 0 3 1 K.vs K.ls.length (aK K.ls):=bZ h.seen (fun j hj hl=>TK.block j hl (fun e=>aj h.seen h.pb.blk (by decide) (e▸hj)))
 exact ⟨rfl,_,h.pair hP TK pb7 Uu yk UN (fun j hj=>Or.inl (Or.inl hj)) (fun j hj=>(hn7 j hj).imp (fun x=>Or.inr (Or.inl x)) id) (fun j hj=>Or.inl (Or.inr (Or.inr hj)))⟩
def NY (w:World) (l':List Nat) (e:Ending) (w':World):Prop:=
 ∃ (a:Option Addr) (c:Nat),e=.returned (.slice a l'.length c)∧w'.ownsRow 0 3 1 (.slice a l'.length c) l'.length (aK l')∧Below w.heap.size w w'∧Hid (∀ j,(Value.slice a l'.length c).ownBlock=some j→w.heap.size≤j)
theorem wB (h:PQ2 PS w0 G w b X st Y px d K) (a:Option Addr) (c:Nat) (l:List Nat) (ho:w.ownsRow 0 3 1 (.slice a l.length c) l.length (aK l)) (hl:l.length≤24) :
  Calls Tryz.prog 146 #[.pointer (some ⟨b,0,none⟩),.slice a l.length c] w fun e w'=>NY w (iO Y.T l) e w':=by
 obtain ⟨F,els,hp,vT,aR,vL,Rr,Gs,hX,hA,_⟩:=h.rs
 refine (Mq w b px d els Y.made hp vT aR vL K.vm K.vy K.vs K.cnt K.held a c l h.pb hX.rd ho hl).mono ?_
 rintro e w' ⟨a',c',rfl,own,hB⟩
 rw [J0,←hA] at own ⊢
 exact ⟨a',c',rfl,aG own (Nat.zero_le _),hB,fun j hj=>(own.lt j hj).1⟩
theorem mz (h:PQ2 PS w0 G w b X st Y px d K) (n:Int) :
  Calls Tryz.prog 97 #[.pointer (some ⟨d,0,none⟩),.int .i64 n] w fun e w'=>e=.returned (.int .i64 (aU Y.T n))∧w'=w:=by
 obtain ⟨F,els,hp,vT,aR,vL,Rr,Gs,hX,hA,_⟩:=h.rs
 rw [hA,dk]
 exact eQ w d els Y.made hp vT aR vL n hX.rd
theorem If {Y:YS} {F:Nat→Prop} (h:RY w d Y F) (hm:Y.made≤1099511627776) (par at':Int) (kind:ByteArray) :
  Calls Tryz.prog 142 #[.pointer (some ⟨d,0,none⟩),.int .i64 par,.int .i64 at',.string kind] w fun e w'=>∃ y Y' n,e=.returned (.tuple #[.int .i64 n,.int .i64 y])∧YIns Y par at' kind y Y' n∧RY w' d Y' (bu F w)∧Fr w w' F:=by
 refine (AU w d Y.T Y.made Y.M Y.shn Y.rs F par at' kind h hm).mono ?_
 rintro e w' ⟨y,T',made',n,he,h1,h2,h3⟩
 exact ⟨y,⟨T',made',_,_,Y.rs⟩,n,he,⟨h1,rfl,rfl,rfl⟩,h2,h3⟩
theorem Ic {Y:YS} {F:Nat→Prop} (h:RY w d Y F) (n:Int) :
  Calls Tryz.prog 145 #[.pointer (some ⟨d,0,none⟩),.int .i64 n] w fun e w'=>∃ y Y',e=.returned (.int .i64 y)∧YRem Y n y Y'∧RY w' d Y' (bu F w)∧Fr w w' F:=by
 refine (Bn w d Y.T Y.made Y.M Y.shn Y.rs F n h).mono ?_
 rintro e w' ⟨y,T',he,h1,h2,h3⟩
 exact ⟨y,⟨T',Y.made,Y.M,Y.shn,Y.rs⟩,he,⟨h1,rfl,rfl,rfl,rfl⟩,h2,h3⟩
theorem Ib {Y:YS} {F:Nat→Prop} (h:RY w d Y F) (n m at':Int) :
  Calls Tryz.prog 147 #[.pointer (some ⟨d,0,none⟩),.int .i64 n,.int .i64 m,.int .i64 at'] w fun e w'=>∃ y Y',e=.returned (.int .i64 y)∧YMov Y n m at' y Y'∧RY w' d Y' (bu F w)∧Fr w w' F:=by
 refine (IG w d Y.T Y.made Y.M Y.shn Y.rs F n m at' h).mono ?_
 rintro e w' ⟨y,T',he,h1,h2,h3⟩
 exact ⟨y,⟨T',Y.made,Y.M,Y.shn,Y.rs⟩,he,⟨h1,rfl,rfl,rfl,rfl⟩,h2,h3⟩
end
def NC (Q:ft→YS→List Nat→YS→List Nat→Prop) (X:YS) (st:List Nat) (K:fm) (par at':Int) (kind:ByteArray) (X':YS) (fQ:List Nat) (K':fm):Prop:=
 ∃ y n,YIns X par at' kind y X' n∧Q (.ins par y) X st X' fQ∧((y≠0∧K'=K)∨(y=0∧K'.lm=dw K.lm X.made∧K'.ly=jP X'.T par (dw K.ly X.made)∧K'.ls=K.ls∧K'.cnt=-1∧K'.held=false))
set_option maxRecDepth 100000 in
set_option maxHeartbeats 8000000 in
theorem vP {PS:World→Value→YS→List Nat→(Nat→Prop)→Prop} {Q:ft→YS→List Nat→YS→List Nat→Prop} (hP:bi PS Q) (w:World) (b:Nat) (X:YS) (st:List Nat) (pa:Addr) (d:Nat) (K:fm) (G Fp Fx Fy:Nat→Prop)
  (h:PJ2 PS w b X st X (.pointer (some pa)) d K Fp Fx Fy) (hG:∀ k,Fp k∨Fx k∨Fy k→G k) (By:∀ k,G k→k<w.heap.size) (mB:oe X.T K) (lz:X.made≤1099511627776) (kd at' xx yy zz:Int) (S Tt:ByteArray) (on:Bool) :
  Calls Tryz.prog 100 #[.pointer (some ⟨b,0,none⟩),.agg #[.int .i64 kd,.int .i64 at',.int .i64 xx,.int .i64 yy,.int .i64 zz,.string S,.string Tt,.bool on]] w fun e w'=>TurnPost2 PS w G b (.pointer (some pa)) d (NC Q X st K xx yy Tt) e w':=by
 have HP:Hid (bi PS Q):=hP
 have HW:Hid (TW X.T X.made∧oe X.T K):=⟨h.rs.tw,mB⟩
 have HG:Hid (∀ k,G k→k<w.heap.size):=By
 have H0:Hid (PQ2 PS (w.alloc (an kd at' xx yy zz S Tt on)) G (w.alloc (an kd at' xx yy zz S Tt on)).drew b X st X (.pointer (some pa)) d K):=(PQ2.alloc hP h hG _).drew hP
 clear h hP mB hG By
 obtain ⟨EI,dI,AX⟩:=H0.out.prog HP.out
 have Bj:Hid (PS (w.alloc (an kd at' xx yy zz S Tt on)).drew (.pointer (some pa)) X st EI):=dI
 have Ab:Hid (∀ w1 X1 aP,PS w1 (.pointer (some pa)) X1 aP (bu EI (w.alloc (an kd at' xx yy zz S Tt on)).drew)→Fr (w.alloc (an kd at' xx yy zz S Tt on)).drew w1 EI→PQ2 PS (w.alloc (an kd at' xx yy zz S Tt on)) G w1 b X1 aP X (.pointer (some pa)) d K):=AX
 clear dI AX
 have HC:Hid (∀ (wx:World) X1 aP Y1,PQ2 PS (w.alloc (an kd at' xx yy zz S Tt on)) G wx b X1 aP Y1 (.pointer (some pa)) d K→wx.cell? ⟨b,0,none⟩=some (.pointer (some pa))∧wx.cell? ⟨b,1,none⟩=some (.pointer (some ⟨d,0,none⟩))∧wx.cell? ⟨w.heap.size,2,none⟩=some (.int .i64 xx)∧wx.cell? ⟨w.heap.size,3,none⟩=some (.int .i64 yy)∧wx.cell? ⟨w.heap.size,6,none⟩=some (.string Tt)):=fun wx X1 aP Y1 hq=>
  ⟨aa hq.pb.blk rfl,aa hq.pb.blk rfl,aa (hq.op HG.out) rfl,aa (hq.op HG.out) rfl,aa (hq.op HG.out) rfl⟩
 go_enter Tryz.func100,Tryz.ntmps100
 go_upto_region 1 with fail
 go_cut [5,6] (fun nv yv wx=>∃ (y n:Int) (X1:YS) (aP:List Nat),nv=.int .i64 n∧yv=.int .i64 y∧Hid (YIns X xx yy Tt y X1 n∧Q (.ins xx y) X st X1 aP∧PQ2 PS (w.alloc (an kd at' xx yy zz S Tt on)) G wx b X1 aP X (.pointer (some pa)) d K))
 case first=>
  go_region_held3 (fun w'=>w'.cell? ⟨b,0,none⟩=some (.pointer (some pa))∧w'.cell? ⟨b,1,none⟩=some (.pointer (some ⟨d,0,none⟩))∧w'.cell? ⟨w.heap.size,2,none⟩=some (.int .i64 xx)∧w'.cell? ⟨w.heap.size,3,none⟩=some (.int .i64 yy)∧w'.cell? ⟨w.heap.size,6,none⟩=some (.string Tt)) (first | exact HC.out _ _ _ _ H0.out | exact HC.out _ _ _ _ HT.out.2.2)
   (first | (go_at_call 36;refine (HP.out.ins _ (.pointer (some pa)) X st EI xx yy Tt Bj.out lz).mono ?_;rintro e w1 ⟨y,X1,aP,n,rfl,hT,hq,sQ,hH⟩;have HT:Hid (YIns X xx yy Tt y X1 n∧Q (.ins xx y) X st X1 aP∧PQ2 PS (w.alloc (an kd at' xx yy zz S Tt on)) G w1 b X1 aP X (.pointer (some pa)) d K):=⟨hT,hq,Ab.out w1 X1 aP sQ hH⟩))
  all_goals
   go_wp2_with fail
   go_meet
   exact ⟨y,n,X1,aP,rfl,rfl,HT⟩
 case rest=>
  obtain ⟨y,n,X1,aP,rfl,rfl,HT⟩:=hcut
  obtain ⟨Mf,zV,Aj⟩:=(HT.out.2.2.drew HP.out).ref HP.out
  have Bx:Hid (RY wc.drew d X Mf):=zV
  have Ar:Hid (∀ w1 Y1,RY w1 d Y1 (bu Mf wc.drew)→Fr wc.drew w1 Mf→PQ2 PS (w.alloc (an kd at' xx yy zz S Tt on)) G w1 b X1 aP Y1 (.pointer (some pa)) d K):=Aj
  have mC:Hid (PQ2 PS (w.alloc (an kd at' xx yy zz S Tt on)) G wc.drew b X1 aP X (.pointer (some pa)) d K):=HT.out.2.2.drew HP.out
  clear zV Aj H0 Bj Ab
  go_upto_region 2 with fail
  go_cut [7,8] (fun nv yv wx=>nv=.int .i64 n∧yv=.int .i64 y∧Hid (PQ2 PS (w.alloc (an kd at' xx yy zz S Tt on)) G wx b X1 aP X1 (.pointer (some pa)) d K))
  case first=>
   go_region_held3 (fun w'=>w'.cell? ⟨b,0,none⟩=some (.pointer (some pa))∧w'.cell? ⟨b,1,none⟩=some (.pointer (some ⟨d,0,none⟩))∧w'.cell? ⟨w.heap.size,2,none⟩=some (.int .i64 xx)∧w'.cell? ⟨w.heap.size,3,none⟩=some (.int .i64 yy)∧w'.cell? ⟨w.heap.size,6,none⟩=some (.string Tt)) (first | exact HC.out _ _ _ _ mC.out | exact HC.out _ _ _ _ jk.out)
    (first | (go_at_call 142;refine (If Bx.out lz xx yy Tt).mono ?_;rintro e w1 ⟨y',Y1,n',rfl,MW,C4,hH⟩;obtain ⟨rfl,rfl,rfl⟩:=HT.out.1.one MW;have jk:Hid (PQ2 PS (w.alloc (an kd at' xx yy zz S Tt on)) G w1 b X1 aP X1 (.pointer (some pa)) d K):=Ar.out w1 X1 C4 hH))
   all_goals
    go_wp2_with fail
    go_meet
    exact ⟨rfl,rfl,jk⟩
  case rest=>
   obtain ⟨rfl,rfl,HQ⟩:=hcut
   clear mC Bx Ar
   go_wp2_with fail
   refine (bF _ y).mono ?_
   rintro e w5 ⟨rfl,rfl⟩
   obtain ⟨wd,rfl⟩:∃ wd,wd=w5:=⟨_,rfl⟩
   by_cases hy:y=0
   ·subst hy
    have HI:Hid (YIns X xx yy Tt 0 X1 n∧Q (.ins xx 0) X st X1 aP):=⟨HT.out.1,HT.out.2.1⟩
    obtain ⟨hu0,hn,hm,p,k,Zg,Zq,⟨l,hl,hu3⟩,Pu⟩:=HT.out.1.1.2.resolve_left (fun x=>x.1 rfl)
    have HL:Hid (LT X1.T (dw K.lm X.made)∧LT X1.T (dw K.ly X.made)∧K.lm.length≤24∧K.ly.length≤24∧n=X.made):=by
     have jF:(X.made,[])∈X1.T:=by rw [Pu];exact cj.2 (Or.inr rfl)
     have UC:LT X1.T K.lm:=by rw [Pu];exact HW.out.2.1.ins p k X.made
     have UW:LT X1.T K.ly:=by rw [Pu];exact HW.out.2.2.ins p k X.made
     have NG:=HQ.out.few
     have h1:=UC.len
     have h2:=UW.len
     exact ⟨UC.with jF,UW.with jF,by omega,by omega,hn⟩
    clear hu0 hm Zg Zq hu3 hl Pu HT
    subst hn
    have Gd:K.lm.length≤24:=HL.out.2.2.1
    have GL:K.ly.length≤24:=HL.out.2.2.2.1
    obtain ⟨am,cm,GU⟩:=au HQ.out.must
    obtain ⟨ay,cy,OP⟩:=au HQ.out.may
    have cu:=HQ.out.must
    rw [GU] at cu
    have b2:wd.cell? ⟨b,2,none⟩=some (.slice am K.lm.length cm):=by rw [←GU];exact aa HQ.out.pb.blk rfl
    go_wp2_with fail
    refine (tn wd am cm K.lm X.made cu Gd).mono ?_
    rintro e W3 ⟨a3,c3,rfl,bg,mq,ji⟩
    have yP:=(mq.block b (Array.getElem?_eq_some_iff.1 HQ.out.pb.blk).1).trans HQ.out.pb.blk
    have e2:W3.cell? ⟨b,2,none⟩=some (.slice am K.lm.length cm):=by rw [←GU];exact aa yP rfl
    have ez:∀ k,W3.frozen? ⟨b,k,none⟩=false:=fun _=>ag yP
    have mu:Hid (PQ2 PS (w.alloc (an kd at' xx yy zz S Tt on)) G (W3.setCell ⟨b,2,none⟩ (.slice a3 (dw K.lm X.made).length c3)) b X1 aP X1 (.pointer (some pa)) d {K with vm:=.slice a3 (dw K.lm X.made).length c3,lm:=dw K.lm X.made}):=HQ.out.setMust HP.out mq bg (fun j hj=>by rw [GU];exact ji.out j hj)
    clear bg mq ji yP b2 HQ cu GU
    go_upto_region 7 with fail
    obtain ⟨W4,Ac⟩:∃ W4,W4=W3.setCell ⟨b,2,none⟩ (.slice a3 (dw K.lm X.made).length c3):=⟨_,rfl⟩
    rw [←Ac] at mu ⊢
    clear Ac e2 ez
    have As:=mu.out.may
    have vX:K.vy=.slice ay K.ly.length cy:=OP
    have B3:W4.ownsRow 0 3 1 (.slice ay K.ly.length cy) K.ly.length (aK K.ly):=by rw [←vX];exact As
    have b3:W4.cell? ⟨b,3,none⟩=some (.slice ay K.ly.length cy):=by rw [←vX];exact aa mu.out.pb.blk rfl
    go_wp2_with fail
    refine (tn W4 ay cy K.ly X.made B3 GL).mono ?_
    rintro e W5 ⟨a5,c5,rfl,cX,vR,rE⟩
    have I3:=(vR.block b (Array.getElem?_eq_some_iff.1 mu.out.pb.blk).1).trans mu.out.pb.blk
    have e3:W5.cell? ⟨b,3,none⟩=some (.slice ay K.ly.length cy):=by rw [←vX];exact aa I3 rfl
    have ez:∀ k,W5.frozen? ⟨b,k,none⟩=false:=fun _=>ag I3
    have EL:Hid (PQ2 PS (w.alloc (an kd at' xx yy zz S Tt on)) G (W5.setCell ⟨b,3,none⟩ (.slice a5 (dw K.ly X.made).length c5)) b X1 aP X1 (.pointer (some pa)) d {K with vm:=.slice a3 (dw K.lm X.made).length c3,lm:=dw K.lm X.made,vy:=.slice a5 (dw K.ly X.made).length c5,ly:=dw K.ly X.made}):=mu.out.setMay HP.out vR cX (fun j hj=>by show K.vy.ownBlock=some j∨_;rw [vX];exact rE.out j hj)
    clear cX vR rE I3 b3 mu As B3 OP vX
    go_upto_region 8 with fail
    obtain ⟨W6,FE⟩:∃ W6,W6=W5.setCell ⟨b,3,none⟩ (.slice a5 (dw K.ly X.made).length c5):=⟨_,rfl⟩
    rw [←FE] at EL ⊢
    clear FE e3 ez
    have o2:W6.cell? ⟨w.heap.size,2,none⟩=some (.int .i64 xx):=aa (EL.out.op HG.out) rfl
    go_wp2_with fail
    refine (fA HP.out EL.out HL.out.2.1 xx).mono ?_
    rintro e W7 ⟨rfl,OT,xw⟩
    have HE:Hid (TurnPost2 PS w G b (.pointer (some pa)) d (NC Q X st K xx yy Tt) (.returned (.bool true)) W7):=⟨rfl,X1,aP,_,xw.from,⟨HL.out.1,HL.out.2.1.spoil xx⟩,0,(X.made:Int),HI.out.1,HI.out.2,Or.inr ⟨rfl,rfl,rfl,rfl,rfl,rfl⟩⟩
    clear xw EL o2
    go_wp2
    go_ret
    exact HE.out
   ·have gy:(y==0)=false:=by simp [hy]
    have HE:Hid (TurnPost2 PS w G b (.pointer (some pa)) d (NC Q X st K xx yy Tt) (.returned (.bool true)) wd):=by
     obtain ⟨_,_,Pu,vt⟩:=HT.out.1.1.2.resolve_right (fun x=>hy x.1)
     exact ⟨rfl,X1,aP,K,HQ.out.from,by rw [Pu];exact HW.out.2,y,n,HT.out.1,HT.out.2.1,Or.inl ⟨hy,rfl⟩⟩
    clear hy
    go_wp2
    go_ret
    exact HE.out
end Go.Proofs.YtblfffbmklkhmaaGreat
namespace Go.Proofs.YtblfffbmklkhmaaGreat
open Go.RowKit
def Og (Q:ft→YS→List Nat→YS→List Nat→Prop) (X:YS) (st:List Nat) (K:fm) (n:Int) (X':YS) (fQ:List Nat) (K':fm):Prop:=
 ∃ y,YRem X n y X'∧Q (.rem n y) X st X' fQ∧((y≠0∧K'=K)∨(y=0∧K'.lm=iO X'.T K.lm∧K'.ly=jP X'.T (aU X.T n) (iO X'.T K.ly)∧K'.ls=K.ls∧K'.cnt=-1∧K'.held=false))
def OD (Q:ft→YS→List Nat→YS→List Nat→Prop) (X:YS) (st:List Nat) (K:fm) (n m at':Int) (X':YS) (fQ:List Nat) (K':fm):Prop:=
 ∃ y,YMov X n m at' y X'∧Q (.mov n m y) X st X' fQ∧((y≠0∧K'=K)∨(y=0∧K'.lm=K.lm∧K'.ly=jP X'.T m (jP X'.T (aU X.T n) K.ly)∧K'.ls=K.ls∧K'.cnt=-1∧K'.held=false))
set_option maxRecDepth 100000 in
set_option maxHeartbeats 8000000 in
theorem yX {PS:World→Value→YS→List Nat→(Nat→Prop)→Prop} {Q:ft→YS→List Nat→YS→List Nat→Prop} (hP:bi PS Q) (w:World) (b:Nat) (X:YS) (st:List Nat) (pa:Addr) (d:Nat) (K:fm) (G Fp Fx Fy:Nat→Prop)
  (h:PJ2 PS w b X st X (.pointer (some pa)) d K Fp Fx Fy) (hG:∀ k,Fp k∨Fx k∨Fy k→G k) (By:∀ k,G k→k<w.heap.size) (mB:oe X.T K) (at' xx yy zz:Int) (S Tt:ByteArray) (on:Bool) :
  Calls Tryz.prog 101 #[.pointer (some ⟨b,0,none⟩),.agg #[.int .i64 5,.int .i64 at',.int .i64 xx,.int .i64 yy,.int .i64 zz,.string S,.string Tt,.bool on]] w fun e w'=>TurnPost2 PS w G b (.pointer (some pa)) d (Og Q X st K xx) e w':=by
 have HP:Hid (bi PS Q):=hP
 have HW:Hid (TW X.T X.made∧oe X.T K):=⟨h.rs.tw,mB⟩
 have U4:Hid (X.T.length≤24):=h.rs.few
 have HG:Hid (∀ k,G k→k<w.heap.size):=By
 have H0:Hid (PQ2 PS (w.alloc (an 5 at' xx yy zz S Tt on)) G (w.alloc (an 5 at' xx yy zz S Tt on)) b X st X (.pointer (some pa)) d K):=PQ2.alloc hP h hG _
 clear h hP mB hG By
 have HC:Hid (∀ (wx:World) X1 aP Y1,PQ2 PS (w.alloc (an 5 at' xx yy zz S Tt on)) G wx b X1 aP Y1 (.pointer (some pa)) d K→wx.cell? ⟨b,0,none⟩=some (.pointer (some pa))∧wx.cell? ⟨b,1,none⟩=some (.pointer (some ⟨d,0,none⟩))∧wx.cell? ⟨w.heap.size,2,none⟩=some (.int .i64 xx)):=fun wx X1 aP Y1 hq=>
  ⟨aa hq.pb.blk rfl,aa hq.pb.blk rfl,aa (hq.op HG.out) rfl⟩
 have sM:Hid (∀ k,Calls Tryz.prog 97 #[.pointer (some ⟨d,0,none⟩),.int .i64 xx] ((w.alloc (an 5 at' xx yy zz S Tt on)).drewN k) fun e w'=>e=.returned (.int .i64 (aU X.T xx))∧w'=(w.alloc (an 5 at' xx yy zz S Tt on)).drewN k):=fun k=>mz (H0.out.drewN HP.out k) xx
 obtain ⟨d0,d1,d2⟩:=HC.out _ _ _ _ H0.out
 go_enter Tryz.func101,Tryz.ntmps101
 go_upto_region 1 with fail
 go_quiet ((go_at_call 97;exact Calls.quiet_of_same (sM.out _)))
 have ED:Hid (PQ2 PS (w.alloc (an 5 at' xx yy zz S Tt on)) G ((w.alloc (an 5 at' xx yy zz S Tt on)).drewN nq) b X st X (.pointer (some pa)) d K):=H0.out.drewN HP.out nq
 generalize (w.alloc (an 5 at' xx yy zz S Tt on)).drewN nq=wq at ED ⊢
 clear d0 d1 d2 sM H0
 obtain ⟨up,PM⟩:∃ up,aU X.T xx=up:=⟨_,rfl⟩
 rw [PM]
 have Cf:Hid (aU X.T xx=up):=PM
 clear PM
 have k0:wq.cell? ⟨w.heap.size,0,none⟩=some (.int .i64 5):=aa (ED.out.op HG.out) rfl
 have tC:Hid (PQ2 PS (w.alloc (an 5 at' xx yy zz S Tt on)) G wq.drew b X st X (.pointer (some pa)) d K):=ED.out.drew HP.out
 obtain ⟨EI,dI,AX⟩:=tC.out.prog HP.out
 have Bj:Hid (PS wq.drew (.pointer (some pa)) X st EI):=dI
 have Ab:Hid (∀ w1 X1 aP,PS w1 (.pointer (some pa)) X1 aP (bu EI wq.drew)→Fr wq.drew w1 EI→PQ2 PS (w.alloc (an 5 at' xx yy zz S Tt on)) G w1 b X1 aP X (.pointer (some pa)) d K):=AX
 clear dI AX ED
 go_upto_region 3 with fail
 clear k0
 go_cut [6] (fun yv wx=>∃ (y:Int) (X1:YS) (aP:List Nat),yv=.int .i64 y∧Hid (YRem X xx y X1∧Q (.rem xx y) X st X1 aP∧PQ2 PS (w.alloc (an 5 at' xx yy zz S Tt on)) G wx b X1 aP X (.pointer (some pa)) d K))
 case first=>
  go_region_held3 (fun w'=>w'.cell? ⟨b,0,none⟩=some (.pointer (some pa))∧w'.cell? ⟨b,1,none⟩=some (.pointer (some ⟨d,0,none⟩))∧w'.cell? ⟨w.heap.size,2,none⟩=some (.int .i64 xx)) (first | exact HC.out _ _ _ _ tC.out | exact HC.out _ _ _ _ HT.out.2.2)
   (first | (go_at_call 116;refine (HP.out.rem _ (.pointer (some pa)) X st EI xx Bj.out).mono ?_;rintro e w1 ⟨y,X1,aP,rfl,hT,hq,sQ,hH⟩;have HT:Hid (YRem X xx y X1∧Q (.rem xx y) X st X1 aP∧PQ2 PS (w.alloc (an 5 at' xx yy zz S Tt on)) G w1 b X1 aP X (.pointer (some pa)) d K):=⟨hT,hq,Ab.out w1 X1 aP sQ hH⟩))
  all_goals
   go_wp2_with fail
   go_meet
   exact ⟨y,X1,aP,rfl,HT⟩
 case rest=>
  obtain ⟨y,X1,aP,rfl,HT⟩:=hcut
  have mC:Hid (PQ2 PS (w.alloc (an 5 at' xx yy zz S Tt on)) G wc.drew b X1 aP X (.pointer (some pa)) d K):=HT.out.2.2.drew HP.out
  obtain ⟨Mf,zV,Aj⟩:=mC.out.ref HP.out
  have Bx:Hid (RY wc.drew d X Mf):=zV
  have Ar:Hid (∀ w1 Y1,RY w1 d Y1 (bu Mf wc.drew)→Fr wc.drew w1 Mf→PQ2 PS (w.alloc (an 5 at' xx yy zz S Tt on)) G w1 b X1 aP Y1 (.pointer (some pa)) d K):=Aj
  clear zV Aj tC Bj Ab
  go_upto_region 4 with fail
  go_cut [7] (fun yv wx=>yv=.int .i64 y∧Hid (PQ2 PS (w.alloc (an 5 at' xx yy zz S Tt on)) G wx b X1 aP X1 (.pointer (some pa)) d K))
  case first=>
   go_region_held3 (fun w'=>w'.cell? ⟨b,0,none⟩=some (.pointer (some pa))∧w'.cell? ⟨b,1,none⟩=some (.pointer (some ⟨d,0,none⟩))∧w'.cell? ⟨w.heap.size,2,none⟩=some (.int .i64 xx)) (first | exact HC.out _ _ _ _ mC.out | exact HC.out _ _ _ _ jk.out)
    (first | (go_at_call 145;refine (Ic Bx.out xx).mono ?_;rintro e w1 ⟨y',Y1,rfl,MW,C4,hH⟩;obtain ⟨rfl,rfl⟩:=HT.out.1.one MW;have jk:Hid (PQ2 PS (w.alloc (an 5 at' xx yy zz S Tt on)) G w1 b X1 aP X1 (.pointer (some pa)) d K):=Ar.out w1 X1 C4 hH))
   all_goals
    go_wp2_with fail
    go_meet
    exact ⟨rfl,jk⟩
  case rest=>
   obtain ⟨rfl,HQ⟩:=hcut
   clear mC Bx Ar
   by_cases hy:y=0
   ·subst hy
    have HI:Hid (YRem X xx 0 X1∧Q (.rem xx 0) X st X1 aP):=⟨HT.out.1,HT.out.2.1⟩
    have Gd:K.lm.length≤24:=by have:=HW.out.2.1.len;have:=U4.out;omega
    have GL:K.ly.length≤24:=by have:=HW.out.2.2.len;have:=U4.out;omega
    clear HT
    obtain ⟨am,cm,GU⟩:=au HQ.out.must
    obtain ⟨ay,cy,OP⟩:=au HQ.out.may
    have cu:=HQ.out.must
    rw [GU] at cu
    have b2:wc.cell? ⟨b,2,none⟩=some (.slice am K.lm.length cm):=by rw [←GU];exact aa HQ.out.pb.blk rfl
    go_wp2_with fail
    refine (wB HQ.out am cm K.lm cu Gd).mono ?_
    rintro e W3 ⟨a3,c3,rfl,bg,mq,ji⟩
    have yP:=(mq.block b (Array.getElem?_eq_some_iff.1 HQ.out.pb.blk).1).trans HQ.out.pb.blk
    have e2:W3.cell? ⟨b,2,none⟩=some (.slice am K.lm.length cm):=by rw [←GU];exact aa yP rfl
    have ez:∀ k,W3.frozen? ⟨b,k,none⟩=false:=fun _=>ag yP
    have mu:Hid (PQ2 PS (w.alloc (an 5 at' xx yy zz S Tt on)) G (W3.setCell ⟨b,2,none⟩ (.slice a3 (iO X1.T K.lm).length c3)) b X1 aP X1 (.pointer (some pa)) d {K with vm:=.slice a3 (iO X1.T K.lm).length c3,lm:=iO X1.T K.lm}):=HQ.out.setMust HP.out mq bg (fun j hj=>Or.inr (ji.out j hj))
    clear bg mq ji yP b2 HQ cu GU
    go_upto_region 7 with fail
    obtain ⟨W4,Ac⟩:∃ W4,W4=W3.setCell ⟨b,2,none⟩ (.slice a3 (iO X1.T K.lm).length c3):=⟨_,rfl⟩
    rw [←Ac] at mu ⊢
    clear Ac e2 ez
    have As:=mu.out.may
    have vX:K.vy=.slice ay K.ly.length cy:=OP
    have B3:W4.ownsRow 0 3 1 (.slice ay K.ly.length cy) K.ly.length (aK K.ly):=by rw [←vX];exact As
    have b3:W4.cell? ⟨b,3,none⟩=some (.slice ay K.ly.length cy):=by rw [←vX];exact aa mu.out.pb.blk rfl
    go_wp2_with fail
    refine (wB mu.out ay cy K.ly B3 GL).mono ?_
    rintro e W5 ⟨a5,c5,rfl,cX,vR,rE⟩
    have I3:=(vR.block b (Array.getElem?_eq_some_iff.1 mu.out.pb.blk).1).trans mu.out.pb.blk
    have e3:W5.cell? ⟨b,3,none⟩=some (.slice ay K.ly.length cy):=by rw [←vX];exact aa I3 rfl
    have ez:∀ k,W5.frozen? ⟨b,k,none⟩=false:=fun _=>ag I3
    have EL:Hid (PQ2 PS (w.alloc (an 5 at' xx yy zz S Tt on)) G (W5.setCell ⟨b,3,none⟩ (.slice a5 (iO X1.T K.ly).length c5)) b X1 aP X1 (.pointer (some pa)) d {K with vm:=.slice a3 (iO X1.T K.lm).length c3,lm:=iO X1.T K.lm,vy:=.slice a5 (iO X1.T K.ly).length c5,ly:=iO X1.T K.ly}):=mu.out.setMay HP.out vR cX (fun j hj=>Or.inr (rE.out j hj))
    clear cX vR rE I3 b3 mu As B3 OP vX
    go_upto_region 8 with fail
    obtain ⟨W6,FE⟩:∃ W6,W6=W5.setCell ⟨b,3,none⟩ (.slice a5 (iO X1.T K.ly).length c5):=⟨_,rfl⟩
    rw [←FE] at EL ⊢
    clear FE e3 ez
    have HL:Hid (LT X1.T (iO X1.T K.lm)∧LT X1.T (iO X1.T K.ly)):=⟨LT.only HW.out.2.1.1,LT.only HW.out.2.2.1⟩
    go_wp2_with fail
    refine (fA HP.out EL.out HL.out.2 up).mono ?_
    rintro e W7 ⟨rfl,OT,xw⟩
    have HE:Hid (TurnPost2 PS w G b (.pointer (some pa)) d (Og Q X st K xx) (.returned (.bool true)) W7):=⟨rfl,X1,aP,_,xw.from,⟨HL.out.1,HL.out.2.spoil up⟩,0,HI.out.1,HI.out.2,Or.inr ⟨rfl,rfl,by rw [Cf.out],rfl,rfl,rfl⟩⟩
    clear xw EL
    go_wp2_with fail
    refine (bF _ 0).mono ?_
    rintro e w5 ⟨rfl,rfl⟩
    go_wp2
    go_ret
    exact HE.out
   ·have gy:(y==0)=false:=by simp [hy]
    have HE:Hid (TurnPost2 PS w G b (.pointer (some pa)) d (Og Q X st K xx) (.returned (.bool true)) wc):=by
     obtain ⟨_,Pu⟩:=HT.out.1.1.2.resolve_right (fun x=>hy x.1)
     exact ⟨rfl,X1,aP,K,HQ.out.from,by rw [Pu];exact HW.out.2,y,HT.out.1,HT.out.2.1,Or.inl ⟨hy,rfl⟩⟩
    clear hy
    go_wp2_with fail
    refine (bF _ y).mono ?_
    rintro e w5 ⟨rfl,rfl⟩
    go_wp2
    go_ret
    exact HE.out
set_option maxRecDepth 100000 in
set_option maxHeartbeats 8000000 in
theorem Ec {PS:World→Value→YS→List Nat→(Nat→Prop)→Prop} {Q:ft→YS→List Nat→YS→List Nat→Prop} (hP:bi PS Q) (w:World) (b:Nat) (X:YS) (st:List Nat) (pa:Addr) (d:Nat) (K:fm) (G Fp Fx Fy:Nat→Prop)
  (h:PJ2 PS w b X st X (.pointer (some pa)) d K Fp Fx Fy) (hG:∀ k,Fp k∨Fx k∨Fy k→G k) (By:∀ k,G k→k<w.heap.size) (mB:oe X.T K) (at' xx yy zz:Int) (S Tt:ByteArray) (on:Bool) :
  Calls Tryz.prog 101 #[.pointer (some ⟨b,0,none⟩),.agg #[.int .i64 6,.int .i64 at',.int .i64 xx,.int .i64 yy,.int .i64 zz,.string S,.string Tt,.bool on]] w fun e w'=>TurnPost2 PS w G b (.pointer (some pa)) d (OD Q X st K xx yy zz) e w':=by
 have HP:Hid (bi PS Q):=hP
 have HW:Hid (TW X.T X.made∧oe X.T K):=⟨h.rs.tw,mB⟩
 have HG:Hid (∀ k,G k→k<w.heap.size):=By
 have H0:Hid (PQ2 PS (w.alloc (an 6 at' xx yy zz S Tt on)) G (w.alloc (an 6 at' xx yy zz S Tt on)) b X st X (.pointer (some pa)) d K):=PQ2.alloc hP h hG _
 clear h hP mB hG By
 have HC:Hid (∀ (wx:World) X1 aP Y1,PQ2 PS (w.alloc (an 6 at' xx yy zz S Tt on)) G wx b X1 aP Y1 (.pointer (some pa)) d K→wx.cell? ⟨b,0,none⟩=some (.pointer (some pa))∧wx.cell? ⟨b,1,none⟩=some (.pointer (some ⟨d,0,none⟩))∧wx.cell? ⟨w.heap.size,2,none⟩=some (.int .i64 xx)∧wx.cell? ⟨w.heap.size,3,none⟩=some (.int .i64 yy)∧wx.cell? ⟨w.heap.size,4,none⟩=some (.int .i64 zz)):=fun wx X1 aP Y1 hq=>
  ⟨aa hq.pb.blk rfl,aa hq.pb.blk rfl,aa (hq.op HG.out) rfl,aa (hq.op HG.out) rfl,aa (hq.op HG.out) rfl⟩
 have sM:Hid (∀ k,Calls Tryz.prog 97 #[.pointer (some ⟨d,0,none⟩),.int .i64 xx] ((w.alloc (an 6 at' xx yy zz S Tt on)).drewN k) fun e w'=>e=.returned (.int .i64 (aU X.T xx))∧w'=(w.alloc (an 6 at' xx yy zz S Tt on)).drewN k):=fun k=>mz (H0.out.drewN HP.out k) xx
 obtain ⟨d0,d1,d2,d3,d4⟩:=HC.out _ _ _ _ H0.out
 go_enter Tryz.func101,Tryz.ntmps101
 go_upto_region 1 with fail
 go_quiet ((go_at_call 97;exact Calls.quiet_of_same (sM.out _)))
 have ED:Hid (PQ2 PS (w.alloc (an 6 at' xx yy zz S Tt on)) G ((w.alloc (an 6 at' xx yy zz S Tt on)).drewN nq) b X st X (.pointer (some pa)) d K):=H0.out.drewN HP.out nq
 generalize (w.alloc (an 6 at' xx yy zz S Tt on)).drewN nq=wq at ED ⊢
 clear d0 d1 d2 d3 d4 sM H0
 obtain ⟨up,PM⟩:∃ up,aU X.T xx=up:=⟨_,rfl⟩
 rw [PM]
 have Cf:Hid (aU X.T xx=up):=PM
 clear PM
 have k0:wq.cell? ⟨w.heap.size,0,none⟩=some (.int .i64 6):=aa (ED.out.op HG.out) rfl
 have tC:Hid (PQ2 PS (w.alloc (an 6 at' xx yy zz S Tt on)) G wq.drew b X st X (.pointer (some pa)) d K):=ED.out.drew HP.out
 obtain ⟨EI,dI,AX⟩:=tC.out.prog HP.out
 have Bj:Hid (PS wq.drew (.pointer (some pa)) X st EI):=dI
 have Ab:Hid (∀ w1 X1 aP,PS w1 (.pointer (some pa)) X1 aP (bu EI wq.drew)→Fr wq.drew w1 EI→PQ2 PS (w.alloc (an 6 at' xx yy zz S Tt on)) G w1 b X1 aP X (.pointer (some pa)) d K):=AX
 clear dI AX ED
 go_upto_region 10 with fail
 clear k0
 go_cut [8] (fun yv wx=>∃ (y:Int) (X1:YS) (aP:List Nat),yv=.int .i64 y∧Hid (YMov X xx yy zz y X1∧Q (.mov xx yy y) X st X1 aP∧PQ2 PS (w.alloc (an 6 at' xx yy zz S Tt on)) G wx b X1 aP X (.pointer (some pa)) d K))
 case first=>
  go_region_held3 (fun w'=>w'.cell? ⟨b,0,none⟩=some (.pointer (some pa))∧w'.cell? ⟨b,1,none⟩=some (.pointer (some ⟨d,0,none⟩))∧w'.cell? ⟨w.heap.size,2,none⟩=some (.int .i64 xx)∧w'.cell? ⟨w.heap.size,3,none⟩=some (.int .i64 yy)∧w'.cell? ⟨w.heap.size,4,none⟩=some (.int .i64 zz)) (first | exact HC.out _ _ _ _ tC.out | exact HC.out _ _ _ _ HT.out.2.2)
   (first | (go_at_call 119;refine (HP.out.mov _ (.pointer (some pa)) X st EI xx yy zz Bj.out).mono ?_;rintro e w1 ⟨y,X1,aP,rfl,hT,hq,sQ,hH⟩;have HT:Hid (YMov X xx yy zz y X1∧Q (.mov xx yy y) X st X1 aP∧PQ2 PS (w.alloc (an 6 at' xx yy zz S Tt on)) G w1 b X1 aP X (.pointer (some pa)) d K):=⟨hT,hq,Ab.out w1 X1 aP sQ hH⟩))
  all_goals
   go_wp2_with fail
   go_meet
   exact ⟨y,X1,aP,rfl,HT⟩
 case rest=>
  obtain ⟨y,X1,aP,rfl,HT⟩:=hcut
  have mC:Hid (PQ2 PS (w.alloc (an 6 at' xx yy zz S Tt on)) G wc.drew b X1 aP X (.pointer (some pa)) d K):=HT.out.2.2.drew HP.out
  obtain ⟨Mf,zV,Aj⟩:=mC.out.ref HP.out
  have Bx:Hid (RY wc.drew d X Mf):=zV
  have Ar:Hid (∀ w1 Y1,RY w1 d Y1 (bu Mf wc.drew)→Fr wc.drew w1 Mf→PQ2 PS (w.alloc (an 6 at' xx yy zz S Tt on)) G w1 b X1 aP Y1 (.pointer (some pa)) d K):=Aj
  clear zV Aj tC Bj Ab
  go_upto_region 11 with fail
  go_cut [9] (fun yv wx=>yv=.int .i64 y∧Hid (PQ2 PS (w.alloc (an 6 at' xx yy zz S Tt on)) G wx b X1 aP X1 (.pointer (some pa)) d K))
  case first=>
   go_region_held3 (fun w'=>w'.cell? ⟨b,0,none⟩=some (.pointer (some pa))∧w'.cell? ⟨b,1,none⟩=some (.pointer (some ⟨d,0,none⟩))∧w'.cell? ⟨w.heap.size,2,none⟩=some (.int .i64 xx)∧w'.cell? ⟨w.heap.size,3,none⟩=some (.int .i64 yy)∧w'.cell? ⟨w.heap.size,4,none⟩=some (.int .i64 zz)) (first | exact HC.out _ _ _ _ mC.out | exact HC.out _ _ _ _ jk.out)
    (first | (go_at_call 147;refine (Ib Bx.out xx yy zz).mono ?_;rintro e w1 ⟨y',Y1,rfl,MW,C4,hH⟩;obtain ⟨rfl,rfl⟩:=HT.out.1.one MW;have jk:Hid (PQ2 PS (w.alloc (an 6 at' xx yy zz S Tt on)) G w1 b X1 aP X1 (.pointer (some pa)) d K):=Ar.out w1 X1 C4 hH))
   all_goals
    go_wp2_with fail
    go_meet
    exact ⟨rfl,jk⟩
  case rest=>
   obtain ⟨rfl,HQ⟩:=hcut
   clear mC Bx Ar
   have VO:Hid (oe X1.T K):=⟨HW.out.2.1.of_nums HT.out.1.1.nums,HW.out.2.2.of_nums HT.out.1.1.nums⟩
   by_cases hy:y=0
   ·subst hy
    have HI:Hid (YMov X xx yy zz 0 X1∧Q (.mov xx yy 0) X st X1 aP):=⟨HT.out.1,HT.out.2.1⟩
    clear HT
    go_wp2_with fail
    refine (fA HP.out HQ.out VO.out.2 up).mono ?_
    rintro e W7 ⟨rfl,OT,xw⟩
    have HQ7:Hid (PQ2 PS (w.alloc (an 6 at' xx yy zz S Tt on)) G W7 b X1 aP X1 (.pointer (some pa)) d {K with vy:=OT,ly:=jP X1.T up K.ly,cnt:=-1,held:=false}):=xw
    clear xw HQ
    have o3:W7.cell? ⟨w.heap.size,3,none⟩=some (.int .i64 yy):=aa (HQ7.out.op HG.out) rfl
    go_wp2_with fail
    refine (fA HP.out HQ7.out (VO.out.2.spoil up) yy).mono ?_
    rintro e W8 ⟨rfl,vy8,hq8⟩
    have HE:Hid (TurnPost2 PS w G b (.pointer (some pa)) d (OD Q X st K xx yy zz) (.returned (.bool true)) W8):=⟨rfl,X1,aP,_,hq8.from,⟨VO.out.1,(VO.out.2.spoil up).spoil yy⟩,0,HI.out.1,HI.out.2,Or.inr ⟨rfl,rfl,by rw [Cf.out],rfl,rfl,rfl⟩⟩
    clear hq8 HQ7 o3
    go_wp2_with fail
    refine (bF _ 0).mono ?_
    rintro e w5 ⟨rfl,rfl⟩
    go_wp2
    go_ret
    exact HE.out
   ·have gy:(y==0)=false:=by simp [hy]
    have HE:Hid (TurnPost2 PS w G b (.pointer (some pa)) d (OD Q X st K xx yy zz) (.returned (.bool true)) wc):=⟨rfl,X1,aP,K,HQ.out.from,VO.out,y,HT.out.1,HT.out.2.1,Or.inl ⟨hy,rfl⟩⟩
    clear hy
    go_wp2_with fail
    refine (bF _ y).mono ?_
    rintro e w5 ⟨rfl,rfl⟩
    go_wp2
    go_ret
    exact HE.out
end Go.Proofs.YtblfffbmklkhmaaGreat
