/- Own work. -/
import Derived.Test.YtblfffbmklkhmaaGreatPi1
import Derived.Test.YtblfffbmklkhmaaGreatPi2
import Derived.Deep.RegionLaw
import Derived.Deep.DeepCutAuto
import Derived.ProofKit
import Derived.Deep.Slices
import Derived.OpenShut
import Derived.Laws.AppendOwnNone
set_option maxRecDepth 100000
set_option maxHeartbeats 40000000
namespace Go.Proofs.YtblfffbmklkhmaaGreat
open Go.RowKit Go.Proofs.Tryz
section
variable {an iZ f j k' l:Nat}{s:ByteArray}{Uu:Value}{w w' w2 w3:World}{xs ys':List Value}
theorem Tryz.info166:(Tryz.prog.info? 166).map (λi=>(i.zero,i.size,i.bytes))=some (some (.slice none 0 0),1,24):=by kernel_rfl
theorem Tryz.info164:(Tryz.prog.info? 164).map (λi=>(i.zero,i.size,i.bytes))=some (some (.agg #[.int .i64 0,.slice none 0 0,.slice none 0 0]),3,56):=by kernel_rfl
theorem tR {P:Program}{BR:Array Oper}{o:Oper}{a:Act}{K:Act->World->Prop}{Q:Exit->Act->World->Prop}{E:Prop}
  (hg:o.guard=none) (s x:Operand) (t:TypeId) (hop:o.op=Op.call {callee:=Callee.builtin Builtin.append,args:=#[s,x],argTypes:=#[t,t]})
  (an:Nat) (e:TypeId) (i:TypeInfo) (z:Value) (size bytes:Nat) (h1:P.underlying t=some (.slice e)) (h2:P.info? e=some i) (h3:i.zero=some z) (h4:i.size=size) (h5:i.bytes=bytes) (h6:z.cells.size=size) (h7:0<size)
  (v:Value) (n:Nat) (xs:List Value) (hs:a.eval s=v) (bL:w.ownsRow an e size v n xs)
  (ad:Addr) (m c:Nat) (j3:List Value) (hx:a.eval x=.slice (some ad) m c) (hn:j3.length=m*size) (hc:∀j u,j3[j]?=some u->w.cell? (ad.add j)=some u) (h1c:∀u∈j3,u.oneCell'=true)
  (b1:n+m<=maxLen) (b2:(n+m)*bytes<=140737488355328) (hb:an<=w.heap.size)
  (hK:∀v' w',w'.ownsRow an e size v' (n+m) (xs++j3)->w.grownBy w' v.ownBlock->K (a.put o.dst v') w') :
  if Region.wanted o (yielded BR a.tmps)=true then Oper.wp P o a w K Q else E:=by
 have hw:Region.wanted o (yielded BR a.tmps)=true:=by simp[Region.wanted,hg]
 rw[aq hw];obtain⟨v',w',Gr,r1,r2,_⟩:=run_append_own (P:=P) w an t o.type e i z size bytes h1 h2 h3 h4 h5 h6 h7 v n xs bL ad m c j3 hn hc h1c b1 b2 hb;unfold Oper.wp;simp only[execOp,hop,resolve,invoke,builtin,Sem.run_bind,Sem.run_pure,Result.andThen_ok,List.map_toArray,List.map_cons,List.map_nil,hs,hx,Gr];exact hK v' w' r1 r2
def RSels (w:World)(s:ByteArray)(an:Nat):List Value->List (List (Nat × Nat))->Prop
 | xs,[]=>xs=[]
 | xs,aQ :: ss=>∃(a:Option Addr) (c:Nat) (ps ys:List Value),xs=.slice a aQ.length c :: ys/\w.ownsRow an 206 2 (.slice a aQ.length c) aQ.length ps/\(Txs s ps aQ/\Sgs s ps aQ)/\RSels w s an ys ss
theorem RSels.keep (hk:Keeps w w' an 206):∀{xs:List Value} {ss:List (List (Nat × Nat))},RSels w s an xs ss->RSels w' s an xs ss
 | _,[],h=>h
 | _,_ :: _,⟨a,c,ps,ys,h1,h2,h3,h4⟩=>⟨a,c,ps,ys,h1,hk.owns h2,h3,RSels.keep hk h4⟩
theorem RSels.mono (hb:iZ<=an):∀{xs:List Value} {ss:List (List (Nat × Nat))},RSels w s an xs ss->RSels w s iZ xs ss
 | _,[],h=>h
 | _,_ :: _,⟨a,c,ps,ys,h1,h2,h3,h4⟩=>⟨a,c,ps,ys,h1,aP h2 hb,h3,RSels.mono hb h4⟩
theorem RSels.snoc (a:Option Addr)(c:Nat)(aQ:List (Nat × Nat))(ps:List Value)(ho:w.ownsRow an 206 2 (.slice a aQ.length c) aQ.length ps)(hk:Txs s ps aQ/\Sgs s ps aQ):
  ∀{xs:List Value} {ss:List (List (Nat × Nat))},RSels w s an xs ss->RSels w s an (xs++[.slice a aQ.length c]) (ss++[aQ])
 | _,[],h=>by simp only[RSels] at h;subst h;exact⟨a,c,ps,[],rfl,ho,hk,rfl⟩
 | _,_ :: _,⟨a',c',uq,ys,h1,h2,h3,h4⟩=>⟨a',c',uq,_,by rw[h1];rfl,h2,h3,RSels.snoc a c aQ ps ho hk h4⟩
def RRuls (w:World)(s:ByteArray)(an:Nat):List Value->List (List (List (Nat × Nat)))->Prop
 | xs,[]=>xs=[]
 | xs,ss :: rs=>∃(lv:Int) (a:Option Addr) (c:Nat) (vD:Value) (ps ys:List Value),xs=.int .i64 lv :: .slice a ss.length c :: vD :: ys/\w.ownsRow an 166 1 (.slice a ss.length c) ss.length ps/\RSels w s an ps ss/\RRuls w s an ys rs
theorem RRuls.keep (hk:Keeps w w' an 206)(VE:Keeps w w' an 166):∀{xs:List Value} {rs:List (List (List (Nat × Nat)))},RRuls w s an xs rs->RRuls w' s an xs rs
 | _,[],h=>h
 | _,_ :: _,⟨lv,a,c,vD,ps,ys,h1,h2,h3,h4⟩=>⟨lv,a,c,vD,ps,ys,h1,VE.owns h2,h3.keep hk,RRuls.keep hk VE h4⟩
theorem RRuls.mono (hb:iZ<=an):∀{xs:List Value} {rs:List (List (List (Nat × Nat)))},RRuls w s an xs rs->RRuls w s iZ xs rs
 | _,[],h=>h
 | _,_ :: _,⟨lv,a,c,vD,ps,ys,h1,h2,h3,h4⟩=>⟨lv,a,c,vD,ps,ys,h1,aP h2 hb,h3.mono hb,RRuls.mono hb h4⟩
theorem RRuls.snoc (lv:Int)(a:Option Addr)(c:Nat)(vD:Value)(ss:List (List (Nat × Nat)))(ps:List Value)(ho:w.ownsRow an 166 1 (.slice a ss.length c) ss.length ps)(hk:RSels w s an ps ss):
  ∀{xs:List Value} {rs:List (List (List (Nat × Nat)))},RRuls w s an xs rs->RRuls w s an (xs++[.int .i64 lv,.slice a ss.length c,vD]) (rs++[ss])
 | _,[],h=>by simp only[RRuls] at h;subst h;exact⟨lv,a,c,vD,ps,[],rfl,ho,hk,rfl⟩
 | _,_ :: _,⟨lv',a1,c1,yB,uq,ys,h1,h2,h3,h4⟩=>⟨lv',a1,c1,yB,uq,_,by rw[h1];rfl,h2,h3,RRuls.snoc lv a c vD ss ps ho hk h4⟩
def RSelsPre (s:ByteArray):Nat->Nat->List (List (Nat × Nat))->Prop
 | i,j,[]=>i=j
 | i,j,aQ :: ss=>∃l,mi s i l aQ/\i<=l/\bt s l=44/\(∀k,i<=k->k<l->bt s k≠44)/\RSelsPre s (l+1) j ss
theorem RSelsPre.snoc {aQ:List (Nat × Nat)}(h1:mi s j l aQ)(h2:j<=l)(h3:bt s l=44)(h4:∀k,j<=k->k<l->bt s k≠44):∀{ss:List (List (Nat × Nat))} {i:Nat},RSelsPre s i j ss->RSelsPre s i (l+1) (ss++[aQ])
 | [],_,h=>by simp only[RSelsPre] at h;subst h;exact⟨l,h1,h2,h3,h4,rfl⟩
 | _ :: _,_,⟨l',a,b,c,d,e⟩=>⟨l',a,b,c,d,RSelsPre.snoc h1 h2 h3 h4 e⟩
def rj (s:ByteArray)(i j:Nat)(ss:List (List (Nat × Nat))):Prop:=
 ∃pre l aQ,ss=pre++[aQ]/\RSelsPre s i l pre/\mi s l j aQ/\l<=j/\∀k,l<=k->k<j->bt s k≠44
def ri (s:ByteArray)(i j:Nat)(ss:List (List (Nat × Nat))):Prop:=
 ∃p q,lO s i p/\rj s p q ss/\bt s q=123/\(∀k,p<=k->k<q->bt s k≠123)/\q+1<j/\bt s (j - 1)=125/\∀k,q<=k->k<j - 1->bt s k≠125
def RRulsAt (s:ByteArray):Nat->Nat->List (List (List (Nat × Nat)))->Prop
 | i,j,[]=>i=j
 | i,j,ss :: rs=>∃l,ri s i l ss/\i<l/\RRulsAt s l j rs
theorem RRulsAt.snoc {ss:List (List (Nat × Nat))}(hc:ri s j l ss)(hl:j<l):∀{rs:List (List (List (Nat × Nat)))} {i:Nat},RRulsAt s i j rs->RRulsAt s i l (rs++[ss])
 | [],_,h=>by simp only[RRulsAt] at h;subst h;exact⟨l,hc,hl,rfl⟩
 | _ :: _,_,⟨l',a,b,c⟩=>⟨l',a,b,RRulsAt.snoc hc hl c⟩
def RDecs (w:World)(an:Nat):List Value->List (Int × List ea)->Prop
 | xs,[]=>xs=[]
 | xs,(ly,dl) :: r=>∃(vS:Value) (a:Option Addr) (c:Nat) (ys:List Value),xs=.int .i64 ly :: vS :: .slice a dl.length c :: ys/\w.ownsRow an 229 3 (.slice a dl.length c) dl.length (lg dl)/\RDecs w an ys r
theorem RDecs.keep (hk:Keeps w w' an 229):∀{xs:List Value} {is:List (Int × List ea)},RDecs w an xs is->RDecs w' an xs is
 | _,[],h=>h
 | _,(_,_) :: _,⟨vS,a,c,ys,h1,h2,h3⟩=>⟨vS,a,c,ys,h1,hk.owns h2,RDecs.keep hk h3⟩
theorem RDecs.mono (hb:iZ<=an):∀{xs:List Value} {is:List (Int × List ea)},RDecs w an xs is->RDecs w iZ xs is
 | _,[],h=>h
 | _,(_,_) :: _,⟨vS,a,c,ys,h1,h2,h3⟩=>⟨vS,a,c,ys,h1,aP h2 hb,RDecs.mono hb h3⟩
theorem RDecs.snoc (ly:Int)(vS:Value)(a:Option Addr)(c:Nat)(dl:List ea)(ho:w.ownsRow an 229 3 (.slice a dl.length c) dl.length (lg dl)):
  ∀{xs:List Value} {is:List (Int × List ea)},RDecs w an xs is->RDecs w an (xs++[.int .i64 ly,vS,.slice a dl.length c]) (is++[(ly,dl)])
 | _,[],h=>by simp only[RDecs] at h;subst h;exact⟨vS,a,c,[],rfl,ho,rfl⟩
 | _,(_,_) :: _,⟨Uu,a1,c1,ys,h1,h2,h3⟩=>⟨Uu,a1,c1,_,by rw[h1];rfl,h2,RDecs.snoc ly vS a c dl ho h3⟩
def w9 (s:ByteArray)(i:Nat):Int:=if bt s i=64 then(bt s (i+1):Int) - 48 else 10
def Bb (s:ByteArray)(i j:Nat)(ly:Int)(dl:List ea):Prop:=
 ∃p q,lO s i p/\bt s q=123/\(∀k,p<=k->k<q->bt s k≠123)/\p<q/\q+1<j/\bt s (j - 1)=125/\(∀k,q<=k->k<j - 1->bt s k≠125)/\ly=w9 s i/\q9 (s.extract (q+1) (j - 1)) dl
def RInfsAt (s:ByteArray):Nat->Nat->List (Int × List ea)->Prop
 | i,j,[]=>i=j
 | i,j,(ly,dl) :: r=>∃l,Bb s i l ly dl/\i<l/\RInfsAt s l j r
theorem RInfsAt.snoc {ly:Int}{dl:List ea}(hc:Bb s j l ly dl)(hl:j<l):∀{is:List (Int × List ea)} {i:Nat},RInfsAt s i j is->RInfsAt s i l (is++[(ly,dl)])
 | [],_,h=>by simp only[RInfsAt] at h;subst h;exact⟨l,hc,hl,rfl⟩
 | (_,_) :: _,_,⟨l',a,b,c⟩=>⟨l',a,b,RInfsAt.snoc hc hl c⟩
def RInfo (w:World)(s:ByteArray)(an f:Nat)(xs:List Value):Prop:=∃is,RDecs w an xs is/\RInfsAt s 0 f is
theorem RInfo.keep (h:RInfo w s an f xs)(hk:Keeps w w' an 229):RInfo w' s an f xs:=by
 obtain⟨is,h1,h2⟩:=h;exact⟨is,h1.keep hk,h2⟩
theorem RInfo.mono (h:RInfo w s an f xs)(hb:iZ<=an):RInfo w s iZ f xs:=by
 obtain⟨is,h1,h2⟩:=h;exact⟨is,h1.mono hb,h2⟩
structure In (wr wq:World)(b:Nat)(vL:Value)(hm:Int)(lv:Int)(vS vD:Value)(k:Nat)(ys:List Value):Prop where
 sh:Sh wq b vL hm
 gb:wr.grownBy wq (some b)
 rb:wq.heap[wr.heap.size]?=some (.cells #[.int .i64 lv,vS,vD] 164 (0,0))
 own:wq.ownsRow (wr.heap.size+1) 166 1 vS k ys
 lt:b<wr.heap.size
section
variable {wr wq:World}{b:Nat}{vL:Value}{hm lv:Int}{vS vD:Value}{k:Nat}{ys:List Value}
theorem In.blt (h:In wr wq b vL hm lv vS vD k ys):wr.heap.size<wq.heap.size:=(bx.1 h.rb).1
theorem In.cells (h:In wr wq b vL hm lv vS vD k ys):wq.cell? ⟨wr.heap.size,0,none⟩=some (.int .i64 lv)/\wq.cell? ⟨wr.heap.size,1,none⟩=some vS/\wq.cell? ⟨wr.heap.size,2,none⟩=some vD/\∀j,wq.frozen? ⟨wr.heap.size,j,none⟩=false:=
 ⟨aa h.rb rfl,aa h.rb rfl,aa h.rb rfl,λ_=>ax h.rb⟩
theorem In.setO (h:In wr wq b vL hm lv vS vD k ys)(o:Nat)(u:Value){lv':Int}{yB:Value}(hu:(#[Value.int .i64 lv,vS,vD]:Array Value).setIfInBounds o u=#[.int .i64 lv',Uu,yB])(ho:wq.ownsRow (wr.heap.size+1) 166 1 Uu k' ys'):
  In wr (wq.setCell ⟨wr.heap.size,o,none⟩ u) b vL hm lv' Uu yB k' ys':=by
 have hl:=h.lt;refine⟨(Below.heap_setCell _ _ _ _ (by show b≠wr.heap.size;omega)).trans h.sh,mS h.gb au _,?_,ownsRow_setCell_below ho (by show wr.heap.size<wr.heap.size+1;omega) _,hl⟩;rw[aF h.rb,hu]
theorem In.call (h:In wr wq b vL hm lv vS vD k ys){qZ:Int}(hs:Sh w2 b vL qZ)(hg:wq.grownBy w2 (some b)):In wr w2 b vL qZ lv vS vD k ys:=by
 have hl:=h.lt;refine⟨hs,mT h.gb hg,(hg.block _ h.blt (λe=>by injection e with e;omega)).trans h.rb,h.own.kept hg ?_,hl⟩;cases hv:vS.ownBlock with
 | none=>exact af rfl
 | some g=>right;intro e;injection e with e;have:=(h.own.lt g hv).1;omega
theorem In.alloc (h:In wr wq b vL hm lv vS vD k ys)(o:Obj):In wr (wq.alloc o) b vL hm lv vS vD k ys:=
 ⟨(Below.heap_alloc wq o b h.sh.lt).trans h.sh,wM h.gb o,(Below.heap_alloc wq o _ h.blt).trans h.rb,h.own.alloc o,h.lt⟩
theorem In.app (h:In wr wq b vL hm lv vS vD k ys)(hg:wq.grownBy w3 vS.ownBlock)(ho:w3.ownsRow (wr.heap.size+1) 166 1 Uu k' ys'):In wr (w3.setCell ⟨wr.heap.size,1,none⟩ Uu) b vL hm lv Uu vD k' ys':=by
 have hl:=h.lt
 have fY:∀j,j<=wr.heap.size->some j≠vS.ownBlock:=by
  intro j hj e;have:=(h.own.lt j e.symm).1;omega
 have hrb:w3.heap[wr.heap.size]?=some (.cells #[.int .i64 lv,vS,vD] 164 (0,0)):=(hg.block _ h.blt (fY _ au)).trans h.rb;refine⟨(Below.heap_setCell _ _ _ _ (by show b≠wr.heap.size;omega)).trans ((hg.block b h.sh.lt (fY b (by omega))).trans h.sh),mS ?_ au _,?_,ownsRow_setCell_below ho (by show wr.heap.size<wr.heap.size+1;omega) _,hl⟩
 ·exact⟨hg.os.trans h.gb.os,hg.tape.trans h.gb.tape,hg.output.trans h.gb.output,Nat.le_trans h.gb.size hg.size,
   λj hj hn=>(hg.block j (Nat.lt_of_lt_of_le hj h.gb.size) (fY j (by omega))).trans (h.gb.block j hj hn)⟩
 ·rw[aF hrb];rfl
theorem In.appBlk (h:In wr wq b vL hm lv vS vD k ys)(hg:wq.grownBy w3 vS.ownBlock):w3.heap[wr.heap.size]?=some (.cells #[.int .i64 lv,vS,vD] 164 (0,0)):=
 (hg.block _ h.blt (λe=>by have:=(h.own.lt _ e.symm).1;omega)).trans h.rb
theorem In.below (h:In wr wq b vL hm lv vS vD k ys)(hb:Below wq.heap.size wq w2):In wr w2 b vL hm lv vS vD k ys:=by
 have hg:wq.grownBy w2 (some b):=⟨hb.os,hb.tape,hb.output,hb.size,λj hj _=>hb.block j hj⟩;exact h.call ((hb.block b h.sh.lt).trans h.sh) hg
end
theorem oY {b:Nat}(h:w.grownBy w' (some b))(hb:b<an)(e:TypeId):Keeps w w' an e:=λg _ hg hh=>
 (h.block g (bx.1 hh).1 (λe=>by injection e with e;omega)).trans hh
theorem ik (h:Below w.heap.size w w')(an:Nat)(e:TypeId):Keeps w w' an e:=λg _ _ hh=>(h.block g (bx.1 hh).1).trans hh
structure RI (wr:World)(b:Nat)(s:ByteArray)(p q nr:Nat)(M:Int)(f:Nat)(wq:World)(hm:Int)(vL:Value)(lv:Int)(vS:Value)(ss:List (List (Nat × Nat)))(ys:List Value):Prop where
 inn:In wr wq b vL hm lv vS (.slice none 0 0) ss.length ys
 sels:RSels wq s (wr.heap.size+1) ys ss
 few:ss.length<=f - p
 lo:p<=f
 hi:f<=q+1
 go:f<q->RSelsPre s p f ss/\iX hm f/\Acc s 2 ⟨nr,1,hm⟩ f M
 done:¬f<q->f=q+1/\rj s p q ss/\iX hm q/\∃nc,Acc s 3 ⟨nr,nc,hm⟩ q M
structure RO (w:World)(b:Nat)(s:ByteArray)(M:Int)(f:Nat)(wr:World)(hm:Int)(vL:Value)(rs:List (List (List (Nat × Nat))))(xs:List Value):Prop where
 sh:Sh wr b vL hm
 bel:Below w.heap.size w wr
 own:wr.ownsRow (w.heap.size+1) 164 3 vL rs.length xs
 ruls:RRuls wr s (w.heap.size+1) xs rs
 info:RInfo wr s (w.heap.size+1) f xs
 few:rs.length<=f
 noted:iX hm f
 le:f<=s.size
 text:RRulsAt s 0 f rs
 acc:∃nc,Acc s 0 ⟨rs.length,nc,hm⟩ f M
theorem ME (s:ByteArray)(m:Int)(k:Cn)(i:Nat):(V s m k i).1=-1∨0<=(V s m k i).1:=by
 unfold V;generalize s.size - i=f
 induction f generalizing m k i with
 | zero=>simp only[Vf];split<;>simp
 | succ f ih=>
  simp only[Vf];split
  ·right;simp
  ·exact ih _ _ _
theorem ba {a e k:Nat}(he:e<=s.size)(hk:a+k<e):bt (s.extract a e) k=bt s (a+k):=by
 have h1:k<(s.extract a e).size:=by rw[ByteArray.size_extract];omega
 rw[bN _ _ h1,bN _ _ (by omega)];rw[ByteArray.getElem_extract]
theorem Vd {M:Int}{k:Cn}{q r:Nat}(h:Acc s 9 k (q+1) M)(nU:∀j,q+1<=j->j<r->bt s j≠125)(hr:r<=s.size)(Sp:q+1<=r)(F7:r<s.size->bt s r=125):DOK (s.extract (q+1) r):=by
 intro d hd hb;rw[ByteArray.size_extract] at hd;have hd':q+1+d<r:=by omega
 obtain⟨m,m1,m2,m3,m4⟩:=wB h nU hr d (by omega)
 have hm:m=9∨m=10:=by
  by_cases e:d=0
  ·exact af (m3 e)
  ·rcases hb with hb | hb
   ·exact absurd hb e
   ·right;apply m4 (by omega);rw[ba hr (by omega)] at hb;rw[show q+1+d - 1=q+1+(d - 1) from by omega];exact hb
 obtain⟨t1,t2,t3,t4,t5,t6⟩:=FL hm m2 (nU _ (by omega) hd')
 have hr3:q+1+d+2<r:=by
  apply Nat.lt_of_not_le;intro qw;have hc:r=q+1+d+1∨r=q+1+d+2:=by omega
  have:=F7 (by omega);rcases hc with rfl | rfl
  ·exact t3 this
  ·exact t5 this
 refine⟨by rw[ByteArray.size_extract];omega,?_,?_,?_⟩
 ·rw[ba hr (by omega)];exact t1
 ·rw[ba hr (by omega)];exact t2
 ·rw[ba hr (by omega)];exact t4
end
section
variable {M hm:Int}{f:Nat}{s:ByteArray}{w:World}{xs:List Value}
def zm (w:World)(s:ByteArray)(e:Ending)(w':World):Prop:=
 ∃pa:Option Addr,e=.returned (.tuple #[.pointer pa,.int .i64 (gP s).1,.int .i64 (gP s).2])/\Below w.heap.size w w'/\
  ((gP s).1=0->∃(b:Nat) (a:Option Addr) (c:Nat) (rs:List (List (List (Nat × Nat)))) (xs:List Value) (mn:Int),pa=some ⟨b,0,none⟩/\Sh w' b (.slice a rs.length c) mn/\w'.ownsRow w.heap.size 164 3 (.slice a rs.length c) rs.length xs/\RRuls w' s w.heap.size xs rs/\RRulsAt s 0 s.size rs/\RInfo w' s w.heap.size s.size xs/\w.heap.size<=b)
structure RN (w:World)(b:Nat)(s:ByteArray)(M:Int)(f:Nat)(wr:World)(hm:Int)(vL:Value)(rs:List (List (List (Nat × Nat))))(xs:List Value):Prop where
 sh:Sh wr b vL hm
 bel:Below w.heap.size w wr
 own:wr.ownsRow (w.heap.size+1) 164 3 vL rs.length xs
 ruls:RRuls wr s (w.heap.size+1) xs rs
 info:RInfo wr s (w.heap.size+1) f xs
 noted:iX hm f
 acc:Acc s 18 ⟨rs.length+1,1,hm⟩ f M
structure RP (w:World)(b:Nat)(s:ByteArray)(M:Int)(f p:Nat)(w0 wr:World)(hm:Int)(vL:Value)(rs:List (List (List (Nat × Nat))))(lv:Int):Prop where
 inn:In w0 wr b vL hm lv (.slice none 0 0) (.slice none 0 0) 0 []
 layer:lO s f p
 lay:lv=w9 s f
 noted:iX hm p
 acc:Acc s 2 ⟨rs.length+1,1,hm⟩ p M
theorem Ae {nr:Nat}(h:Acc s 18 ⟨nr,1,hm⟩ f M):(bt s f=64->f+1<s.size/\Acc s 2 ⟨nr,1,hm⟩ (f+2) M/\48<=bt s (f+1)/\bt s (f+1)<=57)/\(bt s f≠64->Acc s 2 ⟨nr,1,hm⟩ f M):=by
 have hl:=h.lt (by omega);constructor
 ·intro e;have h1:=h.step hl;rw[show bY 18 (bt s f)=1 from by simp[bY,e]] at h1;have DA:=h1.lt (by omega);refine⟨DA,?_⟩;have h2:=h1.step DA;have ho:=h1.ok DA
  have hd:iJ (bt s (f+1))=true:=by
   cases hd:iJ (bt s (f+1)) with
   | true=>rfl
   | false=>exfalso;apply ho;simp[bY,wh,hd]
  rw[show bY 1 (bt s (f+1))=2 from by simp[bY,wh,hd]] at h2;refine⟨by simpa[cnt] using h2,?_⟩;simpa[iJ] using hd
 ·intro e;unfold Acc at h ⊢;rw[<-h];exact((o7 (s:=s) (i:=f) (by omega)).1 nr 1 hm).symm
theorem GE {an:Nat}{e:TypeId}{size:Nat}{v:Value}{n:Nat}(h:w.ownsRow an e size v n xs){b:Nat}(hb:b<an):v.ownBlock=none∨v.ownBlock≠some b:=by
 cases hv:v.ownBlock with
 | none=>exact af rfl
 | some g=>right;intro e;injection e with e;have:=(h.lt g hv).1;omega
theorem SV {w0 W5 w6:World}{p q r:Nat}{yx lv:Int}{a a' a4:Option Addr}{c c' c4:Nat}{dl:List ea}{rs:List (List (List (Nat × Nat)))}{ss:List (List (Nat × Nat))}{ys:List Value}{v':Value}{nc:Nat}
  (N:RN w w.heap.size s M f w0 yx (.slice a rs.length c) rs xs) (bC:rs.length<=f) (qY:lO s f p) (ht:RRulsAt s 0 f rs)
  (h5:In w0 W5 w.heap.size (.slice a rs.length c) hm lv (.slice a' ss.length c') (.slice a4 dl.length c4) ss.length ys) (hs5:RSels W5 s (w0.heap.size+1) ys ss)
  (kA:p<q) (Sp:q+1<=r) (Gq:r<s.size) (hb:bt s q=123) (hbn:∀k,p<=k->k<q->bt s k≠123) (hr:bt s r=125) (hrn:∀k,q<=k->k<r->bt s k≠125)
  (TZ:lv=w9 s f) (hdo:W5.ownsRow (w.heap.size+1) 229 3 (.slice a4 dl.length c4) dl.length (lg dl)) (hda:q9 (s.extract (q+1) r) dl) (OA:rj s p q ss) (nU:iX hm q) (BB:Acc s 9 ⟨rs.length+1,nc,hm⟩ (q+1) M)
  (ho:w6.ownsRow (w.heap.size+1) 164 3 v' (rs.length+1) (xs++[.int .i64 lv,.slice a' ss.length c',.slice a4 dl.length c4]))
  (hg:((W5.alloc (.cells #[.int .i64 lv,.slice a' ss.length c',.slice a4 dl.length c4] 164)).drew).grownBy w6 (Value.ownBlock (.slice a rs.length c))) :
  Sh w6 w.heap.size (.slice a rs.length c) hm/\RO w w.heap.size s M (r+1) (w6.setCell ⟨w.heap.size,0,none⟩ v') hm v' (rs++[ss]) (xs++[.int .i64 lv,.slice a' ss.length c',.slice a4 dl.length c4]):=by
 have hl:=h5.lt;have hz:=h5.blt;have SE:=N.own.kept h5.gb (GE N.own (by omega))
 have fY:∀k,k<=w.heap.size->some k≠Value.ownBlock (.slice a rs.length c):=by
  intro k hk e;have:=(N.own.lt k e.symm).1;omega
 have iA:=h5.gb.size
 have sh6:Sh w6 w.heap.size (.slice a rs.length c) hm:=
  (hg.block _ (by show _<(W5.alloc _).heap.size;simp;omega) (fY _ au)).trans ((Below.heap_alloc W5 _ _ h5.sh.lt).trans h5.sh)
 have hk:∀e,e≠164->Keeps W5 (w6.setCell ⟨w.heap.size,0,none⟩ v') (w.heap.size+1) e:=λe he=>
  ((cQ _ _ _ _).trans (jY (w:=(W5.alloc (.cells #[.int .i64 lv,.slice a' ss.length c',.slice a4 dl.length c4] 164)).drew) he ((SE.alloc _).drew) hg)).trans (eO _ (by simp) _ _)
 have Dz:∀e,Keeps w0 W5 (w.heap.size+1) e:=λe=>oY h5.gb (by omega) e;have ain:f<=p:=by rcases qY with h | h<;>omega
 refine⟨sh6,sh6.set0 _,?_,by simpa using ownsRow_setCell_below ho (by simp) _,?_,?_,by simp;omega,by unfold iX at *;omega,by omega,?_,nc,?_⟩
 ·refine Below.setCell (Below.grown (Below.drew ((N.bel.grown h5.gb N.bel.size (λk e=>by injection e with e;omega)).alloc ?_ _)) hg ?_ ?_) (by simp) _
  ·have:=N.bel.size;omega
  ·have:=N.bel.size;show _<=(W5.alloc _).heap.size;simp;omega
  ·intro k hk;have:=(N.own.lt k hk).1;omega
 ·exact RRuls.snoc lv a' c' (.slice a4 dl.length c4) ss ys ((hk 166 (by decide)).owns (aP h5.own (by omega))) ((hs5.mono (by omega)).keep (hk 206 (by decide))) (N.ruls.keep ((Dz 206).trans (hk 206 (by decide))) ((Dz 166).trans (hk 166 (by decide))))
 ·obtain⟨is,i1,i2⟩:=N.info;exact⟨is++[(lv,dl)],RDecs.snoc lv _ a4 c4 dl ((hk 229 (by decide)).owns hdo) (i1.keep ((Dz 229).trans (hk 229 (by decide)))),RInfsAt.snoc ⟨p,q,qY,hb,hbn,kA,by omega,by simpa using hr,λk k1 k2=>hrn k k1 (by omega),TZ,by simpa using hda⟩ (by omega) i2⟩
 ·refine RRulsAt.snoc (j:=f) ⟨p,q,qY,OA,hb,hbn,by omega,by simpa using hr,λk k1 k2=>hrn k k1 (by omega)⟩ (by omega) ht
 ·obtain⟨m,m1,m2,_,_⟩:=wB BB (λj j1 j2=>hrn j (by omega) j2) (by omega) (r - (q+1)) (by omega);rw[show q+1+(r - (q+1))=r from by omega] at m2;have h2:=m2.step Gq;rw[(pH m1 (m2.ok Gq)).1 hr,oL m1] at h2;simpa using h2
theorem uw (w:World)(s:ByteArray)(hs:s.size<=maxLen):
  Calls prog 87 #[.string s] w λe w'=>zm w s e w':=by
 unfold maxLen at hs
 by_cases h400:400<s.size
 ·have HC:Hid (gP s=(1,0)):=by unfold Hid gP;rw[aq h400]
  have hd:decide ((400:Int)<(s.size:Int))=true:=by simp;omega
  go_enter func87,ntmps87;go_wp2;go_ret3;exact⟨none,by rw[HC.out];rfl,bd,λh=>by rw[HC.out] at h;simp at h⟩
 have hd:decide ((400:Int)<(s.size:Int))=false:=by simp;omega
 have ht:s.size<=400:=by omega
 by_cases hv:0<=(V s 0 K0 0).1
 ·have HC:Hid (gP s=(2,(V s 0 K0 0).1)):=by unfold Hid gP;rw[aj h400,aq hv]
  clear h400;go_enter func87,ntmps87;go_wp2_with fail;refine(Au _ s ht).mono ?_;rintro e w1 ⟨rfl,rfl⟩;generalize (V s 0 K0 0).1=x at hv HC;have iR:decide ((0:Int)<=x)=true:=by simpa using hv
  go_wp2;go_ret3;exact⟨none,by rw[HC.out];rfl,bd,λh=>by rw[HC.out] at h;simp at h⟩
 obtain⟨M,hM⟩:∃M,Acc s 0 K0 0 M:=⟨(V s 0 K0 0).2,by have:=ME s 0 K0 0;unfold Acc;exact Prod.ext (by show _=(-1:Int);omega) rfl⟩;have HM:=ae hM;have HV:Hid ((V s 0 K0 0).1=-1):=by have:=ME s 0 K0 0;unfold Hid;omega
 have HC:Hid (gP s=if M=-1 then(0,0) else(3,M)):=by unfold Hid gP;rw[aj h400,aj hv];unfold Acc at hM;rw[hM]
 clear hM h400 hv;obtain⟨i0,hi,gx,gA,gB⟩:=info_parts Tryz.info166;obtain⟨i1,QH,jz0,jz1,jz2⟩:=info_parts Tryz.info164;go_enter func87,ntmps87;go_wp2_with fail;refine(Au _ s ht).mono ?_;rintro e w1 ⟨rfl,rfl⟩;obtain⟨w,rfl⟩:∃w,w=w1:=⟨_,rfl⟩;rw[HV.out];go_wp2_with fail
 go_loopg [7] s.size (λgk fv wr=>∃(f:Nat) (hm:Int) (vL:Value) (rs:List (List (List (Nat × Nat)))) (xs:List Value),fv=.int .i64 f/\s.size - f<=gk/\RO w w.heap.size s M f wr hm vL rs xs)
 case atStart=>
  exact⟨0,-1,.slice none 0 0,[],[],rfl,by omega,heap_alloc_new w _,bd.alloc au _,er,rfl,⟨[],rfl,rfl⟩,au,af rfl,aZ,rfl,0,HM.out⟩
 case round=>
  obtain⟨f,hm,vL,rs,xs,rfl,fS,R⟩:=hrel;have R_le:=R.le;have R_few:=R.few;obtain⟨a,c,uR⟩:=aA R.own;subst uR;have c0:=R.sh.c0;have c1:=R.sh.c1;have fz:=R.sh.fr;have blt:=R.sh.lt
  by_cases aU:f<s.size
  ·have yw:decide ((f:Int)<(s.size:Int))=true:=by simp;omega
   go_upto_if 32 with fail
   go_cut [] (λwc=>∃yx,RN w w.heap.size s M f wc yx (.slice a rs.length c) rs xs)
   case first=>
    obtain⟨nc,BB⟩:=R.acc
    by_cases h4:rs.length=20
    ·have g4:((rs.length:Int)==20)=true:=by simp[h4]
     have HA:Hid (Acc s 18 ⟨rs.length+1,1,ms hm f⟩ f M/\iX (ms hm f) f):=by
      refine⟨?_,?_⟩
      ·unfold Acc at BB ⊢;rw[<-BB,vW aU];simp[cZ,h4]
      ·simpa[cZ] using lA R.noted true au
     clear h4 BB;go_wp2_with fail;refine(tD _ w.heap.size (.slice a rs.length c) hm f (by exact R.sh) R.noted).mono ?_;rintro e w2 ⟨rfl,tp,hg⟩
     have N:RN w w.heap.size s M f w2 (ms hm f) (.slice a rs.length c) rs xs:=
      ⟨tp,R.bel.grown hg R.bel.size (λk hk=>by injection hk with hk;omega),R.own.kept hg (GE R.own (by omega)),R.ruls.keep (oY hg (by omega) _) (oY hg (by omega) _),R.info.keep (oY hg (by omega) _),HA.out.2,HA.out.1⟩
     clear R;go_wp2;go_meet
     case rel=>exact⟨_,N⟩
    ·have g4:((rs.length:Int)==20)=false:=by simp;omega
     have HA:Hid (Acc s 18 ⟨rs.length+1,1,hm⟩ f M):=by unfold Hid Acc at *;rw[<-BB,vW aU];simp[cZ,h4]
     clear h4 BB;have N:RN w w.heap.size s M f wr hm (.slice a rs.length c) rs xs:=⟨R.sh,R.bel,R.own,R.ruls,R.info,R.noted,HA.out⟩;clear R;go_wp2;go_meet
     case rel=>exact⟨_,N⟩
   case rest=>
    obtain⟨yx,N⟩:=hcut;have R_text:=R.text;have RT:=ae R_text;clear R R_text c0 c1 fz blt;obtain⟨w0,rfl⟩:∃w0,w0=wc:=⟨_,rfl⟩;have Nlt:=N.sh.lt
    have On:∀lv,In w0 (w0.alloc (.cells #[.int .i64 lv,.slice none 0 0,.slice none 0 0] 164)) w.heap.size (.slice a rs.length c) yx lv (.slice none 0 0) (.slice none 0 0) 0 []:=λlv=>
     ⟨(Below.heap_alloc w0 _ _ Nlt).trans N.sh,World.grownBy_alloc _ _ _,heap_alloc_new w0 _,er,Nlt⟩
    go_upto_if 40 with fail
    go_cut [7] (λfv wq=>∃(p:Nat) (lv:Int),fv=.int .i64 p/\RP w w.heap.size s M f p w0 wq yx (.slice a rs.length c) rs lv)
    case first=>
     by_cases h64:bt s f=64
     ·have g64:((s[f].toNat:Int)==64)=true:=by rw[<-bN s f aU,h64];rfl
      obtain⟨l1,l2,l3,l4⟩:=(Ae N.acc).1 h64;rw[bN s (f+1) l1] at l3 l4;have HLY:Hid (w9 s f=(s[f+1].toNat:Int) - 48):=by unfold Hid w9;rw[aq h64,bN s (f+1) l1]
      have HRP:Hid (∀lv,lv=w9 s f->RP w w.heap.size s M f (f+2) w0 (w0.alloc (.cells #[.int .i64 lv,.slice none 0 0,.slice none 0 0] 164)) yx (.slice a rs.length c) rs lv):=λlv TZ=>
       ⟨On lv,af ⟨h64,rfl⟩,TZ,by have:=N.noted;unfold iX at *;omega,l2⟩
      clear l2 On h64;go_wp2;go_meet
      case rel=>exact⟨f+2,_,by go_num,HRP.out _ (by rw[HLY.out])⟩
     ·have g64:((s[f].toNat:Int)==64)=false:=by rw[<-bN s f aU];simp;omega
      have RPp:RP w w.heap.size s M f f w0 (w0.alloc (.cells #[.int .i64 10,.slice none 0 0,.slice none 0 0] 164)) yx (.slice a rs.length c) rs 10:=
       ⟨On 10,ai ⟨h64,rfl⟩,by unfold w9;rw[aj h64],N.noted,(Ae N.acc).2 h64⟩
      clear On h64;go_wp2;go_meet
      case rel=>exact⟨f,10,rfl,RPp⟩
    case rest=>
     obtain⟨p,lv,rfl,P⟩:=hcut;clear On;have qd:p<s.size:=P.acc.lt (by omega);have qY:f<=p:=by rcases P.layer with h | h<;>omega
     go_wp2_with fail;refine(nz _ s p 123 ht (by omega)).mono ?_;rintro e w2 ⟨q,rfl,rfl,HU⟩
     obtain⟨kA,hqs,HB⟩:p<q/\q<s.size/\Hid (bt s q=123/\∀k,p<=k->k<q->bt s k≠123):=by
      obtain⟨u1,u2,u3,u4⟩:=HU.out;obtain⟨x,x1,x2,x3⟩:=Ld (s.size - p) au (af rfl) P.acc
      have hq:q<s.size:=by
       apply Nat.lt_of_not_le;intro qw;exact u3 x x1 (by omega) x3
      have Dp:=u4 hq;refine⟨?_,hq,Dp,u3⟩;apply Nat.lt_of_not_le;intro qw;obtain rfl:q=p:=by omega
      exact P.acc.ok qd (by rw[Dp];decide)
     go_wp2_with fail
     go_loopg [7] (q+1 - p) (λgk fv wq=>∃(f':Nat) (qZ:Int) (vS:Value) (ss:List (List (Nat × Nat))) (ys:List Value),fv=.int .i64 f'/\q+1 - f'<=gk/\RI w0 w.heap.size s p q (rs.length+1) M f' wq qZ (.slice a rs.length c) lv vS ss ys)
     case atStart=>
      exact⟨p,yx,.slice none 0 0,[],[],rfl,au,P.inn,rfl,by simp,au,by omega,λ_=>⟨rfl,P.noted,P.acc⟩,λe=>absurd kA e⟩
     case round=>
      obtain⟨f',qZ,vS,ss,ys,rfl,Z0,I⟩:=hrel;have I_lo:=I.lo;have I_hi:=I.hi;have I_few:=I.few;obtain⟨a',c',hvS⟩:=aA I.inn.own;subst hvS
      by_cases DB:f'<q
      ·have Sa:decide ((f':Int)<(q:Int))=true:=by simp;omega
       go_wp2_with fail;refine(nz _ s f' 44 ht (by omega)).mono ?_;rintro e w3 ⟨r1,rfl,rfl,HU1⟩;go_upto_if 61 with fail
       go_cut [10] (λev wc=>∃en:Nat,ev=.int .i64 en/\wc=w3/\f'<=en/\en<=q/\Hid ((∀k,f'<=k->k<en->bt s k≠44)/\(en<q->bt s en=44)))
       case first=>
        by_cases hrq:q<r1
        ·have Gd:decide ((q:Int)<(r1:Int))=true:=by simp;omega
         go_wp2;go_meet
         case rel=>exact⟨q,rfl,rfl,by omega,au,λk k1 k2=>HU1.out.2.2.1 k k1 (by omega),λe=>by omega⟩
        ·have Gd:decide ((q:Int)<(r1:Int))=false:=by simp;omega
         go_wp2;go_meet
         case rel=>exact⟨r1,rfl,rfl,HU1.out.1,by omega,HU1.out.2.2.1,λe=>HU1.out.2.2.2 (by omega)⟩
       case rest=>
        obtain⟨en,rfl,hwc,Dx,heq,HE⟩:=hcut;obtain rfl:=hwc;obtain⟨w3,rfl⟩:∃w3,w3=wc:=⟨_,rfl⟩;have T0:en=q∨en<q:=by omega
        have HP:Hid (Mb s f' en (rs.length+1) M qZ):=by
         obtain⟨g1,g2,g3⟩:=I.go DB;refine⟨Dx,by omega,ht,λk k1 k2=>⟨HE.out.1 k k1 k2,HB.out.2 k (by omega) (by omega)⟩,?_,g2,g3⟩;rcases T0 with e | e
         ·right;rw[e];exact HB.out.1
         ·left;exact HE.out.2 e
        have HI:=ae ((I.go DB).1);clear T0;go_wp2_with fail;refine(JF _ w.heap.size (.slice a rs.length c) qZ s f' en (rs.length+1) M (by exact I.inn.sh) HP.out).mono ?_;rintro e w4 ⟨a2,c2,aQ,ps,Cp,rfl,sh4,g4,Pj,jn⟩;have L8:=I.inn.call sh4 g4;have EG:=I.sels.keep (oY g4 (by have:=I.inn.lt;omega) 206);have hz4:=L8.blt;have Gu:=I.inn.blt;have Ul:w4.ownsRow (w0.heap.size+1) 206 2 (.slice a2 aQ.length c2) aQ.length ps:=aP Pj (by omega);obtain⟨rc0,rc1,rc2,rfz⟩:=L8.cells;clear I sh4 Pj;go_wp2_with (at_builtin;refine wpList_append_own _ rfl (.tmp 69) (.tmp 71) 161 rfl (w0.heap.size+1) 166 i0 (.slice none 0 0) 1 24 underlying161 hi gx gA gB rfl (by decide) _ _ _ rfl (L8.own.alloc _) ⟨w4.heap.size,0,none⟩ 1 1 [.slice a2 aQ.length c2] rfl rfl ?c1 ?c2 ?c3 ?c4 ?c5 ?_)
        case c1=>exact aW w4 _ rfl _ _ _ rfl
        case c2=>exact aar _ _ _
        case c3=>unfold maxLen;omega
        case c4=>omega
        case c5=>simp;omega
        ·intro v' w5 DG jf _;have bR:w5.ownsRow (w0.heap.size+1) 166 1 v' (ss++[aQ]).length (ys++[.slice a2 aQ.length c2]):=by simpa using DG
         have Kl:=(L8.alloc (.cells #[.slice a2 aQ.length c2] 166)).app jf bR;have rb5:=(L8.alloc (.cells #[.slice a2 aQ.length c2] 166)).appBlk jf;have k5:Keeps w4 (w5.setCell ⟨w0.heap.size,1,none⟩ v') (w0.heap.size+1) 206:=((cQ _ _ _ _).trans (jY (by decide) (L8.own.alloc _) jf)).trans (eO _ (by simp) _ _)
         have I5:RI w0 w.heap.size s p q (rs.length+1) M (en+1) (w5.setCell ⟨w0.heap.size,1,none⟩ v') Cp (.slice a rs.length c) lv v' (ss++[aQ]) (ys++[.slice a2 aQ.length c2]):=by
          obtain⟨t1,t2,t3,nc,t4⟩:=jn.out;refine⟨Kl,RSels.snoc a2 c2 aQ ps (k5.owns Ul) t1 (EG.keep k5),by simp;omega,by omega,by omega,λe=>?_,λe=>?_⟩
          ·have Ic:=HE.out.2 (by omega);refine⟨RSelsPre.snoc t2 Dx Ic HE.out.1 HI.out,by unfold iX at *;omega,?_⟩;unfold Acc at t4 ⊢;rw[<-t4,wv Ic (by omega)]
          ·have ac5:en=q:=by
            apply Nat.le_antisymm heq;apply Nat.le_of_not_lt;intro hl;have Ic:=HE.out.2 hl;obtain rfl:q=en+1:=by omega
            have t5:Acc s 2 ⟨rs.length+1,1,Cp⟩ (en+1) M:=by unfold Acc at t4 ⊢;rw[<-t4,wv Ic (by omega)]
            exact t5.ok hqs (by rw[HB.out.1];decide)
           subst ac5;exact⟨rfl,⟨ss,f',aQ,rfl,HI.out,t2,Dx,HE.out.1⟩,t3,nc,t4⟩
         have cc1:w5.cell? ⟨w0.heap.size,1,none⟩=some (.slice a' ss.length c'):=aa rb5 rfl;have cz:∀j,w5.frozen? ⟨w0.heap.size,j,none⟩=false:=λ_=>ax rb5;obtain⟨a5,c5,Gt⟩:=aA bR;rw[Gt] at I5 ⊢;rw[show(ss++[aQ]).length=ss.length+1 from by simp] at I5;simp only[List.length_append,List.length_cons,List.length_nil,Nat.zero_add];clear Gt Kl bR DG jf k5 rb5 rc0 rc1 rc2 rfz L8 EG Ul;go_wp2;go_roundg (q+1 - (en+1))
         case measure=>omega
         case rel=>exact⟨en+1,Cp,_,_,_,by go_num,au,I5⟩
      ·have Sa:decide ((f':Int)<(q:Int))=false:=by simp;omega
       obtain⟨d1,d2,d3,nc,d4⟩:=I.done DB
       have XY:Acc s 9 ⟨rs.length+1,nc,qZ⟩ (q+1) M:=by
        have:=d4.step hqs;rw[HB.out.1] at this;simpa[bY,i7,i6,cnt] using this
       have HD:=kK d2 d3 XY;subst d1;clear d2 d3 d4 XY;obtain⟨wq,rfl⟩:∃wq,wq=wr:=⟨_,rfl⟩;go_wp2_with fail;refine(nz _ s q 125 ht (by omega)).mono ?_;rintro e w3 ⟨r2,rfl,rfl,Ww⟩
       obtain⟨hr1,DH,HR⟩:q+1<=r2/\r2<s.size/\Hid (bt s r2=125/\∀k,q<=k->k<r2->bt s k≠125):=by
        obtain⟨u1,u2,u3,u4⟩:=Ww.out;obtain⟨x,x1,x2,x3⟩:=FK (s.size - (q+1)) au ⟨by omega,by omega⟩ HD.out.2.2
        have hr:r2<s.size:=by
         apply Nat.lt_of_not_le;intro qw;exact u3 x (by omega) (by omega) x3
        refine⟨?_,hr,u4 hr,u3⟩;apply Nat.lt_of_not_le;intro qw;obtain rfl:r2=q:=by omega
        have:=u4 hr;rw[HB.out.1] at this;omega
       have ZO:DOK (s.extract (q+1) r2):=Vd HD.out.2.2 (λj j1 j2=>HR.out.2 j (by omega) j2) (by omega) hr1 (λ_=>HR.out.1);have OF:(s.extract (q+1) r2).size<=400:=by rw[ByteArray.size_extract];omega
       go_wp2_with fail;refine(JM _ (s.extract (q+1) r2) OF ZO).mono ?_;rintro e w4 ⟨a4,c4,dl,rfl,LY,ZN,HDA⟩;have L8:=I.inn.below LY;have EG:=I.sels.keep (ik LY _ _);obtain⟨rc0,rc1,rc2,rfz⟩:=L8.cells;have Kl:=L8.setO 2 (.slice a4 dl.length c4) rfl L8.own;have hzq:=I.inn.blt;have UC:Hid ((w4.setCell ⟨w0.heap.size,2,none⟩ (.slice a4 dl.length c4)).ownsRow (w0.heap.size+1) 229 3 (.slice a4 dl.length c4) dl.length (lg dl)):=(eO w4 (p:=⟨w0.heap.size,2,none⟩) (by simp) (.slice a4 dl.length c4) _).owns (aP ZN (by omega));have P1:=EG.keep (eO w4 (p:=⟨w0.heap.size,2,none⟩) (by simp) (.slice a4 dl.length c4) _);clear I ZO OF L8 EG ZN hzq;go_upto_region 25 with fail;obtain⟨W5,hW5⟩:∃W5,W5=w4.setCell ⟨w0.heap.size,2,none⟩ (.slice a4 dl.length c4):=⟨_,rfl⟩;rw[<-hW5] at Kl P1 UC ⊢;clear hW5 rc0 rc1 rc2 rfz LY;obtain⟨rc0,rc1,rc2,rfz⟩:=Kl.cells;have h0:=Kl.sh.c0;have hfz:=Kl.sh.fr;have hl5:=Kl.sh.lt;have hz5:=Kl.blt;have yM:=Kl.lt;have SE:=N.own.kept Kl.gb (GE N.own (by omega))
       go_region_law (refine tR rfl (.tmp 90) (.tmp 92) 158 rfl (w.heap.size+1) 164 i1 (.agg #[.int .i64 0,.slice none 0 0,.slice none 0 0]) 3 56 underlying158 QH jz0 jz1 jz2 rfl (by decide) (.slice a rs.length c) rs.length xs (by simp[Act.eval]) ((SE.alloc _).drew) ⟨W5.heap.size,0,none⟩ 1 1 [.int .i64 lv,.slice a' ss.length c',.slice a4 dl.length c4] (by simp[Act.eval]) rfl (aW W5 _ rfl _ _ _ rfl) (Pe _ _ _ _ _ _ _) (by unfold maxLen;omega) (by omega) (by simp;omega) ?_;intro v' w6 uh Ol;obtain⟨sh6,R6⟩:=SV N R_few P.layer RT.out Kl P1 kA hr1 DH HB.out.1 HB.out.2 HR.out.1 HR.out.2 P.lay (aP UC.out (by omega)) HDA.out HD.out.1 HD.out.2.1 HD.out.2.2 uh Ol;have s60:=sh6.c0;have s6z:=sh6.fr;obtain⟨a6,c6,hv6⟩:=aA uh;rw[hv6] at R6 ⊢;clear hv6 uh Ol)
       all_goals
        clear SE P1 Kl P N;go_wp2;go_roundg (s.size - (r2+1))
        case measure=>omega
        case rel=>exact⟨r2+1,qZ,_,_,_,by go_num,au,R6⟩
  ·obtain rfl:f=s.size:=by omega
   have yw:decide ((s.size:Int)<(s.size:Int))=false:=by simp
   have hMm:M=hm:=by
    obtain⟨nc,h⟩:=R.acc;unfold Acc at h;rw[vU au,aq rfl] at h;injection h with _ h2
    exact h2.symm
   subst hMm
   by_cases hneg:M=-1
   ·subst hneg;have Ck:Hid (gP s=(0,0)):=by unfold Hid;rw[HC.out];rfl
    have Sa:decide ((0:Int)<=-1)=false:=by decide
    have R2:=R;clear R;go_wp2;go_ret3;exact⟨_,by rw[Ck.out];rfl,R2.bel,λ_=>⟨_,a,c,rs,xs,-1,rfl,R2.sh,aP R2.own (by omega),R2.ruls.mono (by omega),R2.text,R2.info.mono (by omega),au⟩⟩
   ·have Fj:=R.noted;have lN:0<=M:=by unfold iX at Fj;omega
    have Ck:Hid (gP s=(3,M)):=by unfold Hid;rw[HC.out,aj hneg]
    have Sa:decide ((0:Int)<=M)=true:=by simpa using lN
    have R2:=R;clear R Fj hneg HC;go_wp2;go_quiet (fail);go_wp2;go_ret3;exact⟨none,by rw[Ck.out];rfl,⟨R2.bel.os,R2.bel.tape,R2.bel.output,R2.bel.size,R2.bel.block⟩,λh=>by rw[Ck.out] at h;simp at h⟩
end
theorem pN (w:World)(n:Int):Calls prog 54 #[.int .i64 n] w λe w'=>e=.returned (.int .i64 n)/\w'=w:=by
 go_enter func54,ntmps54;go_wp2;go_ret;exact⟨rfl,rfl⟩
def oI (w:World)(e:Ending)(w':World):Prop:=e=.returned (.bool true)/\Below w.heap.size w w'
def Wd (w:World)(b:Nat):Prop:=w.heap[b]?=some (.cells #[.slice none 0 0,.slice none 0 0,.slice none 0 0,.int .i64 0] 67 (0,0))
theorem NX (w:World)(b:Nat)(hi:Int)(h:Wd w b):
  Calls prog 34 #[.pointer (some ⟨b,0,none⟩),.int .i64 hi] w λe w'=>e=.returned (.bool true)/\w'=w:=by
 have c0:w.cell? ⟨b,0,none⟩=some (.slice none 0 0):=aa h rfl;go_enter func34,ntmps34;go_wp2;refine wp_loop_rounds 1 ?_;rw[rounds_succ];go_wp2;go_ret;exact⟨rfl,rfl⟩
theorem Kr (w:World)(b:Nat)(h:Wd w b):
  Calls prog 35 #[.pointer (some ⟨b,0,none⟩)] w λe w'=>e=.returned (.bool true)/\w'=w:=by
 have c1:w.cell? ⟨b,1,none⟩=some (.slice none 0 0):=aa h rfl;go_enter func35,ntmps35;go_wp2;refine wp_loop_rounds 1 ?_;rw[rounds_succ];go_wp2;go_ret;exact⟨rfl,rfl⟩
structure Scr (w:World)(b off len:Nat)(K A X Y Z:Nat->Int)(S T:Nat->ByteArray)(O:Nat->Bool):Prop where
 c0:∀i,i<len->w.cell? ⟨b,off+i*8,none⟩=some (.int .i64 (K i))
 c1:∀i,i<len->w.cell? ⟨b,off+i*8+1,none⟩=some (.int .i64 (A i))
 c2:∀i,i<len->w.cell? ⟨b,off+i*8+2,none⟩=some (.int .i64 (X i))
 c3:∀i,i<len->w.cell? ⟨b,off+i*8+3,none⟩=some (.int .i64 (Y i))
 c4:∀i,i<len->w.cell? ⟨b,off+i*8+4,none⟩=some (.int .i64 (Z i))
 c5:∀i,i<len->w.cell? ⟨b,off+i*8+5,none⟩=some (.string (S i))
 c6:∀i,i<len->w.cell? ⟨b,off+i*8+6,none⟩=some (.string (T i))
 c7:∀i,i<len->w.cell? ⟨b,off+i*8+7,none⟩=some (.bool (O i))
 small:∀i,i<len->(S i).size<=maxLen
 lt:b<w.heap.size
theorem Ed (w:World)(ao:Option Addr)(gV:Nat)(lo hi:Int):
  Calls prog 15 #[.slice ao 0 gV,.int .i64 lo,.int .i64 hi] w λe w'=>oI w e w':=by
 go_enter func15,ntmps15;go_wp2_with fail;refine wp_loop_rounds 1 ?_;rw[rounds_succ];go_wp2_with fail;have hW:Wd (w.alloc (.cells #[.slice none 0 0,.slice none 0 0,.slice none 0 0,.int .i64 0] 67)) w.heap.size:=heap_alloc_new w _;refine(NX _ w.heap.size hi hW).mono ?_;rintro e w2 ⟨rfl,rfl⟩;go_wp2_with fail;refine(Kr _ w.heap.size hW).mono ?_;rintro e w3 ⟨rfl,rfl⟩;go_wp2_with fail;go_ret;exact⟨rfl,bd.alloc au _⟩
section
open Go.ChangeShapes Go.WideShapes Go.ChangeAt Go.RowKit
theorem Tryz.own:ownKnob Tryz.prog.godebug=none:=by kernel_rfl
theorem Tryz.laidOut:laidOutB Tryz.prog=true:=by kernel_rfl
theorem Tryz.cells69:Tryz.prog.cellsOf 69=8:=by kernel_rfl
theorem Tryz.cells3:Tryz.prog.cellsOf 3=1:=by kernel_rfl
theorem Tryz.cells9:Tryz.prog.cellsOf 9=1:=by kernel_rfl
theorem Tryz.cells4:Tryz.prog.cellsOf 4=1:=by kernel_rfl
theorem TK {α:Type}(l:List α)(h:l.length=8):∃a b c d e f g i,l=[a,b,c,d,e,f,g,i]:=by
 match l,h with
 | [a,b,c,d,e,f,g,i],_=>exact⟨a,b,c,d,e,f,g,i,rfl⟩
theorem D3 {H:Type}{enc:TypeId × Value->H}{W:World}{a0:Option Addr}{len gV JX:Nat}{x:DataW H × List MemPlace}(h:DataW.trod enc prog W 0 (λ_=>true) true JX 22 [.slice a0 len gV]=some x):
  len=0∨∃b off K A X Y Z S T O,a0=some ⟨b,off,none⟩/\Scr W b off len K A X Y Z S T O/\len<=maxLen:=by
 rcases Go.Deep.open_slice underlying22 h with⟨kf,_⟩ | ⟨a,len',cap',m,n,D,Pl,kf,_,hl,hm,Ot,_,hx⟩
 ·left;simp only[List.cons.injEq,Value.slice.injEq,and_true] at kf;exact kf.2.1
 ·simp only[List.cons.injEq,Value.slice.injEq,and_true] at kf;obtain⟨rfl,rfl,rfl⟩:=kf
  by_cases h0:len=0
  ·exact af h0
  right;simp only[if_true] at Ot;rw[Tryz.cells69] at hx
  have acy:∀i,i<len->∃q:(Int × Int × Int × Int × Int) × ByteArray × ByteArray × Bool,
    W.cell? (a.add (i*8))=some (.int .i64 q.1.1)/\W.cell? (a.add (i*8+1))=some (.int .i64 q.1.2.1)/\W.cell? (a.add (i*8+2))=some (.int .i64 q.1.2.2.1)/\W.cell? (a.add (i*8+3))=some (.int .i64 q.1.2.2.2.1)/\
    W.cell? (a.add (i*8+4))=some (.int .i64 q.1.2.2.2.2)/\W.cell? (a.add (i*8+5))=some (.string q.2.1)/\W.cell? (a.add (i*8+6))=some (.string q.2.2.1)/\W.cell? (a.add (i*8+7))=some (.bool q.2.2.2)/\q.2.1.size<=maxLen:=by
   intro i hi;obtain⟨Va,h1,h2⟩:=hx i (by omega);obtain⟨_,bX,hcell⟩:=World.cells?_some h1;obtain⟨xs,k,_,_,_,VS,hf⟩:=DataW.trod_struct underlying69 h2;obtain⟨v0,v1,v2,v3,v4,v5,v6,v7,rfl⟩:=TK Va bX;obtain⟨y0,y1,y2,y3,y4,y5,y6,y7,rfl⟩:=TK xs (by rw[VS];rfl);have g0:=hf 0 _ rfl;have g1:=hf 1 _ rfl;have g2:=hf 2 _ rfl;have g3:=hf 3 _ rfl;have g4:=hf 4 _ rfl;have g5:=hf 5 _ rfl;have g6:=hf 6 _ rfl;have g7:=hf 7 _ rfl;simp[Tryz.cells3,Tryz.cells9,Tryz.cells4] at g0 g1 g2 g3 g4 g5 g6 g7;obtain⟨n0,e0,_,_⟩:=DataW.trod_int underlying3 g0;obtain⟨n1,e1,_,_⟩:=DataW.trod_int underlying3 g1;obtain⟨n2,e2,_,_⟩:=DataW.trod_int underlying3 g2;obtain⟨n3,e3,_,_⟩:=DataW.trod_int underlying3 g3;obtain⟨n4,e4,_,_⟩:=DataW.trod_int underlying3 g4;obtain⟨s5,e5,_,z5⟩:=DataW.trod_string underlying9 g5;obtain⟨s6,e6,_,_⟩:=DataW.trod_string underlying9 g6;obtain⟨b7,e7,_⟩:=DataW.trod_bool underlying4 g7;simp only[List.cons.injEq,and_true] at e0 e1 e2 e3 e4 e5 e6 e7;subst e0 e1 e2 e3 e4 e5 e6 e7;have c0:=hcell 0 (by omega);have c1:=hcell 1 (by omega);have c2:=hcell 2 (by omega);have c3:=hcell 3 (by omega);have c4:=hcell 4 (by omega);have c5:=hcell 5 (by omega);have c6:=hcell 6 (by omega);have c7:=hcell 7 (by omega);rw[Go.Deep.add_add] at c0 c1 c2 c3 c4 c5 c6 c7;exact⟨((n0,n1,n2,n3,n4),s5,s6,b7),by simpa using c0,by simpa using c1,by simpa using c2,by simpa using c3,by simpa using c4,by simpa using c5,by simpa using c6,by simpa using c7,z5⟩
  obtain⟨q,hq⟩:=Go.Deep.choose_lt acy;obtain⟨b,off,spot⟩:=a;have OE:spot=none:=by simpa[Addr.add] using World.cell?_spot (hq 0 (by omega)).1
  subst OE;have aU:b<W.heap.size:=by simpa[Addr.add] using World.block_lt_of_cell? W _ (hq 0 (by omega)).1
  refine⟨b,off,λi=>(q i).1.1,λi=>(q i).1.2.1,λi=>(q i).1.2.2.1,λi=>(q i).1.2.2.2.1,λi=>(q i).1.2.2.2.2,λi=>(q i).2.1,λi=>(q i).2.2.1,λi=>(q i).2.2.2,rfl,⟨?_,?_,?_,?_,?_,?_,?_,?_,λi hi=>(hq i hi).2.2.2.2.2.2.2.2,aU⟩,by omega⟩
  all_goals intro i hi
  ·have:=(hq i hi).1;rw[Go.WideShapes.add_plain] at this;exact this
  ·have:=(hq i hi).2.1;rw[Go.WideShapes.add_plain,<-Nat.add_assoc] at this;exact this
  ·have:=(hq i hi).2.2.1;rw[Go.WideShapes.add_plain,<-Nat.add_assoc] at this;exact this
  ·have:=(hq i hi).2.2.2.1;rw[Go.WideShapes.add_plain,<-Nat.add_assoc] at this;exact this
  ·have:=(hq i hi).2.2.2.2.1;rw[Go.WideShapes.add_plain,<-Nat.add_assoc] at this;exact this
  ·have:=(hq i hi).2.2.2.2.2.1;rw[Go.WideShapes.add_plain,<-Nat.add_assoc] at this;exact this
  ·have:=(hq i hi).2.2.2.2.2.2.1;rw[Go.WideShapes.add_plain,<-Nat.add_assoc] at this;exact this
  ·have:=(hq i hi).2.2.2.2.2.2.2.1;rw[Go.WideShapes.add_plain,<-Nat.add_assoc] at this;exact this
end
section
variable {cs:List d9}{i:Nat}
def Uo (p:PPt):Nat:=pw p.kd
def Fn (ks:List PPt):Nat:=(ks.map Uo).sum
def cw (ty:Nat)(ks:List PPt):Nat:=(if ty=0 then 0 else 1)+Fn ks
def zC (cs:List d9):Nat:=(cs.map λx=>cw x.ty x.ps).sum
theorem PJ (k:Int):pw k<=1000000:=by unfold pw;(repeat' split)<;>omega
theorem PK (ks:List PPt):Fn ks<=1000000*ks.length:=by
 induction ks with
 | nil=>simp[Fn]
 | cons k ks ih=>simp only[Fn,List.map_cons,List.sum_cons,List.length_cons] at *;have:=PJ k.kd;unfold Uo at *;omega
theorem PM {ks:List PPt}(h:i<ks.length):Fn (ks.take (i+1))=Fn (ks.take i)+pw ks[i].kd:=by
 unfold Fn;rw[fU h,List.map_append,List.sum_append];simp[Uo]
theorem Eh (ks:List PPt)(i:Nat):Fn (ks.take i)<=1000000*ks.length:=by
 have:=PK (ks.take i);have:(ks.take i).length<=ks.length:=List.length_take_le' _ _;omega
theorem TJ (ty:Nat)(ks:List PPt):cw ty ks<=1+1000000*ks.length:=by
 have:=PK ks;unfold cw;split<;>omega
theorem NN (h:i<cs.length):zC (cs.take (i+1))=zC (cs.take i)+cw cs[i].ty cs[i].ps:=by
 unfold zC;rw[fU h,List.map_append,List.sum_append];simp
def rn (cs:List d9):Prop:=cs.length<=400/\∀x∈cs,x.ps.length<=400
theorem Vb (h:∀x∈cs,x.ps.length<=400):zC cs<=400000001*cs.length:=by
 induction cs with
 | nil=>simp[zC]
 | cons x cs ih=>
  have h1:=ih (λy hy=>h y (List.mem_cons_of_mem _ hy));have h2:=h x List.mem_cons_self;have h3:=TJ x.ty x.ps;simp only[zC,List.map_cons,List.sum_cons,List.length_cons] at *;omega
theorem oK (h:rn cs)(i:Nat):zC (cs.take i)<=160000000400:=by
 have h1:=Vb (cs:=cs.take i) (λx hx=>h.2 x (List.mem_of_mem_take hx));have:(cs.take i).length<=cs.length:=List.length_take_le' _ _;have:=h.1;omega
theorem oZ:∀{xs:List Value} {ks:List PPt} {i:Nat},Kinds xs ks->(h:i<ks.length)->xs[i*5]?=some (.bool ks[i].nt)/\xs[i*5+1]?=some (.int .i64 ks[i].kd)/\xs[i*5+2]?=some (.int .u8 ks[i].lt)/\xs[i*5+3]?=some (.int .i64 ks[i].st)/\xs[i*5+4]?=some (.int .i64 ks[i].sr)
 | _,k :: ks,0,⟨ys,h1,_⟩,_=>by subst h1;exact⟨rfl,rfl,rfl,rfl,rfl⟩
 | _,k :: ks,i+1,⟨ys,h1,h2⟩,h=>by
  obtain⟨e1,e2,e3,e4,e5⟩:=oZ (i:=i) h2 (by simpa using h);subst h1;rw[show(i+1)*5=i*5+5 from by omega];exact⟨by simpa using e1,by simpa using e2,by simpa using e3,by simpa using e4,by simpa using e5⟩
theorem aR {w:World}{an:Nat}{e:TypeId}{size:Nat}{a:Option Addr}{n c:Nat}{xs:List Value}(h:w.ownsRow an e size (.slice a n c) n xs)(hn:0<n):
  ∃g,a=some ⟨g,0,none⟩/\g<w.heap.size/\∀j u,xs[j]?=some u->w.cell? ⟨g,j,none⟩=some u:=by
 rcases h.2 with⟨h1,h2⟩ | ⟨g,gV,fV,hv,_,hh,_,_,_,ht⟩
 ·omega
 ·injection hv with h1 h2 h3
  refine⟨g,h1,(bx.1 hh).1,λj u hu=>?_⟩;have:=h.cells (g:=g) (by rw[h1];rfl) j u hu;rw[Go.WideShapes.add_plain] at this;simpa using this
theorem KG (w:World)(nt:Bool)(kd lt st sr:Int):
  Calls prog 166 #[.agg #[.bool nt,.int .i64 kd,.int .u8 lt,.int .i64 st,.int .i64 sr]] w λe w'=>e=.returned (.int .i64 (pw kd))/\Below w.heap.size w w':=by
 by_cases h3:kd=3
 ·have g3:(kd==3)=true:=by simp[h3]
  have HR:Hid (pw kd=1000000):=by unfold Hid pw;rw[aq h3]
  clear h3;go_enter func166,ntmps166;go_wp2;go_ret;rw[HR.out];exact⟨rfl,bd.alloc au _⟩
 have g3:(kd==3)=false:=by simp[h3]
 by_cases h1:kd=1
 ·have g1:(kd==1)=true:=by simp[h1]
  have HR:Hid (pw kd=1):=by unfold Hid pw;rw[aj h3,aq h1]
  clear h1 h3;go_enter func166,ntmps166;go_wp2;go_ret;rw[HR.out];exact⟨rfl,bd.alloc au _⟩
 ·have g1:(kd==1)=false:=by simp[h1]
  have HR:Hid (pw kd=1000):=by unfold Hid pw;rw[aj h3,aj h1]
  clear h1 h3;go_enter func166,ntmps166;go_wp2;go_ret;rw[HR.out];exact⟨rfl,bd.alloc au _⟩
def XW (w:World)(n:Nat)(e:Ending)(w':World):Prop:=e=.returned (.int .i64 n)/\Below w.heap.size w w'
theorem JJ (w:World)(an:Nat)(sg:Int)(ty:Nat)(a:Option Addr)(c:Nat)(ks:List PPt)(ps:List Value)(ho:w.ownsRow an 192 5 (.slice a ks.length c) ks.length ps)(hk:Kinds ps ks)(hl:ks.length<=400):
  Calls prog 134 #[.agg #[.int .u8 sg,.int .u8 ty,.slice a ks.length c]] w λe w'=>XW w (cw ty ks) e w':=by
 have HO:=bT ho hk;clear ho hk;go_enter func134,ntmps134;go_upto_if 8 with fail
 go_cut [3] (λsv wc=>sv=.int .i64 ((if ty=0 then 0 else 1:Nat):Int)/\wc=w.alloc (.cells #[.int .u8 sg,.int .u8 ty,.slice a ks.length c] 190))
 case first=>
  by_cases h0:ty=0
  ·have g0:((ty:Int) != 0)=false:=by simp[h0]
   have H0:=ae h0;clear h0;go_wp2;go_meet
   case rel=>exact⟨by rw[aq H0.out];rfl,rfl⟩
  ·have g0:((ty:Int) != 0)=true:=by simp;omega
   have H0:=ae h0;clear h0;go_wp2;go_meet
   case rel=>exact⟨by rw[aj H0.out];rfl,rfl⟩
 case rest=>
  obtain⟨rfl,rfl⟩:=hcut;have acW:(if ty=0 then 0 else 1:Nat)<=1:=by split<;>omega
  have HT:Hid (∀n,cw ty ks=n↔(if ty=0 then 0 else 1:Nat)+Fn ks=n):=λn=>Iff.rfl;generalize (if ty=0 then 0 else 1:Nat)=t0 at acW HT;go_wp2_with fail
  go_loopg [3,12] ks.length (λgk sv iv wr=>∃i:Nat,iv=.int .i64 i/\i<=ks.length/\ks.length - i<=gk/\sv=.int .i64 ((t0+Fn (ks.take i):Nat):Int)/\Below w.heap.size w wr)
  case atStart=>exact⟨0,rfl,aZ,by omega,by simp[Fn],bd.alloc au _⟩
  case round=>
   obtain⟨i,rfl,hi,fS,rfl,hB⟩:=hrel
   by_cases aU:i<ks.length
   ·have hd:decide ((i:Int)<(ks.length:Int))=true:=by simp;omega
    obtain⟨g,hg,dn,hc⟩:=aR HO.out.1 (by omega);subst hg;obtain⟨e0,e1,e2,e3,e4⟩:=oZ HO.out.2 aU;have c0:=(hB.cell (p:=⟨g,i*5,none⟩) dn).trans (hc _ _ e0);have c1:=(hB.cell (p:=⟨g,i*5+1,none⟩) dn).trans (hc _ _ e1);have c2:=(hB.cell (p:=⟨g,i*5+2,none⟩) dn).trans (hc _ _ e2);have c3:=(hB.cell (p:=⟨g,i*5+3,none⟩) dn).trans (hc _ _ e3);have c4:=(hB.cell (p:=⟨g,i*5+4,none⟩) dn).trans (hc _ _ e4);have HP:=ae (PM aU);have qW:=Eh ks i;have ud:=PJ ks[i].kd;clear e0 e1 e2 e3 e4 hc;generalize ks[i].kd=kd at c1 HP ud;generalize ks[i].nt=nt at c0;generalize ks[i].lt=lt at c2;generalize ks[i].st=st at c3;generalize ks[i].sr=sr at c4;generalize Fn (ks.take i)=p0 at HP qW;go_wp2_with fail;refine(KG _ nt kd lt st sr).mono ?_;rintro e w2 ⟨rfl,hb⟩;generalize pw kd=p1 at HP ud;have dq:Below w.heap.size w w2:=(hB.alloc hB.size _).trans (hb.mono (by have:=hB.size;simp;omega));clear c0 c1 c2 c3 c4 hb;go_wp2;go_roundg (ks.length - (i+1))
    case measure=>omega
    case rel=>exact⟨i+1,by go_num,by omega,au,by rw[HP.out];congr 1;omega,dq⟩
   ·have hd:decide ((i:Int)<(ks.length:Int))=false:=by simp;omega
    obtain rfl:i=ks.length:=by omega
    go_wp2;go_ret;refine⟨?_,hB⟩;rw[(HT.out (t0+Fn ks)).2 rfl,List.take_length];rfl
end
section
variable {d i made:Nat}{bi:Bool}{hp:Option Addr}{n:Int}{vL vT:Value}{w:World}
structure REl where
 blk:Nat
 num:Nat
 kids:List Nat
 kd:ByteArray
 cl:ByteArray
 nm:ByteArray
 ks:Value
 sh:Bool
def REl.cells (e:REl):Array Value:=#[.int .i64 e.num,.string e.kd,.string e.cl,.string e.nm,e.ks,.bool e.sh]
structure RD (w:World)(d:Nat)(els:List REl)(made:Nat)(hp:Option Addr)(vT:Value)(bi:Bool)(vL:Value):Prop where
 doc:w.heap[d]?=some (.cells #[.pointer hp,vL,.int .i64 made,vT,.bool bi] 121 (0,0))
 row:w.ownsRow 0 171 1 vL els.length (els.map λe=>.pointer (some ⟨e.blk,0,none⟩))
 el:∀e∈els,w.heap[e.blk]?=some (.cells e.cells 176 (0,0))
 kid:∀e∈els,w.ownsRow 0 3 1 e.ks e.kids.length (e.kids.map λk:Nat=>.int .i64 (k:Int))
 few:els.length<=24
 kfew:∀e∈els,e.kids.length<=24
theorem RD.c1 {els:List REl}(h:RD w d els made hp vT bi vL):w.cell? ⟨d,1,none⟩=some vL:=aa h.doc rfl
theorem RD.shape {els:List REl}(h:RD w d els made hp vT bi vL):∃a c,vL=.slice a els.length c:=aA h.row
theorem RD.at' {els:List REl}{a:Option Addr}{c:Nat}(h:RD w d els made hp vT bi (.slice a els.length c))(hi:i<els.length):
  ∃g,a=some ⟨g,0,none⟩/\w.cell? ⟨g,i,none⟩=some (.pointer (some ⟨els[i].blk,0,none⟩)):=by
 obtain⟨g,hg,_,hc⟩:=aR h.row (by omega);exact⟨g,hg,hc i _ (by simp[hi])⟩
theorem eR {e:REl}(h:w.heap[e.blk]?=some (.cells e.cells 176 (0,0))):w.cell? ⟨e.blk,0,none⟩=some (.int .i64 e.num)/\w.cell? ⟨e.blk,4,none⟩=some e.ks:=⟨aa h rfl,aa h rfl⟩
def bJ (els:List REl)(n:Int):Option REl:=els.find? λe=>decide ((e.num:Int)=n)
def fa (o:Option REl):Value:=.pointer (o.map λe=>⟨e.blk,0,none⟩)
theorem JQ {els:List REl}(hi:i<els.length)(nU:∀j (hj:j<els.length),j<i->((els[j].num:Int)=n)->False)(h:(els[i].num:Int)=n):bJ els n=some els[i]:=by
 unfold bJ;rw[List.find?_eq_some_iff_getElem];refine⟨by simpa using h,i,hi,rfl,λj hj=>?_⟩;have:=nU j (by omega) hj;simpa using this
theorem find_none {els:List REl}(nU:∀j (hj:j<els.length),((els[j].num:Int)=n)->False):bJ els n=none:=by
 unfold bJ;rw[List.find?_eq_none];intro e he;obtain⟨j,hj,rfl⟩:=List.getElem_of_mem he;simpa using nU j hj
theorem eB (w:World)(d:Nat)(els:List REl)(made:Nat)(hp:Option Addr)(vT:Value)(bi:Bool)(vL:Value)(n:Int)(h:RD w d els made hp vT bi vL):
  Calls prog 92 #[.pointer (some ⟨d,0,none⟩),.int .i64 n] w λe w'=>e=.returned (fa (bJ els n))/\w'=w:=by
 obtain⟨a,c,hv⟩:=h.shape;subst hv;have d1:=h.c1;have bC:=h.few;have HR:=ae h;clear h;go_enter func92,ntmps92;go_wp2
 go_loop [5] (λiv=>∃i:Nat,iv=.int .i64 i/\i<=els.length/\Hid (∀j (hj:j<els.length),j<i->((els[j].num:Int)=n)->False)) (λiv=>els.length - (intOf iv).toNat)
 case atStart=>exact⟨0,rfl,aZ,λj hj h=>by omega⟩
 case round=>
  obtain⟨i,rfl,hi,HN⟩:=hrel
  by_cases aU:i<els.length
  ·have hd:decide ((i:Int)<(els.length:Int))=true:=by simp;omega
   obtain⟨g,hg,q1⟩:=HR.out.at' aU;subst hg;obtain⟨q2,_⟩:=eR (HR.out.el els[i] (bK aU));have HF:=ae (JQ aU HN.out);have HG:Hid (∀x,els[i]=x->els[i]=x):=λ_ h=>h;obtain⟨x,hx⟩:∃x,els[i]=x:=⟨_,rfl⟩;have HX:=ae hx;rw[hx] at q1 q2;have sO:Hid ((x.num:Int)=n->bJ els n=some x):=by rw[<-hx];exact HF.out
   clear hx HG HF
   by_cases hn:(x.num:Int)=n
   ·have gn:((x.num:Int)==n)=true:=by simp[hn]
    have HE:=sO.out hn;have CC:=ae HE;clear hn HE sO;go_wp2;go_ret;rw[CC.out];exact⟨rfl,rfl⟩
   ·have gn:((x.num:Int)==n)=false:=by simp[hn]
    have e9:Hid (∀j (hj:j<els.length),j<i+1->((els[j].num:Int)=n)->False):=λj hj h1 h2=>by
     by_cases e:j=i
     ·subst e;rw[HX.out] at h2;exact hn h2
     ·exact HN.out j hj (by omega) h2
    clear hn sO;go_wp2
    go_round
    case rel=>exact⟨i+1,by go_num,by omega,e9⟩
    case measure=>simp[intOf];omega
  ·have hd:decide ((i:Int)<(els.length:Int))=false:=by simp;omega
   have CC:Hid (bJ els n=none):=find_none (λj hj h=>HN.out j hj (by omega) h);go_wp2;go_ret;rw[CC.out];exact⟨rfl,rfl⟩
end
section
variable {e:REl}{els:List REl}{n:Int}
def jm (e:REl)(n:Int):Bool:=e.kids.any λk=>decide ((k:Int)=n)
def GH (els:List REl)(n:Int):Option REl:=els.find? λe=>jm e n
def bc (els:List REl)(n:Int):Int:=match GH els n with | some e=>e.num | none=>-1
theorem ll:jm e n=true↔∃k∈e.kids,(k:Int)=n:=by simp[jm]
theorem VV {j:Nat}(hj:j<e.kids.length)(h:((e.kids[j]:Nat):Int)=n):jm e n=true:=ll.2 ⟨_,bK hj,h⟩
theorem VW (h:∀j (hj:j<e.kids.length),((e.kids[j]:Nat):Int)=n->False):jm e n=false:=by
 cases hk:jm e n with
 | false=>rfl
 | true=>
  obtain⟨k,pJ,fT⟩:=ll.1 hk;obtain⟨j,hj,rfl⟩:=List.getElem_of_mem pJ;exact(h j hj fT).elim
theorem Pp {i:Nat}(hi:i<els.length)(nU:∀j (hj:j<els.length),j<i->jm els[j] n=false)(h:jm els[i] n=true):bc els n=els[i].num:=by
 have:GH els n=some els[i]:=by
  unfold GH;rw[List.find?_eq_some_iff_getElem];exact⟨h,i,hi,rfl,λj hj=>by simpa using nU j (by omega) hj⟩
 unfold bc;rw[this]
theorem Po (nU:∀j (hj:j<els.length),jm els[j] n=false):bc els n=-1:=by
 have:GH els n=none:=by
  unfold GH;rw[List.find?_eq_none];intro e he;obtain⟨j,hj,rfl⟩:=List.getElem_of_mem he;simpa using nU j hj
 unfold bc;rw[this]
theorem f9 (w:World)(d:Nat)(els:List REl)(made:Nat)(hp:Option Addr)(vT:Value)(bi:Bool)(vL:Value)(n:Int)(h:RD w d els made hp vT bi vL):
  Calls prog 97 #[.pointer (some ⟨d,0,none⟩),.int .i64 n] w λe w'=>e=.returned (.int .i64 (bc els n))/\w'=w:=by
 obtain⟨a,c,hv⟩:=h.shape;subst hv;have d1:=h.c1;have bC:=h.few;have HR:=ae h;clear h;go_enter func97,ntmps97;go_wp2
 go_loop [5] (λiv=>∃i:Nat,iv=.int .i64 i/\i<=els.length/\Hid (∀j (hj:j<els.length),j<i->jm els[j] n=false)) (λiv=>els.length - (intOf iv).toNat)
 case atStart=>exact⟨0,rfl,aZ,λj hj h=>by omega⟩
 case round=>
  obtain⟨i,rfl,hi,HN⟩:=hrel
  by_cases aU:i<els.length
  ·have hd:decide ((i:Int)<(els.length:Int))=true:=by simp;omega
   obtain⟨g,hg,q1⟩:=HR.out.at' aU;subst hg;obtain⟨q2,q3⟩:=eR (HR.out.el els[i] (bK aU));have hk:=HR.out.kid els[i] (bK aU);have hkf:=HR.out.kfew els[i] (bK aU);obtain⟨x,hx⟩:∃x,els[i]=x:=⟨_,rfl⟩;have HX:=ae hx;rw[hx] at q1 q2 q3 hk hkf;obtain⟨ka,kc,sL⟩:=aA hk;rw[sL] at q3 hk;have HK:=ae hk;clear hx hk sL;go_wp2
   go_loop [6] (λjv=>∃j:Nat,jv=.int .i64 j/\j<=x.kids.length/\Hid (∀t (ht:t<x.kids.length),t<j->((x.kids[t]:Nat):Int)=n->False)) (λjv=>x.kids.length - (intOf jv).toNat)
   case atStart=>exact⟨0,rfl,aZ,λt ht h=>by omega⟩
   case round=>
    obtain⟨j,rfl,hj,HJ⟩:=hrel
    by_cases Fh:j<x.kids.length
    ·have iR:decide ((j:Int)<(x.kids.length:Int))=true:=by simp;omega
     obtain⟨g2,ij,_,yK⟩:=aR HK.out (by omega);subst ij;have q4:=yK j (.int .i64 ((x.kids[j]:Nat):Int)) (by simp[Fh])
     by_cases hn:((x.kids[j]:Nat):Int)=n
     ·have HE:Hid (bc els n=x.num):=by
       unfold Hid;rw[<-HX.out];exact Pp aU HN.out (by rw[HX.out];exact VV Fh hn)
      have gn:(((x.kids[j]:Nat):Int)==n)=true:=by simp[hn]
      clear hn yK;go_wp2;go_ret;rw[HE.out];exact⟨rfl,rfl⟩
     ·have gn:(((x.kids[j]:Nat):Int)==n)=false:=by simp[hn]
      have qU:Hid (∀t (ht:t<x.kids.length),t<j+1->((x.kids[t]:Nat):Int)=n->False):=λt ht h1 h2=>by
       by_cases e:t=j
       ·subst e;exact hn h2
       ·exact HJ.out t ht (by omega) h2
      clear hn yK;go_wp2
      go_round
      case rel=>exact⟨j+1,by go_num,by omega,qU⟩
      case measure=>simp[intOf];omega
    ·have iR:decide ((j:Int)<(x.kids.length:Int))=false:=by simp;omega
     have e9:Hid (∀t (ht:t<els.length),t<i+1->jm els[t] n=false):=λt ht h1=>by
      by_cases e:t=i
      ·subst e;rw[HX.out];exact VW (λu hu h=>HJ.out u hu (by omega) h)
      ·exact HN.out t ht (by omega)
     go_wp2
     go_round
     case rel=>exact⟨i+1,by go_num,by omega,e9⟩
     case measure=>simp[intOf];omega
  ·have hd:decide ((i:Int)<(els.length:Int))=false:=by simp;omega
   have HE:Hid (bc els n=-1):=Po (λj hj=>HN.out j hj (by omega));go_wp2;go_ret;rw[HE.out];exact⟨rfl,rfl⟩
def up (els:List REl):Nat->Int->Int
 | 0,n=>n
 | k+1,n=>up els k (bc els n)
def rl (els:List REl)(rk:Nat->Nat):Prop:=∀e∈els,∀k∈e.kids,rk e.num<rk k
def oi (els:List REl)(a n:Int):Prop:=0<=a/\∃k,up els k n=a
theorem Ha (els:List REl)(n:Int):∀(t k:Nat),up els (t+k) n=up els k (up els t n)
 | 0,k=>by rw[Nat.zero_add];rfl
 | t+1,k=>by
  rw[show t+1+k=(t+k)+1 from by omega];exact Ha els (bc els n) t k
theorem Ta {t:Nat}:up els (t+1) n=bc els (up els t n):=by rw[Ha];rfl
def Jy (els:List REl)(a n:Int)(w:World)(e:Ending)(w':World):Prop:=∃b:Bool,e=.returned (.bool b)/\w'=w/\Hid (b=true↔oi els a n)
theorem pQ (els:List REl)(n:Int):bc els n=-1∨∃e∈els,jm e n=true/\bc els n=e.num:=by
 unfold bc;cases h:GH els n with
 | none=>exact af rfl
 | some e=>exact ai ⟨e,List.mem_of_find?_eq_some h,List.find?_some (p:=λe=>jm e n) h,rfl⟩
theorem V6 (hn:n<0):∀k,up els k n<0:=by
 have hp:bc els n=-1:=by
  rcases pQ els n with h | ⟨e,_,h,_⟩
  ·exact h
  ·obtain⟨k,_,hk⟩:=ll.1 h;omega
 intro k;cases k with
 | zero=>exact hn
 | succ k=>
  show up els k (bc els n)<0;rw[hp];clear hp
  have hp1:bc els (-1)=-1:=by
   rcases pQ els (-1) with h | ⟨e,_,h,_⟩
   ·exact h
   ·obtain⟨k,_,hk⟩:=ll.1 h;omega
  induction k with
  | zero=>show(-1:Int)<0;omega
  | succ k ih=>show up els k (bc els (-1))<0;rw[hp1];exact ih
theorem nw (w:World)(d:Nat)(els:List REl)(made:Nat)(hp:Option Addr)(vT:Value)(bi:Bool)(vL:Value)(a n:Int)(h:RD w d els made hp vT bi vL)(rk:Nat->Nat)(hr:rl els rk):
  Calls prog 173 #[.pointer (some ⟨d,0,none⟩),.int .i64 a,.int .i64 n] w λe w'=>Jy els a n w e w':=by
 have HR:=ae h;have HK:=ae hr;clear h hr;go_enter func173,ntmps173;go_wp2_with fail
 go_loopg [7] (rk n.toNat+1) (λgk nv wr=>∃m:Int,nv=.int .i64 m/\wr=w/\(0<=m->rk m.toNat<gk)/\Hid (∃t,up els t n=m/\∀j,j<t->up els j n≠a))
 case atStart=>exact⟨n,rfl,rfl,λ_=>by omega,⟨0,rfl,λj hj=>by omega⟩⟩
 case round=>
  obtain⟨m,rfl,rfl,fS,HT⟩:=hrel
  by_cases hm:0<=m
  ·have hd:decide (0<=m)=true:=by simpa using hm
   have Z0:=fS hm;clear fS
   by_cases he:m=a
   ·have ge:(m==a)=true:=by simp[he]
    have HU:Hid (oi els a n):=by
     obtain⟨t,h1,_⟩:=HT.out;exact⟨by omega,t,by omega⟩
    clear he;go_wp2;go_ret;exact⟨true,rfl,rfl,λ_=>HU.out,λ_=>rfl⟩
   ·have ge:(m==a)=false:=by simp[he]
    have ox:Hid (∃t,up els t n=bc els m/\∀j,j<t->up els j n≠a):=by
     obtain⟨t,h1,h2⟩:=HT.out;refine⟨t+1,by rw[Ta,h1],λj hj=>?_⟩
     by_cases e:j=t
     ·subst e;rw[h1];exact he
     ·exact h2 j (by omega)
    have fA:0<=bc els m->rk (bc els m).toNat<rk m.toNat:=by
     intro h0;rcases pQ els m with h | ⟨e,h1,h2,h3⟩
     ·omega
     ·obtain⟨k,pJ,fT⟩:=ll.1 h2;rw[h3];have:=HK.out e h1 k pJ;have e1:((e.num:Int)).toNat=e.num:=by omega
      have e2:m.toNat=k:=by omega
      rw[e1,e2];exact this
    have sP:=ae fA;clear he fA;go_wp2_with fail;refine(f9 _ d els made hp vT bi vL m HR.out).mono ?_;rintro e w2 ⟨rfl,rfl⟩;generalize bc els m=m2 at ox sP;go_wp2;go_roundg (rk m.toNat)
    case measure=>omega
    case rel=>exact⟨m2,rfl,rfl,sP.out,ox⟩
  ·have hd:decide (0<=m)=false:=by simpa using hm
   have HU:Hid (¬oi els a n):=by
    obtain⟨t,h1,h2⟩:=HT.out;rintro⟨ha,k,hk⟩
    by_cases e:k<t
    ·exact h2 k e hk
    ·have:up els k n=up els (k - t) m:=by rw[<-h1,<-Ha,show t+(k - t)=k from by omega]
     rw[this] at hk;have:=V6 (els:=els) (n:=m) (by omega) (k - t);omega
   go_wp2;go_ret;exact⟨false,rfl,rfl,λh=>(by cases h),λh=>(HU.out h).elim⟩
end
theorem Tryz.info3:(Tryz.prog.info? 3).map (λi=>(i.zero,i.size,i.bytes))=some (some (.int .i64 0),1,8):=by kernel_rfl
def aG (s:ByteArray):Bool:=decide (s.size=1)&&gw (bt s 0)
theorem nV (w:World)(s:ByteArray):Calls prog 137 #[.string s] w λe w'=>e=.returned (.bool (aG s))/\w'=w:=by
 by_cases h1:s.size=1
 ·have g1:((s.size:Int)==1)=true:=by simp[h1]
  have h0:0<s.size:=by omega
  have hb:(bt s 0:Int)=(s[0].toNat:Int):=by rw[bN s 0 h0]
  by_cases h2:(97:Int)<=bt s 0
  ·by_cases h3:(bt s 0:Int)<=122
   ·have HR:Hid (aG s=true):=by unfold Hid aG gw;simp only[h1,decide_true,Bool.true_and,bF];omega
    rw[hb] at h2 h3;clear hb h1;go_enter func137,ntmps137;go_wp2;go_ret;rw[HR.out];exact⟨by simp,rfl⟩
   ·have HR:Hid (aG s=false):=by unfold Hid aG gw;simp only[h1,decide_true,Bool.true_and,gU];omega
    rw[hb] at h2 h3;have hd:decide ((s[0].toNat:Int)<=122)=false:=by simpa using h3
    clear hb h1;go_enter func137,ntmps137;go_wp2;go_ret;rw[HR.out];exact⟨by simp,rfl⟩
  ·have HR:Hid (aG s=false):=by unfold Hid aG gw;simp only[h1,decide_true,Bool.true_and,gU];omega
   rw[hb] at h2;have hd:decide ((97:Int)<=(s[0].toNat:Int))=false:=by simpa using h2
   clear hb h1;go_enter func137,ntmps137;go_wp2;go_ret;rw[HR.out];exact⟨by simp,rfl⟩
 ·have g1:((s.size:Int)==1)=false:=by simp;omega
  have HR:Hid (aG s=false):=by unfold Hid aG;simp only[h1,decide_false,Bool.false_and]
  clear h1;go_enter func137,ntmps137;go_wp2;go_ret;rw[HR.out];exact⟨by simp,rfl⟩
abbrev bh (l:List Nat):List Value:=l.map λk:Nat=>.int .i64 (k:Int)
theorem rO (l:List Nat):∀u∈bh l,u.oneCell'=true:=by
 intro u hu;obtain⟨k,_,rfl⟩:=bm.1 hu;rfl
def vE (w:World)(l:List Nat)(e:Ending)(w':World):Prop:=∃(a:Option Addr) (c:Nat),e=.returned (.slice a l.length c)/\w'.ownsRow w.heap.size 3 1 (.slice a l.length c) l.length (bh l)/\Below w.heap.size w w'
def aw (n:Int)(l:List Nat):List Nat:=l.filter λk:Nat=>decide ((k:Int)≠n)
theorem um {l:List Nat}{i:Nat}(h:i<l.length)(n:Int):aw n (l.take (i+1))=aw n (l.take i)++if((l[i]:Nat):Int)=n then[] else[l[i]]:=by
 unfold aw;rw[fU h,List.filter_append]
 congr 1
 by_cases e:((l[i]:Nat):Int)=n<;>simp[e]
theorem lz (n:Int)(l:List Nat):(aw n l).length<=l.length:=List.length_filter_le _ _
theorem xa (w:World)(a:Option Addr)(c:Nat)(l:List Nat)(n:Int)(an:Nat)(ho:w.ownsRow an 3 1 (.slice a l.length c) l.length (bh l))(hl:l.length<=24):
  Calls prog 174 #[.slice a l.length c,.int .i64 n] w λe w'=>vE w (aw n l) e w':=by
 obtain⟨i0,hi,gx,gA,gB⟩:=info_parts Tryz.info3;have HO:=ae ho;clear ho;go_enter func174,ntmps174;go_wp2_with fail
 go_loopg [5,6] l.length (λgk v iv wr=>∃i:Nat,iv=.int .i64 i/\i<=l.length/\l.length - i<=gk/\wr.ownsRow w.heap.size 3 1 v (aw n (l.take i)).length (bh (aw n (l.take i)))/\Below w.heap.size w wr)
 case atStart=>exact⟨0,rfl,aZ,by omega,er,bd⟩
 case round=>
  obtain⟨i,rfl,jJ,fS,bL,hB⟩:=hrel;obtain⟨a2,c2,hv⟩:=aA bL;subst hv
  by_cases aU:i<l.length
  ·have hd:decide ((i:Int)<(l.length:Int))=true:=by simp;omega
   obtain⟨g,hg,dn,hc⟩:=aR HO.out (by omega);subst hg;have q:=(hB.cell (p:=⟨g,i,none⟩) dn).trans (hc i (.int .i64 ((l[i]:Nat):Int)) (by simp[aU]))
   have ue:(aw n (l.take i)).length<=24:=by
    have:=lz n (l.take i);have:(l.take i).length<=l.length:=List.length_take_le' _ _;omega
   have HT:=ae (um aU n);clear hc;generalize aw n (l.take i)=f at bL ue HT;generalize l[i]=y at q HT
   by_cases hn:(y:Int)=n
   ·have gn:((y:Int) != n)=false:=by simp[hn]
    have ox:Hid (aw n (l.take (i+1))=f):=by unfold Hid;rw[HT.out,aq hn];simp
    have HW:=ae bL;clear hn HT bL;go_wp2;go_roundg (l.length - (i+1))
    case measure=>omega
    case rel=>exact⟨i+1,by go_num,by omega,au,by rw[ox.out];exact HW.out,hB⟩
   ·have gn:((y:Int) != n)=true:=by simp[hn]
    have ox:Hid (aw n (l.take (i+1))=f++[y]):=by unfold Hid;rw[HT.out,aj hn]
    have hz:=hB.size;clear hn HT;go_wp2_with (at_builtin;refine wpList_append_own _ rfl (.tmp 19) (.tmp 24) 40 rfl w.heap.size 3 i0 (.int .i64 0) 1 8 underlying40 hi gx gA gB rfl (by decide) _ _ _ rfl (bL.alloc _) ⟨wr.heap.size,0,none⟩ 1 1 [.int .i64 (y:Int)] rfl rfl ?c1 ?c2 ?c3 ?c4 ?c5 ?_)
    case c1=>exact aW wr _ rfl _ _ _ rfl
    case c2=>intro u hu;simp at hu;subst hu;rfl
    case c3=>unfold maxLen;omega
    case c4=>omega
    case c5=>simp;omega
    ·intro v' w3 bU fk _;have bA:w3.ownsRow w.heap.size 3 1 v' (f++[y]).length (bh (f++[y])):=by simpa[bh] using bU
     have fj:Below w.heap.size w w3:=(hB.alloc hz _).grown fk (by simp;omega) (λk hk=>(bL.lt k hk).1);clear bU fk bL q;go_wp2;go_roundg (l.length - (i+1))
     case measure=>omega
     case rel=>exact⟨i+1,by go_num,by omega,au,by rw[ox.out];exact bA,fj⟩
  ·have hd:decide ((i:Int)<(l.length:Int))=false:=by simp;omega
   obtain rfl:i=l.length:=by omega
   rw[List.take_length] at bL;have HW:=ae bL;rw[List.take_length];clear bL;go_wp2;go_ret;exact⟨a2,c2,rfl,HW.out,hB⟩
def cY (l:List Nat)(k v:Nat):List Nat:=l.take k++[v]++l.drop k
theorem yU (w:World)(g c:Nat)(l1 l2:List Nat)(v:Nat)(an:Nat)(ho:w.ownsRow an 3 1 (.slice (some ⟨g,0,none⟩) (l1.length+l2.length) c) (l1.length+l2.length) (bh (l1++l2)))(hl:l1.length+l2.length<=24):
  Calls prog 171 #[.slice (some ⟨g,0,none⟩) (l1.length+l2.length) c,.int .i64 l1.length,.int .i64 v] w λe w'=>vE w (l1++[v]++l2) e w':=by
 obtain⟨i0,hi,gx,gA,gB⟩:=info_parts Tryz.info3
 have J4:l1.length+l2.length<=c:=by
  rcases ho.2 with⟨h,_⟩ | ⟨_,_,_,h,_,_,h2,_⟩
  ·injection h with h;cases h
  ·injection h with _ _ h3;omega
 have lL:c<=maxLen:=by
  rcases ho.2 with⟨h,_⟩ | ⟨_,_,_,h,_,_,_,h2,_⟩
  ·injection h with h;cases h
  ·injection h with _ _ h3;rw[h3];exact h2
 unfold maxLen at lL;have dn:g<w.heap.size:=(ho.lt g rfl).2
 have HS:Hid (∀(w2:World),Below w.heap.size w w2->(∀j u,(bh l1)[j]?=some u->w2.cell? ((⟨g,0,none⟩:Addr).add j)=some u)/\(∀j u,(bh l2)[j]?=some u->w2.cell? ((⟨g,l1.length,none⟩:Addr).add j)=some u)):=λw2 hb=>by
  have aai:∀j u,(bh (l1++l2))[j]?=some u->w2.cell? ⟨g,j,none⟩=some u:=λj u hu=>by
   have h1:=ho.cells (g:=g) rfl j u hu;rw[Go.WideShapes.add_plain,Nat.zero_add] at h1;exact(hb.cell (p:=⟨g,j,none⟩) dn).trans h1
  constructor
  ·intro j u hu;rw[Go.WideShapes.add_plain,Nat.zero_add];refine aai j u ?_;have hj:=(dY.1 hu).1;rw[show bh (l1++l2)=bh l1++bh l2 from by simp[bh],List.getElem?_append_left hj];exact hu
  ·intro j u hu;rw[Go.WideShapes.add_plain];refine aai _ u ?_;rw[show bh (l1++l2)=bh l1++bh l2 from by simp[bh],List.getElem?_append_right (by simp[bh])];simpa[bh] using hu
 clear ho;go_enter func171,ntmps171;go_wp2_with (at_builtin;refine wpList_append_own _ rfl (.tmp 8) (.tmp 11) 40 rfl w.heap.size 3 i0 (.int .i64 0) 1 8 underlying40 hi gx gA gB rfl (by decide) _ _ _ rfl er ⟨g,0,none⟩ l1.length c (bh l1) rfl (by simp[bh]) (HS.out w bd).1 (rO _) ?c3 ?c4 ?c5 ?_)
 case c3=>unfold maxLen;omega
 case c4=>omega
 case c5=>exact au
 ·intro v1 w1 DF Dy _;have pc:w1.ownsRow w.heap.size 3 1 v1 l1.length (bh l1):=by simpa using DF
  have cq:Below w.heap.size w w1:=bd.grown Dy au (λk hk=>by simp[Value.ownBlock] at hk);obtain⟨a1,c1,Ip⟩:=aA pc;subst Ip;clear DF Dy;have gK:=cq.size;go_wp2_with (at_builtin;refine wpList_append_own _ rfl (.tmp 13) (.tmp 15) 40 rfl w.heap.size 3 i0 (.int .i64 0) 1 8 underlying40 hi gx gA gB rfl (by decide) _ _ _ rfl (pc.alloc _) ⟨w1.heap.size,0,none⟩ 1 1 [.int .i64 (v:Int)] rfl rfl ?d1 ?d2 ?d3 ?d4 ?d5 ?_)
  case d1=>exact aW w1 _ rfl _ _ _ rfl
  case d2=>intro u hu;simp at hu;subst hu;rfl
  case d3=>unfold maxLen;omega
  case d4=>omega
  case d5=>simp;omega
  ·intro v2 w2 oU ij _;have di:w2.ownsRow w.heap.size 3 1 v2 (l1.length+1) (bh (l1++[v])):=by simpa[bh] using oU
   have dq:Below w.heap.size w w2:=(cq.alloc gK _).grown ij (by simp;omega) (λk hk=>(pc.lt k hk).1);obtain⟨a2,c2,jC⟩:=aA di;subst jC;have tp:=dq.size;clear oU ij
   by_cases QF:c=l1.length
   ·have adq:l2=[]:=List.eq_nil_of_length_eq_zero (by omega);subst adq;obtain rfl:=QF;go_wp2_with (at_builtin;refine wpList_append_own _ rfl (.tmp 17) (.tmp 20) 40 rfl w.heap.size 3 i0 (.int .i64 0) 1 8 underlying40 hi gx gA gB rfl (by decide) _ _ _ rfl di ⟨g,0,none⟩ 0 0 [] rfl rfl (λj u hu=>by simp at hu) (λu hu=>by cases hu) ?e3 ?e4 ?e5 ?_)
    case e3=>unfold maxLen;omega
    case e4=>omega
    case e5=>omega
    ·intro v3 w3 bU fk _;have bA:w3.ownsRow w.heap.size 3 1 v3 (l1++[v]++[]).length (bh (l1++[v]++[])):=by simpa[bh] using bU
     have fj:Below w.heap.size w w3:=dq.grown fk (by omega) (λk hk=>(di.lt k hk).1);obtain⟨a3,c3,yS⟩:=aA bA;subst yS;have LP:=ae bA;clear bU fk bA;go_wp2;go_ret;exact⟨a3,c3,rfl,LP.out,fj⟩
   ·go_wp2_with (at_builtin;refine wpList_append_own _ rfl (.tmp 17) (.tmp 20) 40 rfl w.heap.size 3 i0 (.int .i64 0) 1 8 underlying40 hi gx gA gB rfl (by decide) _ _ _ rfl di ⟨g,l1.length,none⟩ l2.length (c - l1.length) (bh l2) ?f1 (by simp[bh]) (HS.out w2 dq).2 (rO _) ?f3 ?f4 ?f5 ?_)
    case f1=>simp[Act.eval]
    case f3=>unfold maxLen;omega
    case f4=>omega
    case f5=>omega
    ·intro v3 w3 bU fk _;have bA:w3.ownsRow w.heap.size 3 1 v3 (l1++[v]++l2).length (bh (l1++[v]++l2)):=by simpa[bh,Nat.add_assoc,Nat.add_comm,Nat.add_left_comm] using bU
     have fj:Below w.heap.size w w3:=dq.grown fk (by omega) (λk hk=>(di.lt k hk).1);obtain⟨a3,c3,yS⟩:=aA bA;subst yS;have LP:=ae bA;clear bU fk bA;go_wp2;go_ret;exact⟨a3,c3,rfl,LP.out,fj⟩
theorem rY (v:Nat):∀u∈[Value.int .i64 (v:Int)],u.oneCell'=true:=by
 intro u hu;simp at hu;subst hu;rfl
theorem BG (w:World)(v:Nat):
  Calls prog 171 #[.slice none 0 0,.int .i64 0,.int .i64 v] w λe w'=>vE w [v] e w':=by
 obtain⟨i0,hi,gx,gA,gB⟩:=info_parts Tryz.info3;go_enter func171,ntmps171;go_wp2_with (first | (at_builtin;refine wpList_append_own_none rfl (.tmp 8) (.tmp 11) 40 rfl w.heap.size 3 i0 1 underlying40 hi _ _ _ rfl er rfl ?_) | (at_builtin;refine wpList_append_own _ rfl (.tmp 13) (.tmp 15) 40 rfl w.heap.size 3 i0 (.int .i64 0) 1 8 underlying40 hi gx gA gB rfl (by decide) _ _ _ rfl er ⟨w.heap.size,0,none⟩ 1 1 [.int .i64 (v:Int)] rfl rfl (aW w _ rfl _ _ _ rfl) (rY v) (by unfold maxLen;omega) (by omega) (by simp) ?_))
 ·intro v2 w2 oU ij _;have di:w2.ownsRow w.heap.size 3 1 v2 1 (bh [v]):=by simpa[bh] using oU
  have dq:Below w.heap.size w w2:=(bd.alloc au _).grown ij (by simp) (λk hk=>by simp[Value.ownBlock] at hk);obtain⟨a2,c2,jC⟩:=aA di;subst jC;have Qv:=ae di;clear oU ij;go_wp2_with (at_builtin;refine wpList_append_own_none rfl (.tmp 17) (.tmp 20) 40 rfl w.heap.size 3 i0 1 underlying40 hi _ _ _ rfl di rfl ?_);go_wp2;go_ret;exact⟨a2,c2,rfl,Qv.out,dq⟩
theorem rN (w:World)(a:Option Addr)(c:Nat)(l:List Nat)(k v:Nat)(an:Nat)(ho:w.ownsRow an 3 1 (.slice a l.length c) l.length (bh l))(hl:l.length<=24)(hk:k<=l.length):
  Calls prog 171 #[.slice a l.length c,.int .i64 k,.int .i64 v] w λe w'=>vE w (cY l k v) e w':=by
 by_cases h0:a=none
 ·subst h0
  have hn:l=[]/\c=0:=by
   rcases ho.2 with⟨h,h2⟩ | ⟨_,_,_,h,_⟩
   ·injection h with _ h3 h4;exact⟨List.eq_nil_of_length_eq_zero h2,h4⟩
   ·injection h with h;cases h
  obtain⟨rfl,rfl⟩:=hn;obtain rfl:k=0:=by simpa using hk
  exact BG w v
 ·obtain⟨g,rfl⟩:∃g,a=some ⟨g,0,none⟩:=by
   rcases ho.2 with⟨h,_⟩ | ⟨g,_,_,h,_⟩
   ·injection h with h;exact absurd h h0
   ·injection h with h;exact⟨g,h⟩
  have e1:(l.take k).length=k:=by simp;omega
  have e2:(l.take k).length+(l.drop k).length=l.length:=by rw[<-List.length_append,List.take_append_drop]
  have:=yU w g c (l.take k) (l.drop k) v an (by rw[e2,List.take_append_drop];exact ho) (by omega);rw[e2,e1] at this;exact this
section
variable {P:Program}
theorem kE (w:World)(an:Nat)(t ty e:TypeId)(i:TypeInfo)(z:Value)(size bytes:Nat)(ht:P.underlying t=some (.slice e))(hi:P.info? e=some i)(hz:i.zero=some z)
  (lV:i.size=size) (QD:i.bytes=bytes) (Ue:z.cells.size=size) (iA:0<size) (v:Value) (n:Nat) (xs:List Value) (bL:w.ownsRow an e size v n xs)
  (a:Addr) (m c:Nat) (j3:List Value) (hl:j3.length=m*size) (qc:∀j u,j3[j]?=some u->w.cell? (a.add j)=some u) (h1:∀u∈j3,u.oneCell'=true)
  (QC:n+m<=maxLen) (mp:(n+m)*bytes<=140737488355328) (wO:an<=w.heap.size) :
  ∃v' w',(Builtin.append_ #[t,t] ty #[v,.slice (some a) m c]).run P w=.ok v' w'/\w'.ownsRow an e size v' (n+m) (xs++j3)/\w.grownBy w' v.ownBlock/\∀j,v'.ownBlock=some j->v.ownBlock=some j∨w.heap.size<=j:=by
 obtain⟨v',w',hr,h2,h3,_⟩:=run_append_own (P:=P) w an t ty e i z size bytes ht hi hz lV QD Ue iA v n xs bL a m c j3 hl qc h1 QC mp wO;refine⟨v',w',hr,h2,h3,?_⟩;rcases bL.2 with⟨rfl,rfl⟩ | ⟨g,gV,fV,rfl,ZL,hg,hnc,Ig,kf,htake⟩
 ·have hx:xs=[]:=List.eq_nil_of_length_eq_zero (by simpa using bL.1);subst hx;obtain⟨v2,w2,DH,h22,_,_⟩:=run_append_own (P:=P) w w.heap.size t ty e i z size bytes ht hi hz lV QD Ue iA (.slice none 0 0) 0 [] er a m c j3 hl qc h1 QC mp au;rw[hr] at DH;injection DH with e1 e2
  subst e1 e2;exact λj hj=>ai (h22.lt j hj).1
 ·subst lV QD
  by_cases hroom:n+m<=gV
  ·have Ok:n*i.size+j3.length<=fV.size:=by rw[hl,kf,<-Nat.add_mul];exact Nat.mul_le_mul_right _ hroom
   have DH:=run_append_room (P:=P) w t ty e i ht hi g n gV fV hg a m c j3 hl qc h1 hroom Ok;rw[hr] at DH;injection DH with e1 _
   subst e1;exact λj hj=>af (by simpa[Value.ownBlock] using hj)
  ·have Ou:∀j u,xs[j]?=some u->w.cell? ((⟨g,0,none⟩:Addr).add j)=some u:=bL.cells (g:=g) rfl;have Vm:((n+m:Nat):Int)<=9223372036854775807:=by unfold maxLen at QC;omega
   have DH:=run_append_grow (P:=P) w t ty e i z ht hi hz ⟨g,0,none⟩ n gV xs bL.1 Ou a m c j3 hl qc (by omega) Vm (growslice_fits (by omega) mp);rw[hr] at DH;injection DH with e1 _
   subst e1;refine λj hj=>ai ?_;simp[Value.ownBlock] at hj;omega
theorem eW (w:World){BR:Array Oper}{rest:List Oper}{o:Oper}{a:Act}{Q:Exit->Act->World->Prop}(ZY:o.guard=none)(s x:Operand)(t:TypeId)
  (ho:o.op=.call {callee:=.builtin .append,args:=#[s,x],argTypes:=#[t,t]})
  (an:Nat) (e:TypeId) (i:TypeInfo) (z:Value) (size bytes:Nat) (ht:P.underlying t=some (.slice e)) (hi:P.info? e=some i) (hz:i.zero=some z)
  (lV:i.size=size) (QD:i.bytes=bytes) (Ue:z.cells.size=size) (iA:0<size)
  (v:Value) (n:Nat) (xs:List Value) (hs:a.eval s=v) (bL:w.ownsRow an e size v n xs)
  (ad:Addr) (m c:Nat) (j3:List Value) (hx:a.eval x=.slice (some ad) m c) (hl:j3.length=m*size) (qc:∀j u,j3[j]?=some u->w.cell? (ad.add j)=some u) (h1:∀u∈j3,u.oneCell'=true)
  (QC:n+m<=maxLen) (mp:(n+m)*bytes<=140737488355328) (wO:an<=w.heap.size)
  (h:∀v' w',w'.ownsRow an e size v' (n+m) (xs++j3)->w.grownBy w' v.ownBlock->Hid (∀j,v'.ownBlock=some j->v.ownBlock=some j∨w.heap.size<=j)->wpList P BR Q rest (a.put o.dst v') w'):wpList P BR Q (o :: rest) a w:=by
 refine wpList_plain ZY λK hK=>?_;obtain⟨v',w',Gr,r1,r2,r3⟩:=kE (P:=P) w an t o.type e i z size bytes ht hi hz lV QD Ue iA v n xs bL ad m c j3 hl qc h1 QC mp wO;unfold Oper.wp;simp only[execOp,ho,resolve,invoke,builtin,Sem.run_bind,Sem.run_pure,Result.andThen_ok,List.map_toArray,List.map_cons,List.map_nil,hs,hx,Gr];exact hK _ _ (h v' w' r1 r2 r3)
end
section
variable {S:Nat->Prop}{a w w':World}{an d made made' n o size:Nat}{e:TypeId}{els:List REl}{bi R0:Bool}{hp ui:Option Addr}{p:Addr}{u v vL vT q8:Value}{xs:List Value}
theorem Tryz.info171:(Tryz.prog.info? 171).map (λi=>(i.zero,i.size,i.bytes))=some (some (.pointer none),1,8):=by kernel_rfl
structure Fr (w w':World)(S:Nat->Prop):Prop where
 os:w'.os=w.os
 tape:w'.tape=w.tape
 output:w'.output=w.output
 size:w.heap.size<=w'.heap.size
 block:∀k,k<w.heap.size->¬S k->w'.heap[k]?=w.heap[k]?
theorem Fr.refl (w:World)(S:Nat->Prop):Fr w w S:=⟨rfl,rfl,rfl,au,λ_ _ _=>rfl⟩
theorem Fr.trans {b c:World}(h:Fr a b S)(k:Fr b c S):Fr a c S:=
 ⟨k.os.trans h.os,k.tape.trans h.tape,k.output.trans h.output,Nat.le_trans h.size k.size,λi hi hn=>(k.block i (Nat.lt_of_lt_of_le hi h.size) hn).trans (h.block i hi hn)⟩
theorem Fr.below (h:Fr a w S)(hb:Below w.heap.size w w'):Fr a w' S:=
 ⟨hb.os.trans h.os,hb.tape.trans h.tape,hb.output.trans h.output,Nat.le_trans h.size hb.size,λi hi hn=>(hb.block i (Nat.lt_of_lt_of_le hi h.size)).trans (h.block i hi hn)⟩
theorem Fr.set (h:Fr a w S)(hp:S p.block∨a.heap.size<=p.block)(u:Value):Fr a (w.setCell p u) S:=
 ⟨h.os,h.tape,h.output,by simpa[World.setCell] using h.size,λk hk hn=>(Below.heap_setCell _ _ _ _ (λe=>hp.elim (λx=>hn (by rw[e];exact x)) (λx=>by omega))).trans (h.block k hk hn)⟩
theorem Fr.alloc (h:Fr a w S)(o:Obj):Fr a (w.alloc o) S:=
 ⟨h.os,h.tape,h.output,by simpa using Nat.le_succ_of_le h.size,λk hk hn=>(Below.heap_alloc w o k (Nat.lt_of_lt_of_le hk h.size)).trans (h.block k hk hn)⟩
theorem Fr.gb (h:Fr a w S){r:Option Nat}(hg:w.grownBy w' r)(hr:∀k,r=some k->S k∨a.heap.size<=k):Fr a w' S:=
 ⟨hg.os.trans h.os,hg.tape.trans h.tape,hg.output.trans h.output,Nat.le_trans h.size hg.size,λk hk hn=>(hg.block k (Nat.lt_of_lt_of_le hk h.size) (λe=>(hr k e.symm).elim (λx=>hn x) (λx=>by omega))).trans (h.block k hk hn)⟩
def jQ (d:Nat)(els:List REl)(vL:Value)(k:Nat):Prop:=k=d∨(∃e∈els,k=e.blk)∨vL.ownBlock=some k∨∃e∈els,e.ks.ownBlock=some k
theorem aB (h:w.ownsRow an e size v n xs){b:Nat}{cs:Array Value}{t:TypeId}{z:Nat × Nat}(hb:w.heap[b]?=some (.cells cs t z))(fY:t≠e):v.ownBlock≠some b:=by
 intro eq;rcases h.2 with⟨rfl,_⟩ | ⟨g,gV,fV,rfl,_,hg,_⟩
 ·simp[Value.ownBlock] at eq
 ·simp[Value.ownBlock] at eq;subst eq;rw[hb] at hg;injection hg with hg
  injection hg with _ h2 _
  exact fY h2
theorem bj (h:w.ownsRow an e size v n xs)(hp:v.ownBlock≠some p.block)(u:Value):(w.setCell p u).ownsRow an e size v n xs:=by
 refine⟨h.1,?_⟩;rcases h.2 with hn | ⟨g,gV,fV,rfl,hb,hg,rest⟩
 ·exact af hn
 ·refine ai ⟨g,gV,fV,rfl,hb,?_,rest⟩;rw[Below.heap_setCell _ _ _ _ (λe=>hp (by simp[Value.ownBlock,e]))];exact hg
theorem aN (h:w.ownsRow an e size v n xs)(hb:Below w.heap.size w w'):w'.ownsRow an e size v n xs:=(ik hb an e).owns h
section
variable {w:World}{d:Nat}{els:List REl}{made:Nat}{hp:Option Addr}{vT:Value}{bi:Bool}{vL:Value}
theorem RD.below (h:RD w d els made hp vT bi vL)(hb:Below w.heap.size w w'):RD w' d els made hp vT bi vL:=
 ⟨(hb.block d (bx.1 h.doc).1).trans h.doc,aN h.row hb,λe he=>(hb.block _ (bx.1 (h.el e he)).1).trans (h.el e he),λe he=>aN (h.kid e he) hb,h.few,h.kfew⟩
theorem RD.setDoc (h:RD w d els made hp vT bi vL){vL':Value}(hc:(#[Value.pointer hp,vL,.int .i64 made,vT,.bool bi]:Array Value).setIfInBounds o u=#[.pointer ui,vL',.int .i64 made',q8,.bool R0])
  {bP:List REl} (hr:w.ownsRow 0 171 1 vL' bP.length (bP.map λe=>.pointer (some ⟨e.blk,0,none⟩))) (he:∀e∈bP,w.heap[e.blk]?=some (.cells e.cells 176 (0,0))) (hk:∀e∈bP,w.ownsRow 0 3 1 e.ks e.kids.length (bh e.kids)) (h1:bP.length<=24) (h2:∀e∈bP,e.kids.length<=24) :
  RD (w.setCell ⟨d,o,none⟩ u) d bP made' ui q8 R0 vL':=by
 refine⟨by rw[aF h.doc,hc],bj hr (aB hr h.doc (by decide)) _,λe hee=>?_,λe hee=>bj (hk e hee) (aB (hk e hee) h.doc (by decide)) _,h1,h2⟩;rw[Below.heap_setCell]
 ·exact he e hee
 ·intro eq;have h3:=he e hee;rw[show e.blk=d from eq,h.doc] at h3;injection h3 with h3
  injection h3 with _ h4 _
  exact absurd h4 (by decide)
theorem RD.setDoc' (h:RD w d els made hp vT bi vL)(hc:(#[Value.pointer hp,vL,.int .i64 made,vT,.bool bi]:Array Value).setIfInBounds o u=#[.pointer ui,vL,.int .i64 made',q8,.bool R0]):
  RD (w.setCell ⟨d,o,none⟩ u) d els made' ui q8 R0 vL:=h.setDoc hc h.row h.el h.kid h.few h.kfew
end
def ee (b:Nat)(kids:List Nat)(ks:Value)(e:REl):REl:=if e.blk=b then{e with kids:=kids,ks:=ks} else e
theorem ky (b:Nat)(kids:List Nat)(ks:Value)(e:REl):(ee b kids ks e).blk=e.blk:=by unfold ee;split<;>rfl
theorem yl (b:Nat)(kids:List Nat)(ks:Value)(e:REl):(ee b kids ks e).num=e.num:=by unfold ee;split<;>rfl
theorem RD.setKids (h:RD w d els made hp vT bi vL){p:REl}(Cr:p∈els){kids:List Nat}{ks:Value}
  (ho:w.ownsRow 0 3 1 ks kids.length (bh kids)) (hl:kids.length<=24):RD (w.setCell ⟨p.blk,4,none⟩ ks) d (els.map (ee p.blk kids ks)) made hp vT bi vL:=by
 have Fk:=h.el p Cr
 have rH:∀e∈els.map (ee p.blk kids ks),w.ownsRow 0 3 1 e.ks e.kids.length (bh e.kids):=by
  intro e he;obtain⟨f,hf,rfl⟩:=bm.1 he;unfold ee;split
  ·exact ho
  ·exact h.kid f hf
 refine⟨?_,?_,?_,?_,by simpa using h.few,?_⟩
 ·rw[Below.heap_setCell]
  ·exact h.doc
  ·intro eq;rw[<-show d=p.blk from eq,h.doc] at Fk;injection Fk with h3
   injection h3 with _ h4 _
   exact absurd h4 (by decide)
 ·have hr:=h.row
  have hm:(els.map (ee p.blk kids ks)).map (λe=>Value.pointer (some ⟨e.blk,0,none⟩))=els.map λe=>Value.pointer (some ⟨e.blk,0,none⟩):=by
   rw[List.map_map];refine List.map_congr_left λe _=>?_;simp[ky]
  rw[hm,List.length_map];exact bj hr (aB hr Fk (by decide)) _
 ·intro e he;obtain⟨f,hf,rfl⟩:=bm.1 he;rw[ky]
  by_cases hb:f.blk=p.blk
  ·have Dx:=h.el f hf;rw[hb] at Dx ⊢;rw[aF Dx];unfold ee;rw[aq hb];rfl
  ·rw[Below.heap_setCell _ _ _ _ (by exact hb)];unfold ee;rw[aj hb];exact h.el f hf
 ·intro e he;exact bj (rH e he) (aB (rH e he) Fk (by decide)) _
 ·intro e he;obtain⟨f,hf,rfl⟩:=bm.1 he;unfold ee;split
  ·exact hl
  ·exact h.kfew f hf
theorem cN {n:Int}{e:REl}(h:bJ els n=some e):e∈els/\(e.num:Int)=n:=by
 unfold bJ at h;exact⟨List.mem_of_find?_eq_some h,by simpa using List.find?_some h⟩
def jo (els:List REl)(par at':Int)(kind:ByteArray):Int:=
 match bJ els par with
 | none=>5
 | some p=>if at'<0∨(p.kids.length:Int)<at' then 8 else if aG kind=false then 4 else if 24<=els.length then 9 else 0
def iL (b n:Nat)(kind:ByteArray):REl:=⟨b,n,[],kind,⟨#[]⟩,⟨#[]⟩,.slice none 0 0,false⟩
def Q3 (w:World)(d:Nat)(els:List REl)(made:Nat)(hp:Option Addr)(vT:Value)(vL:Value)(par at':Int)(kind:ByteArray)(e:Ending)(w':World):Prop:=
 (∃y:Int,e=.returned (.tuple #[.int .i64 0,.int .i64 y])/\y≠0/\jo els par at' kind=y/\w'=w)∨
 (∃(p:REl) (k:Nat) (ks:Value) (b:Nat) (vL':Value),e=.returned (.tuple #[.int .i64 made,.int .i64 0])/\jo els par at' kind=0/\bJ els par=some p/\at'=k/\k<=p.kids.length/\
  RD w' d (els.map (ee p.blk (cY p.kids k made) ks)++[iL b made kind]) (made+1) hp vT false vL'/\Fr w w' (jQ d els vL)/\w.heap.size<=b/\(∀j,ks.ownBlock=some j->w.heap.size<=j)/\(∀j,vL'.ownBlock=some j->vL.ownBlock=some j∨w.heap.size<=j))
theorem IG (b:Nat):∀u∈[Value.pointer (some ⟨b,0,none⟩)],u.oneCell'=true:=by
 intro u hu;simp at hu;subst hu;rfl
theorem Dw (W:World)(a b:Obj)(k:Nat)(h:k<W.heap.size):((W.alloc a).alloc b).heap[k]?=W.heap[k]?:=by
 rw[Below.heap_alloc _ _ _ (by simp;omega),Below.heap_alloc _ _ _ h]
theorem RD.addEl {W:World}(h:RD W d els made hp vT bi vL){kind:ByteArray}{sl:Obj}{w6:World}{v':Value}
  (ho:w6.ownsRow 0 171 1 v' (els.length+1) ((els.map λe=>Value.pointer (some ⟨e.blk,0,none⟩))++[.pointer (some ⟨W.heap.size,0,none⟩)]))
  (hg:((W.alloc (.cells (iL W.heap.size n kind).cells 176)).alloc sl).grownBy w6 vL.ownBlock) (hl:els.length<24) :
  w6.heap[d]?=some (.cells #[.pointer hp,vL,.int .i64 made,vT,.bool bi] 121 (0,0))/\RD (w6.setCell ⟨d,1,none⟩ v') d (els++[iL W.heap.size n kind]) made hp vT bi v':=by
 have iA:((W.alloc (.cells (iL W.heap.size n kind).cells 176)).alloc sl).heap.size=W.heap.size+2:=by simp
 have eb:=h.row;have keep:∀k,k<W.heap.size->vL.ownBlock≠some k->w6.heap[k]?=W.heap[k]?:=λk hk hn=>(hg.block k (by omega) (λe=>hn e.symm)).trans (Dw W _ _ k hk);have Of:w6.heap[d]?=some (.cells #[.pointer hp,vL,.int .i64 made,vT,.bool bi] 121 (0,0)):=(keep d (bx.1 h.doc).1 (aB eb h.doc (by decide))).trans h.doc
 have Oi:∀e∈els++[iL W.heap.size n kind],w6.heap[e.blk]?=some (.cells e.cells 176 (0,0)):=by
  intro e he;rcases List.mem_append.1 he with he | he
  ·exact(keep _ (bx.1 (h.el e he)).1 (aB eb (h.el e he) (by decide))).trans (h.el e he)
  ·simp only[List.mem_cons,List.not_mem_nil,or_false] at he;subst he;show w6.heap[W.heap.size]?=_;have fY:some W.heap.size≠vL.ownBlock:=λe=>by have:=(eb.lt _ e.symm).2;omega
   rw[hg.block W.heap.size (by omega) fY,Below.heap_alloc _ _ _ (by simp),heap_alloc_new W]
 have rH:∀e∈els++[iL W.heap.size n kind],w6.ownsRow 0 3 1 e.ks e.kids.length (bh e.kids):=by
  intro e he;rcases List.mem_append.1 he with he | he
  ·have hk:=h.kid e he;refine⟨hk.1,?_⟩;rcases hk.2 with hn | ⟨g,gV,fV,hv,hb,hh,rest⟩
   ·exact af hn
   ·exact ai ⟨g,gV,fV,hv,hb,(keep g (bx.1 hh).1 (aB eb hh (by decide))).trans hh,rest⟩
  ·simp only[List.mem_cons,List.not_mem_nil,or_false] at he;subst he;exact er
 refine⟨Of,by rw[aF Of];rfl,?_,λe he=>?_,λe he=>bj (rH e he) (aB (rH e he) Of (by decide)) _,by simp;omega,λe he=>?_⟩
 ·have VL:w6.ownsRow 0 171 1 v' (els++[iL W.heap.size n kind]).length ((els++[iL W.heap.size n kind]).map λe=>Value.pointer (some ⟨e.blk,0,none⟩)):=by simpa[iL] using ho
  exact bj VL (aB VL Of (by decide)) _
 ·rw[Below.heap_setCell]
  ·exact Oi e he
  ·intro eq;have h3:=Oi e he;rw[show e.blk=d from eq,Of] at h3;injection h3 with h3
   injection h3 with _ h4 _
   exact absurd h4 (by decide)
 ·rcases List.mem_append.1 he with he | he
  ·exact h.kfew e he
  ·simp only[List.mem_cons,List.not_mem_nil,or_false] at he;subst he;exact aZ
theorem ze (w:World)(d:Nat)(els:List REl)(made:Nat)(hp:Option Addr)(vT:Value)(bi:Bool)(vL:Value)(par at':Int)(kind:ByteArray)(h:RD w d els made hp vT bi vL)(p8:∀e∈els,e.kids.length<els.length)(mW:made<=1099511627776):
  Calls prog 142 #[.pointer (some ⟨d,0,none⟩),.int .i64 par,.int .i64 at',.string kind] w λe w'=>Q3 w d els made hp vT vL par at' kind e w':=by
 obtain⟨aL,cL,uR⟩:=h.shape;subst uR;have d1:=h.c1;have d2:w.cell? ⟨d,2,none⟩=some (.int .i64 made):=aa h.doc rfl;have dz:∀k,w.frozen? ⟨d,k,none⟩=false:=λ_=>ax h.doc;have d4:w.cell? ⟨d,4,none⟩=some (.bool bi):=aa h.doc rfl;have bC:=h.few;have HR:=ae h;have HL:=ae p8;clear h p8;obtain⟨i0,hi,gx,gA,gB⟩:=info_parts Tryz.info171;go_enter func142,ntmps142;go_wp2_with fail;refine(eB _ d els made hp vT bi _ par HR.out).mono ?_;rintro e w1 ⟨rfl,rfl⟩;obtain⟨w,rfl⟩:∃w,w=w1:=⟨_,rfl⟩;cases hfind:bJ els par with
 | none=>
  have HE:Hid (jo els par at' kind=5):=by unfold Hid jo;rw[hfind]
  clear hfind;rw[show fa none=Value.pointer none from rfl];go_wp2;go_ret2;exact af ⟨5,rfl,by decide,HE.out,rfl⟩
 | some p=>
  have HF:=ae hfind;obtain⟨fA,_⟩:=cN hfind;clear hfind;obtain⟨_,p4⟩:=eR (HR.out.el p fA);have pz:∀k,w.frozen? ⟨p.blk,k,none⟩=false:=λ_=>ax (HR.out.el p fA);have pk:=HR.out.kid p fA;have lU:=HL.out p fA;obtain⟨ka,kc,sL⟩:=aA pk;rw[sL] at p4 pk;have Qx:=ae pk;have sP:=ae fA;have HKS:=ae sL;clear sL pk fA;have HI:Hid (jo els par at' kind=if at'<0∨(p.kids.length:Int)<at' then 8 else if aG kind=false then 4 else if 24<=els.length then 9 else 0):=by unfold Hid jo;rw[HF.out]
  rw[show fa (some p)=Value.pointer (some ⟨p.blk,0,none⟩) from rfl]
  by_cases h0:at'<0
  ·have g0:decide (at'<0)=true:=by simpa using h0
   have HE:Hid (jo els par at' kind=8):=by unfold Hid;rw[HI.out,aq (af h0)]
   clear h0 HI;go_wp2;go_ret2;exact af ⟨8,rfl,by decide,HE.out,rfl⟩
  have g0:decide (at'<0)=false:=by simpa using h0
  obtain⟨k,rfl⟩:∃k:Nat,at'=k:=⟨at'.toNat,by omega⟩
  by_cases h1:p.kids.length<k
  ·have g1:decide ((p.kids.length:Int)<(k:Int))=true:=by simp;omega
   have HE:Hid (jo els par k kind=8):=by unfold Hid;rw[HI.out,aq (ai (by omega))]
   clear h0 HI;go_wp2;go_ret2;exact af ⟨8,rfl,by decide,HE.out,rfl⟩
  have g1:decide ((p.kids.length:Int)<(k:Int))=false:=by simp;omega
  have Z6:k<=p.kids.length:=by omega
  have pY:Hid (jo els par k kind=if aG kind=false then 4 else if 24<=els.length then 9 else 0):=by unfold Hid;rw[HI.out,aj (by omega)]
  clear HI h0 h1;go_wp2_with fail;refine(nV _ kind).mono ?_;rintro e w2 ⟨rfl,rfl⟩;obtain⟨w,rfl⟩:∃w,w=w2:=⟨_,rfl⟩;cases kR:aG kind with
  | false=>
   have HE:Hid (jo els par k kind=4):=by unfold Hid;rw[pY.out,aq kR]
   clear kR pY;go_wp2;go_ret2;exact af ⟨4,rfl,by decide,HE.out,rfl⟩
  | true=>
   by_cases RZ:24<=els.length
   ·have g24:decide ((24:Int)<=(els.length:Int))=true:=by simp;omega
    have HE:Hid (jo els par k kind=9):=by unfold Hid;rw[pY.out,aj (by rw[kR];decide),aq RZ]
    clear kR pY;go_wp2;go_ret2;exact af ⟨9,rfl,by decide,HE.out,rfl⟩
   ·have g24:decide ((24:Int)<=(els.length:Int))=false:=by simp;omega
    have HE:Hid (jo els par k kind=0):=by unfold Hid;rw[pY.out,aj (by rw[kR];decide),aj RZ]
    clear kR pY
    have tn:p.blk≠d:=λeq=>by
     have h3:=HR.out.el p sP.out;rw[eq,HR.out.doc] at h3;injection h3 with h3
     injection h3 with _ h4 _
     exact absurd h4 (by decide)
    have hdp:d≠p.blk:=λeq=>tn eq.symm;have R1:RD (w.setCell ⟨d,4,none⟩ (.bool false)) d els made hp vT false (.slice aL els.length cL):=HR.out.setDoc' rfl;have R2:RD ((w.setCell ⟨d,4,none⟩ (.bool false)).setCell ⟨d,2,none⟩ (.int .i64 ((made:Int)+1))) d els (made+1) hp vT false (.slice aL els.length cL):=R1.setDoc' rfl;have F2:Fr w ((w.setCell ⟨d,4,none⟩ (.bool false)).setCell ⟨d,2,none⟩ (.int .i64 ((made:Int)+1))) (jQ d els (.slice aL els.length cL)):=((Fr.refl w _).set (af (af rfl)) _).set (af (af rfl)) _;have oE:=bT R2 F2;clear R1 R2 F2;go_wp2_with fail;obtain⟨W2,Ie⟩:∃W2,W2=(w.setCell ⟨d,4,none⟩ (.bool false)).setCell ⟨d,2,none⟩ (.int .i64 ((made:Int)+1)):=⟨_,rfl⟩;rw[<-Ie] at oE ⊢;clear Ie d1 d2 dz d4 p4 pz Qx;have VM:=oE.out.1.kid p sP.out;rw[HKS.out] at VM;refine(rN W2 ka kc p.kids k made 0 VM (by omega) Z6).mono ?_;rintro e W3 ⟨a3,c3,rfl,bA,lT⟩;have jJ:(cY p.kids k made).length=p.kids.length+1:=by simp[cY];omega
    have R3:=oE.out.1.below lT;have F3:=oE.out.2.below lT;have p4:=(eR (R3.el p sP.out)).2;rw[HKS.out] at p4;have pz:∀k,W3.frozen? ⟨p.blk,k,none⟩=false:=λ_=>ax (R3.el p sP.out);have R4:=R3.setKids sP.out (aP bA aZ) (by omega);have F4:=F3.set (p:=⟨p.blk,4,none⟩) (af (ai (af ⟨p,sP.out,rfl⟩))) (.slice a3 (cY p.kids k made).length c3)
    have Xj:Hid (∀j,(Value.slice a3 (cY p.kids k made).length c3).ownBlock=some j->w.heap.size<=j):=λj hj=>by
     have:=(bA.lt j hj).1;have:=oE.out.2.size;omega
    have E9:=bT R4 F4;have HIL:=ae jJ;clear R3 F3 R4 F4 VM bA lT jJ;go_upto_region 15 with fail;obtain⟨W4,Dq⟩:∃W4,W4=W3.setCell ⟨p.blk,4,none⟩ (.slice a3 (cY p.kids k made).length c3):=⟨_,rfl⟩;rw[<-Dq] at E9 ⊢;clear Dq p4 pz;have e1:W4.cell? ⟨d,1,none⟩=some (.slice aL els.length cL):=E9.out.1.c1;have ez:∀k,W4.frozen? ⟨d,k,none⟩=false:=λ_=>ax E9.out.1.doc;have Sa:=(bx.1 E9.out.1.doc).1;have SW:=E9.out.1.row;rw[List.length_map] at SW;obtain⟨rs,Gq⟩:∃rs,rs=(els.map (ee p.blk (cY p.kids k made) (.slice a3 (cY p.kids k made).length c3))).map λe=>Value.pointer (some ⟨e.blk,0,none⟩):=⟨_,rfl⟩;rw[<-Gq] at SW;have XA:=ae Gq;clear Gq;go_wp2_with (at_builtin;refine eW _ rfl (.tmp 67) (.tmp 72) 118 rfl 0 171 i0 (.pointer none) 1 8 underlying118 hi gx gA gB rfl (by decide) _ _ _ rfl ((SW.alloc _).alloc _) ⟨W4.heap.size+1,0,none⟩ 1 1 [.pointer (some ⟨W4.heap.size,0,none⟩)] rfl rfl ?c1 ?c2 ?c3 ?c4 ?c5 ?_)
    case c1=>exact aW (W4.alloc _) _ (by simp) _ _ _ rfl
    case c2=>exact IG _
    case c3=>unfold maxLen;omega
    case c4=>omega
    case c5=>exact aZ
    ·intro v' w6 uh Ol XK;have hl6:(els.map (ee p.blk (cY p.kids k made) (.slice a3 (cY p.kids k made).length c3))).length<24:=by simp;omega
     rw[XA.out] at uh;have Ov:w6.ownsRow 0 171 1 v' ((els.map (ee p.blk (cY p.kids k made) (.slice a3 (cY p.kids k made).length c3))).length+1) (((els.map (ee p.blk (cY p.kids k made) (.slice a3 (cY p.kids k made).length c3))).map λe=>Value.pointer (some ⟨e.blk,0,none⟩))++[.pointer (some ⟨W4.heap.size,0,none⟩)]):=by rw[List.length_map];exact uh
     obtain⟨Og,R6⟩:=E9.out.1.addEl (n:=made) (kind:=kind) Ov Ol hl6;have F6:Fr w w6 (jQ d els (.slice aL els.length cL)):=((E9.out.2.alloc _).alloc _).gb Ol (λj hj=>af (ai (ai (af hj))));have uU:=ae E9.out.2.size;have HV6:Hid (∀j,v'.ownBlock=some j->(Value.slice aL els.length cL).ownBlock=some j∨w.heap.size<=j):=λj hj=>(XK.out j hj).elim af (λx=>ai (by have:=E9.out.2.size;first | omega | (simp at x;omega)));obtain⟨a6,c6,hv6⟩:=aA uh;subst hv6;have f1:w6.cell? ⟨d,1,none⟩=some (.slice aL els.length cL):=aa Og rfl;have fz:∀k,w6.frozen? ⟨d,k,none⟩=false:=λ_=>ax Og;have QY:=ae R6;have UE:Hid (Fr w (w6.setCell ⟨d,1,none⟩ (.slice a6 (els.length+1) c6)) (jQ d els (.slice aL els.length cL))):=F6.set (af (af rfl)) _;clear uh Ol Ov R6 F6 SW Og XK;go_wp2;go_ret2;exact ai ⟨p,k,.slice a3 (cY p.kids k made).length c3,W4.heap.size,.slice a6 (els.length+1) c6,rfl,HE.out,HF.out,rfl,Z6,QY.out,UE.out,uU.out,Xj.out,HV6.out⟩
end
section
variable {a:Int}{els:List REl}
open Classical in
noncomputable def eU (els:List REl)(a n:Int):Bool:=decide (oi els a n)
theorem ke {n:Int}:eU els a n=true↔oi els a n:=by simp[eU]
noncomputable def dC (els:List REl)(a:Int)(l:List REl):List REl:=l.filter λe=>!eU els a e.num
def GL (l:List REl):List Value:=l.map λe=>.pointer (some ⟨e.blk,0,none⟩)
theorem G4 {l:List REl}{i:Nat}(h:i<l.length)(a:Int):dC els a (l.take (i+1))=dC els a (l.take i)++if eU els a l[i].num=true then[] else[l[i]]:=by
 unfold dC;rw[fU h,List.filter_append]
 congr 1
 by_cases e:eU els a l[i].num=true
 ·simp[e]
 ·simp only[Bool.not_eq_true] at e;simp[e]
theorem AN (els l:List REl)(a:Int):(dC els a l).length<=l.length:=List.length_filter_le _ _
theorem Df {e:REl}(h:e∈els):∃p,bJ els e.num=some p:=by
 cases hf:bJ els e.num with
 | some p=>exact⟨p,rfl⟩
 | none=>
  unfold bJ at hf;rw[List.find?_eq_none] at hf;exact absurd (hf e h) (by simp)
theorem wI (h:¬bc els a<0):∃p,bJ els (bc els a)=some p:=by
 rcases pQ els a with h1 | ⟨e,he,_,h2⟩
 ·omega
 ·rw[h2];exact Df he
def Re (w:World)(d:Nat)(els:List REl)(made:Nat)(hp:Option Addr)(vT:Value)(vL:Value)(a:Int)(e:Ending)(w':World):Prop:=
 (bJ els a=none/\e=.returned (.int .i64 5)/\w'=w)∨
 ((∃y,bJ els a=some y)/\bc els a<0/\e=.returned (.int .i64 6)/\w'=w)∨
 (∃(p:REl) (ks vL':Value),(∃y,bJ els a=some y)/\0<=bc els a/\bJ els (bc els a)=some p/\e=.returned (.int .i64 0)/\
  RD w' d ((dC els a els).map (ee p.blk (aw a p.kids) ks)) made hp vT false vL'/\Fr w w' (jQ d els vL)/\(∀j,ks.ownBlock=some j->w.heap.size<=j)/\(∀j,vL'.ownBlock=some j->w.heap.size<=j))
theorem KU (b:Nat)(kids:List Nat)(ks:Value)(l:List REl):GL (l.map (ee b kids ks))=GL l:=by
 unfold GL;rw[List.map_map];refine List.map_congr_left λe _=>?_;simp[ky]
theorem zf (w:World)(d:Nat)(els:List REl)(made:Nat)(hp:Option Addr)(vT:Value)(bi:Bool)(vL:Value)(n:Int)(h:RD w d els made hp vT bi vL)(rk:Nat->Nat)(hr:rl els rk):
  Calls prog 145 #[.pointer (some ⟨d,0,none⟩),.int .i64 n] w λe w'=>Re w d els made hp vT vL n e w':=by
 obtain⟨aL,cL,uR⟩:=h.shape;subst uR;have d4:w.cell? ⟨d,4,none⟩=some (.bool bi):=aa h.doc rfl;have dz:∀k,w.frozen? ⟨d,k,none⟩=false:=λ_=>ax h.doc;have bC:=h.few;have HR:=ae h;have HK:=ae hr;clear h hr;obtain⟨i0,hi,gx,gA,gB⟩:=info_parts Tryz.info171;go_enter func145,ntmps145;go_wp2_with fail;refine(eB _ d els made hp vT bi _ n HR.out).mono ?_;rintro e w1 ⟨rfl,rfl⟩;obtain⟨w,rfl⟩:∃w,w=w1:=⟨_,rfl⟩;cases hfind:bJ els n with
 | none=>
  have HE:=ae hfind;clear hfind;rw[show fa none=Value.pointer none from rfl];go_wp2;go_ret;exact af ⟨HE.out,rfl,rfl⟩
 | some y=>
  have HF:=ae hfind;clear hfind;rw[show fa (some y)=Value.pointer (some ⟨y.blk,0,none⟩) from rfl];go_wp2_with fail;refine(f9 _ d els made hp vT bi _ n HR.out).mono ?_;rintro e w1 ⟨rfl,rfl⟩;obtain⟨w,rfl⟩:∃w,w=w1:=⟨_,rfl⟩
  by_cases qB:bc els n<0
  ·have gp:decide (bc els n<0)=true:=by simpa using qB
   have HP:=ae qB;clear qB;generalize hq:bc els n=q at gp HP ⊢;have HQ:=ae hq;clear hq;go_wp2;go_ret;exact ai (af ⟨⟨y,HF.out⟩,by rw[HQ.out];exact HP.out,rfl,rfl⟩)
  ·have gp:decide (bc els n<0)=false:=by simpa using qB
   obtain⟨p,Cs⟩:=wI qB;have HP:Hid (0<=bc els n):=by unfold Hid;omega
   have HPF:=ae Cs;obtain⟨fA,_⟩:=cN Cs;have sP:=ae fA;clear Cs fA qB;have R1:RD (w.setCell ⟨d,4,none⟩ (.bool false)) d els made hp vT false (.slice aL els.length cL):=HR.out.setDoc' rfl;have F1:Fr w (w.setCell ⟨d,4,none⟩ (.bool false)) (jQ d els (.slice aL els.length cL)):=(Fr.refl w _).set (af (af rfl)) _;have kz:=bT R1 F1;clear R1 F1;go_wp2_with fail;obtain⟨W1,TS⟩:∃W1,W1=w.setCell ⟨d,4,none⟩ (.bool false):=⟨_,rfl⟩;rw[<-TS] at kz ⊢;clear TS d4 dz
   go_loopg [7,8] els.length (λgk v iv wr=>∃i:Nat,iv=.int .i64 i/\i<=els.length/\els.length - i<=gk/\wr.ownsRow W1.heap.size 171 1 v (dC els n (els.take i)).length (GL (dC els n (els.take i)))/\Below W1.heap.size W1 wr)
   case atStart=>exact⟨0,rfl,aZ,by omega,er,bd⟩
   case round=>
    obtain⟨i,rfl,jJ,fS,bL,hB⟩:=hrel;obtain⟨a2,c2,hv⟩:=aA bL;subst hv;have A7:=ae (kz.out.1.below hB);have d1:=A7.out.c1
    by_cases aU:i<els.length
    ·have hd:decide ((i:Int)<(els.length:Int))=true:=by simp;omega
     obtain⟨g,hg,q1⟩:=A7.out.at' aU;subst hg;obtain⟨q2,_⟩:=eR (A7.out.el els[i] (bK aU))
     have ue:(dC els n (els.take i)).length<=24:=by
      have:=AN els (els.take i) n;have:(els.take i).length<=els.length:=List.length_take_le' _ _;omega
     have HT:Hid (dC els n (els.take (i+1))=dC els n (els.take i)++if eU els n els[i].num=true then[] else[els[i]]):=G4 aU n;generalize dC els n (els.take i)=f at bL ue HT ⊢;generalize els[i]=x at q1 q2 HT;have HO:=ae bL;have hz:=hB.size;clear bL;go_wp2_with fail;refine(nw _ d els made hp vT false _ n x.num A7.out rk HK.out).mono ?_;rintro e w2 ⟨b,rfl,rfl,HU⟩;obtain⟨wr,rfl⟩:∃wr,wr=w2:=⟨_,rfl⟩;cases b with
     | true=>
      have ox:Hid (dC els n (els.take (i+1))=f):=by
       unfold Hid;rw[HT.out,aq (ke.2 (HU.out.1 rfl))];simp
      clear HT HU;go_wp2;go_roundg (els.length - (i+1))
      case measure=>omega
      case rel=>exact⟨i+1,by go_num,by omega,au,by rw[ox.out];exact HO.out,hB⟩
     | false=>
      have ox:Hid (dC els n (els.take (i+1))=f++[x]):=by
       unfold Hid;rw[HT.out,aj (λh=>by have:=HU.out.2 (ke.1 h);cases this)]
      clear HT HU;go_wp2_with (at_builtin;refine wpList_append_own _ rfl (.tmp 48) (.tmp 56) 118 rfl W1.heap.size 171 i0 (.pointer none) 1 8 underlying118 hi gx gA gB rfl (by decide) _ _ _ rfl (HO.out.alloc _) ⟨wr.heap.size,0,none⟩ 1 1 [.pointer (some ⟨x.blk,0,none⟩)] rfl rfl ?c1 ?c2 ?c3 ?c4 ?c5 ?_)
      case c1=>exact aW wr _ rfl _ _ _ rfl
      case c2=>exact IG _
      case c3=>unfold maxLen;omega
      case c4=>omega
      case c5=>simp;omega
      ·intro v' w3 bU fk _;have bA:w3.ownsRow W1.heap.size 171 1 v' (f++[x]).length (GL (f++[x])):=by simpa[GL] using bU
       have fj:Below W1.heap.size W1 w3:=(hB.alloc hz _).grown fk (by simp;omega) (λk hk=>(HO.out.lt k hk).1);have LP:=ae bA;obtain⟨a3,c3,yS⟩:=aA bA;subst yS;clear bU fk bA;go_wp2;go_roundg (els.length - (i+1))
       case measure=>omega
       case rel=>exact⟨i+1,by go_num,by omega,au,by rw[ox.out];exact LP.out,fj⟩
    ·have hd:decide ((i:Int)<(els.length:Int))=false:=by simp;omega
     obtain rfl:i=els.length:=by omega
     rw[List.take_length] at bL ⊢;have L5:(dC els n els).length<=24:=by have:=AN els els n;omega
     have HO:=ae bL;have HFr:=ae (kz.out.2.below hB);clear bL;go_wp2_with fail;refine(eB _ d els made hp vT false _ (bc els n) A7.out).mono ?_;rintro e w2 ⟨rfl,rfl⟩;obtain⟨wr,rfl⟩:∃wr,wr=w2:=⟨_,rfl⟩;rw[HPF.out,show fa (some p)=Value.pointer (some ⟨p.blk,0,none⟩) from rfl];obtain⟨_,p4⟩:=eR (A7.out.el p sP.out);have pk:=A7.out.kid p sP.out;have lU:=A7.out.kfew p sP.out;obtain⟨ka,kc,sL⟩:=aA pk;rw[sL] at p4 pk;have Qx:=ae pk;clear pk sL;go_wp2_with fail;refine(xa wr ka kc p.kids n 0 Qx.out lU).mono ?_;rintro e W3 ⟨a3,c3,rfl,bA,lT⟩;have Sm:(aw n p.kids).length<=24:=by have:=lz n p.kids;omega
     have R3:=A7.out.below lT;have F3:=HFr.out.below lT;have WS:=R3.el p sP.out;have pz:∀k,W3.frozen? ⟨p.blk,k,none⟩=false:=λ_=>ax WS;have p4':=(eR WS).2;have VZ:=aN HO.out lT
     have Xj:Hid (∀j,(Value.slice a3 (aw n p.kids).length c3).ownBlock=some j->w.heap.size<=j):=λj hj=>by
      have:=(bA.lt j hj).1;have:=HFr.out.size;omega
     have Tq:Hid (∀j,(Value.slice a2 (dC els n els).length c2).ownBlock=some j->w.heap.size<=j):=λj hj=>by
      have:=(HO.out.lt j hj).1;have:=kz.out.2.size;omega
     have o3:W3.ownsRow 0 3 1 (.slice a3 (aw n p.kids).length c3) (aw n p.kids).length (bh (aw n p.kids)):=aP bA aZ;have R4:=R3.setKids sP.out o3 Sm;have F4:=F3.set (p:=⟨p.blk,4,none⟩) (af (ai (af ⟨p,sP.out,rfl⟩))) (.slice a3 (aw n p.kids).length c3);have Um:=bj VZ (aB VZ WS (by decide)) (p:=⟨p.blk,4,none⟩) (.slice a3 (aw n p.kids).length c3)
     have yQ:∀e∈(dC els n els).map (ee p.blk (aw n p.kids) (.slice a3 (aw n p.kids).length c3)),e∈els.map (ee p.blk (aw n p.kids) (.slice a3 (aw n p.kids).length c3)):=λe he=>by
      obtain⟨f,hf,rfl⟩:=bm.1 he;exact bm.2 ⟨f,(dA.1 hf).1,rfl⟩
     have Un:(W3.setCell ⟨p.blk,4,none⟩ (.slice a3 (aw n p.kids).length c3)).ownsRow 0 171 1 (.slice a2 (dC els n els).length c2) ((dC els n els).map (ee p.blk (aw n p.kids) (.slice a3 (aw n p.kids).length c3))).length (GL ((dC els n els).map (ee p.blk (aw n p.kids) (.slice a3 (aw n p.kids).length c3)))):=by
      rw[KU,List.length_map];exact aP Um aZ
     have R5:RD ((W3.setCell ⟨p.blk,4,none⟩ (.slice a3 (aw n p.kids).length c3)).setCell ⟨d,1,none⟩ (.slice a2 (dC els n els).length c2)) d ((dC els n els).map (ee p.blk (aw n p.kids) (.slice a3 (aw n p.kids).length c3))) made hp vT false (.slice a2 (dC els n els).length c2):=
      R4.setDoc (o:=1) (u:=.slice a2 (dC els n els).length c2) rfl Un (λe he=>R4.el e (yQ e he)) (λe he=>R4.kid e (yQ e he)) (by rw[List.length_map];exact L5) (λe he=>R4.kfew e (yQ e he))
     have F5:=F4.set (p:=⟨d,1,none⟩) (af (af rfl)) (.slice a2 (dC els n els).length c2);have de:(W3.setCell ⟨p.blk,4,none⟩ (.slice a3 (aw n p.kids).length c3)).heap[d]?=_:=R4.doc;have d1':W3.cell? ⟨d,1,none⟩=some (.slice aL els.length cL):=R3.c1;have dz':∀k,W3.frozen? ⟨d,k,none⟩=false:=λ_=>ax R3.doc
     have hdp:d≠p.blk:=λeq=>by
      rw[<-eq,R3.doc] at WS;injection WS with h3
      injection h3 with _ h4 _
      exact absurd h4 (by decide)
     have LR:=ae R5;have HF5:=ae F5;clear R3 F3 R4 F4 R5 F5 VZ Um Un bA o3 lT yQ de WS p4 kz;go_wp2;go_ret;exact ai (ai ⟨p,(.slice a3 (aw n p.kids).length c3),(.slice a2 (dC els n els).length c2),⟨y,HF.out⟩,HP.out,HPF.out,rfl,LR.out,HF5.out,Xj.out,Tq.out⟩)
end
end Go.Proofs.YtblfffbmklkhmaaGreat
