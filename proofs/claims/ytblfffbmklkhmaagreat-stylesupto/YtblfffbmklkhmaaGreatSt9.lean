import Derived.Test.YtblfffbmklkhmaaGreatSt6
import Derived.Test.YtblfffbmklkhmaaGreatSt8
import Derived.Deep.RegionLaw
namespace Go.Proofs.YtblfffbmklkhmaaGreat
open Go.RowKit
theorem Tryz.info166:(Tryz.prog.info? 166).map (fun i=>(i.zero,i.size,i.bytes))=some (some (.slice none 0 0),1,24):=by kernel_rfl
theorem Tryz.info164:(Tryz.prog.info? 164).map (fun i=>(i.zero,i.size,i.bytes))=some (some (.agg #[.int .i64 0,.slice none 0 0,.slice none 0 0]),3,56):=by kernel_rfl
theorem qY {P:Program} {zw:Array Oper} {o:Oper} {a:Act} {w:World} {K:Act→World→Prop} {Q:Exit→Act→World→Prop} {E:Prop}
  (hg:o.guard=none) (s x:Operand) (t:TypeId) (Zs:o.op=Op.call {callee:=Callee.builtin Builtin.append,args:=#[s,x],argTypes:=#[t,t]})
  (ae:Nat) (e:TypeId) (i:TypeInfo) (z:Value) (size bytes:Nat) (h1:P.underlying t=some (.slice e)) (h2:P.info? e=some i) (h3:i.zero=some z) (h4:i.size=size) (h5:i.bytes=bytes) (h6:z.cells.size=size) (h7:0<size)
  (v:Value) (n:Nat) (xs:List Value) (hs:a.eval s=v) (bL:w.ownsRow ae e size v n xs)
  (ad:Addr) (m c:Nat) (iZ:List Value) (hx:a.eval x=.slice (some ad) m c) (hn:iZ.length=m*size) (hc:∀ j u,iZ[j]?=some u→w.cell? (ad.add j)=some u) (YZ:∀ u∈iZ,u.oneCell'=true)
  (b1:n+m≤maxLen) (b2:(n+m)*bytes≤140737488355328) (hb:ae≤w.heap.size)
  (hK:∀ v' w',w'.ownsRow ae e size v' (n+m) (xs++iZ)→w.grownBy w' v.ownBlock→K (a.put o.dst v') w') :
  if Region.wanted o (yielded zw a.tmps)=true then Oper.wp P o a w K Q else E:=by
 have hw:Region.wanted o (yielded zw a.tmps)=true:=by simp [Region.wanted,hg]
 rw [if_pos hw]
 obtain ⟨v',w',DJ,r1,r2,_⟩:=run_append_own (P:=P) w ae t o.type e i z size bytes h1 h2 h3 h4 h5 h6 h7 v n xs bL ad m c iZ hn hc YZ b1 b2 hb
 unfold Oper.wp
 simp only [execOp,Zs,resolve,invoke,builtin,Sem.run_bind,Sem.run_pure,Result.andThen_ok,List.map_toArray,List.map_cons,List.map_nil,hs,hx,DJ]
 exact hK v' w' r1 r2
def RSels (w:World) (s:ByteArray) (ae:Nat):List Value→List (List (Nat × Nat))→Prop
 | xs,[]=>xs=[]
 | xs,aE :: ss=>∃ (a:Option Addr) (c:Nat) (ps ys:List Value),xs=.slice a aE.length c :: ys∧w.ownsRow ae 206 2 (.slice a aE.length c) aE.length ps∧(Txs s ps aE∧Sgs s ps aE)∧RSels w s ae ys ss
theorem RSels.keep {w w':World} {s:ByteArray} {ae:Nat} (hk:Keeps w w' ae 206):∀ {xs:List Value} {ss:List (List (Nat × Nat))},RSels w s ae xs ss→RSels w' s ae xs ss
 | _,[],h=>h
 | _,_ :: _,⟨a,c,ps,ys,h1,h2,h3,h4⟩=>⟨a,c,ps,ys,h1,hk.owns h2,h3,RSels.keep hk h4⟩
theorem RSels.mono {w:World} {s:ByteArray} {ae eY:Nat} (hb:eY≤ae):∀ {xs:List Value} {ss:List (List (Nat × Nat))},RSels w s ae xs ss→RSels w s eY xs ss
 | _,[],h=>h
 | _,_ :: _,⟨a,c,ps,ys,h1,h2,h3,h4⟩=>⟨a,c,ps,ys,h1,aG h2 hb,h3,RSels.mono hb h4⟩
theorem RSels.snoc {w:World} {s:ByteArray} {ae:Nat} (a:Option Addr) (c:Nat) (aE:List (Nat × Nat)) (ps:List Value) (ho:w.ownsRow ae 206 2 (.slice a aE.length c) aE.length ps) (hk:Txs s ps aE∧Sgs s ps aE) :
  ∀ {xs:List Value} {ss:List (List (Nat × Nat))},RSels w s ae xs ss→RSels w s ae (xs++[.slice a aE.length c]) (ss++[aE])
 | _,[],h=>by simp only [RSels] at h;subst h;exact ⟨a,c,ps,[],rfl,ho,hk,rfl⟩
 | _,_ :: _,⟨a',c',rP,ys,h1,h2,h3,h4⟩=>⟨a',c',rP,_,by rw [h1];rfl,h2,h3,RSels.snoc a c aE ps ho hk h4⟩
def RRuls (w:World) (s:ByteArray) (ae:Nat):List Value→List (List (List (Nat × Nat)))→Prop
 | xs,[]=>xs=[]
 | xs,ss :: rs=>∃ (lv:Int) (a:Option Addr) (c:Nat) (vD:Value) (ps ys:List Value),xs=.int .i64 lv :: .slice a ss.length c :: vD :: ys∧w.ownsRow ae 166 1 (.slice a ss.length c) ss.length ps∧RSels w s ae ps ss∧RRuls w s ae ys rs
theorem RRuls.keep {w w':World} {s:ByteArray} {ae:Nat} (hk:Keeps w w' ae 206) (PY:Keeps w w' ae 166):∀ {xs:List Value} {rs:List (List (List (Nat × Nat)))},RRuls w s ae xs rs→RRuls w' s ae xs rs
 | _,[],h=>h
 | _,_ :: _,⟨lv,a,c,vD,ps,ys,h1,h2,h3,h4⟩=>⟨lv,a,c,vD,ps,ys,h1,PY.owns h2,h3.keep hk,RRuls.keep hk PY h4⟩
theorem RRuls.mono {w:World} {s:ByteArray} {ae eY:Nat} (hb:eY≤ae):∀ {xs:List Value} {rs:List (List (List (Nat × Nat)))},RRuls w s ae xs rs→RRuls w s eY xs rs
 | _,[],h=>h
 | _,_ :: _,⟨lv,a,c,vD,ps,ys,h1,h2,h3,h4⟩=>⟨lv,a,c,vD,ps,ys,h1,aG h2 hb,h3.mono hb,RRuls.mono hb h4⟩
theorem RRuls.snoc {w:World} {s:ByteArray} {ae:Nat} (lv:Int) (a:Option Addr) (c:Nat) (vD:Value) (ss:List (List (Nat × Nat))) (ps:List Value) (ho:w.ownsRow ae 166 1 (.slice a ss.length c) ss.length ps) (hk:RSels w s ae ps ss) :
  ∀ {xs:List Value} {rs:List (List (List (Nat × Nat)))},RRuls w s ae xs rs→RRuls w s ae (xs++[.int .i64 lv,.slice a ss.length c,vD]) (rs++[ss])
 | _,[],h=>by simp only [RRuls] at h;subst h;exact ⟨lv,a,c,vD,ps,[],rfl,ho,hk,rfl⟩
 | _,_ :: _,⟨Xs,a1,c1,vu,rP,ys,h1,h2,h3,h4⟩=>⟨Xs,a1,c1,vu,rP,_,by rw [h1];rfl,h2,h3,RRuls.snoc lv a c vD ss ps ho hk h4⟩
def RSelsPre (s:ByteArray):Nat→Nat→List (List (Nat × Nat))→Prop
 | i,j,[]=>i=j
 | i,j,aE :: ss=>∃ l,kF s i l aE∧i≤l∧bt s l=44∧(∀ k,i≤k→k<l→bt s k≠44)∧RSelsPre s (l+1) j ss
theorem RSelsPre.snoc {s:ByteArray} {j l:Nat} {aE:List (Nat × Nat)} (h1:kF s j l aE) (h2:j≤l) (h3:bt s l=44) (h4:∀ k,j≤k→k<l→bt s k≠44):∀ {ss:List (List (Nat × Nat))} {i:Nat},RSelsPre s i j ss→RSelsPre s i (l+1) (ss++[aE])
 | [],_,h=>by simp only [RSelsPre] at h;subst h;exact ⟨l,h1,h2,h3,h4,rfl⟩
 | _ :: _,_,⟨l',a,b,c,d,e⟩=>⟨l',a,b,c,d,RSelsPre.snoc h1 h2 h3 h4 e⟩
def nH (s:ByteArray) (i j:Nat) (ss:List (List (Nat × Nat))):Prop:=
 ∃ pre l aE,ss=pre++[aE]∧RSelsPre s i l pre∧kF s l j aE∧l≤j∧∀ k,l≤k→k<j→bt s k≠44
def ph (s:ByteArray) (i j:Nat) (ss:List (List (Nat × Nat))):Prop:=
 ∃ p q,kt s i p∧nH s p q ss∧bt s q=123∧(∀ k,p≤k→k<q→bt s k≠123)∧q+1<j∧bt s (j - 1)=125∧∀ k,q≤k→k<j - 1→bt s k≠125
def RRulsAt (s:ByteArray):Nat→Nat→List (List (List (Nat × Nat)))→Prop
 | i,j,[]=>i=j
 | i,j,ss :: rs=>∃ l,ph s i l ss∧i<l∧RRulsAt s l j rs
theorem RRulsAt.snoc {s:ByteArray} {j l:Nat} {ss:List (List (Nat × Nat))} (hc:ph s j l ss) (hl:j<l):∀ {rs:List (List (List (Nat × Nat)))} {i:Nat},RRulsAt s i j rs→RRulsAt s i l (rs++[ss])
 | [],_,h=>by simp only [RRulsAt] at h;subst h;exact ⟨l,hc,hl,rfl⟩
 | _ :: _,_,⟨l',a,b,c⟩=>⟨l',a,b,RRulsAt.snoc hc hl c⟩
def RDecs (w:World) (ae:Nat):List Value→List (Int × List dg)→Prop
 | xs,[]=>xs=[]
 | xs,(ly,dl) :: r=>∃ (vS:Value) (a:Option Addr) (c:Nat) (ys:List Value),xs=.int .i64 ly :: vS :: .slice a dl.length c :: ys∧w.ownsRow ae 229 3 (.slice a dl.length c) dl.length (jx dl)∧RDecs w ae ys r
theorem RDecs.keep {w w':World} {ae:Nat} (hk:Keeps w w' ae 229):∀ {xs:List Value} {is:List (Int × List dg)},RDecs w ae xs is→RDecs w' ae xs is
 | _,[],h=>h
 | _,(_,_) :: _,⟨vS,a,c,ys,h1,h2,h3⟩=>⟨vS,a,c,ys,h1,hk.owns h2,RDecs.keep hk h3⟩
theorem RDecs.mono {w:World} {ae eY:Nat} (hb:eY≤ae):∀ {xs:List Value} {is:List (Int × List dg)},RDecs w ae xs is→RDecs w eY xs is
 | _,[],h=>h
 | _,(_,_) :: _,⟨vS,a,c,ys,h1,h2,h3⟩=>⟨vS,a,c,ys,h1,aG h2 hb,RDecs.mono hb h3⟩
theorem RDecs.snoc {w:World} {ae:Nat} (ly:Int) (vS:Value) (a:Option Addr) (c:Nat) (dl:List dg) (ho:w.ownsRow ae 229 3 (.slice a dl.length c) dl.length (jx dl)) :
  ∀ {xs:List Value} {is:List (Int × List dg)},RDecs w ae xs is→RDecs w ae (xs++[.int .i64 ly,vS,.slice a dl.length c]) (is++[(ly,dl)])
 | _,[],h=>by simp only [RDecs] at h;subst h;exact ⟨vS,a,c,[],rfl,ho,rfl⟩
 | _,(_,_) :: _,⟨Ol,a1,c1,ys,h1,h2,h3⟩=>⟨Ol,a1,c1,_,by rw [h1];rfl,h2,RDecs.snoc ly vS a c dl ho h3⟩
def sO (s:ByteArray) (i:Nat):Int:=if bt s i=64 then (bt s (i+1):Int) - 48 else 10
def yT (s:ByteArray) (i j:Nat) (ly:Int) (dl:List dg):Prop:=
 ∃ p q,kt s i p∧bt s q=123∧(∀ k,p≤k→k<q→bt s k≠123)∧p<q∧q+1<j∧bt s (j - 1)=125∧(∀ k,q≤k→k<j - 1→bt s k≠125)∧ly=sO s i∧pV (s.extract (q+1) (j - 1)) dl
def RInfsAt (s:ByteArray):Nat→Nat→List (Int × List dg)→Prop
 | i,j,[]=>i=j
 | i,j,(ly,dl) :: r=>∃ l,yT s i l ly dl∧i<l∧RInfsAt s l j r
theorem RInfsAt.snoc {s:ByteArray} {j l:Nat} {ly:Int} {dl:List dg} (hc:yT s j l ly dl) (hl:j<l):∀ {is:List (Int × List dg)} {i:Nat},RInfsAt s i j is→RInfsAt s i l (is++[(ly,dl)])
 | [],_,h=>by simp only [RInfsAt] at h;subst h;exact ⟨l,hc,hl,rfl⟩
 | (_,_) :: _,_,⟨l',a,b,c⟩=>⟨l',a,b,RInfsAt.snoc hc hl c⟩
def RInfo (w:World) (s:ByteArray) (ae f:Nat) (xs:List Value):Prop:=∃ is,RDecs w ae xs is∧RInfsAt s 0 f is
theorem RInfo.keep {w w':World} {s:ByteArray} {ae f:Nat} {xs:List Value} (h:RInfo w s ae f xs) (hk:Keeps w w' ae 229):RInfo w' s ae f xs:=by
 obtain ⟨is,h1,h2⟩:=h
 exact ⟨is,h1.keep hk,h2⟩
theorem RInfo.mono {w:World} {s:ByteArray} {ae eY f:Nat} {xs:List Value} (h:RInfo w s ae f xs) (hb:eY≤ae):RInfo w s eY f xs:=by
 obtain ⟨is,h1,h2⟩:=h
 exact ⟨is,h1.mono hb,h2⟩
structure In (wr wq:World) (b:Nat) (vL:Value) (hm:Int) (lv:Int) (vS vD:Value) (k:Nat) (ys:List Value):Prop where
 sh:Sh wq b vL hm
 gb:wr.grownBy wq (some b)
 rb:wq.heap[wr.heap.size]?=some (.cells #[.int .i64 lv,vS,vD] 164 (0,0))
 own:wq.ownsRow (wr.heap.size+1) 166 1 vS k ys
 lt:b<wr.heap.size
section
variable {wr wq:World} {b:Nat} {vL:Value} {hm lv:Int} {vS vD:Value} {k:Nat} {ys:List Value}
theorem In.blt (h:In wr wq b vL hm lv vS vD k ys):wr.heap.size<wq.heap.size:=(Array.getElem?_eq_some_iff.1 h.rb).1
theorem In.cells (h:In wr wq b vL hm lv vS vD k ys):wq.cell? ⟨wr.heap.size,0,none⟩=some (.int .i64 lv)∧wq.cell? ⟨wr.heap.size,1,none⟩=some vS∧wq.cell? ⟨wr.heap.size,2,none⟩=some vD∧∀ j,wq.frozen? ⟨wr.heap.size,j,none⟩=false:=
 ⟨aa h.rb rfl,aa h.rb rfl,aa h.rb rfl,fun _=>ag h.rb⟩
theorem In.setO (h:In wr wq b vL hm lv vS vD k ys) (o:Nat) (u:Value) {Xs:Int} {Ol vu:Value} {k':Nat} {TJ:List Value} (hu:(#[Value.int .i64 lv,vS,vD]:Array Value).setIfInBounds o u=#[.int .i64 Xs,Ol,vu]) (ho:wq.ownsRow (wr.heap.size+1) 166 1 Ol k' TJ) :
  In wr (wq.setCell ⟨wr.heap.size,o,none⟩ u) b vL hm Xs Ol vu k' TJ:=by
 have hl:=h.lt
 refine ⟨(Below.heap_setCell _ _ _ _ (by show b≠wr.heap.size;omega)).trans h.sh,ll h.gb (Nat.le_refl _) _,?_,ownsRow_setCell_below ho (by show wr.heap.size<wr.heap.size+1;omega) _,hl⟩
 rw [aq h.rb,hu]
theorem In.call (h:In wr wq b vL hm lv vS vD k ys) {w2:World} {o8:Int} (hs:Sh w2 b vL o8) (hg:wq.grownBy w2 (some b)):In wr w2 b vL o8 lv vS vD k ys:=by
 have hl:=h.lt
 refine ⟨hs,kV h.gb hg,(hg.block _ h.blt (fun e=>by injection e with e;omega)).trans h.rb,h.own.kept hg ?_,hl⟩
 cases hv:vS.ownBlock with
 | none=>exact Or.inl rfl
 | some g=>right;intro e;injection e with e;have:=(h.own.lt g hv).1;omega
theorem In.alloc (h:In wr wq b vL hm lv vS vD k ys) (o:Obj):In wr (wq.alloc o) b vL hm lv vS vD k ys:=
 ⟨(Below.heap_alloc wq o b h.sh.lt).trans h.sh,uL h.gb o,(Below.heap_alloc wq o _ h.blt).trans h.rb,h.own.alloc o,h.lt⟩
theorem In.app (h:In wr wq b vL hm lv vS vD k ys) {w3:World} (hg:wq.grownBy w3 vS.ownBlock) {Ol:Value} {k':Nat} {TJ:List Value} (ho:w3.ownsRow (wr.heap.size+1) 166 1 Ol k' TJ):In wr (w3.setCell ⟨wr.heap.size,1,none⟩ Ol) b vL hm lv Ol vD k' TJ:=by
 have hl:=h.lt
 have eV:∀ j,j≤wr.heap.size→some j≠vS.ownBlock:=by
  intro j hj e
  have:=(h.own.lt j e.symm).1
  omega
 have hrb:w3.heap[wr.heap.size]?=some (.cells #[.int .i64 lv,vS,vD] 164 (0,0)):=(hg.block _ h.blt (eV _ (Nat.le_refl _))).trans h.rb
 refine ⟨(Below.heap_setCell _ _ _ _ (by show b≠wr.heap.size;omega)).trans ((hg.block b h.sh.lt (eV b (by omega))).trans h.sh),ll ?_ (Nat.le_refl _) _,?_,ownsRow_setCell_below ho (by show wr.heap.size<wr.heap.size+1;omega) _,hl⟩
 ·exact ⟨hg.os.trans h.gb.os,hg.tape.trans h.gb.tape,hg.output.trans h.gb.output,Nat.le_trans h.gb.size hg.size,
   fun j hj hn=>(hg.block j (Nat.lt_of_lt_of_le hj h.gb.size) (eV j (by omega))).trans (h.gb.block j hj hn)⟩
 ·rw [aq hrb];rfl
theorem In.appBlk (h:In wr wq b vL hm lv vS vD k ys) {w3:World} (hg:wq.grownBy w3 vS.ownBlock):w3.heap[wr.heap.size]?=some (.cells #[.int .i64 lv,vS,vD] 164 (0,0)):=
 (hg.block _ h.blt (fun e=>by have:=(h.own.lt _ e.symm).1;omega)).trans h.rb
theorem In.below (h:In wr wq b vL hm lv vS vD k ys) {w2:World} (hb:Below wq.heap.size wq w2):In wr w2 b vL hm lv vS vD k ys:=by
 have hg:wq.grownBy w2 (some b):=⟨hb.os,hb.tape,hb.output,hb.size,fun j hj _=>hb.block j hj⟩
 exact h.call ((hb.block b h.sh.lt).trans h.sh) hg
end
theorem nl {w w':World} {b ae:Nat} (h:w.grownBy w' (some b)) (hb:b<ae) (e:TypeId):Keeps w w' ae e:=fun g _ hg hh=>
 (h.block g (Array.getElem?_eq_some_iff.1 hh).1 (fun e=>by injection e with e;omega)).trans hh
theorem fI {w w':World} (h:Below w.heap.size w w') (ae:Nat) (e:TypeId):Keeps w w' ae e:=fun g _ _ hh=>(h.block g (Array.getElem?_eq_some_iff.1 hh).1).trans hh
structure RI (wr:World) (b:Nat) (s:ByteArray) (p q nr:Nat) (M:Int) (f:Nat) (wq:World) (hm:Int) (vL:Value) (lv:Int) (vS:Value) (ss:List (List (Nat × Nat))) (ys:List Value):Prop where
 inn:In wr wq b vL hm lv vS (.slice none 0 0) ss.length ys
 sels:RSels wq s (wr.heap.size+1) ys ss
 few:ss.length≤f - p
 lo:p≤f
 hi:f≤q+1
 go:f<q→RSelsPre s p f ss∧fV hm f∧Acc s 2 ⟨nr,1,hm⟩ f M
 done:¬ f<q→f=q+1∧nH s p q ss∧fV hm q∧∃ nc,Acc s 3 ⟨nr,nc,hm⟩ q M
structure RO (w:World) (b:Nat) (s:ByteArray) (M:Int) (f:Nat) (wr:World) (hm:Int) (vL:Value) (rs:List (List (List (Nat × Nat)))) (xs:List Value):Prop where
 sh:Sh wr b vL hm
 bel:Below w.heap.size w wr
 own:wr.ownsRow (w.heap.size+1) 164 3 vL rs.length xs
 ruls:RRuls wr s (w.heap.size+1) xs rs
 info:RInfo wr s (w.heap.size+1) f xs
 few:rs.length≤f
 noted:fV hm f
 le:f≤s.size
 text:RRulsAt s 0 f rs
 acc:∃ nc,Acc s 0 ⟨rs.length,nc,hm⟩ f M
theorem Mh (s:ByteArray) (m:Int) (k:Cn) (i:Nat):(V s m k i).1=-1∨0≤(V s m k i).1:=by
 unfold V
 generalize s.size - i=f
 induction f generalizing m k i with
 | zero=>simp only [Vf];split<;>simp
 | succ f ih=>
  simp only [Vf]
  split
  ·right;simp
  ·exact ih _ _ _
theorem aV {s:ByteArray} {a e k:Nat} (he:e≤s.size) (hk:a+k<e):bt (s.extract a e) k=bt s (a+k):=by
 have h1:k<(s.extract a e).size:=by rw [ByteArray.size_extract];omega
 rw [bq _ _ h1,bq _ _ (by omega)]
 rw [ByteArray.getElem_extract]
theorem SQ {s:ByteArray} {M:Int} {k:Cn} {q r:Nat} (h:Acc s 9 k (q+1) M) (mm:∀ j,q+1≤j→j<r→bt s j≠125) (hr:r≤s.size) (Ox:q+1≤r) (DL:r<s.size→bt s r=125):Uy (s.extract (q+1) r):=by
 intro d hd hb
 rw [ByteArray.size_extract] at hd
 have hd':q+1+d<r:=by omega
 obtain ⟨m,m1,m2,m3,m4⟩:=tL h mm hr d (by omega)
 have hm:m=9∨m=10:=by
  by_cases e:d=0
  ·exact Or.inl (m3 e)
  ·rcases hb with hb | hb
   ·exact absurd hb e
   ·right
    apply m4 (by omega)
    rw [aV hr (by omega)] at hb
    rw [show q+1+d - 1=q+1+(d - 1) from by omega]
    exact hb
 obtain ⟨t1,t2,t3,t4,t5,t6⟩:=Ef hm m2 (mm _ (by omega) hd')
 have hr3:q+1+d+2<r:=by
  apply Nat.lt_of_not_le
  intro oz
  have hc:r=q+1+d+1∨r=q+1+d+2:=by omega
  have:=DL (by omega)
  rcases hc with rfl | rfl
  ·exact t3 this
  ·exact t5 this
 refine ⟨by rw [ByteArray.size_extract];omega,?_,?_,?_⟩
 ·rw [aV hr (by omega)];exact t1
 ·rw [aV hr (by omega)];exact t2
 ·rw [aV hr (by omega)];exact t4
end Go.Proofs.YtblfffbmklkhmaaGreat
