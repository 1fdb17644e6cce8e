import Derived.Test.YtblfffbmklkhmaaGreatSt3
import Derived.Test.YtblfffbmklkhmaaGreatSt5
import Derived.RegionTactic
namespace Go.Proofs.YtblfffbmklkhmaaGreat
open Go.RowKit
theorem Tryz.info206:(Tryz.prog.info? 206).map (fun i=>(i.zero,i.size,i.bytes))=some (some (.agg #[.int .u8 0,.string ⟨#[]⟩]),2,24):=by kernel_rfl
def Txs (s:ByteArray):List Value→List (Nat × Nat)→Prop
 | xs,[]=>xs=[]
 | xs,(p,q) :: r=>∃ (sg:Int) (ys:List Value),xs=.int .u8 sg :: .string (s.extract p q) :: ys∧Txs s ys r
theorem Txs.snoc {s:ByteArray} (sg:Int) (p q:Nat):∀ {xs:List Value} {aE:List (Nat × Nat)},Txs s xs aE→Txs s (xs++[.int .u8 sg,.string (s.extract p q)]) (aE++[(p,q)])
 | _,[],h=>by simp only [Txs] at h;subst h;exact ⟨sg,[],rfl,rfl⟩
 | _,(_,_) :: _,⟨sg',ys,h1,h2⟩=>⟨sg',_,by rw [h1];rfl,Txs.snoc sg p q h2⟩
theorem Txs.len {s:ByteArray}:∀ {xs:List Value} {aE:List (Nat × Nat)},Txs s xs aE→xs.length=aE.length*2
 | _,[],h=>by simp only [Txs] at h;subst h;rfl
 | _,(_,_) :: _,⟨sg,ys,h1,h2⟩=>by rw [h1];simp only [List.length_cons];rw [Txs.len h2];omega
def mU (s:ByteArray) (n p:Nat):Int:=if n=0 then 0 else (bt s (p - 1):Int)
def Sgs (s:ByteArray) (xs:List Value) (aE:List (Nat × Nat)):Prop:=∀ i p q,aE[i]?=some (p,q)→xs[i*2]?=some (.int .u8 (mU s i p))
theorem Sgs.snoc {s:ByteArray} {xs:List Value} {aE:List (Nat × Nat)} (h:Sgs s xs aE) (ht:Txs s xs aE) {sg:Int} {p q:Nat} (hs:sg=mU s aE.length p):Sgs s (xs++[.int .u8 sg,.string (s.extract p q)]) (aE++[(p,q)]):=by
 intro i p' q' hi
 have hl:=ht.len
 by_cases he:i<aE.length
 ·rw [List.getElem?_append_left he] at hi
  rw [List.getElem?_append_left (by omega)]
  exact h i p' q' hi
 ·rw [List.getElem?_append_right (by omega)] at hi
  obtain rfl:i=aE.length:=by
   have:=(List.getElem?_eq_some_iff.1 hi).1
   simp at this
   omega
  rw [Nat.sub_self] at hi
  injection hi with hi
  injection hi with h1 h2
  rw [List.getElem?_append_right (by omega),hl,Nat.sub_self,hs,h1]
  rfl
def Segs (s:ByteArray):Nat→Nat→List (Nat × Nat)→Prop
 | i,j,[]=>i=j
 | i,j,(p,q) :: r=>p=i∧(∀ k,p≤k→k<q→fM (bt s k)=false)∧p≤q∧fM (bt s q)=true∧Segs s (q+1) j r
theorem Segs.snoc {s:ByteArray} {p q:Nat} (h1:∀ k,p≤k→k<q→fM (bt s k)=false) (h2:p≤q) (h3:fM (bt s q)=true):∀ {aE:List (Nat × Nat)} {i:Nat},Segs s i p aE→Segs s i (q+1) (aE++[(p,q)])
 | [],_,h=>by simp only [Segs] at h;subst h;exact ⟨rfl,h1,h2,h3,rfl⟩
 | (_,_) :: _,_,⟨a,b,c,d,e⟩=>⟨a,b,c,d,Segs.snoc h1 h2 h3 e⟩
def kF (s:ByteArray) (i j:Nat) (aE:List (Nat × Nat)):Prop:=
 ∃ pre p,aE=pre++[(p,j)]∧Segs s i p pre∧p≤j∧∀ k,p≤k→k<j→fM (bt s k)=false
structure Ch (w wr:World) (b:Nat) (v:Value) (hm:Int) (vo:Value) (n:Nat) (xs:List Value) (sg:Int):Prop where
 sh:Sh wr b v hm
 gb:w.grownBy wr (some b)
 cb:∃ tx,wr.heap[w.heap.size]?=some (.cells #[.int .u8 sg,.string tx] 206 (0,0))
 own:wr.ownsRow (w.heap.size+1) 206 2 vo n xs
 lt:b<w.heap.size
theorem Ch.cells {w wr:World} {b:Nat} {v:Value} {hm:Int} {vo:Value} {n:Nat} {xs:List Value} {sg:Int} (h:Ch w wr b v hm vo n xs sg) :
  (∃ tx,wr.cell? ⟨w.heap.size,0,none⟩=some (.int .u8 sg)∧wr.cell? ⟨w.heap.size,1,none⟩=some (.string tx))∧(∀ k,wr.frozen? ⟨w.heap.size,k,none⟩=false):=by
 obtain ⟨tx,h1⟩:=h.cb
 exact ⟨⟨tx,aa h1 rfl,aa h1 rfl⟩,fun k=>ag h1⟩
theorem Ch.set1 {w wr:World} {b:Nat} {v:Value} {hm:Int} {vo:Value} {n:Nat} {xs:List Value} {sg:Int} (h:Ch w wr b v hm vo n xs sg) (tx:ByteArray) :
  Ch w (wr.setCell ⟨w.heap.size,1,none⟩ (.string tx)) b v hm vo n xs sg:=by
 have hl:=h.lt
 obtain ⟨OX,h1⟩:=h.cb
 refine ⟨(Below.heap_setCell _ _ _ _ (by show b≠w.heap.size;omega)).trans h.sh,ll h.gb (Nat.le_refl _) _,⟨tx,?_⟩,ownsRow_setCell_below h.own (by show w.heap.size<w.heap.size+1;omega) _,hl⟩
 rw [aq h1];rfl
theorem Ch.set0 {w wr:World} {b:Nat} {v:Value} {hm:Int} {vo:Value} {n:Nat} {xs:List Value} {sg:Int} (h:Ch w wr b v hm vo n xs sg) (x:Int) :
  Ch w (wr.setCell ⟨w.heap.size,0,none⟩ (.int .u8 x)) b v hm vo n xs x:=by
 have hl:=h.lt
 obtain ⟨OX,h1⟩:=h.cb
 refine ⟨(Below.heap_setCell _ _ _ _ (by show b≠w.heap.size;omega)).trans h.sh,ll h.gb (Nat.le_refl _) _,⟨OX,?_⟩,ownsRow_setCell_below h.own (by show w.heap.size<w.heap.size+1;omega) _,hl⟩
 rw [aq h1];rfl
theorem Ch.noted {w wr w2:World} {b:Nat} {v:Value} {hm o8:Int} {vo:Value} {n:Nat} {xs:List Value} {sg:Int} (h:Ch w wr b v hm vo n xs sg) (hs:Sh w2 b v o8) (hg:wr.grownBy w2 (some b)):Ch w w2 b v o8 vo n xs sg:=by
 have hl:=h.lt
 obtain ⟨OX,h1⟩:=h.cb
 refine ⟨hs,kV h.gb hg,⟨OX,(hg.block _ (Array.getElem?_eq_some_iff.1 h1).1 (fun e=>by injection e with e;omega)).trans h1⟩,h.own.kept hg ?_,hl⟩
 cases hv:vo.ownBlock with
 | none=>exact Or.inl rfl
 | some g=>right;intro e;injection e with e;have:=(h.own.lt g hv).1;omega
theorem Ch.alloc {w wr:World} {b:Nat} {v:Value} {hm:Int} {vo:Value} {n:Nat} {xs:List Value} {sg:Int} (h:Ch w wr b v hm vo n xs sg) (o:Obj):Ch w (wr.alloc o) b v hm vo n xs sg:=by
 obtain ⟨OX,h1⟩:=h.cb
 exact ⟨(Below.heap_alloc wr o b h.sh.lt).trans h.sh,uL h.gb o,⟨OX,(Below.heap_alloc wr o _ (Array.getElem?_eq_some_iff.1 h1).1).trans h1⟩,h.own.alloc o,h.lt⟩
theorem Ch.app {w wr w3:World} {b:Nat} {v:Value} {hm:Int} {vo:Value} {n:Nat} {xs:List Value} {sg:Int} (h:Ch w wr b v hm vo n xs sg) {vo':Value} {n':Nat} {VE:List Value} (hg:wr.grownBy w3 vo.ownBlock) (ho:w3.ownsRow (w.heap.size+1) 206 2 vo' n' VE):Ch w w3 b v hm vo' n' VE sg:=by
 have hl:=h.lt
 have eV:∀ k,k≤w.heap.size→some k≠vo.ownBlock:=by
  intro k hk e
  have:=(h.own.lt k e.symm).1
  omega
 obtain ⟨OX,h1⟩:=h.cb
 refine ⟨(hg.block b h.sh.lt (eV b (by omega))).trans h.sh,?_,⟨OX,(hg.block _ (Array.getElem?_eq_some_iff.1 h1).1 (eV _ (Nat.le_refl _))).trans h1⟩,ho,hl⟩
 exact ⟨hg.os.trans h.gb.os,hg.tape.trans h.gb.tape,hg.output.trans h.gb.output,Nat.le_trans h.gb.size hg.size,
  fun k hk hn=>(hg.block k (Nat.lt_of_lt_of_le hk h.gb.size) (eV k (by omega))).trans (h.gb.block k hk hn)⟩
structure wK (w:World) (b:Nat) (v:Value) (s:ByteArray) (fr to:Nat) (nr:Nat) (M:Int) (vo:Value) (p i:Nat) (wr:World) (hm:Int) (aE:List (Nat × Nat)) (xs:List Value) (sg:Int):Prop where
 ch:Ch w wr b v hm vo aE.length xs sg
 noted:fV hm p
 txs:Txs s xs aE
 sgs:Sgs s xs aE
 sgn:i≤to→sg=mU s aE.length p
 lo:fr≤i
 hi:i≤to+1
 few:aE.length≤i - fr
 pi:p≤i
 pf:fr≤p
 go:i≤to→Segs s fr p aE∧(∀ k,p≤k→k<i→fM (bt s k)=false)∧∃ md,fU md∧Acc s md ⟨nr,aE.length+1,bY (decide (aE.length=4)) hm p⟩ i M
 done:i=to+1→kF s fr to aE∧fV hm to∧∃ nc,Acc s 3 ⟨nr,nc,hm⟩ to M
def Q9 (w:World) (b:Nat) (v:Value) (s:ByteArray) (fr to:Nat) (nr:Nat) (M:Int) (e:Ending) (w':World):Prop:=
 ∃ (a:Option Addr) (c:Nat) (aE:List (Nat × Nat)) (xs:List Value) (hm:Int),e=.returned (.slice a aE.length c)∧Sh w' b v hm∧w.grownBy w' (some b)∧w'.ownsRow w.heap.size 206 2 (.slice a aE.length c) aE.length xs∧
  Hid ((Txs s xs aE∧Sgs s xs aE)∧kF s fr to aE∧fV hm to∧∃ nc,Acc s 3 ⟨nr,nc,hm⟩ to M)
structure FQ (s:ByteArray) (fr to:Nat) (nr:Nat) (M:Int) (hm:Int):Prop where
 le:fr≤to
 lt:to<s.size
 top:s.size≤400
 no:∀ k,fr≤k→k<to→bt s k≠44∧bt s k≠123
 mark:bt s to=44∨bt s to=123
 noted:fV hm fr
 acc:Acc s 2 ⟨nr,1,hm⟩ fr M
theorem jX {hm:Int} {p:Nat} (h:fV hm p) (bl:Bool) {q:Nat} (hq:p≤q):fV (bY bl hm p) q:=by
 unfold fV bY j9 at *
 repeat' split
 all_goals omega
theorem M9 (a:Int) (t:ByteArray):∀ u∈[Value.int .u8 a,Value.string t],u.oneCell'=true:=by
 intro u hu
 simp only [List.mem_cons,List.not_mem_nil,or_false] at hu
 rcases hu with rfl | rfl<;>rfl
theorem Nk {s:ByteArray} {fr to nr:Nat} {M yl:Int} (P:FQ s fr to nr M yl) {md:Int} {k:Cn} {i:Nat} (hm:fU md) (h:Acc s md k i M) (PK:fr≤i) (aN:i<to) (hs:fM (bt s i)=false):∃ md',fU md'∧Acc s md' k (i+1) M:=by
 have hl:=h.lt (by unfold fU at hm;omega)
 obtain ⟨n1,n2⟩:=P.no i PK aN
 refine ⟨_,uN hm n2 (h.ok hl),?_⟩
 have:=h.step hl
 rwa [M5 hm hs n1] at this
theorem EZ {s:ByteArray} {M:Int} {md:Int} {nr nc:Nat} {x:Int} {i:Nat} (hm:fU md) (h:Acc s md ⟨nr,nc,x⟩ i M) (hs:fM (bt s i)=true):Acc s 2 ⟨nr,nc+1,bY (decide (nc=4)) x (i+1)⟩ (i+1) M:=by
 have hl:=h.lt (by unfold fU at hm;omega)
 obtain rfl:=tY hm (Or.inl hs) (h.ok hl)
 unfold Acc at h ⊢
 rw [←h,ym ⟨hs,hl⟩]
theorem JZ {s:ByteArray} {M:Int} {md:Int} {k:Cn} {i:Nat} (hm:fU md) (h:Acc s md k i M) (hs:bt s i=44∨bt s i=123):Acc s 3 k i M:=by
 have hl:=h.lt (by unfold fU at hm;omega)
 obtain rfl:=tY hm (Or.inr hs) (h.ok hl)
 exact h
theorem Fh (s:ByteArray) {i:Nat} (h:i<s.size) (aE:List (Nat × Nat)) (x:Nat × Nat):(s[i].toNat:Int)=mU s (aE++[x]).length (i+1):=by
 unfold mU
 rw [if_neg (by simp),Nat.add_sub_cancel,bq s i h]
set_option maxRecDepth 100000 in
set_option maxHeartbeats 4000000 in
theorem Hm (w:World) (b:Nat) (v:Value) (yl:Int) (s:ByteArray) (fr to nr:Nat) (M:Int) (h:Sh w b v yl) (hP:FQ s fr to nr M yl) :
  Calls Tryz.prog 132 #[.pointer (some ⟨b,0,none⟩),.string s,.int .i64 fr,.int .i64 to] w fun e w'=>Q9 w b v s fr to nr M e w':=by
 have h_lt:=h.lt
 have P_le:=hP.le
 have P_lt:=hP.lt
 have P_top:=hP.top
 have HP:Hid (FQ s fr to nr M yl):=hP
 clear hP
 obtain ⟨i0,hi,gx,gw,gB⟩:=info_parts Tryz.info206
 go_enter Tryz.func132,Tryz.ntmps132
 go_wp2_with fail
 go_loopg [9,11,12] (to+1 - fr) (fun gk vo pv iv wr=>∃ (p i:Nat) (hm:Int) (aE:List (Nat × Nat)) (xs:List Value) (sg:Int),pv=.int .i64 p∧iv=.int .i64 i∧to+1 - i≤gk∧wK w b v s fr to nr M vo p i wr hm aE xs sg)
 case atStart=>
  refine ⟨fr,fr,yl,[],[],0,rfl,rfl,Nat.le_refl _,⟨(Below.heap_alloc w _ b h_lt).trans h,World.grownBy_alloc _ _ _,⟨_,heap_alloc_new w _⟩,World.ownsRow_nil _ _ _ _,h_lt⟩,HP.out.noted,rfl,fun i p q h=>by simp at h,fun _=>rfl,Nat.le_refl _,by omega,by simp,Nat.le_refl _,Nat.le_refl _,fun _=>⟨rfl,fun k h1 h2=>by omega,2,Or.inl rfl,?_⟩,fun e=>by omega⟩
  simpa [bY] using HP.out.acc
 case round=>
  obtain ⟨p,i,hm,aE,xs,sg,rfl,rfl,fK,R⟩:=hrel
  have R_lo:=R.lo
  have R_hi:=R.hi
  have R_pi:=R.pi
  obtain ⟨a,c,hv⟩:=au R.ch.own
  subst hv
  by_cases aN:i<to
  ·have BJ:i<s.size:=by omega
   have hd:decide ((i:Int)<(to:Int))=true:=by simp;omega
   have iL:decide ((i:Int)≤(to:Int))=true:=by simp;omega
   go_wp2_with fail
   have Eb:=bq s i BJ
   rw [←Eb]
   refine (bd _ (bt s i) _ (by decide)).mono ?_
   rw [Hh]
   rintro e w1 ⟨rfl,rfl⟩
   obtain ⟨wr,rfl⟩:∃ wr,wr=w1:=⟨_,rfl⟩
   clear Eb
   cases hS:fM (bt s i)
   ·have HS:Hid (fM (bt s i)=false):=hS
    have R2:wK w b v s fr to nr M (.slice a aE.length c) p (i+1) wr hm aE xs sg:=by
     obtain ⟨q1,q2,md,q3,q4⟩:=R.go (by omega)
     refine ⟨R.ch,R.noted,R.txs,R.sgs,fun _=>R.sgn (by omega),by omega,by omega,by have:=R.few;omega,by omega,R.pf,fun _=>⟨q1,fun k k1 k2=>?_,Nk HP.out q3 q4 R_lo aN hS⟩,fun e=>by omega⟩
     by_cases e:k=i
     ·rw [e];exact hS
     ·exact q2 k k1 (by omega)
    clear hS R
    go_wp2
    go_roundg (to+1 - (i+1))
    case measure=>omega
    case rel=>exact ⟨p,i+1,hm,aE,xs,sg,rfl,by go_num,Nat.le_refl _,R2⟩
   ·have HS:Hid (fM (bt s i)=true):=hS
    clear hS
    have Cr:w.heap.size<wr.heap.size:=by obtain ⟨tx,h1⟩:=R.ch.cb;exact (Array.getElem?_eq_some_iff.1 h1).1
    obtain ⟨⟨tx,XK,XL⟩,cz'⟩:=R.ch.cells
    by_cases h4:aE.length=4
    ·have g4:((aE.length:Int)==4)=true:=by simp [h4]
     obtain ⟨X,HX,yr⟩:∃ X,Hid (bY (decide (aE.length=4)) hm p=X)∧Hid (j9 hm p=X):=⟨j9 hm p,by simp [Hid,bY,h4],rfl⟩
     clear h4
     go_wp2_with fail
     refine (qR _ b v hm p (by exact (R.ch.set1 _).sh) R.noted).mono ?_
     rw [yr.out]
     rintro e w2 ⟨rfl,Qr,hJ⟩
     have vF:Ch w w2 b v X (.slice a aE.length c) aE.length xs sg:=(R.ch.set1 _).noted Qr hJ
     have ZJ:w2.cell? ⟨w.heap.size,1,none⟩=some (.string (s.extract p i)):=by
      have e:=(World.cell?_of_block (a:=⟨w.heap.size,1,none⟩) (hJ.block w.heap.size (by simpa [World.setCell] using Cr) (by simp;omega)))
      rw [e]
      obtain ⟨tx,h1⟩:=R.ch.cb
      exact aa (aq h1 _) rfl
     have bw:=R.few
     have wi:=vF.gb.size
     obtain ⟨⟨tx2,cc0,_⟩,cz⟩:=vF.cells
     go_wp2_with (at_builtin;refine wpList_append_own _ rfl (.tmp 49) (.tmp 51) 166 rfl (w.heap.size+1) 206 i0 (.agg #[.int .u8 0,.string ⟨#[]⟩]) 2 24 Tryz.underlying166 hi gx gw gB rfl (by decide) _ _ _ rfl (vF.own.alloc _) ⟨w2.heap.size,0,none⟩ 1 1 [.int .u8 sg,.string (s.extract p i)] rfl rfl ?c1sx ?c2sx ?c3sx ?c4sx ?c5sx ?_)
     case c1sx=>exact aO w2 _ rfl _ _ _ rfl
     case c2sx=>exact M9 _ _
     case c3sx=>unfold maxLen;omega
     case c4sx=>omega
     case c5sx=>simp only [World.size_alloc];have:=(R.ch.own.lt);have:=Cr;have hq:=wi;omega
     ·intro v' w3 bB eJ _
      have bg:w3.ownsRow (w.heap.size+1) 206 2 v' (aE++[(p,i)]).length (xs++[.int .u8 sg,.string (s.extract p i)]):=by simpa using bB
      have Cv:=(vF.alloc (Obj.cells #[.int .u8 sg,.string (s.extract p i)] 206)).app eJ bg
      obtain ⟨⟨XS,Yb,YQ⟩,YY⟩:=Cv.cells
      have R3:wK w b v s fr to nr M v' (i+1) (i+1) ((w3.setCell ⟨w.heap.size,0,none⟩ (.int .u8 (s[i].toNat:Int))).setCell ⟨w.heap.size,1,none⟩ (.string ⟨#[]⟩)) X (aE++[(p,i)]) (xs++[.int .u8 sg,.string (s.extract p i)]) (s[i].toNat:Int):=by
       obtain ⟨q1,q2,md,q3,q4⟩:=R.go (by omega)
       have VK:=EZ q3 q4 HS.out
       rw [HX.out] at VK
       exact ⟨(Cv.set0 _).set1 _,by rw [←HX.out];exact jX R.noted _ (by omega),R.txs.snoc _ _ _,R.sgs.snoc R.txs (R.sgn (by omega)),fun _=>Fh s BJ aE (p,i),by omega,by omega,by simp;omega,Nat.le_refl _,by omega,fun _=>⟨q1.snoc q2 R_pi HS.out,fun k k1 k2=>by omega,2,Or.inl rfl,by simpa using VK⟩,fun e=>by omega⟩
      clear bB eJ bg Cv vF R
      go_wp2
      go_roundg (to+1 - (i+1))
      case measure=>omega
      case rel=>exact ⟨i+1,i+1,X,_,_,_,by go_num,by go_num,Nat.le_refl _,R3⟩
    ·have g4:((aE.length:Int)==4)=false:=by simp;omega
     obtain ⟨X,HX,hX⟩:∃ X,Hid (bY (decide (aE.length=4)) hm p=X)∧hm=X:=⟨hm,by simp [Hid,bY,h4],rfl⟩
     clear h4
     have vF:Ch w (wr.setCell ⟨w.heap.size,1,none⟩ (.string (s.extract p i))) b v X (.slice a aE.length c) aE.length xs sg:=by rw [←hX];exact R.ch.set1 _
     clear hX
     have bw:=R.few
     have wi:=vF.gb.size
     go_wp2_with (at_builtin;refine wpList_append_own _ rfl (.tmp 49) (.tmp 51) 166 rfl (w.heap.size+1) 206 i0 (.agg #[.int .u8 0,.string ⟨#[]⟩]) 2 24 Tryz.underlying166 hi gx gw gB rfl (by decide) _ _ _ rfl (vF.own.alloc _) ⟨wr.heap.size,0,none⟩ 1 1 [.int .u8 sg,.string (s.extract p i)] rfl rfl ?c1sy ?c2sy ?c3sy ?c4sy ?c5sy ?_)
     case c1sy=>exact aO (wr.setCell ⟨w.heap.size,1,none⟩ (.string (s.extract p i))) _ (by simp [World.setCell]) _ _ _ rfl
     case c2sy=>exact M9 _ _
     case c3sy=>unfold maxLen;omega
     case c4sy=>omega
     case c5sy=>simp only [World.size_alloc];have:=(R.ch.own.lt);have:=Cr;have hq:=wi;omega
     ·intro v' w3 bB eJ _
      have bg:w3.ownsRow (w.heap.size+1) 206 2 v' (aE++[(p,i)]).length (xs++[.int .u8 sg,.string (s.extract p i)]):=by simpa using bB
      have Cv:=(vF.alloc (Obj.cells #[.int .u8 sg,.string (s.extract p i)] 206)).app eJ bg
      obtain ⟨⟨XS,Yb,YQ⟩,YY⟩:=Cv.cells
      have R3:wK w b v s fr to nr M v' (i+1) (i+1) ((w3.setCell ⟨w.heap.size,0,none⟩ (.int .u8 (s[i].toNat:Int))).setCell ⟨w.heap.size,1,none⟩ (.string ⟨#[]⟩)) X (aE++[(p,i)]) (xs++[.int .u8 sg,.string (s.extract p i)]) (s[i].toNat:Int):=by
       obtain ⟨q1,q2,md,q3,q4⟩:=R.go (by omega)
       have VK:=EZ q3 q4 HS.out
       rw [HX.out] at VK
       exact ⟨(Cv.set0 _).set1 _,by rw [←HX.out];exact jX R.noted _ (by omega),R.txs.snoc _ _ _,R.sgs.snoc R.txs (R.sgn (by omega)),fun _=>Fh s BJ aE (p,i),by omega,by omega,by simp;omega,Nat.le_refl _,by omega,fun _=>⟨q1.snoc q2 R_pi HS.out,fun k k1 k2=>by omega,2,Or.inl rfl,by simpa using VK⟩,fun e=>by omega⟩
      clear bB eJ bg Cv vF R
      go_wp2
      go_roundg (to+1 - (i+1))
      case measure=>omega
      case rel=>exact ⟨i+1,i+1,X,_,_,_,by go_num,by go_num,Nat.le_refl _,R3⟩
  ·by_cases oz:i≤to
   ·obtain rfl:i=to:=by omega
    have BJ:i<s.size:=by omega
    have hd:decide ((i:Int)<(i:Int))=false:=by simp
    have Cr:w.heap.size<wr.heap.size:=by obtain ⟨tx,h1⟩:=R.ch.cb;exact (Array.getElem?_eq_some_iff.1 h1).1
    obtain ⟨⟨tx,XK,XL⟩,cz'⟩:=R.ch.cells
    by_cases h4:aE.length=4
    ·have g4:((aE.length:Int)==4)=true:=by simp [h4]
     obtain ⟨X,HX,yr⟩:∃ X,Hid (bY (decide (aE.length=4)) hm p=X)∧Hid (j9 hm p=X):=⟨j9 hm p,by simp [Hid,bY,h4],rfl⟩
     clear h4
     go_wp2_with fail
     refine (qR _ b v hm p (by exact (R.ch.set1 _).sh) R.noted).mono ?_
     rw [yr.out]
     rintro e w2 ⟨rfl,Qr,hJ⟩
     have vF:Ch w w2 b v X (.slice a aE.length c) aE.length xs sg:=(R.ch.set1 _).noted Qr hJ
     have ZJ:w2.cell? ⟨w.heap.size,1,none⟩=some (.string (s.extract p i)):=by
      have e:=(World.cell?_of_block (a:=⟨w.heap.size,1,none⟩) (hJ.block w.heap.size (by simpa [World.setCell] using Cr) (by simp;omega)))
      rw [e]
      obtain ⟨tx,h1⟩:=R.ch.cb
      exact aa (aq h1 _) rfl
     have bw:=R.few
     have wi:=vF.gb.size
     obtain ⟨⟨tx2,cc0,_⟩,cz⟩:=vF.cells
     go_wp2_with (at_builtin;refine wpList_append_own _ rfl (.tmp 49) (.tmp 51) 166 rfl (w.heap.size+1) 206 i0 (.agg #[.int .u8 0,.string ⟨#[]⟩]) 2 24 Tryz.underlying166 hi gx gw gB rfl (by decide) _ _ _ rfl (vF.own.alloc _) ⟨w2.heap.size,0,none⟩ 1 1 [.int .u8 sg,.string (s.extract p i)] rfl rfl ?c1ex ?c2ex ?c3ex ?c4ex ?c5ex ?_)
     case c1ex=>exact aO w2 _ rfl _ _ _ rfl
     case c2ex=>exact M9 _ _
     case c3ex=>unfold maxLen;omega
     case c4ex=>omega
     case c5ex=>simp only [World.size_alloc];have:=(R.ch.own.lt);have:=Cr;have hq:=wi;omega
     ·intro v' w3 bB eJ _
      have bg:w3.ownsRow (w.heap.size+1) 206 2 v' (aE++[(p,i)]).length (xs++[.int .u8 sg,.string (s.extract p i)]):=by simpa using bB
      have Cv:=(vF.alloc (Obj.cells #[.int .u8 sg,.string (s.extract p i)] 206)).app eJ bg
      obtain ⟨⟨XS,Yb,YQ⟩,YY⟩:=Cv.cells
      have R3:wK w b v s fr i nr M v' (i+1) (i+1) w3 X (aE++[(p,i)]) (xs++[.int .u8 sg,.string (s.extract p i)]) sg:=by
       obtain ⟨q1,q2,md,q3,q4⟩:=R.go (by omega)
       have Uq:=JZ q3 q4 HP.out.mark
       rw [HX.out] at Uq
       have Fd:=jX R.noted (decide (aE.length=4)) R_pi
       rw [HX.out] at Fd
       exact ⟨Cv,by unfold fV at Fd ⊢;omega,R.txs.snoc _ _ _,R.sgs.snoc R.txs (R.sgn (by omega)),fun e=>by omega,by omega,by omega,by simp;omega,Nat.le_refl _,by omega,fun e=>by omega,fun _=>⟨⟨aE,p,rfl,q1,R_pi,q2⟩,Fd,_,Uq⟩⟩
      clear bB eJ bg Cv vF R
      go_wp2
      go_roundg 0
      case measure=>omega
      case rel=>exact ⟨i+1,i+1,X,_,_,_,by go_num,by go_num,by omega,R3⟩
    ·have g4:((aE.length:Int)==4)=false:=by simp;omega
     obtain ⟨X,HX,hX⟩:∃ X,Hid (bY (decide (aE.length=4)) hm p=X)∧hm=X:=⟨hm,by simp [Hid,bY,h4],rfl⟩
     clear h4
     have vF:Ch w (wr.setCell ⟨w.heap.size,1,none⟩ (.string (s.extract p i))) b v X (.slice a aE.length c) aE.length xs sg:=by rw [←hX];exact R.ch.set1 _
     clear hX
     have bw:=R.few
     have wi:=vF.gb.size
     go_wp2_with (at_builtin;refine wpList_append_own _ rfl (.tmp 49) (.tmp 51) 166 rfl (w.heap.size+1) 206 i0 (.agg #[.int .u8 0,.string ⟨#[]⟩]) 2 24 Tryz.underlying166 hi gx gw gB rfl (by decide) _ _ _ rfl (vF.own.alloc _) ⟨wr.heap.size,0,none⟩ 1 1 [.int .u8 sg,.string (s.extract p i)] rfl rfl ?c1ey ?c2ey ?c3ey ?c4ey ?c5ey ?_)
     case c1ey=>exact aO (wr.setCell ⟨w.heap.size,1,none⟩ (.string (s.extract p i))) _ (by simp [World.setCell]) _ _ _ rfl
     case c2ey=>exact M9 _ _
     case c3ey=>unfold maxLen;omega
     case c4ey=>omega
     case c5ey=>simp only [World.size_alloc];have:=(R.ch.own.lt);have:=Cr;have hq:=wi;omega
     ·intro v' w3 bB eJ _
      have bg:w3.ownsRow (w.heap.size+1) 206 2 v' (aE++[(p,i)]).length (xs++[.int .u8 sg,.string (s.extract p i)]):=by simpa using bB
      have Cv:=(vF.alloc (Obj.cells #[.int .u8 sg,.string (s.extract p i)] 206)).app eJ bg
      obtain ⟨⟨XS,Yb,YQ⟩,YY⟩:=Cv.cells
      have R3:wK w b v s fr i nr M v' (i+1) (i+1) w3 X (aE++[(p,i)]) (xs++[.int .u8 sg,.string (s.extract p i)]) sg:=by
       obtain ⟨q1,q2,md,q3,q4⟩:=R.go (by omega)
       have Uq:=JZ q3 q4 HP.out.mark
       rw [HX.out] at Uq
       have Fd:=jX R.noted (decide (aE.length=4)) R_pi
       rw [HX.out] at Fd
       exact ⟨Cv,by unfold fV at Fd ⊢;omega,R.txs.snoc _ _ _,R.sgs.snoc R.txs (R.sgn (by omega)),fun e=>by omega,by omega,by omega,by simp;omega,Nat.le_refl _,by omega,fun e=>by omega,fun _=>⟨⟨aE,p,rfl,q1,R_pi,q2⟩,Fd,_,Uq⟩⟩
      clear bB eJ bg Cv vF R
      go_wp2
      go_roundg 0
      case measure=>omega
      case rel=>exact ⟨i+1,i+1,X,_,_,_,by go_num,by go_num,by omega,R3⟩
   ·obtain rfl:i=to+1:=by omega
    have R2:=R
    clear R
    have hd:decide (((to+1:Nat):Int)≤(to:Int))=false:=by simp;omega
    go_wp2
    go_ret
    obtain ⟨q1,q2,q3⟩:=R2.done rfl
    exact ⟨a,c,aE,xs,hm,rfl,R2.ch.sh,R2.ch.gb,aG R2.ch.own (by omega),⟨R2.txs,R2.sgs⟩,q1,q2,q3⟩
end Go.Proofs.YtblfffbmklkhmaaGreat
namespace Go.Proofs.YtblfffbmklkhmaaGreat
open Go.RowKit
theorem Tryz.info229:(Tryz.prog.info? 229).map (fun i=>(i.zero,i.size,i.bytes))=some (some (.agg #[.int .u8 0,.string ⟨#[]⟩,.bool false]),3,32):=by kernel_rfl
def Uy (t:ByteArray):Prop:=∀ k,k<t.size→(k=0∨bt t (k - 1)=59)→k+2<t.size∧bt t k≠59∧bt t (k+1)≠59∧bt t (k+2)≠59
structure dg where
 pr:Nat
 val:ByteArray
 must:Bool
def jx (ds:List dg):List Value:=ds.flatMap fun d=>[.int .u8 d.pr,.string d.val,.bool d.must]
theorem tf (ds:List dg) (d:dg):jx (ds++[d])=jx ds++[.int .u8 d.pr,.string d.val,.bool d.must]:=by
 unfold jx
 rw [List.flatMap_append]
 simp
theorem Jx {ds:List dg} {i:Nat} (h:i<ds.length):(jx ds)[i*3]?=some (.int .u8 ds[i].pr)∧(jx ds)[i*3+1]?=some (.string ds[i].val)∧(jx ds)[i*3+2]?=some (.bool ds[i].must):=by
 induction ds generalizing i with
 | nil=>simp at h
 | cons d ds ih=>
  cases i with
  | zero=>exact ⟨rfl,rfl,rfl⟩
  | succ i=>
   obtain ⟨h1,h2,h3⟩:=ih (i:=i) (by simpa using h)
   have e:jx (d :: ds)=.int .u8 d.pr :: .string d.val :: .bool d.must :: jx ds:=rfl
   rw [e,show (i+1)*3=i*3+3 from by omega]
   refine ⟨?_,?_,?_⟩
   ·simpa using h1
   ·rw [show i*3+3+1=i*3+1+3 from by omega];simpa using h2
   ·rw [show i*3+3+2=i*3+2+3 from by omega];simpa using h3
def kJ (t:ByteArray) (f e:Nat):dg:=
 if bt (t.extract (f+2) e) ((t.extract (f+2) e).size - 1)=33 then ⟨bt t f,(t.extract (f+2) e).extract 0 ((t.extract (f+2) e).size - 1),true⟩ else ⟨bt t f,t.extract (f+2) e,false⟩
def DeclsPre (t:ByteArray):Nat→Nat→List dg→Prop
 | i,j,[]=>i=j
 | i,j,d :: ds=>i<t.size∧∃ e,SR t i 59 e∧d=kJ t i e∧DeclsPre t (e+1) j ds
theorem DeclsPre.snoc {t:ByteArray} {j e:Nat} (h1:j<t.size) (h2:SR t j 59 e):∀ {ds:List dg} {i:Nat},DeclsPre t i j ds→DeclsPre t i (e+1) (ds++[kJ t j e])
 | [],_,h=>by simp only [DeclsPre] at h;subst h;exact ⟨h1,e,h2,rfl,rfl⟩
 | _ :: _,_,⟨a,x,b,c,d⟩=>⟨a,x,b,c,DeclsPre.snoc h1 h2 d⟩
def pV (t:ByteArray) (ds:List dg):Prop:=∃ j,t.size≤j∧DeclsPre t 0 j ds
structure Ru (w:World) (t:ByteArray) (vo:Value) (f:Nat) (wr:World) (ds:List dg):Prop where
 bel:Below w.heap.size w wr
 own:wr.ownsRow w.heap.size 229 3 vo ds.length (jx ds)
 few:ds.length≤f
 pre:DeclsPre t 0 f ds
 hi:f≤t.size+1
 beg:f<t.size→(f=0∨bt t (f - 1)=59)
def Vi (w:World) (t:ByteArray) (e:Ending) (w':World):Prop:=∃ (a:Option Addr) (c:Nat) (ds:List dg),e=.returned (.slice a ds.length c)∧Below w.heap.size w w'∧w'.ownsRow w.heap.size 229 3 (.slice a ds.length c) ds.length (jx ds)∧Hid (pV t ds)
theorem GR {t:ByteArray} {f r:Nat} (h:Uy t) (hf:f<t.size) (hb:f=0∨bt t (f - 1)=59) (hu:SR t f 59 r):f+2<r∧r≤t.size:=by
 obtain ⟨h1,h2,h3,h4⟩:=h f hf hb
 obtain ⟨u1,u2,u3,u4⟩:=hu
 refine ⟨?_,u2⟩
 apply Nat.lt_of_not_le
 intro hr
 have:=u4 (by omega)
 have hc:r=f∨r=f+1∨r=f+2:=by omega
 rcases hc with rfl | rfl | rfl
 ·exact h2 this
 ·exact h3 this
 ·exact h4 this
theorem Pc (a:Int) (t:ByteArray) (b:Bool):∀ u∈[Value.int .u8 a,Value.string t,Value.bool b],u.oneCell'=true:=by
 intro u hu
 simp only [List.mem_cons,List.not_mem_nil,or_false] at hu
 rcases hu with rfl | rfl | rfl<;>rfl
set_option maxRecDepth 100000 in
set_option maxHeartbeats 4000000 in
theorem GW (w:World) (t:ByteArray) (ht:t.size≤400) (hD:Uy t) :
  Calls Tryz.prog 133 #[.string t] w fun e w'=>Vi w t e w':=by
 have HD:Hid (Uy t):=hD
 clear hD
 obtain ⟨i0,hi,gx,gw,gB⟩:=info_parts Tryz.info229
 go_enter Tryz.func133,Tryz.ntmps133
 go_wp2_with fail
 go_loopg [3,4] (t.size+1) (fun gk vo fv wr=>∃ (f:Nat) (ds:List dg),fv=.int .i64 f∧t.size+1 - f≤gk∧Ru w t vo f wr ds)
 case atStart=>exact ⟨0,[],rfl,by omega,Below.refl _ _,World.ownsRow_nil _ _ _ _,Nat.le_refl _,rfl,by omega,fun _=>Or.inl rfl⟩
 case round=>
  obtain ⟨f,ds,rfl,fK,R⟩:=hrel
  have R_hi:=R.hi
  have R_few:=R.few
  obtain ⟨a,c,hv⟩:=au R.own
  subst hv
  by_cases aN:f<t.size
  ·have hd:decide ((f:Int)<(t.size:Int))=true:=by simp;omega
   go_wp2_with fail
   refine (kP _ t f 59 ht (by omega)).mono ?_
   rintro e w1 ⟨r,rfl,rfl,HU⟩
   obtain ⟨hr1,zZ⟩:=GR HD.out aN (R.beg aN) HU.out
   go_wp2
   go_region
   have fT:1≤(t.extract (f+2) r).size∧(t.extract (f+2) r).size≤400:=by rw [ByteArray.size_extract];omega
   have Sr:Hid (kJ t f r=if bt (t.extract (f+2) r) ((t.extract (f+2) r).size - 1)=33 then ⟨t[f].toNat,(t.extract (f+2) r).extract 0 ((t.extract (f+2) r).size - 1),true⟩ else ⟨t[f].toNat,t.extract (f+2) r,false⟩):=by
    unfold Hid kJ
    rw [bq t f aN]
   generalize t.extract (f+2) r=u at fT Sr ⊢
   generalize t[f].toNat=x at Sr ⊢
   obtain ⟨ZO,wi⟩:=fT
   have hul:u.size - 1<u.size:=by omega
   by_cases k1:bt u (u.size - 1)=33
   ·have he:((u[u.size - 1].toNat:Int)==33)=true:=by rw [←bq u _ hul,k1];rfl
    have n9:Hid (kJ t f r=⟨x,u.extract 0 (u.size - 1),true⟩):=by unfold Hid;rw [Sr.out,if_pos k1]
    clear k1
    go_wp2_with (at_builtin;refine wpList_append_own _ rfl (.tmp 40) (.tmp 42) 162 rfl w.heap.size 229 i0 (.agg #[.int .u8 0,.string ⟨#[]⟩,.bool false]) 3 32 Tryz.underlying162 hi gx gw gB rfl (by decide) _ _ _ rfl ((R.own.alloc _).alloc _).drew ⟨w1.heap.size+1,0,none⟩ 1 1 [.int .u8 x,.string (u.extract 0 (u.size - 1)),.bool true] rfl rfl ?c1a ?c2a ?c3a ?c4a ?c5a ?_)
    case c1a=>exact aO (w1.alloc _) _ (by simp) _ _ _ rfl
    case c2a=>exact Pc _ _ _
    case c3a=>unfold maxLen;omega
    case c4a=>omega
    case c5a=>have:=R.bel.size;simp;omega
    ·intro v' w3 bB eJ _
     have R3:Ru w t v' (r+1) w3 (ds++[kJ t f r]):=by
      refine ⟨?_,by rw [tf,n9.out];simpa using bB,by simp;omega,R.pre.snoc aN HU.out,by omega,fun h=>Or.inr ?_⟩
      ·refine Below.grown (Below.drew ((R.bel.alloc R.bel.size _).alloc (by have:=R.bel.size;simp;omega) _)) eJ (by have:=R.bel.size;simp;omega) (fun k hk=>(R.own.lt k hk).1)
      ·have:=HU.out.2.2.2 (by omega);simpa using this
     clear bB eJ R
     go_wp2
     go_roundg (t.size+1 - (r+1))
     case measure=>omega
     case rel=>exact ⟨r+1,_,by go_num,Nat.le_refl _,R3⟩
   ·have he:((u[u.size - 1].toNat:Int)==33)=false:=by rw [←bq u _ hul];simp;omega
    have n9:Hid (kJ t f r=⟨x,u,false⟩):=by unfold Hid;rw [Sr.out,if_neg k1]
    clear k1
    go_wp2_with (at_builtin;refine wpList_append_own _ rfl (.tmp 40) (.tmp 42) 162 rfl w.heap.size 229 i0 (.agg #[.int .u8 0,.string ⟨#[]⟩,.bool false]) 3 32 Tryz.underlying162 hi gx gw gB rfl (by decide) _ _ _ rfl ((R.own.alloc _).alloc _).drew ⟨w1.heap.size+1,0,none⟩ 1 1 [.int .u8 x,.string u,.bool false] rfl rfl ?c1b ?c2b ?c3b ?c4b ?c5b ?_)
    case c1b=>exact aO (w1.alloc _) _ (by simp) _ _ _ rfl
    case c2b=>exact Pc _ _ _
    case c3b=>unfold maxLen;omega
    case c4b=>omega
    case c5b=>have:=R.bel.size;simp;omega
    ·intro v' w3 bB eJ _
     have R3:Ru w t v' (r+1) w3 (ds++[kJ t f r]):=by
      refine ⟨?_,by rw [tf,n9.out];simpa using bB,by simp;omega,R.pre.snoc aN HU.out,by omega,fun h=>Or.inr ?_⟩
      ·refine Below.grown (Below.drew ((R.bel.alloc R.bel.size _).alloc (by have:=R.bel.size;simp;omega) _)) eJ (by have:=R.bel.size;simp;omega) (fun k hk=>(R.own.lt k hk).1)
      ·have:=HU.out.2.2.2 (by omega);simpa using this
     clear bB eJ R
     go_wp2
     go_roundg (t.size+1 - (r+1))
     case measure=>omega
     case rel=>exact ⟨r+1,_,by go_num,Nat.le_refl _,R3⟩
  ·have R2:=R
   have hd:decide ((f:Int)<(t.size:Int))=false:=by simp;omega
   clear R
   go_wp2
   go_ret
   exact ⟨a,c,ds,rfl,R2.bel,R2.own,f,by omega,R2.pre⟩
end Go.Proofs.YtblfffbmklkhmaaGreat
