import Derived.Test.YtblfffbmklkhmaaGreatSt27
namespace Go.Proofs.YtblfffbmklkhmaaGreat
open Go.RowKit
def fH (els:List REl) (n:Int):Nat→Option Nat
 | 0=>none
 | i+1=>if (els[i]?.map fun e=>(e.num:Int))=some n then some i else fH els n i
def yf (Tb:Nat→Nat→ByteArray) (o:Option Nat) (p:Nat):ByteArray:=match o with | some i=>Tb i p | none=>⟨#[]⟩
noncomputable def jq (els:List REl) (Tb:Nat→Nat→ByteArray):Nat→Int→Nat→Int
 | 0,n=>fun p=>ct (yf Tb (fH els n els.length)) dE 4 p
 | f+1,n=>fun p=>ct (yf Tb (fH els n els.length)) (if aJ els n<0 then dE else jq els Tb f (aJ els n)) 4 p
def uP (els:List REl):Nat→Int→Prop
 | 0,n=>aJ els n<0
 | f+1,n=>aJ els n<0∨uP els f (aJ els n)
def kn (Tb:Nat→Nat→ByteArray) (n:Nat):List Value:=(List.range n).flatMap fun i=>(List.range 9).map fun p=>Value.string (Tb i p)
def mQ (Tb:Nat→Nat→ByteArray) (i:Nat):List Value:=(List.range 9).map fun p=>Value.string (Tb i p)
theorem xZ (Tb:Nat→Nat→ByteArray) (n:Nat):(kn Tb n).length=n*9:=by
 induction n with
 | zero=>rfl
 | succ n ih=>
  unfold kn at ih ⊢
  rw [show List.range (n+1)=List.range n++[n] from List.range_succ,List.flatMap_append,List.length_append,ih]
  simp
  omega
theorem Av (Tb:Nat→Nat→ByteArray) {n i p:Nat} (hi:i<n) (hp:p<9):(kn Tb n)[i*9+p]?=some (.string (Tb i p)):=by
 induction n with
 | zero=>omega
 | succ n ih=>
  unfold kn
  rw [show List.range (n+1)=List.range n++[n] from List.range_succ,List.flatMap_append]
  have hl:=xZ Tb n
  unfold kn at hl
  by_cases h:i<n
  ·rw [List.getElem?_append_left (by omega)]
   have:=ih h
   unfold kn at this
   exact this
  ·obtain rfl:i=n:=by omega
   rw [List.getElem?_append_right (by omega),hl,show i*9+p - i*9=p from by omega]
   simp [hp]
structure TM (w:World) (vT:Value) (n:Nat) (Tb:Nat→Nat→ByteArray):Prop where
 row:w.ownsRow 0 234 9 vT n (kn Tb n)
 ok:∀ i p,i<n→p<9→ng (Tb i p)∧oY (Tb i p)
theorem AQ {Tb:Nat→Nat→ByteArray} {i:Nat} (h:∀ p,p<9→ng (Tb i p)∧oY (Tb i p)):NineL (mQ Tb i) (Tb i):=by
 refine ⟨by simp [mQ],fun p hp=>by simp [mQ,hp],fun p hp=>(h p hp).1,fun p hp=>(h p hp).2,fun v hv=>?_⟩
 obtain ⟨p,_,rfl⟩:=List.mem_map.1 hv
 rfl
def uY:List Value:=List.replicate 9 (.string ⟨#[]⟩)
theorem Dh:NineL uY (fun _=>⟨#[]⟩):=by
 refine ⟨by simp [uY],fun p hp=>by unfold uY;rw [List.getElem?_replicate,if_pos hp],fun p _=>⟨by decide,fun h=>absurd h (by decide)⟩,fun p _=>⟨fun h=>absurd h (by decide),fun h=>absurd h (by decide)⟩,fun v hv=>?_⟩
 ·rw [(List.mem_replicate.1 hv).2]
  rfl
def mY:List Value:=(List.range 9).map fun p=>Value.int .i64 (dE p)
theorem GY:oo mY dE:=by
 refine ⟨by simp [mY],fun p hp=>by simp [mY,hp],fun v hv=>?_⟩
 obtain ⟨p,_,rfl⟩:=List.mem_map.1 hv
 rfl
def qI (w:World) (C:Nat→Int) (e:Ending) (w':World):Prop:=∃ ci,e=.returned (.agg ci.toArray)∧oo ci C∧Below w.heap.size w w'
abbrev d9:Array Value:=#[.int .i64 0,.int .i64 0,.int .i64 0,.int .i64 0,.int .i64 0,.int .i64 0,.int .i64 0,.int .i64 0,.int .i64 0]
def ma (Tb:Nat→Nat→ByteArray) (o:Option Nat):List Value:=match o with | some i=>mQ Tb i | none=>uY
structure SB (w wr:World) (ci:List Value) (C:Nat→Int) (b3:Nat) (ws:List Value):Prop where
 comes:wr.heap[w.heap.size+1]?=some (.cells ci.toArray 38 (0,0))
 nine:oo ci C
 res:wr.heap[w.heap.size]?=some (.cells d9 38 (0,0))
 win:wr.heap[b3]?=some (.cells ws.toArray 234 (0,0))
 below:Below w.heap.size w wr
 far:w.heap.size+2≤b3
 lt:b3<wr.heap.size
theorem SB.setWin {w wr:World} {ci:List Value} {C:Nat→Int} {b3:Nat} {ws:List Value} (h:SB w wr ci C b3 ws) (ws':List Value):SB w (wr.setRow b3 ws'.toArray) ci C b3 ws':=by
 have hf:=h.far
 refine ⟨?_,h.nine,?_,setRow_heap wr _ _ _ _ _ h.win,h.below.trans ⟨rfl,rfl,rfl,by simp,fun k hk=>setRow_other wr _ _ _ (by omega)⟩,hf,by have:=h.lt;simpa using this⟩
 ·rw [setRow_other wr _ _ _ (by omega)]
  exact h.comes
 ·rw [setRow_other wr _ _ _ (by omega)]
  exact h.res
theorem SB.go {w wr w':World} {ci:List Value} {C:Nat→Int} {b3:Nat} {ws:List Value} (h:SB w wr ci C b3 ws) (hB:Below wr.heap.size wr w'):SB w w' ci C b3 ws:=by
 have hf:=h.far
 have hl:=h.lt
 have hs:=hB.size
 have hb:=h.below.size
 exact ⟨(hB.block _ (by omega)).trans h.comes,h.nine,(hB.block _ (by omega)).trans h.res,(hB.block _ hl).trans h.win,h.below.trans (hB.mono hb),hf,by omega⟩
theorem SB.setOut {w wr:World} {ci:List Value} {C:Nat→Int} {b3:Nat} {ws:List Value} (h:SB w wr ci C b3 ws) {b4:Nat} (hb:b3<b4) (i:Nat) (u:Value):SB w (wr.setCell ⟨b4,i,none⟩ u) ci C b3 ws:=by
 have hf:=h.far
 refine ⟨(Below.heap_setCell _ _ _ _ (by show w.heap.size+1≠b4;omega)).trans h.comes,h.nine,(Below.heap_setCell _ _ _ _ (by show w.heap.size≠b4;omega)).trans h.res,(Below.heap_setCell _ _ _ _ (by show b3≠b4;omega)).trans h.win,h.below.setCell (by show w.heap.size≤b4;omega) _,hf,by have:=h.lt;simpa using this⟩
theorem SB.range {w wr:World} {ci:List Value} {C:Nat→Int} {b3:Nat} {ws:List Value} (h:SB w wr ci C b3 ws):wr.rangeAt b3 0 ws∧wr.rangeAt (w.heap.size+1) 0 ci:=by
 refine ⟨fun j v hv=>?_,fun j v hv=>?_⟩
 ·rw [Nat.zero_add,cell_of_row _ _ j ws.toArray _ (0,0) h.win]
  simpa using hv
 ·rw [Nat.zero_add,cell_of_row _ _ j ci.toArray _ (0,0) h.comes]
  simpa using hv
theorem rN {Tb:Nat→Nat→ByteArray} {N:Nat} (h:∀ i p,i<N→p<9→ng (Tb i p)∧oY (Tb i p)) {o:Option Nat} (ho:∀ i,o=some i→i<N):NineL (ma Tb o) (yf Tb o):=by
 cases o with
 | none=>exact Dh
 | some i=>exact AQ (fun p hp=>h i p (ho i rfl) hp)
theorem te {els:List REl} {n:Int}:∀ {k i:Nat},fH els n k=some i→i<k
 | 0,i,h=>by cases h
 | k+1,i,h=>by
  unfold fH at h
  split at h
  ·injection h with h;omega
  ·have:=te h;omega
def lX (V:Nat→Int):List Value:=(List.range 9).map fun p=>Value.int .i64 (V p)
theorem iI (V:Nat→Int):(lX V).length=9:=by simp [lX]
theorem AK (V:Nat→Int):oo (lX V) V:=by
 refine ⟨iI V,fun p hp=>by simp [lX,hp],fun v hv=>?_⟩
 obtain ⟨p,_,rfl⟩:=List.mem_map.1 hv
 rfl
def qo (V:Nat→Int) (i:Nat):List Value:=(lX V).take i++List.replicate (9 - i) (.int .i64 0)
theorem Kz {V:Nat→Int} {i:Nat} (h:i≤9):(qo V i).length=9:=by
 unfold qo
 rw [List.length_append,List.length_take,iI,List.length_replicate]
 omega
theorem Kn {V:Nat→Int} {i:Nat} (h:i<9):(qo V i).set i (.int .i64 (V i))=qo V (i+1):=by
 unfold qo
 have hl:((lX V).take i).length=i:=by rw [List.length_take,iI];omega
 have hg:(lX V)[i]'(by rw [iI];exact h)=.int .i64 (V i):=by simp [lX]
 rw [List.set_append_right _ _ (by omega),hl,Nat.sub_self,show 9 - i=(9 - (i+1))+1 from by omega,List.replicate_succ,List.set_cons_zero,List.take_succ_eq_append_getElem (by rw [iI];exact h),hg,List.append_assoc]
 rfl
theorem Kg (V:Nat→Int):qo V 9=lX V:=by
 unfold qo
 rw [List.take_of_length_le (by rw [iI];exact Nat.le_refl _)]
 simp
def r9 (i:Nat):List Value:=(mY.take i)++List.replicate (9 - i) (.int .i64 0)
theorem lb:mY.length=9:=by simp [mY]
theorem Mi {i:Nat}:(r9 i).length=9 - i+min i 9:=by
 unfold r9
 rw [List.length_append,List.length_take,lb,List.length_replicate]
 omega
theorem Mg {i:Nat} (h:i<9):(r9 i).set i (.int .i64 (dE i))=r9 (i+1):=by
 unfold r9
 have hl:(mY.take i).length=i:=by rw [List.length_take,lb];omega
 have hg:mY[i]'(by rw [lb];exact h)=.int .i64 (dE i):=by simp [mY]
 rw [List.set_append_right _ _ (by omega),hl,Nat.sub_self,show 9 - i=(9 - (i+1))+1 from by omega,List.replicate_succ,List.set_cons_zero,List.take_succ_eq_append_getElem (by rw [lb];exact h),hg,List.append_assoc]
 rfl
theorem LN:r9 9=mY:=by
 unfold r9
 rw [List.take_of_length_le (by rw [lb];exact Nat.le_refl _)]
 simp
set_option maxRecDepth 100000 in
set_option maxHeartbeats 8000000 in
theorem oA (els:List REl) (Tb:Nat→Nat→ByteArray) (C:Nat→Int) (w:World) (d:Nat) (made:Nat) (hp:Option Addr) (Nv:Value) (aR:Bool) (vL:Value) (n:Int) (vT:Value) (h:RD w d els made hp Nv aR vL) (hT:TM w vT els.length Tb)
  (ih:aJ els n<0∧C=dE∨(¬ aJ els n<0∧∀ w1,Below w.heap.size w w1→Calls Tryz.prog 141 #[.pointer (some ⟨d,0,none⟩),vT,.int .i64 (aJ els n)] w1 fun e w'=>qI w1 C e w')) :
  Calls Tryz.prog 141 #[.pointer (some ⟨d,0,none⟩),vT,.int .i64 n] w fun e w'=>qI w (ct (yf Tb (fH els n els.length)) C 4) e w':=by
 obtain ⟨aT,cT,ZP⟩:=au hT.row
 subst ZP
 obtain ⟨aL,cL,sX⟩:=h.shape
 subst sX
 have HR:Hid (RD w d els made hp Nv aR (.slice aL els.length cL)∧TM w (.slice aT els.length cT) els.length Tb):=⟨h,hT⟩
 have Sz:Hid (aJ els n<0∧C=dE∨(¬ aJ els n<0∧∀ w1,Below w.heap.size w w1→Calls Tryz.prog 141 #[.pointer (some ⟨d,0,none⟩),.slice aT els.length cT,.int .i64 (aJ els n)] w1 fun e w'=>qI w1 C e w')):=ih
 have bw:=h.few
 clear h hT ih
 have ow:Hid (Below w.heap.size w ((w.alloc (.cells d9 38)).alloc (.cells d9 38))):=((Below.refl _ _).alloc (Nat.le_refl _) _).alloc (by simp) _
 have Px:Hid (((w.alloc (.cells d9 38)).alloc (.cells d9 38)).heap[w.heap.size]?=some (.cells d9 38 (0,0))∧((w.alloc (.cells d9 38)).alloc (.cells d9 38)).heap[w.heap.size+1]?=some (.cells d9 38 (0,0))∧((w.alloc (.cells d9 38)).alloc (.cells d9 38)).heap.size=w.heap.size+2):=by
  refine ⟨heap_alloc2_old w _ _,heap_alloc2_new w _ _,by simp⟩
 go_enter Tryz.func141,Tryz.ntmps141
 go_upto_region 2 with fail
 generalize (w.alloc (.cells d9 38)).alloc (.cells d9 38)=W1 at ow Px ⊢
 go_wp2_with fail
 refine (eQ _ d els made hp Nv aR _ n (HR.out.1.below ow.out)).mono ?_
 rintro e w1 ⟨rfl,rfl⟩
 obtain ⟨W1,rfl⟩:∃ W1,W1=w1:=⟨_,rfl⟩
 generalize aJ els n=up at Sz ⊢
 go_upto_if 18 with fail
 go_cut [9] (fun _ wx=>∃ ci:List Value,Hid (wx.heap[w.heap.size+1]?=some (.cells ci.toArray 38 (0,0))∧oo ci C∧wx.heap[w.heap.size]?=some (.cells d9 38 (0,0))∧Below w.heap.size w wx∧w.heap.size+2≤wx.heap.size))
 case first=>
  rcases Sz.out with ⟨mp,hCi⟩ | ⟨j8,oc⟩
  ·have gn:decide (0≤up)=false:=by simpa using mp
   have YE:Hid (C=dE):=hCi
   have Vr:Hid (W1.heap[w.heap.size+1]?=some (.cells (r9 0).toArray 38 (0,0))∧W1.heap[w.heap.size]?=some (.cells d9 38 (0,0))∧Below w.heap.size w W1∧w.heap.size+2≤W1.heap.size):=⟨Px.out.2.1,Px.out.1,ow.out,by have:=Px.out.2.2;omega⟩
   clear mp hCi Sz
   rw [gn]
   go_wp2_with fail
   go_loopg [9] 9 (fun gk pv wr=>∃ i:Nat,pv=.int .i64 i∧i≤9∧9 - i≤gk∧Hid (wr.heap[w.heap.size+1]?=some (.cells (r9 i).toArray 38 (0,0))∧wr.heap[w.heap.size]?=some (.cells d9 38 (0,0))∧Below w.heap.size w wr∧w.heap.size+2≤wr.heap.size))
   case atStart=>exact ⟨0,rfl,Nat.zero_le _,by omega,Vr⟩
   case round=>
    obtain ⟨i,rfl,jC,fK,HN⟩:=hrel
    by_cases aN:i<9
    ·have hd:decide ((i:Int)<9)=true:=by simp;omega
     have Wu:(i:Int)<9:=by omega
     obtain ⟨eP,tg⟩:∃ eP,(r9 i).toArray[i]?=some eP:=by
      have jI:i<(r9 i).length:=by rw [Mi];omega
      exact ⟨_,by rw [List.getElem?_toArray,List.getElem?_eq_getElem jI]⟩
     have q:=aa HN.out.1 tg
     have qz:∀ k,wr.frozen? ⟨w.heap.size+1,k,none⟩=false:=fun _=>ag HN.out.1
     have eL:Hid ((wr.setCell ⟨w.heap.size+1,i,none⟩ (.int .i64 (dE i))).heap[w.heap.size+1]?=some (.cells (r9 (i+1)).toArray 38 (0,0))∧(wr.setCell ⟨w.heap.size+1,i,none⟩ (.int .i64 (dE i))).heap[w.heap.size]?=some (.cells d9 38 (0,0))∧Below w.heap.size w (wr.setCell ⟨w.heap.size+1,i,none⟩ (.int .i64 (dE i)))∧w.heap.size+2≤(wr.setCell ⟨w.heap.size+1,i,none⟩ (.int .i64 (dE i))).heap.size):=by
      refine ⟨?_,(Below.heap_setCell _ _ _ _ (by show w.heap.size≠w.heap.size+1;omega)).trans HN.out.2.1,HN.out.2.2.1.setCell (by show w.heap.size≤w.heap.size+1;omega) _,by have:=HN.out.2.2.2;simpa using this⟩
      rw [aq HN.out.1,←Mg aN]
      simp
     clear HN tg
     go_wp2_with fail
     refine (km wr i aN).mono ?_
     rintro e w5 ⟨rfl,rfl⟩
     go_wp2
     go_roundg (9 - (i+1))
     case measure=>omega
     case rel=>exact ⟨i+1,by go_num,by omega,Nat.le_refl _,eL⟩
    ·have hd:decide ((i:Int)<9)=false:=by simp;omega
     obtain rfl:i=9:=by omega
     go_wp2
     go_meet
     exact ⟨mY,by rw [←LN];exact HN.out.1,by rw [YE.out];exact GY,HN.out.2⟩
  ·have gn:decide (0≤up)=true:=by simpa using j8
   have Ca:Hid (∀ w1,Below w.heap.size w w1→Calls Tryz.prog 141 #[.pointer (some ⟨d,0,none⟩),.slice aT els.length cT,.int .i64 up] w1 fun e w'=>qI w1 C e w'):=oc
   clear j8 oc Sz
   rw [gn]
   go_wp2_with fail
   refine (Ca.out W1 ow.out).mono ?_
   rintro e w2 ⟨ci,rfl,E8,dp⟩
   have zI:Hid (oo ci C∧w2.heap[w.heap.size+1]?=some (.cells d9 38 (0,0))∧w2.heap[w.heap.size]?=some (.cells d9 38 (0,0))∧Below w.heap.size w w2∧w.heap.size+2≤w2.heap.size):=by
    have hz:=Px.out.2.2
    exact ⟨E8,(dp.block _ (by omega)).trans Px.out.2.1,(dp.block _ (by omega)).trans Px.out.1,ow.out.trans (dp.mono ow.out.size),by have:=dp.size;omega⟩
   have CC:Hid ((Tryz.prog.info? 38).map (·.size)=some ci.toArray.size∧(9:Nat)=ci.toArray.size∧ci.toArray.all (·.oneCell')=true):=⟨by simp only [List.size_toArray,E8.len];exact Tryz.sz38,by simp [E8.len],all_oneCell_toArray E8.one⟩
   clear E8 dp
   go_wp2_with (refine wpList_store_row rfl 38 _ _ rfl (w.heap.size+1) ci.toArray rfl rfl 38 d9 zI.out.2.1 CC.out.1 CC.out.2.1 CC.out.2.2 ?_)
   go_meet
   refine ⟨ci,setRow_heap w2 _ _ _ _ _ zI.out.2.1,zI.out.1,?_,?_,?_⟩
   ·rw [setRow_other w2 _ _ _ (by omega)]
    exact zI.out.2.2.1
   ·exact zI.out.2.2.2.1.trans ⟨rfl,rfl,rfl,by simp,fun k hk=>setRow_other w2 _ _ _ (by omega)⟩
   ·have:=zI.out.2.2.2.2
    simpa using this
 case rest=>
  obtain ⟨ci,HC⟩:=hcut
  clear ow Px Sz
  have hz:=HC.out.2.2.2.2
  have G8:Hid (SB w (wc.alloc (.cells uY.toArray 234)) ci C wc.heap.size (ma Tb none)):=⟨(Below.heap_alloc _ _ _ (by omega)).trans HC.out.1,HC.out.2.1,(Below.heap_alloc _ _ _ (by omega)).trans HC.out.2.2.1,heap_alloc_new wc _,HC.out.2.2.2.1.alloc (by omega) _,by omega,by simp⟩
  go_upto_region 10 with fail
  generalize mq:wc.heap.size=b3 at G8 ⊢
  clear mq hz HC
  go_wp2_with fail
  go_loopg [11] els.length (fun gk iv wr=>∃ i:Nat,iv=.int .i64 i∧i≤els.length∧els.length - i≤gk∧Hid (SB w wr ci C b3 (ma Tb (fH els n i))))
  case atStart=>exact ⟨0,rfl,Nat.zero_le _,by omega,G8⟩
  case round=>
   obtain ⟨i,rfl,jC,fK,HS⟩:=hrel
   have d1:=(HR.out.1.below HS.out.below).c1
   by_cases aN:i<els.length
   ·have hd:decide ((i:Int)<(els.length:Int))=true:=by simp;omega
    have Wu:(i:Int)<(els.length:Int):=by omega
    obtain ⟨gL,Yz,e1⟩:=(HR.out.1.below HS.out.below).at' aN
    subst Yz
    have z0:wr.cell? ⟨els[i].blk,0,none⟩=some (.int .i64 els[i].num):=aa ((HR.out.1.below HS.out.below).el _ (List.getElem_mem aN)) rfl
    have PD:Hid (fH els n (i+1)=if (els[i].num:Int)=n then some i else fH els n i):=by
     unfold Hid
     show (if _ then _ else _)=_
     rw [List.getElem?_eq_getElem aN]
     simp
    generalize els[i]=z at e1 z0 PD
    by_cases hn:(z.num:Int)=n
    ·have gn:((z.num:Int)==n)=true:=by simp [hn]
     have Vm:Hid (fH els n (i+1)=some i):=by unfold Hid;rw [PD.out,if_pos hn]
     obtain ⟨gT,hgT,db,fN⟩:=aH HR.out.2.row (by omega)
     subst hgT
     have Vt:Hid (wr.rangeAt gT (i*9) (mQ Tb i)):=kN HS.out.below db (fun j v hv=>fN _ _ (by
      have hj:j<9:=by have:=(List.getElem?_eq_some_iff.1 hv).1;simpa [mQ] using this
      rw [Av Tb aN hj]
      rw [←hv]
      simp [mQ,hj]))
     have MX:(mQ Tb i).length=9:=by simp [mQ]
     have rZ:Hid ((Tryz.prog.info? 234).map (·.size)=some (mQ Tb i).length∧(Tryz.prog.info? 234).map (·.size)=some (mQ Tb i).toArray.size∧(ma Tb (fH els n i)).toArray.size=(mQ Tb i).toArray.size∧(mQ Tb i).toArray.all (·.oneCell')=true):=by
      refine ⟨by rw [MX];exact Tryz.sz234,by rw [List.size_toArray,MX];exact Tryz.sz234,?_,all_oneCell_toArray (AQ (fun p hp=>HR.out.2.ok i p aN hp)).one⟩
      rw [List.size_toArray,List.size_toArray,MX]
      exact (rN HR.out.2.ok (fun j hj=>by have:=te hj;omega)).len
     have t8:Hid (SB w (wr.setRow b3 (mQ Tb i).toArray) ci C b3 (ma Tb (fH els n (i+1)))):=by
      rw [Vm.out]
      exact HS.out.setWin (mQ Tb i)
     clear fN hn PD MX
     go_wp2_with (first | (refine wpList_load_mid rfl 234 _ rfl gT (i*9) rfl (mQ Tb i) _ Vt.out Tryz.underlying234 rfl rZ.out.1 ?_) | (refine wpList_store_row rfl 234 _ _ rfl b3 (mQ Tb i).toArray rfl rfl 234 (ma Tb (fH els n i)).toArray HS.out.win rZ.out.2.1 rZ.out.2.2.1 rZ.out.2.2.2 ?_))
     go_roundg (els.length - (i+1))
     case measure=>omega
     case rel=>exact ⟨i+1,by go_num,by omega,Nat.le_refl _,t8⟩
    ·have gn:((z.num:Int)==n)=false:=by simp [hn]
     have t8:Hid (SB w wr ci C b3 (ma Tb (fH els n (i+1)))):=by
      rw [PD.out,if_neg hn]
      exact HS.out
     clear hn PD HS
     go_wp2
     go_roundg (els.length - (i+1))
     case measure=>omega
     case rel=>exact ⟨i+1,by go_num,by omega,Nat.le_refl _,t8⟩
   ·have hd:decide ((i:Int)<(els.length:Int))=false:=by simp;omega
    obtain rfl:i=els.length:=by omega
    have ON:Hid (NineL (ma Tb (fH els n els.length)) (yf Tb (fH els n els.length))):=rN HR.out.2.ok (fun j hj=>te hj)
    generalize ma Tb (fH els n els.length)=ws at HS ON
    generalize hWe:yf Tb (fH els n els.length)=W at ON
    have HWE:Hid (yf Tb (fH els n els.length)=W):=hWe
    clear hWe
    have HO0:Hid (SB w (wr.alloc (.cells d9 38)) ci C b3 ws∧(wr.alloc (.cells d9 38)).heap[wr.heap.size]?=some (.cells (qo (ct W C 4) 0).toArray 38 (0,0))∧b3<wr.heap.size∧wr.heap.size<(wr.alloc (.cells d9 38)).heap.size):=⟨HS.out.go ((Below.refl _ _).alloc (Nat.le_refl _) _),heap_alloc_new wr _,HS.out.lt,by simp⟩
    go_upto_region 16 with fail
    generalize wr.heap.size=b4 at HO0 ⊢
    clear d1 HS
    go_wp2_with fail
    go_loopg [13] 9 (fun gk pv wq=>∃ p:Nat,pv=.int .i64 p∧p≤9∧9 - p≤gk∧Hid (SB w wq ci C b3 ws∧wq.heap[b4]?=some (.cells (qo (ct W C 4) p).toArray 38 (0,0))∧b3<b4∧b4<wq.heap.size))
    case atStart=>exact ⟨0,rfl,Nat.zero_le _,by omega,HO0⟩
    case round=>
     obtain ⟨p,rfl,kL,LM,HO⟩:=hrel
     by_cases hpt:p<9
     ·have Bi:decide ((p:Int)<9)=true:=by simp;omega
      have Ye:(p:Int)<9:=by omega
      have rZ:Hid ((Tryz.prog.info? 234).map (·.size)=some ws.length∧(Tryz.prog.info? 38).map (·.size)=some ci.length):=⟨by rw [ON.out.len];exact Tryz.sz234,by rw [HO.out.1.nine.len];exact Tryz.sz38⟩
      go_wp2_with (first | (refine wpList_load_mid rfl 234 _ rfl b3 0 rfl ws _ HO.out.1.range.1 Tryz.underlying234 rfl rZ.out.1 ?_) | (refine wpList_load_mid rfl 38 _ rfl (w.heap.size+1) 0 rfl ci _ HO.out.1.range.2 Tryz.underlying38 rfl rZ.out.2 ?_))
      refine (xT ws ci W C ON.out HO.out.1.nine 3 wr p hpt (FV ON.out.ok hpt)).mono ?_
      rintro e w5 ⟨rfl,ww⟩
      have OQ:Hid (SB w w5 ci C b3 ws∧w5.heap[b4]?=some (.cells (qo (ct W C 4) p).toArray 38 (0,0))∧b3<b4∧b4<w5.heap.size):=⟨HO.out.1.go ww,(ww.block _ HO.out.2.2.2).trans HO.out.2.1,HO.out.2.2.1,by have:=ww.size;have:=HO.out.2.2.2;omega⟩
      clear ww HO
      obtain ⟨eP,tg⟩:∃ eP,(qo (ct W C 4) p).toArray[p]?=some eP:=by
       have jI:p<(qo (ct W C 4) p).length:=by rw [Kz kL];exact hpt
       exact ⟨_,by rw [List.getElem?_toArray,List.getElem?_eq_getElem jI]⟩
      have q:=aa OQ.out.2.1 tg
      have qz:∀ k,w5.frozen? ⟨b4,k,none⟩=false:=fun _=>ag OQ.out.2.1
      have HO6:Hid (SB w (w5.setCell ⟨b4,p,none⟩ (.int .i64 (ct W C 4 p))) ci C b3 ws∧(w5.setCell ⟨b4,p,none⟩ (.int .i64 (ct W C 4 p))).heap[b4]?=some (.cells (qo (ct W C 4) (p+1)).toArray 38 (0,0))∧b3<b4∧b4<(w5.setCell ⟨b4,p,none⟩ (.int .i64 (ct W C 4 p))).heap.size):=by
       refine ⟨OQ.out.1.setOut OQ.out.2.2.1 p _,?_,OQ.out.2.2.1,by have:=OQ.out.2.2.2;simpa using this⟩
       rw [aq OQ.out.2.1,←Kn hpt]
       simp
      clear OQ tg
      generalize ct W C 4 p=vp at HO6 ⊢
      go_wp2
      go_roundg (9 - (p+1))
      case measure=>omega
      case rel=>exact ⟨p+1,by go_num,by omega,Nat.le_refl _,HO6⟩
     ·have Bi:decide ((p:Int)<9)=false:=by simp;omega
      obtain rfl:p=9:=by omega
      rw [Kg] at HO
      have HRO:Hid (wr.rangeAt b4 0 (lX (ct W C 4))):=fun j v hv=>by
       rw [Nat.zero_add,cell_of_row _ _ j _ _ (0,0) HO.out.2.1]
       simpa using hv
      have TR:Hid ((Tryz.prog.info? 38).map (·.size)=some (lX (ct W C 4)).length∧(Tryz.prog.info? 38).map (·.size)=some (lX (ct W C 4)).toArray.size∧(9:Nat)=(lX (ct W C 4)).toArray.size∧(lX (ct W C 4)).toArray.all (·.oneCell')=true):=⟨by rw [iI];exact Tryz.sz38,by rw [List.size_toArray,iI];exact Tryz.sz38,by rw [List.size_toArray,iI],all_oneCell_toArray (AK _).one⟩
      have ri:Hid (qI w (ct W C 4) (.returned (.agg (lX (ct W C 4)).toArray)) (wr.setRow w.heap.size (lX (ct W C 4)).toArray)∧(wr.setRow w.heap.size (lX (ct W C 4)).toArray).heap[w.heap.size]?=some (.cells (lX (ct W C 4)).toArray 38 (0,0))):=by
       refine ⟨⟨_,rfl,AK _,HO.out.1.below.trans ⟨rfl,rfl,rfl,by simp,fun k hk=>setRow_other wr _ _ _ (by omega)⟩⟩,setRow_heap wr _ _ _ _ _ HO.out.1.res⟩
      generalize lX (ct W C 4)=vl at HO HRO TR ri
      go_wp2_with (first | (refine wpList_load_mid rfl 38 _ rfl b4 0 rfl vl _ HRO.out Tryz.underlying38 rfl TR.out.1 ?_) | (refine wpList_store_row rfl 38 _ _ rfl w.heap.size vl.toArray rfl rfl 38 d9 HO.out.1.res TR.out.2.1 TR.out.2.2.1 TR.out.2.2.2 ?_))
      exact bodyPost_ret (v:=.agg vl.toArray) (results_cell_row Tryz.results141 _ _ w.heap.size 38 vl.toArray (0,0) _ rfl ri.out.2 Tryz.underlying38 rfl TR.out.2.1) rfl (by rw [HWE.out];exact ri.out.1)
theorem wl (els:List REl) (Tb:Nat→Nat→ByteArray) (d:Nat) (made:Nat) (hp:Option Addr) (Nv:Value) (aR:Bool) (vL:Value) (vT:Value):∀ (f:Nat) (w:World) (n:Int),RD w d els made hp Nv aR vL→TM w vT els.length Tb→uP els f n→
  Calls Tryz.prog 141 #[.pointer (some ⟨d,0,none⟩),vT,.int .i64 n] w fun e w'=>qI w (jq els Tb f n) e w'
 | 0,w,n,h,hT,hd=>oA els Tb dE w d made hp Nv aR vL n vT h hT (Or.inl ⟨hd,rfl⟩)
 | f+1,w,n,h,hT,hd=>by
  by_cases hn:aJ els n<0
  ·have:=oA els Tb (if aJ els n<0 then dE else jq els Tb f (aJ els n)) w d made hp Nv aR vL n vT h hT (Or.inl ⟨hn,if_pos hn⟩)
   exact this
  ·refine oA els Tb (if aJ els n<0 then dE else jq els Tb f (aJ els n)) w d made hp Nv aR vL n vT h hT (Or.inr ⟨hn,fun w1 hB=>?_⟩)
   rw [if_neg hn]
   exact wl els Tb d made hp Nv aR vL vT f w1 (aJ els n) (h.below hB) ⟨aQ hT.row hB,hT.ok⟩ (hd.resolve_left hn)
end Go.Proofs.YtblfffbmklkhmaaGreat
