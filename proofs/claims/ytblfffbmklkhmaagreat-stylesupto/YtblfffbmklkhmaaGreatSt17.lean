import Derived.Test.YtblfffbmklkhmaaGreatSt16
import Derived.Test.YtblfffbmklkhmaaGreatSt10
namespace Go.Proofs.YtblfffbmklkhmaaGreat
open Go.RowKit
theorem Tryz.infoE:∃ (i:TypeInfo) (z:Value),Tryz.prog.info? 134=some i∧i.zero=some z∧i.size=31∧i.bytes=48∧z.cells.size=31:=by
 have h:(Tryz.prog.info? 134).map (fun i=>(i.zero.map (·.cells.size),i.size,i.bytes))=some (some 31,31,48):=by kernel_rfl
 cases hq:Tryz.prog.info? 134 with
 | none=>rw [hq] at h;cases h
 | some i=>
  rw [hq] at h
  simp only [Option.map_some,Option.some.injEq,Prod.mk.injEq] at h
  cases hz:i.zero with
  | none=>rw [hz] at h;cases h.1
  | some z=>
   rw [hz] at h
   simp only [Option.map_some,Option.some.injEq] at h
   exact ⟨i,z,rfl,hz,h.2.1,h.2.2,h.1⟩
theorem bW {P:Program} {zw:Array Oper} {rest:List Oper} {o:Oper} {a:Act} {w:World} {Q:Exit→Act→World→Prop} (N:Nat) (hN:w.heap.size=N) (hg:o.guard=none) (t e:TypeId) (x:Operand) (ho:o.op=.buildSlice t 1 #[(0,x)]) (c:Array Value) (hx:a.eval x=.agg c) (ie:TypeInfo) (z:Value)
  (hu:P.underlying t=some (.slice e)) (ZV:P.info? e=some ie) (hz:ie.zero=some z) (hs:ie.size=c.size) (j8:0<c.size) (MC:c.size≤1000)
  (h:wpList P zw Q rest (a.put o.dst (.slice (some ⟨N,0,none⟩) 1 1)) (w.alloc (.cells c e))):wpList P zw Q (o :: rest) a w:=by
 subst hN
 exact sq hg t e x ho c hx ie z hu ZV hz hs j8 MC h
section
variable {w:World} {g o:Nat} {cs:List Value} {num:Nat} {par:Int}
theorem ElAt.info (h:ElAt w g o cs num par) {n:Nat} (hn:n=31):n=cs.toArray.size:=by rw [hn];exact h.same
theorem ElAt.pos (h:ElAt w g o cs num par):0<cs.toArray.size:=by rw [←h.same];omega
theorem ElAt.small (h:ElAt w g o cs num par):cs.toArray.size≤1000:=by rw [←h.same];omega
theorem ElAt.len1 (h:ElAt w g o cs num par):cs.length=1*31:=by rw [h.len]
theorem ElAt.keep (h:ElAt w g o cs num par) {w':World} (hk:w'.heap[g]?=w.heap[g]?):ElAt w' g o cs num par:=by
 refine ⟨fun j v hv=>?_,h.len,h.one,h.c0,h.c1⟩
 have:=h.rng j v hv
 unfold World.cell? at this ⊢
 rw [hk]
 exact this
theorem ElAt.new (h:ElAt w g o cs num par) (w':World):ElAt (w'.alloc (.cells cs.toArray 134)) w'.heap.size 0 cs num par:=by
 refine ⟨fun j v hv=>?_,h.len,h.one,h.c0,h.c1⟩
 rw [Nat.zero_add,cell_of_row _ _ j cs.toArray 134 (0,0) (heap_alloc_new w' _)]
 simpa using hv
end
theorem Dp {x:PEl} (h:x.ok) (w':World):ElAt (w'.alloc (.cells x.cells.toArray 134)) w'.heap.size 0 x.cells x.num x.par:=by
 refine ⟨fun j v hv=>?_,h.len,h.one,rfl,rfl⟩
 rw [Nat.zero_add,cell_of_row _ _ j x.cells.toArray 134 (0,0) (heap_alloc_new w' _)]
 simpa using hv
theorem IN (L:List PEl) (x:PEl):fh (L++[x])=fh L++x.cells:=by simp [fh]
def fW (els:List PEl) (place:Nat) (x:PEl) (i:Nat):List PEl:=if place<i then cY (els.take i) place x else els.take i
theorem Ei {els:List PEl} {place i:Nat} (x:PEl) (h:i<els.length):fW els place x (i+1)=(if i=place then fW els place x i++[x] else fW els place x i)++[els[i]]:=by
 unfold fW
 have ht:els.take (i+1)=els.take i++[els[i]]:=List.take_succ_eq_append_getElem h
 have hl:(els.take i).length=i:=by rw [List.length_take];omega
 by_cases h1:i=place
 ·subst h1
  rw [if_pos (Nat.lt_succ_self i),if_pos rfl,if_neg (Nat.lt_irrefl i)]
  unfold cY
  rw [ht,List.take_left' hl,List.drop_left' hl]
 ·rw [if_neg h1]
  by_cases h2:place<i
  ·rw [if_pos (by omega),if_pos h2]
   unfold cY
   rw [ht,List.take_append_of_le_length (by omega),List.drop_append_of_le_length (by omega)]
   simp
  ·rw [if_neg (by omega),if_neg h2,ht]
theorem wI {els:List PEl} {place:Nat} (x:PEl) (h:place<els.length):fW els place x els.length=cY els place x:=by
 unfold fW
 rw [if_pos h,List.take_length]
theorem D9 (els:List PEl) (x:PEl):fW els els.length x els.length++[x]=cY els els.length x:=by
 unfold fW cY
 rw [if_neg (by omega),List.take_length,List.drop_length,List.append_nil]
theorem Hx (els:List PEl) (place:Nat) (x:PEl) (i:Nat):(fW els place x i).length≤els.length+1:=by
 unfold fW
 split
 ·unfold cY
  simp
  omega
 ·rw [List.length_take];omega
def Ax (w:World) (L:List PEl) (e:Ending) (w':World):Prop:=
 ∃ (a:Option Addr) (c:Nat),e=.returned (.slice a L.length c)∧w'.ownsRow w.heap.size 134 31 (.slice a L.length c) L.length (fh L)∧Below w.heap.size w w'
structure WI (ae:Nat) (W wr:World) (v:Value) (L:List PEl):Prop where
 own:wr.ownsRow ae 134 31 v L.length (fh L)
 below:Below ae W wr
theorem WI.app {ae:Nat} {W wr:World} {v:Value} {L:List PEl} (h:WI ae W wr v L) {w2 w3:World} {v3:Value} {x:PEl} (hb:Below ae W w2) (hz:ae≤w2.heap.size) (hg:w2.grownBy w3 v.ownBlock) (ho:w3.ownsRow ae 134 31 v3 (L.length+1) (fh L++x.cells)):WI ae W w3 v3 (L++[x]):=by
 refine ⟨?_,hb.grown hg hz (fun k hk=>(h.own.lt k hk).1)⟩
 rw [IN,List.length_append]
 exact ho
theorem DY {els:List PEl} {place i:Nat} (h:i<els.length):(els.take (i+1)).eraseIdx place=if i=place then (els.take i).eraseIdx place else (els.take i).eraseIdx place++[els[i]]:=by
 have ht:els.take (i+1)=els.take i++[els[i]]:=List.take_succ_eq_append_getElem h
 have hl:(els.take i).length=i:=by rw [List.length_take];omega
 rw [ht]
 by_cases h1:i=place
 ·subst h1
  have h3:(els.take i).eraseIdx i=els.take i:=List.eraseIdx_of_length_le (by omega)
  rw [if_pos rfl,List.eraseIdx_append_of_length_le (by omega),hl,Nat.sub_self,h3]
  simp
 ·rw [if_neg h1]
  by_cases h2:place<i
  ·rw [List.eraseIdx_append_of_lt_length (by omega)]
  ·rw [List.eraseIdx_of_length_le (by simp;omega),List.eraseIdx_of_length_le (by omega)]
end Go.Proofs.YtblfffbmklkhmaaGreat
namespace Go.Proofs.YtblfffbmklkhmaaGreat
open Go.RowKit
set_option maxRecDepth 100000 in
set_option maxHeartbeats 4000000 in
theorem xS (w:World) (v:Value) (els:List PEl) (place:Nat) (x:PEl) (h:PL w v els) (hx:x.ok) (hp:place≤els.length) (bw:els.length≤24) :
  Calls Tryz.prog 112 #[v,.int .i64 place,.agg x.cells.toArray] w fun e w'=>Ax w (cY els place x) e w':=by
 obtain ⟨i0,z0,hi,iz,is,ib,G6⟩:=Tryz.infoE
 obtain ⟨a,c,hv⟩:=h.shape
 subst hv
 have HP:Hid (PL w (.slice a els.length c) els):=h
 have HX:Hid (ElAt (w.alloc (.cells x.cells.toArray 134)) w.heap.size 0 x.cells x.num x.par):=Dp hx w
 clear h hx
 obtain ⟨cx,YM⟩:∃ cx,x.cells=cx:=⟨_,rfl⟩
 have HCX:Hid (x.cells=cx):=YM
 rw [YM] at HX ⊢
 clear YM
 have ES:Hid (WI (w.heap.size+1) (w.alloc (.cells cx.toArray 134)) (w.alloc (.cells cx.toArray 134)) (.slice none 0 0) (fW els place x 0)):=⟨World.ownsRow_nil _ _ _ _,Below.refl _ _⟩
 go_enter Tryz.func112,Tryz.ntmps112
 go_wp2_with fail
 go_loopg [7,12] els.length (fun gk v iv wr=>∃ i:Nat,iv=.int .i64 i∧i≤els.length∧els.length - i≤gk∧Hid (WI (w.heap.size+1) (w.alloc (.cells cx.toArray 134)) wr v (fW els place x i)))
 case atStart=>exact ⟨0,rfl,Nat.zero_le _,by omega,ES⟩
 case round=>
  obtain ⟨i,rfl,jC,fK,HN⟩:=hrel
  obtain ⟨a2,c2,jr⟩:=au HN.out.own
  subst jr
  have EA:=Hx els place x i
  have iS:w.heap.size+1≤wr.heap.size:=by have:=HN.out.below.size;simpa using this
  have IOq:Hid (ElAt wr w.heap.size 0 cx x.num x.par):=HX.out.below HN.out.below (Nat.lt_succ_self _)
  by_cases aN:i<els.length
  ·have hd:decide ((i:Int)<(els.length:Int))=true:=by simp;omega
   obtain ⟨g,hg,db,he⟩:=HP.out.el aN
   subst hg
   have HE:Hid (ElAt wr g (i*31) els[i].cells els[i].num els[i].par):=(he.below ((Below.refl _ _).alloc (Nat.le_refl _) (.cells cx.toArray 134)) db).below HN.out.below (Nat.lt_succ_of_lt db)
   have gA:Hid (fW els place x (i+1)=(if i=place then fW els place x i++[x] else fW els place x i)++[els[i]]):=Ei x aN
   clear he
   generalize els[i]=y at HE gA
   obtain ⟨cs,jy⟩:∃ cs,y.cells=cs:=⟨_,rfl⟩
   have PO:Hid (y.cells=cs):=jy
   rw [jy] at HE
   clear jy
   generalize fW els place x i=L at HN gA EA ⊢
   have yV:Hid (ElAt (wr.alloc (.cells cs.toArray 134)) w.heap.size 0 cx x.num x.par):=IOq.out.keep (Below.heap_alloc _ _ _ (by omega))
   have jo:Hid (ElAt (wr.alloc (.cells cs.toArray 134)) wr.heap.size 0 cs y.num y.par):=HE.out.new wr
   by_cases nZ:i=place
   ·have gi:((i:Int)==(place:Int))=true:=by simp [nZ]
    have fD:Hid (fW els place x (i+1)=L++[x]++[y]):=by unfold Hid;rw [gA.out,if_pos nZ]
    clear nZ gA
    go_wp2_with (first | (refine wpList_load_mid rfl 134 _ rfl g (i*31) rfl cs _ HE.out.rng Tryz.underlying134 rfl HE.out.size ?_) | (refine aw rfl 134 _ _ rfl _ cs.toArray 134 rfl rfl HE.out.size' HE.out.same HE.out.all ?_) | (refine wpList_load_mid rfl 134 _ rfl (w.heap.size) (0) rfl cx _ yV.out.rng Tryz.underlying134 rfl yV.out.size ?_) | (refine bW (wr.heap.size+1) (by simp) rfl 83 134 _ rfl cx.toArray rfl i0 z0 Tryz.underlying83 hi iz (yV.out.info is) (yV.out.pos) (yV.out.small) ?_) | (at_builtin;refine wpList_append_own _ rfl (.tmp 20) (.tmp 22) 83 rfl (w.heap.size+1) 134 i0 z0 31 48 Tryz.underlying83 hi iz is ib G6 (by decide) _ _ _ rfl ((HN.out.own.alloc _).alloc _) ⟨wr.heap.size+1,0,none⟩ 1 1 cx rfl yV.out.len1 ?c1 yV.out.one ?c3 ?c4 ?c5 ?_))
    case c1=>exact aO (wr.alloc _) _ (by simp) _ _ _ (by simp)
    case c3=>unfold maxLen;omega
    case c4=>omega
    case c5=>simp;omega
    intro v3 w3 bg eJ _
    have T4:Hid (WI (w.heap.size+1) (w.alloc (.cells cx.toArray 134)) w3 v3 (L++[x])):=HN.out.app ((HN.out.below.alloc iS _).alloc (by simp;omega) _) (by simp;omega) eJ (by rw [HCX.out];exact bg)
    have EK:wr.heap.size+2≤w3.heap.size:=by have:=eJ.size;simpa using this
    have iB:Hid (ElAt w3 wr.heap.size 0 cs y.num y.par):=by
     refine jo.out.keep ((eJ.block wr.heap.size (by simp;omega) (fun e=>?_)).trans (Below.heap_alloc _ _ _ (by simp)))
     have:=(HN.out.own.lt wr.heap.size e.symm).2
     omega
    have hl3:(L++[x]).length≤L.length+1:=by simp
    clear bg eJ HN yV jo IOq HE
    obtain ⟨a3,c3,A6⟩:=au T4.out.own
    subst A6
    generalize L++[x]=L3 at T4 fD hl3 ⊢
    go_wp2_with (first | (refine wpList_load_mid rfl 134 _ rfl (wr.heap.size) (0) rfl cs _ iB.out.rng Tryz.underlying134 rfl iB.out.size ?_) | (refine bW w3.heap.size rfl rfl 83 134 _ rfl cs.toArray rfl i0 z0 Tryz.underlying83 hi iz (iB.out.info is) (iB.out.pos) (iB.out.small) ?_) | (at_builtin;refine wpList_append_own _ rfl (.tmp 24) (.tmp 26) 83 rfl (w.heap.size+1) 134 i0 z0 31 48 Tryz.underlying83 hi iz is ib G6 (by decide) _ _ _ rfl (T4.out.own.alloc _) ⟨w3.heap.size,0,none⟩ 1 1 cs rfl iB.out.len1 ?c1 iB.out.one ?c3 ?c4 ?c5 ?_))
    case c1=>exact aO w3 _ rfl _ _ _ (by simp)
    case c3=>unfold maxLen;omega
    case c4=>omega
    case c5=>simp;omega
    intro v5 w5 cX kG _
    have vk:Hid (WI (w.heap.size+1) (w.alloc (.cells cx.toArray 134)) w5 v5 (fW els place x (i+1))):=by
     rw [fD.out]
     exact T4.out.app (T4.out.below.alloc (by omega) _) (by simp;omega) kG (by rw [PO.out];exact cX)
    clear cX kG T4 iB
    go_wp2
    go_roundg (els.length - (i+1))
    case measure=>omega
    case rel=>exact ⟨i+1,by go_num,by omega,Nat.le_refl _,vk⟩
   ·have gi:((i:Int)==(place:Int))=false:=by rw [beq_eq_false_iff_ne];omega
    have fD:Hid (fW els place x (i+1)=L++[y]):=by unfold Hid;rw [gA.out,if_neg nZ]
    clear nZ gA
    go_wp2_with (first | (refine wpList_load_mid rfl 134 _ rfl g (i*31) rfl cs _ HE.out.rng Tryz.underlying134 rfl HE.out.size ?_) | (refine aw rfl 134 _ _ rfl _ cs.toArray 134 rfl rfl HE.out.size' HE.out.same HE.out.all ?_) | (refine wpList_load_mid rfl 134 _ rfl (wr.heap.size) (0) rfl cs _ jo.out.rng Tryz.underlying134 rfl jo.out.size ?_) | (refine bW (wr.heap.size+1) (by simp) rfl 83 134 _ rfl cs.toArray rfl i0 z0 Tryz.underlying83 hi iz (jo.out.info is) (jo.out.pos) (jo.out.small) ?_) | (at_builtin;refine wpList_append_own _ rfl (.tmp 24) (.tmp 26) 83 rfl (w.heap.size+1) 134 i0 z0 31 48 Tryz.underlying83 hi iz is ib G6 (by decide) _ _ _ rfl ((HN.out.own.alloc _).alloc _) ⟨wr.heap.size+1,0,none⟩ 1 1 cs rfl jo.out.len1 ?c1 jo.out.one ?c3 ?c4 ?c5 ?_))
    case c1=>exact aO (wr.alloc _) _ (by simp) _ _ _ (by simp)
    case c3=>unfold maxLen;omega
    case c4=>omega
    case c5=>simp;omega
    intro v5 w5 cX kG _
    have vk:Hid (WI (w.heap.size+1) (w.alloc (.cells cx.toArray 134)) w5 v5 (fW els place x (i+1))):=by
     rw [fD.out]
     exact HN.out.app ((HN.out.below.alloc iS _).alloc (by simp;omega) _) (by simp;omega) kG (by rw [PO.out];exact cX)
    clear cX kG HN yV jo IOq HE
    go_wp2
    go_roundg (els.length - (i+1))
    case measure=>omega
    case rel=>exact ⟨i+1,by go_num,by omega,Nat.le_refl _,vk⟩
  ·have hd:decide ((i:Int)<(els.length:Int))=false:=by simp;omega
   obtain rfl:i=els.length:=by omega
   have A2:Hid (∀ w3,Below (w.heap.size+1) (w.alloc (.cells cx.toArray 134)) w3→Below w.heap.size w w3):=fun w3 hb=>((Below.refl w.heap.size w).alloc (Nat.le_refl _) _).trans (hb.mono (Nat.le_succ _))
   by_cases kL:place=els.length
   ·have gp:((place:Int)==(els.length:Int))=true:=by simp [kL]
    have ri:Hid (fW els place x els.length++[x]=cY els place x):=by rw [kL];exact D9 els x
    clear kL
    generalize fW els place x els.length=L at HN ri EA ⊢
    go_wp2_with (first | (refine wpList_load_mid rfl 134 _ rfl (w.heap.size) (0) rfl cx _ IOq.out.rng Tryz.underlying134 rfl IOq.out.size ?_) | (refine bW wr.heap.size rfl rfl 83 134 _ rfl cx.toArray rfl i0 z0 Tryz.underlying83 hi iz (IOq.out.info is) (IOq.out.pos) (IOq.out.small) ?_) | (at_builtin;refine wpList_append_own _ rfl (.tmp 33) (.tmp 35) 83 rfl (w.heap.size+1) 134 i0 z0 31 48 Tryz.underlying83 hi iz is ib G6 (by decide) _ _ _ rfl (HN.out.own.alloc _) ⟨wr.heap.size,0,none⟩ 1 1 cx rfl IOq.out.len1 ?c1 IOq.out.one ?c3 ?c4 ?c5 ?_))
    case c1=>exact aO wr _ rfl _ _ _ (by simp)
    case c3=>unfold maxLen;omega
    case c4=>omega
    case c5=>simp;omega
    intro v5 w5 cX kG _
    have vk:Hid (WI (w.heap.size+1) (w.alloc (.cells cx.toArray 134)) w5 v5 (cY els place x)):=by
     rw [←ri.out]
     exact HN.out.app (HN.out.below.alloc iS _) (by simp;omega) kG (by rw [HCX.out];exact cX)
    clear cX kG HN IOq
    obtain ⟨a5,c5,OM⟩:=au vk.out.own
    subst OM
    go_wp2
    go_ret
    exact ⟨a5,c5,rfl,aG vk.out.own (Nat.le_succ _),A2.out _ vk.out.below⟩
   ·have gp:((place:Int)==(els.length:Int))=false:=by rw [beq_eq_false_iff_ne];omega
    have vk:Hid (WI (w.heap.size+1) (w.alloc (.cells cx.toArray 134)) wr (.slice a2 (cY els place x).length c2) (cY els place x)):=by
     have:=HN.out
     rw [wI x (by omega)] at this
     exact this
    rw [wI x (by omega)]
    clear kL HN IOq
    go_wp2
    go_ret
    exact ⟨a2,c2,rfl,aG vk.out.own (Nat.le_succ _),A2.out _ vk.out.below⟩
end Go.Proofs.YtblfffbmklkhmaaGreat
namespace Go.Proofs.YtblfffbmklkhmaaGreat
open Go.RowKit
set_option maxRecDepth 100000 in
set_option maxHeartbeats 4000000 in
theorem zp (w:World) (v:Value) (els:List PEl) (place:Nat) (h:PL w v els) (bw:els.length≤24) :
  Calls Tryz.prog 176 #[v,.int .i64 place] w fun e w'=>Ax w (els.eraseIdx place) e w':=by
 obtain ⟨i0,z0,hi,iz,is,ib,G6⟩:=Tryz.infoE
 obtain ⟨a,c,hv⟩:=h.shape
 subst hv
 have HP:Hid (PL w (.slice a els.length c) els):=h
 clear h
 have ES:Hid (WI w.heap.size w w (.slice none 0 0) ((els.take 0).eraseIdx place)):=⟨World.ownsRow_nil _ _ _ _,Below.refl _ _⟩
 go_enter Tryz.func176,Tryz.ntmps176
 go_wp2_with fail
 go_loopg [5,10] els.length (fun gk v iv wr=>∃ i:Nat,iv=.int .i64 i∧i≤els.length∧els.length - i≤gk∧Hid (WI w.heap.size w wr v ((els.take i).eraseIdx place)))
 case atStart=>exact ⟨0,rfl,Nat.zero_le _,by omega,ES⟩
 case round=>
  obtain ⟨i,rfl,jC,fK,HN⟩:=hrel
  obtain ⟨a2,c2,jr⟩:=au HN.out.own
  subst jr
  have EA:((els.take i).eraseIdx place).length≤24:=by
   have h1:=List.length_eraseIdx_le (els.take i) place
   have h2:(els.take i).length≤els.length:=List.length_take_le' _ _
   omega
  have iS:=HN.out.below.size
  by_cases aN:i<els.length
  ·have hd:decide ((i:Int)<(els.length:Int))=true:=by simp;omega
   obtain ⟨g,hg,db,he⟩:=HP.out.el aN
   subst hg
   have HE:Hid (ElAt wr g (i*31) els[i].cells els[i].num els[i].par):=he.below HN.out.below db
   have gA:Hid ((els.take (i+1)).eraseIdx place=if i=place then (els.take i).eraseIdx place else (els.take i).eraseIdx place++[els[i]]):=DY aN
   clear he
   generalize els[i]=y at HE gA
   obtain ⟨cs,jy⟩:∃ cs,y.cells=cs:=⟨_,rfl⟩
   have PO:Hid (y.cells=cs):=jy
   rw [jy] at HE
   clear jy
   generalize (els.take i).eraseIdx place=L at HN gA EA ⊢
   have jo:Hid (ElAt (wr.alloc (.cells cs.toArray 134)) wr.heap.size 0 cs y.num y.par):=HE.out.new wr
   by_cases nZ:i=place
   ·have gi:((i:Int) != (place:Int))=false:=by simp [nZ]
    have vk:Hid (WI w.heap.size w (wr.alloc (.cells cs.toArray 134)) (.slice a2 L.length c2) ((els.take (i+1)).eraseIdx place)):=by
     rw [gA.out,if_pos nZ]
     exact ⟨HN.out.own.alloc _,HN.out.below.alloc iS _⟩
    clear nZ gA
    go_wp2_with (first | (refine wpList_load_mid rfl 134 _ rfl g (i*31) rfl cs _ HE.out.rng Tryz.underlying134 rfl HE.out.size ?_) | (refine aw rfl 134 _ _ rfl _ cs.toArray 134 rfl rfl HE.out.size' HE.out.same HE.out.all ?_))
    go_roundg (els.length - (i+1))
    case measure=>omega
    case rel=>exact ⟨i+1,by go_num,by omega,Nat.le_refl _,vk⟩
   ·have gi:((i:Int) != (place:Int))=true:=by rw [bne_iff_ne];omega
    have fD:Hid ((els.take (i+1)).eraseIdx place=L++[y]):=by unfold Hid;rw [gA.out,if_neg nZ]
    clear nZ gA
    go_wp2_with (first | (refine wpList_load_mid rfl 134 _ rfl g (i*31) rfl cs _ HE.out.rng Tryz.underlying134 rfl HE.out.size ?_) | (refine aw rfl 134 _ _ rfl _ cs.toArray 134 rfl rfl HE.out.size' HE.out.same HE.out.all ?_) | (refine wpList_load_mid rfl 134 _ rfl (wr.heap.size) (0) rfl cs _ jo.out.rng Tryz.underlying134 rfl jo.out.size ?_) | (refine bW (wr.heap.size+1) (by simp) rfl 83 134 _ rfl cs.toArray rfl i0 z0 Tryz.underlying83 hi iz (jo.out.info is) (jo.out.pos) (jo.out.small) ?_) | (at_builtin;refine wpList_append_own _ rfl (.tmp 18) (.tmp 20) 83 rfl (w.heap.size) 134 i0 z0 31 48 Tryz.underlying83 hi iz is ib G6 (by decide) _ _ _ rfl ((HN.out.own.alloc _).alloc _) ⟨wr.heap.size+1,0,none⟩ 1 1 cs rfl jo.out.len1 ?c1 jo.out.one ?c3 ?c4 ?c5 ?_))
    case c1=>exact aO (wr.alloc _) _ (by simp) _ _ _ (by simp)
    case c3=>unfold maxLen;omega
    case c4=>omega
    case c5=>simp;omega
    intro v5 w5 cX kG _
    have vk:Hid (WI w.heap.size w w5 v5 ((els.take (i+1)).eraseIdx place)):=by
     rw [fD.out]
     exact HN.out.app ((HN.out.below.alloc iS _).alloc (by simp;omega) _) (by simp;omega) kG (by rw [PO.out];exact cX)
    clear cX kG HN jo HE
    go_wp2
    go_roundg (els.length - (i+1))
    case measure=>omega
    case rel=>exact ⟨i+1,by go_num,by omega,Nat.le_refl _,vk⟩
  ·have hd:decide ((i:Int)<(els.length:Int))=false:=by simp;omega
   obtain rfl:i=els.length:=by omega
   rw [List.take_length] at HN ⊢
   go_wp2
   go_ret
   exact ⟨a2,c2,rfl,HN.out.own,HN.out.below⟩
end Go.Proofs.YtblfffbmklkhmaaGreat
namespace Go.Proofs.YtblfffbmklkhmaaGreat
open Go.RowKit
def je (e:PEl):Int:=match (e.rest[0]?:Option Value) with | some (.int .u8 k)=>k | _=>0
def dT (e:PEl) (i:Nat):Bool:=match (e.rest[1+i]?:Option Value) with | some (.bool b)=>b | _=>false
def iA (e:PEl):Int:=match (e.rest[27]?:Option Value) with | some (.int .u8 k)=>k | _=>0
structure Shp (e:PEl):Prop where
 kind:∃ k,e.rest[0]?=some (.int .u8 k)
 cls:∀ i,i<26→∃ b,e.rest[1+i]?=some (.bool b)
 name:∃ k,e.rest[27]?=some (.int .u8 k)
 shown:∃ b,e.rest[28]?=some (.bool b)
theorem Shp.kd {e:PEl} (h:Shp e):e.cells[2]?=some (.int .u8 (je e)):=by
 obtain ⟨k,hk⟩:=h.kind
 unfold je PEl.cells
 rw [hk]
 exact hk
theorem Shp.cl {e:PEl} (h:Shp e) {i:Nat} (hi:i<26):e.cells[3+i]?=some (.bool (dT e i)):=by
 obtain ⟨b,hb⟩:=h.cls i hi
 unfold dT PEl.cells
 rw [hb,show 3+i=(1+i)+1+1 from by omega,List.getElem?_cons_succ,List.getElem?_cons_succ]
 exact hb
theorem Shp.nm {e:PEl} (h:Shp e):e.cells[29]?=some (.int .u8 (iA e)):=by
 obtain ⟨k,hk⟩:=h.name
 unfold iA PEl.cells
 rw [hk]
 exact hk
structure Mk where
 kd:Int
 cl:Nat→Bool
 nm:Int
def PN (els:List PEl) (M:Nat→Mk):Prop:=∀ x∈els,je x=(M x.num).kd∧(∀ i,i<26→dT x i=(M x.num).cl i)∧iA x=(M x.num).nm
def bQ (M:Nat→Mk) (k:Nat) (m:Mk):Nat→Mk:=fun j=>if j=k then m else M j
def dK (kind:ByteArray):Mk:=⟨bt kind 0,fun _=>false,0⟩
def jz (m:Mk) (s:ByteArray) (on:Bool):Mk:=⟨m.kd,fun i=>if i+97=bt s 0 then on else m.cl i,m.nm⟩
def fy (m:Mk) (s:ByteArray):Mk:=⟨m.kd,m.cl,if s.size=0 then 0 else bt s 0⟩
def MkO (els:List PEl) (M:Nat→Mk):Prop:=PN els M∧∀ x∈els,Shp x
theorem MkO.sub {els bm:List PEl} {M:Nat→Mk} (h:MkO els M) (hs:∀ x∈bm,x∈els):MkO bm M:=⟨fun x hx=>h.1 x (hs x hx),fun x hx=>h.2 x (hs x hx)⟩
theorem MkO.ext {els:List PEl} {M M':Nat→Mk} (h:MkO els M) (hm:∀ x∈els,M x.num=M' x.num):MkO els M':=⟨fun x hx=>by rw [←hm x hx];exact h.1 x hx,h.2⟩
theorem MkO.more {els:List PEl} {M:Nat→Mk} (h:MkO els M) {x:PEl} {m:Mk} (place:Nat) (hx:Shp x) (hm:je x=m.kd∧(∀ i,i<26→dT x i=m.cl i)∧iA x=m.nm) (hn:∀ e∈els,e.num≠x.num):MkO (cY els place x) (bQ M x.num m):=by
 refine ⟨fun e he=>?_,fun e he=>?_⟩
 ·unfold bQ
  rcases eD.1 he with rfl | he
  ·rw [if_pos rfl];exact hm
  ·rw [if_neg (hn e he)];exact h.1 e he
 ·rcases eD.1 he with rfl | he
  ·exact hx
  ·exact h.2 e he
def dn (els:List PEl) (e l:Int):Bool:=match bU els e with | some x=>je x==l | none=>false
def dC (els:List PEl) (e l:Int):Bool:=match bU els e with | some x=>if 97≤l∧l≤122 then dT x (l - 97).toNat else false | none=>false
def eW (els:List PEl) (e l:Int):Bool:=match bU els e with | some x=>iA x==l | none=>false
def bp (els:List PEl):Nat→Int→List Int
 | 0,_=>[]
 | k+1,e=>if parP els e=-1 then [] else parP els e :: bp els k (parP els e)
def ee (els:List PEl) (i:Nat) (par:Int):List Int:=(((els.take i).filter fun y=>decide (y.par=par)).map fun y=>(y.num:Int)).reverse
def kO (els:List PEl) (e:Int):Nat:=els.findIdx fun y=>decide ((y.num:Int)=e)
def bJ (els:List PEl) (e:Int):List Int:=match bU els e with | some x=>ee els (kO els e) x.par | none=>[]
def jg (els:List PEl) (e:Int):Bool:=match bU els e with | some x=>(els.drop (kO els e+1)).all fun y=>decide (¬ y.par=x.par) | none=>false
def f9 (els:List PEl) (e:Int):Bool:=(els.all fun y=>decide (¬ y.par=e))&&(bU els e).isSome
theorem oJ {els:List PEl} (hn:(els.map PEl.num).Nodup) {i:Nat} {x:PEl} (hx:els[i]?=some x):kO els x.num=i:=by
 obtain ⟨hi,he⟩:=List.getElem?_eq_some_iff.1 hx
 unfold kO
 rw [List.findIdx_eq hi]
 refine ⟨by rw [he];simp,fun j hj=>?_⟩
 rw [decide_eq_false_iff_not]
 intro h
 refine List.pairwise_iff_getElem.1 hn j i (by simp;omega) (by simpa using hi) hj ?_
 simp only [List.getElem_map]
 rw [he]
 omega
def ld (place step start:Int):Bool:=if step≤0∨place<start then place==start else (place - start) % step==0
def cU (els:List PEl) (p:PPt) (e:Int):Bool:=
 if p.kd=1 then dn els e p.lt else if p.kd=2 then dC els e p.lt else if p.kd=3 then eW els e p.lt
 else if p.kd=4 then decide (((bJ els e).length:Int)+1=1) else if p.kd=5 then jg els e else if p.kd=6 then f9 els e
 else if p.kd=7 then ld (((bJ els e).length:Int)+1) p.st p.sr else false
def fG (els:List PEl) (c:cO) (e:Int):Bool:=(c.ty==0||dn els e c.ty)&&c.ps.all fun p=>cU els p e != p.nt
def cK (els:List PEl) (sg e:Int):List Int:=
 if sg=32 then bp els els.length e else if sg=62 then (bp els els.length e).take 1 else if sg=126 then bJ els e else if sg=43 then (bJ els e).take 1 else []
def di (els:List PEl):List cO→Int→Bool
 | [],_=>false
 | [c],e=>fG els c e
 | c :: d :: r,e=>fG els c e&&(cK els c.sg e).any (di els (d :: r))
def qE (els:List PEl) (cs:List cO) (e:Int):Bool:=di els cs.reverse e
structure Clm where
 th:Bool
 im:Bool
 ly:Int
 wt:Int
 kd:Int
 nu:Int
 va:Int
def Clm.cells (c:Clm):List Value:=[.bool c.th,.bool c.im,.int .i64 c.ly,.int .i64 c.wt,.int .i64 c.kd,.int .i64 c.nu,.int .u8 c.va]
def Clm.none:Clm:=⟨false,false,0,0,0,0,0⟩
def fX (c d:Clm):Bool:=
 if d.th=false then true else if c.im≠d.im then c.im else if c.ly≠d.ly then decide (c.ly<d.ly)==c.im else decide (d.wt≤c.wt)
def bj (p:Int):Option Nat:=if 65≤p∧p<71 then some (p - 65).toNat else if 88≤p∧p<91 then some (6+(p - 88).toNat) else none
theorem kw {p:Int} {k:Nat} (h:bj p=some k):k<9:=by
 unfold bj at h
 split at h
 ·injection h with h;omega
 ·split at h
  ·injection h with h;omega
  ·cases h
def kB (ly wt:Int) (d:PDc):Clm:=⟨true,d.im,ly,wt,d.kd,d.nu,d.va⟩
def dL (ly wt:Int) (W:List Clm) (d:PDc):List Clm:=match bj d.pr with | some k=>if fX (kB ly wt d) (W.getD k Clm.none) then W.set k (kB ly wt d) else W | none=>W
def Cy (W:List Clm) (r:cQ) (wt:Int):List Clm:=r.ds.foldl (dL r.ly wt) W
theorem xA (ly wt:Int) (W:List Clm) (d:PDc):(dL ly wt W d).length=W.length:=by
 unfold dL
 split
 ·split
  ·rw [List.length_set]
  ·rfl
 ·rfl
def eZ (els:List PEl) (e:Int) (a:Int × Bool) (cs:List cO):Int × Bool:=if qE els cs e then (max a.1 ((vq cs:Nat):Int),true) else a
def dJ (els:List PEl) (e:Int) (ss:List (List cO)):Int × Bool:=ss.foldl (eZ els e) (0,false)
def jQ (els:List PEl) (e:Int) (W:List Clm) (r:cQ):List Clm:=if (dJ els e r.ss).2 then Cy W r (dJ els e r.ss).1 else W
def bc (els:List PEl) (rs:List cQ) (e:Int):List Clm:=rs.foldl (jQ els e) (List.replicate 9 Clm.none)
def dO:List Int:=[1,2,3,4,5,6,0,0,0]
def kW (p:Nat):Bool:=decide (p<3∨6≤p)
def bA (W:List Clm) (p:Nat):Option Nat:=if (W.getD p Clm.none).kd=5 then bj (W.getD p Clm.none).va else Option.none
def ix (W:List Clm) (start:Nat):Nat→Option Nat→Bool
 | 0,_=>false
 | k+1,q=>match q with | Option.none=>false | some p=>if p=start then true else ix W start k (bA W p)
def bH (W:List Clm) (p:Nat) (comes:List Int):Int:=
 if (W.getD p Clm.none).kd=1 then (W.getD p Clm.none).nu else if (W.getD p Clm.none).kd=2 then comes.getD p 0 else if (W.getD p Clm.none).kd=3 then dO.getD p 0 else if kW p then comes.getD p 0 else dO.getD p 0
def cV (W:List Clm) (comes:List Int):Nat→Nat→Int
 | 0,p=>comes.getD p 0
 | k+1,p=>if ix W p 3 (bA W p) then comes.getD p 0 else match bA W p with | Option.none=>bH W p comes | some q=>cV W comes k q
def Eu (els:List PEl) (rs:List cQ) (e:Int) (comes:List Int):List Int:=(List.range 9).map fun p=>cV (bc els rs e) comes 9 p
end Go.Proofs.YtblfffbmklkhmaaGreat
