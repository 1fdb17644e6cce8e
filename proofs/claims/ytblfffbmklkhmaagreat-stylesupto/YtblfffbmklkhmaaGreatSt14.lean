import Derived.Test.YtblfffbmklkhmaaGreatSt13
import Derived.Test.YtblfffbmklkhmaaGreatSt11
namespace Go.Proofs.YtblfffbmklkhmaaGreat
open Go.RowKit
def Drew (w w':World):Prop:=∃ k,w'=w.drewN k
theorem Drew.below {w w':World} (h:Drew w w'):Below w.heap.size w w':=by
 obtain ⟨k,rfl⟩:=h
 exact cJ w k
theorem jJ {w w':World} (h:Drew w w') (n:Nat):Drew w (w'.drewN n):=by
 obtain ⟨k,rfl⟩:=h
 exact ⟨k+n,by rw [World.drewN_drewN]⟩
set_option maxRecDepth 100000 in
set_option maxHeartbeats 4000000 in
theorem KB (w:World) (a a':Option Addr) (c c':Nat) (l:List Nat) (ho:w.ownsRow 0 3 1 (.slice a l.length c) l.length (aK l)) (So:w.ownsRow 0 3 1 (.slice a' l.length c') l.length (aK l)) (hl:l.length≤24) :
  Calls Tryz.prog 94 #[.slice a l.length c,.slice a' l.length c'] w fun e w'=>e=.returned (.bool true)∧Drew w w':=by
 have HO:Hid (w.ownsRow 0 3 1 (.slice a l.length c) l.length (aK l)):=ho
 have HO':Hid (w.ownsRow 0 3 1 (.slice a' l.length c') l.length (aK l)):=So
 clear ho So
 go_enter Tryz.func94,Tryz.ntmps94
 go_wp2
 go_loopg [5] l.length (fun gk iv wr=>∃ i:Nat,iv=.int .i64 i∧i≤l.length∧l.length - i≤gk∧Drew w wr)
 case atStart=>exact ⟨0,rfl,Nat.zero_le _,by omega,0,rfl⟩
 case round=>
  obtain ⟨i,rfl,jC,fK,Y7⟩:=hrel
  have hD:Hid (Drew w wr):=Y7
  have EE:=Y7.below
  clear Y7
  by_cases aN:i<l.length
  ·have hd:decide ((i:Int)<(l.length:Int))=true:=by simp;omega
   obtain ⟨g,hg,db,hc⟩:=aH HO.out (by omega)
   subst hg
   have q:=(EE.cell (p:=⟨g,i,none⟩) db).trans <| hc i (.int .i64 ((l[i]:Nat):Int)) (by simp [aN])
   clear hc
   obtain ⟨g',vw,RS,MB⟩:=aH HO'.out (by omega)
   subst vw
   have q':=(EE.cell (p:=⟨g',i,none⟩) RS).trans <| MB i (.int .i64 ((l[i]:Nat):Int)) (by simp [aN])
   clear MB
   go_upto_region 6 with fail
   go_quiet (fail)
   go_wp2
   go_roundg (l.length - (i+1))
   case measure=>omega
   case rel=>exact ⟨i+1,by go_num,by omega,Nat.le_refl _,jJ hD.out nq⟩
  ·have hd:decide ((i:Int)<(l.length:Int))=false:=by simp;omega
   go_wp2
   go_ret
   exact ⟨rfl,hD.out⟩
end Go.Proofs.YtblfffbmklkhmaaGreat
namespace Go.Proofs.YtblfffbmklkhmaaGreat
open Go.RowKit
def Stays (u:Value) (w w':World):Prop:=∀ p,w.cell? p=some u→w'.cell? p=some u
theorem Stays.trans {u:Value} {a b c:World} (h:Stays u a b) (k:Stays u b c):Stays u a c:=fun p hp=>k p (h p hp)
theorem lG {u:Value} {w w':World} (h:∀ k,k<w.heap.size→w'.heap[k]?=w.heap[k]?):Stays u w w':=by
 intro p hp
 have aN:p.block<w.heap.size:=by
  unfold World.cell? at hp
  cases hb:w.heap[p.block]? with
  | none=>rw [hb] at hp;simp at hp
  | some o=>exact (Array.getElem?_eq_some_iff.1 hb).1
 unfold World.cell? at hp ⊢
 rw [h _ aN]
 exact hp
theorem qQ {P:Program} (w:World) (ae:Nat) (t ty e:TypeId) (i:TypeInfo) (z:Value) (bytes:Nat) (ht:P.underlying t=some (.slice e)) (hi:P.info? e=some i) (hz:i.zero=some z)
  (kj:i.size=1) (MG:i.bytes=bytes) (OV:z.cells.size=1) (v:Value) (n:Nat) (xs:List Value) (bL:w.ownsRow ae e 1 v n xs)
  (a:Addr) (m c:Nat) (u:Value) (og:∀ j,j<m→w.cell? (a.add j)=some u) (h1:u.oneCell'=true)
  (MN:n+m≤maxLen) (kE:(n+m)*bytes≤140737488355328) (tI:ae≤w.heap.size) :
  ∃ v' w',(Builtin.append_ #[t,t] ty #[v,.slice (some a) m c]).run P w=.ok v' w'∧w'.ownsRow ae e 1 v' (n+m) (xs++List.replicate m u)∧w.grownBy w' v.ownBlock∧(∀ j,v'.ownBlock=some j→v.ownBlock=some j∨w.heap.size≤j)∧w'.ownsRow ae e 1 v n xs∧Stays u w w':=by
 have hl:(List.replicate m u).length=m*1:=by simp
 have Ds:∀ j x,(List.replicate m u)[j]?=some x→w.cell? (a.add j)=some x:=fun j x hx=>by
  obtain ⟨hj,rfl⟩:=List.getElem?_eq_some_iff.1 hx
  simp only [List.getElem_replicate]
  exact og j (by simpa using hj)
 have tR:∀ x∈List.replicate m u,x.oneCell'=true:=fun x hx=>by rw [(List.mem_replicate.1 hx).2];exact h1
 obtain ⟨v',w',hr,h2,h3,h4⟩:=jp (P:=P) w ae t ty e i z 1 bytes ht hi hz kj MG OV (by decide) v n xs bL a m c (List.replicate m u) hl Ds tR MN kE tI
 refine ⟨v',w',hr,h2,h3,h4,?_⟩
 rcases bL.2 with ⟨rfl,rfl⟩ | ⟨g,fL,eU,rfl,U9,hg,YA,FX,jy,Ff⟩
 ·have hx:xs=[]:=List.eq_nil_of_length_eq_zero (by simpa using bL.1)
  subst hx
  exact ⟨World.ownsRow_nil _ _ _ _,lG fun k hk=>h3.block k hk (by simp [Value.ownBlock])⟩
 ·by_cases hroom:n+m≤fL
  ·rw [Nat.mul_one] at jy Ff
   have Kc:n*i.size+(List.replicate m u).length≤eU.size:=by rw [kj];simp;omega
   have zZ:=run_append_room (P:=P) w t ty e i ht hi g n fL eU hg a m c (List.replicate m u) (by rw [kj];exact hl) Ds tR hroom Kc
   rw [hr,kj,Nat.mul_one] at zZ
   injection zZ with e1 e2
   subst e1 e2
   have hn:g<w.heap.size:=(Array.getElem?_eq_some_iff.1 hg).1
   have kI:eU.toList.length=fL:=by simpa using jy
   have lg:(w.setRow g (eU.toList.take n++List.replicate m u++eU.toList.drop (n+(List.replicate m u).length)).toArray).heap[g]?=some (.cells (eU.toList.take n++List.replicate m u++eU.toList.drop (n+(List.replicate m u).length)).toArray e (0,0)):=by
    simp [World.setRow,Array.getElem?_modify,hg]
   refine ⟨⟨bL.1,Or.inr ⟨g,fL,_,rfl,U9,lg,YA,FX,?_,?_⟩⟩,?_⟩
   ·simp only [List.size_toArray,List.length_append,List.length_take,List.length_replicate,List.length_drop,kI,Nat.mul_one]
    omega
   ·rw [Nat.mul_one,←Ff]
    simp only [List.append_assoc]
    rw [List.take_append_of_le_length (by simp only [List.length_take,kI];omega),List.take_take,Nat.min_self]
   ·intro p hp
    by_cases hpg:p.block=g
    ·unfold World.cell? at hp ⊢
     rw [hpg] at hp ⊢
     rw [hg] at hp
     rw [lg]
     simp only at hp ⊢
     split at hp
     ·cases hp
     ·rename_i Oz
      rw [if_neg Oz]
      obtain ⟨ho,hou⟩:=Array.getElem?_eq_some_iff.1 hp
      rw [List.getElem?_toArray]
      by_cases h5:p.off<n
      ·rw [List.append_assoc,List.getElem?_append_left (by simp only [List.length_take,kI];omega),List.getElem?_take_of_lt h5]
       simpa using hp
      ·by_cases h6:p.off<n+m
       ·rw [List.append_assoc,List.getElem?_append_right (by simp only [List.length_take,kI];omega)]
        rw [List.getElem?_append_left (by simp only [List.length_take,kI,List.length_replicate];omega),List.getElem?_replicate,if_pos (by simp only [List.length_take,kI];omega)]
       ·rw [List.getElem?_append_right (by simp only [List.length_append,List.length_take,List.length_replicate,kI];omega),List.getElem?_drop]
        have:n+(List.replicate m u).length+(p.off - (List.take n eU.toList++List.replicate m u).length)=p.off:=by
         simp only [List.length_append,List.length_take,List.length_replicate,kI]
         omega
        rw [this]
        simpa using hp
    ·have hb:(w.setRow g (eU.toList.take n++List.replicate m u++eU.toList.drop (n+(List.replicate m u).length)).toArray).heap[p.block]?=w.heap[p.block]?:=by
      simp only [World.setRow,Array.getElem?_modify]
      rw [if_neg (fun h=>hpg h.symm)]
     unfold World.cell? at hp ⊢
     rw [hb]
     exact hp
  ·have JW:∀ j x,xs[j]?=some x→w.cell? ((⟨g,0,none⟩:Addr).add j)=some x:=bL.cells (g:=g) rfl
   have Sn:((n+m:Nat):Int)≤9223372036854775807:=by unfold maxLen at MN;omega
   subst MG
   have zZ:=run_append_grow (P:=P) w t ty e i z ht hi hz ⟨g,0,none⟩ n fL xs (by rw [kj];exact bL.1) JW a m c (List.replicate m u) (by rw [kj];exact hl) Ds (by omega) Sn (growslice_fits (by omega) kE)
   rw [hr] at zZ
   injection zZ with _ e2
   subst e2
   have zv:∀ (o:Obj) k,k<w.heap.size→(w.drew.alloc o).heap[k]?=w.heap[k]?:=fun o k hk=>Below.heap_alloc w.drew o k hk
   exact ⟨⟨bL.1,Or.inr ⟨g,fL,eU,rfl,U9,(zv _ g (Array.getElem?_eq_some_iff.1 hg).1).trans hg,YA,FX,jy,Ff⟩⟩,lG (zv _)⟩
theorem eA {P:Program} (w:World) {zw:Array Oper} {rest:List Oper} {o:Oper} {a:Act} {Q:Exit→Act→World→Prop} (VX:o.guard=none) (s x:Operand) (t:TypeId)
  (ho:o.op=.call {callee:=.builtin .append,args:=#[s,x],argTypes:=#[t,t]})
  (ae:Nat) (e:TypeId) (i:TypeInfo) (z:Value) (bytes:Nat) (ht:P.underlying t=some (.slice e)) (hi:P.info? e=some i) (hz:i.zero=some z)
  (kj:i.size=1) (MG:i.bytes=bytes) (OV:z.cells.size=1)
  (v:Value) (n:Nat) (xs:List Value) (hs:a.eval s=v) (bL:w.ownsRow ae e 1 v n xs)
  (ad:Addr) (m c:Nat) (u:Value) (hx:a.eval x=.slice (some ad) m c) (og:∀ j,j<m→w.cell? (ad.add j)=some u) (h1:u.oneCell'=true)
  (MN:n+m≤maxLen) (kE:(n+m)*bytes≤140737488355328) (tI:ae≤w.heap.size)
  (h:∀ v' w',w'.ownsRow ae e 1 v' (n+m) (xs++List.replicate m u)→w.grownBy w' v.ownBlock→Hid (∀ j,v'.ownBlock=some j→v.ownBlock=some j∨w.heap.size≤j)→w'.ownsRow ae e 1 v n xs→Hid (Stays u w w')→wpList P zw Q rest (a.put o.dst v') w'):wpList P zw Q (o :: rest) a w:=by
 refine wpList_plain VX fun K hK=>?_
 obtain ⟨v',w',DJ,r1,r2,r3,r4,r5⟩:=qQ (P:=P) w ae t o.type e i z bytes ht hi hz kj MG OV v n xs bL ad m c u og h1 MN kE tI
 unfold Oper.wp
 simp only [execOp,ho,resolve,invoke,builtin,Sem.run_bind,Sem.run_pure,Result.andThen_ok,List.map_toArray,List.map_cons,List.map_nil,hs,hx,DJ]
 exact hK _ _ (h v' w' r1 r2 r3 r4 r5)
end Go.Proofs.YtblfffbmklkhmaaGreat
namespace Go.Proofs.YtblfffbmklkhmaaGreat
open Go.RowKit
theorem Tryz.info40:(Tryz.prog.info? 40).map (fun i=>(i.zero,i.size,i.bytes))=some (some (.slice none 0 0),1,24):=by kernel_rfl
def WB (w:World) (B:Nat) (vD vI vM:Value) (nx:Nat):Prop:=w.heap[B]?=some (.cells #[vD,vI,vM,.int .i64 nx] 67 (0,0))
theorem WB.blk {w:World} {B:Nat} {vD vI vM:Value} {nx:Nat} (h:WB w B vD vI vM nx):w.heap[B]?=some (.cells #[vD,vI,vM,.int .i64 nx] 67 (0,0)):=h
def Full (w:World) (v:Value) (n:Nat) (u:Value):Prop:=(v=.slice none 0 0∧n=0)∨∃ g c,v=.slice (some ⟨g,0,none⟩) n c∧∀ i,i<n→w.cell? ⟨g,i,none⟩=some u
theorem j4 {w:World} {ae:Nat} {e:TypeId} {v:Value} {n:Nat} {u:Value} (h:w.ownsRow ae e 1 v n (List.replicate n u)):Full w v n u:=by
 rcases h.2 with hn | ⟨g,fL,eU,rfl,_,_⟩
 ·exact Or.inl hn
 ·refine Or.inr ⟨g,fL,rfl,fun i hi=>?_⟩
  have:=h.cells (g:=g) rfl i u (by rw [List.getElem?_replicate,if_pos hi])
  rwa [Go.WideShapes.add_plain,Nat.zero_add] at this
theorem Full.stays {w w':World} {v:Value} {n:Nat} {u:Value} (h:Full w v n u) (hs:Stays u w w'):Full w' v n u:=by
 rcases h with hn | ⟨g,c,hv,hc⟩
 ·exact Or.inl hn
 ·exact Or.inr ⟨g,c,hv,fun i hi=>hs _ (hc i hi)⟩
theorem Full.blk {w w':World} {v:Value} {n:Nat} {u:Value} (h:Full w v n u) (hs:∀ g,v.ownBlock=some g→g<w.heap.size→w'.heap[g]?=w.heap[g]?):Full w' v n u:=by
 rcases h with hn | ⟨g,c,hv,hc⟩
 ·exact Or.inl hn
 ·refine Or.inr ⟨g,c,hv,fun i hi=>?_⟩
  have h1:=hc i hi
  have aN:g<w.heap.size:=by
   unfold World.cell? at h1
   cases hb:w.heap[g]? with
   | none=>simp only [hb] at h1;cases h1
   | some o=>exact (Array.getElem?_eq_some_iff.1 hb).1
  have h2:=hs g (by rw [hv];rfl) aN
  unfold World.cell? at h1 ⊢
  rw [h2]
  exact h1
def VV (B:Nat) (v vI vM:Value) (k:Nat):Prop:=k=B∨v.ownBlock=some k∨vI.ownBlock=some k∨vM.ownBlock=some k
structure OS (w wr:World) (B:Nat) (vD vI vM:Value) (nx:Nat) (v:Value) (n:Nat) (xs:List Value) (ni nm:Nat) (xg vY:List Value):Prop where
 wb:WB wr B vD vI vM nx
 row:wr.ownsRow 0 3 1 v n xs
 rowI:wr.ownsRow 0 40 1 vI ni xg
 rowM:wr.ownsRow 0 3 1 vM nm vY
 fr:Fr w wr (VV B v vI vM)
 ne:∀ j,v.ownBlock=some j→vM.ownBlock≠some j
section
variable {w wr:World} {B:Nat} {vD vI vM:Value} {nx:Nat} {v:Value} {n:Nat} {xs:List Value} {ni nm:Nat} {xg vY:List Value}
theorem OS.alloc (h:OS w wr B vD vI vM nx v n xs ni nm xg vY) (o:Obj):OS w (wr.alloc o) B vD vI vM nx v n xs ni nm xg vY:=
 ⟨(Below.heap_alloc wr o B (Array.getElem?_eq_some_iff.1 h.wb.blk).1).trans h.wb,h.row.alloc o,h.rowI.alloc o,h.rowM.alloc o,h.fr.alloc o,h.ne⟩
theorem OS.app (h:OS w wr B vD vI vM nx v n xs ni nm xg vY) {w2:World} (hg:wr.grownBy w2 v.ownBlock) {VE:List Value} (ho:w2.ownsRow 0 3 1 v n VE):OS w w2 B vD vI vM nx v n VE ni nm xg vY:=by
 have hI:vI.ownBlock=none∨vI.ownBlock≠v.ownBlock:=by
  cases hv:v.ownBlock with
  | none=>cases vI.ownBlock<;>simp
  | some g=>
   refine Or.inr fun e=>?_
   rcases h.row.2 with ⟨rfl,_⟩ | ⟨g',_,eU,rfl,_,vw,_⟩
   ·simp [Value.ownBlock] at hv
   ·simp [Value.ownBlock] at hv
    subst hv
    exact aj h.rowI vw (by decide) e
 have hM:vM.ownBlock=none∨vM.ownBlock≠v.ownBlock:=by
  cases hv:v.ownBlock with
  | none=>cases vM.ownBlock<;>simp
  | some g=>exact Or.inr (h.ne g hv)
 exact ⟨(hg.block B (Array.getElem?_eq_some_iff.1 h.wb.blk).1 (fun e=>aj h.row h.wb.blk (by decide) e.symm)).trans h.wb,ho,h.rowI.kept hg hI,h.rowM.kept hg hM,h.fr.gb hg (fun k hk=>Or.inl (Or.inr (Or.inl hk))),h.ne⟩
end
theorem K9 {xs:List Value} {i:Nat} (u:Value) (h:i<xs.length):(List.replicate i u++xs.drop i).set i u=List.replicate (i+1) u++xs.drop (i+1):=by
 rw [List.set_append,if_neg (by simp),List.length_replicate,Nat.sub_self,List.drop_eq_getElem_cons h,List.set_cons_zero,List.replicate_succ',List.append_assoc]
 rfl
def sC (w:World) (B:Nat) (vD vI vM:Value) (nx:Nat) (v:Value) (n:Nat) (ni nm:Nat) (xg vY:List Value) (e:Ending) (w':World):Prop:=
 e=.returned (.tuple #[])∧∃ sj r6 v1 v2 v3,WB w' B vD sj r6 (nx+1)∧w'.ownsRow 0 40 1 sj (ni+4) (xg++[v,v1,v2,v3])∧w'.ownsRow 0 3 1 r6 (nm+4) (vY++List.replicate 4 (.int .i64 (-((nx:Int)+1))))∧
  Full w' v n (.int .i64 (-((nx:Int)+1)))∧Full w' v1 (n+1) (.int .i64 (-((nx:Int)+1)))∧Full w' v2 (n+2) (.int .i64 (-((nx:Int)+1)))∧Full w' v3 (n+3) (.int .i64 (-((nx:Int)+1)))∧
  Fr w w' (VV B v vI vM)∧(∀ x,x=v1∨x=v2∨x=v3→∀ j,x.ownBlock=some j→v.ownBlock=some j∨w.heap.size≤j)∧(∀ j,sj.ownBlock=some j→vI.ownBlock=some j∨w.heap.size≤j)∧(∀ j,r6.ownBlock=some j→vM.ownBlock=some j∨w.heap.size≤j)∧
  (∀ x,x=v1∨x=v2∨x=v3→∀ j,x.ownBlock=some j→sj.ownBlock≠some j∧r6.ownBlock≠some j)
theorem Full.lt {w:World} {v:Value} {n:Nat} {u:Value} (h:Full w v n u) (hn:0<n):∀ j,v.ownBlock=some j→j<w.heap.size:=by
 intro j hj
 rcases h with ⟨rfl,rfl⟩ | ⟨g,c,rfl,hc⟩
 ·omega
 ·have h1:=hc 0 hn
  obtain rfl:g=j:=by simpa [Value.ownBlock] using hj
  unfold World.cell? at h1
  cases hb:w.heap[g]? with
  | none=>simp only [hb] at h1;cases h1
  | some o=>exact (Array.getElem?_eq_some_iff.1 hb).1
theorem lO (w:World) (cs:Array Value) (t:TypeId) (j:Nat):(w.alloc (.cells cs t)).cell? ((⟨w.heap.size,0,none⟩:Addr).add j)=cs[j]?:=by
 rw [Go.WideShapes.add_plain,Nat.zero_add]
 unfold World.cell?
 simp only [heap_alloc_new w]
 rfl
theorem mG (u:Value) (w:World) (o:Obj):Stays u w (w.alloc o):=lG fun k hk=>Below.heap_alloc w o k hk
theorem oS (i m:Nat) (u:Value):List.replicate i u++List.replicate m u=List.replicate (i+m) u:=List.replicate_append_replicate
set_option maxRecDepth 100000 in
set_option maxHeartbeats 4000000 in
theorem Nt (w:World) (B:Nat) (vD vI vM:Value) (nx:Nat) (a:Option Addr) (c:Nat) (n:Nat) (xs:List Value) (ni nm:Nat) (xg vY:List Value) (h:OS w w B vD vI vM nx (.slice a n c) n xs ni nm xg vY)
  (hn:n≤24) (wZ:nx≤1099511627776) (hni:ni≤1099511627776) (Cb:nm≤1099511627776) :
  Calls Tryz.prog 95 #[.pointer (some ⟨B,0,none⟩),.slice a n c] w fun e w'=>sC w B vD vI vM nx (.slice a n c) n ni nm xg vY e w':=by
 obtain ⟨i0,hi,gx,gw,gB⟩:=info_parts Tryz.info3
 obtain ⟨j0,hj,Tz,T7,TE⟩:=info_parts Tryz.info40
 have b3:w.cell? ⟨B,3,none⟩=some (.int .i64 nx):=aa h.wb.blk rfl
 have bz:∀ k,w.frozen? ⟨B,k,none⟩=false:=fun _=>ag h.wb.blk
 have G8:Hid (OS w (w.setCell ⟨B,3,none⟩ (.int .i64 ((nx:Int)+1))) B vD vI vM (nx+1) (.slice a n c) n xs ni nm xg vY):=by
  refine ⟨?_,aX h.row (aj h.row h.wb.blk (by decide)) _,aX h.rowI (aj h.rowI h.wb.blk (by decide)) _,aX h.rowM (aj h.rowM h.wb.blk (by decide)) _,(Fr.refl w _).set (Or.inl (Or.inl rfl)) _,h.ne⟩
  show (World.setCell _ _ _).heap[B]?=_
  rw [aq h.wb.blk];rfl
 have HA:Hid (∀ g,((Value.slice a n c).ownBlock=some g∨w.heap.size≤g)→vI.ownBlock≠some g∧vM.ownBlock≠some g∧g≠B):=by
  intro g hg
  rcases hg with hg | hg
  ·rcases h.row.2 with ⟨h1,_⟩ | ⟨g',_,eU,h1,_,vw,_⟩
   ·rw [h1] at hg;simp [Value.ownBlock] at hg
   ·rw [h1] at hg
    simp [Value.ownBlock] at hg
    subst hg
    refine ⟨aj h.rowI vw (by decide),h.ne _ (by rw [h1];rfl),fun e=>?_⟩
    subst e
    have h3:=h.wb.blk
    rw [vw] at h3
    injection h3 with h3
    injection h3 with _ h4 _
    exact absurd h4 (by decide)
  ·have h1:=(Array.getElem?_eq_some_iff.1 h.wb.blk).1
   exact ⟨fun e=>by have:=(h.rowI.lt g e).2;omega,fun e=>by have:=(h.rowM.lt g e).2;omega,by omega⟩
 have SP:xs.length=n:=by have:=h.row.1;omega
 have WE:Hid (xs.length=n):=SP
 clear h SP
 go_enter Tryz.func95,Tryz.ntmps95
 go_wp2_with fail
 generalize Ci:(-((nx:Int)+1))=mk
 have MZ:Hid (-((nx:Int)+1)=mk):=Ci
 clear Ci
 obtain ⟨W1,PX⟩:∃ W1,W1=w.setCell ⟨B,3,none⟩ (.int .i64 ((nx:Int)+1)):=⟨_,rfl⟩
 rw [←PX] at G8 ⊢
 clear PX b3 bz
 go_loopg [5] n (fun gk iv wr=>∃ i:Nat,iv=.int .i64 i∧i≤n∧n - i≤gk∧Hid (OS w wr B vD vI vM (nx+1) (.slice a n c) n (List.replicate i (.int .i64 mk)++xs.drop i) ni nm xg vY))
 case atStart=>exact ⟨0,rfl,Nat.zero_le _,by omega,G8⟩
 case round=>
  obtain ⟨i,rfl,jC,fK,HS⟩:=hrel
  by_cases aN:i<n
  ·have hd:decide ((i:Int)<(n:Int))=true:=by simp;omega
   obtain ⟨g,rfl⟩:∃ g,a=some ⟨g,0,none⟩:=by
    rcases HS.out.row.2 with ⟨h,h0⟩ | ⟨g,_,_,h,_⟩
    ·omega
    ·injection h with h;exact ⟨g,h⟩
   have q:wr.cell? ⟨g,i,none⟩=(List.replicate i (Value.int .i64 mk)++xs.drop i)[i]?:=HS.out.row.cellAt i (by omega)
   rw [List.getElem?_append_right (by simp),List.length_replicate,Nat.sub_self,List.getElem?_drop,Nat.add_zero,List.getElem?_eq_getElem (by rw [WE.out];exact aN)] at q
   have qz:=HS.out.row.frozenAt i
   have Al:=HS.out.row.stored i (.int .i64 mk)
   rw [K9 _ (by rw [WE.out];exact aN)] at Al
   have t8:Hid (OS w (wr.setCell ⟨g,i,none⟩ (.int .i64 mk)) B vD vI vM (nx+1) (.slice (some ⟨g,0,none⟩) n c) n (List.replicate (i+1) (.int .i64 mk)++xs.drop (i+1)) ni nm xg vY):=HS.out.app Al.2 Al.1
   clear Al HS
   generalize xs[i]'(by rw [WE.out];exact aN)=eP at q
   go_wp2
   go_roundg (n - (i+1))
   case measure=>omega
   case rel=>exact ⟨i+1,by go_num,by omega,Nat.le_refl _,t8⟩
  ·have hd:decide ((i:Int)<(n:Int))=false:=by simp;omega
   obtain rfl:i=n:=by omega
   have o9:List.replicate i (Value.int .i64 mk)++xs.drop i=List.replicate i (.int .i64 mk):=by rw [List.drop_of_length_le (by rw [WE.out];exact Nat.le_refl _),List.append_nil]
   rw [o9] at HS
   clear o9
   have Yn:=HS.out.fr.size
   have HF0:Hid (Full wr (.slice a i c) i (.int .i64 mk)):=j4 HS.out.row
   go_wp2_with (at_builtin;refine eA _ rfl (.tmp 31) (.tmp 33) 40 rfl 0 3 i0 (.int .i64 0) 8 Tryz.underlying40 hi gx gw gB rfl _ _ _ rfl (HS.out.alloc _).row ⟨wr.heap.size,0,none⟩ 1 1 (.int .i64 mk) rfl ?c1 rfl ?c3 ?c4 ?c5 ?_)
   case c1=>intro j hj;rw [lO];match j,hj with | 0,_=>rfl
   case c3=>unfold maxLen;omega
   case c4=>omega
   case c5=>exact Nat.zero_le _
   intro v1 w2 mW I0 ed L0 ZD
   have Pv:w2.ownsRow 0 3 1 v1 (i+1) (List.replicate (i+1) (.int .i64 mk)):=by rw [←oS];simpa using mW
   replace mW:=Pv
   clear Pv
   have t8:Hid (OS w w2 B vD vI vM (nx+1) (.slice a i c) i (List.replicate i (.int .i64 mk)) ni nm xg vY):=(HS.out.alloc _).app I0 L0
   have xY:Hid (Full w2 (.slice a i c) i (.int .i64 mk)∧Full w2 v1 (i+1) (.int .i64 mk)):=⟨j4 L0,j4 mW⟩
   have nn:Hid (∀ j,v1.ownBlock=some j→(Value.slice a i c).ownBlock=some j∨w.heap.size≤j):=fun j hj=>(ed.out j hj).imp id (fun h=>by first | omega | (simp at h;omega))
   obtain ⟨a1,c1,EB⟩:=au mW
   subst EB
   have YB:=t8.out.fr.size
   clear mW I0 ed L0 ZD HS HF0 Yn
   go_wp2_with (at_builtin;refine eA _ rfl (.tmp 35) (.tmp 38) 40 rfl 0 3 i0 (.int .i64 0) 8 Tryz.underlying40 hi gx gw gB rfl _ _ _ rfl (t8.out.alloc _).row ⟨w2.heap.size,0,none⟩ 2 2 (.int .i64 mk) rfl ?c1 rfl ?c3 ?c4 ?c5 ?_)
   case c1=>intro j hj;rw [lO];match j,hj with | 0,_=>rfl | 1,_=>rfl
   case c3=>unfold maxLen;omega
   case c4=>omega
   case c5=>exact Nat.zero_le _
   intro v2 w3 cu hJ ea Ke Vq
   have Pb:w3.ownsRow 0 3 1 v2 (i+2) (List.replicate (i+2) (.int .i64 mk)):=by rw [←oS];simpa using cu
   replace cu:=Pb
   clear Pb
   have PR:Hid (OS w w3 B vD vI vM (nx+1) (.slice a i c) i (List.replicate i (.int .i64 mk)) ni nm xg vY):=(t8.out.alloc _).app hJ Ke
   have qT:Hid (Full w3 (.slice a i c) i (.int .i64 mk)∧Full w3 (.slice a1 (i+1) c1) (i+1) (.int .i64 mk)∧Full w3 v2 (i+2) (.int .i64 mk)):=⟨j4 Ke,xY.out.2.stays ((mG _ _ _).trans Vq.out),j4 cu⟩
   have eL:Hid (∀ j,v2.ownBlock=some j→(Value.slice a i c).ownBlock=some j∨w.heap.size≤j):=fun j hj=>(ea.out j hj).imp id (fun h=>by first | omega | (simp at h;omega))
   obtain ⟨a2,c2,jr⟩:=au cu
   subst jr
   have Zx:=PR.out.fr.size
   clear cu hJ ea Ke Vq t8 xY YB
   go_wp2_with (at_builtin;refine eA _ rfl (.tmp 40) (.tmp 44) 40 rfl 0 3 i0 (.int .i64 0) 8 Tryz.underlying40 hi gx gw gB rfl _ _ _ rfl (PR.out.alloc _).row ⟨w3.heap.size,0,none⟩ 3 3 (.int .i64 mk) rfl ?c1 rfl ?c3 ?c4 ?c5 ?_)
   case c1=>intro j hj;rw [lO];match j,hj with | 0,_=>rfl | 1,_=>rfl | 2,_=>rfl
   case c3=>unfold maxLen;omega
   case c4=>omega
   case c5=>exact Nat.zero_le _
   intro v3 w4 bg eJ ji LO Q7
   have PE:w4.ownsRow 0 3 1 v3 (i+3) (List.replicate (i+3) (.int .i64 mk)):=by rw [←oS];simpa using bg
   replace bg:=PE
   clear PE
   have Gr:Hid (OS w w4 B vD vI vM (nx+1) (.slice a i c) i (List.replicate i (.int .i64 mk)) ni nm xg vY):=(PR.out.alloc _).app eJ LO
   have H9:Hid (Full w4 (.slice a i c) i (.int .i64 mk)∧Full w4 (.slice a1 (i+1) c1) (i+1) (.int .i64 mk)∧Full w4 (.slice a2 (i+2) c2) (i+2) (.int .i64 mk)∧Full w4 v3 (i+3) (.int .i64 mk)):=
    ⟨j4 LO,qT.out.2.1.stays ((mG _ _ _).trans Q7.out),qT.out.2.2.stays ((mG _ _ _).trans Q7.out),j4 bg⟩
   have nR:Hid (∀ j,v3.ownBlock=some j→(Value.slice a i c).ownBlock=some j∨w.heap.size≤j):=fun j hj=>(ji.out j hj).imp id (fun h=>by first | omega | (simp at h;omega))
   obtain ⟨a3,c3,A6⟩:=au bg
   subst A6
   have aeb:=Gr.out.fr.size
   clear bg eJ ji LO Q7 PR qT Zx
   obtain ⟨aI,cI,ZQ⟩:=au Gr.out.rowI
   subst ZQ
   obtain ⟨aM,cM,hvM⟩:=au Gr.out.rowM
   subst hvM
   have XV:=Gr.out.wb.blk
   have b1:w4.cell? ⟨B,1,none⟩=some (.slice aI ni cI):=aa XV rfl
   have HBl:Hid (B<w4.heap.size):=(Array.getElem?_eq_some_iff.1 XV).1
   clear XV
   go_wp2_with (at_builtin;refine gZ _ rfl (.tmp 50) (.tmp 55) 65 rfl 0 40 j0 (.slice none 0 0) 1 24 Tryz.underlying65 hj Tz T7 TE rfl (by decide) _ _ _ rfl (Gr.out.rowI.alloc _) ⟨w4.heap.size,0,none⟩ 4 4 [.slice a i c,.slice a1 (i+1) c1,.slice a2 (i+2) c2,.slice a3 (i+3) c3] rfl rfl ?c1 ?c2 ?c3 ?c4 ?c5 ?_)
   case c1=>exact aO w4 _ rfl _ _ _ rfl
   case c2=>intro u hu;simp only [List.mem_cons,List.not_mem_nil,or_false] at hu;rcases hu with rfl | rfl | rfl | rfl<;>rfl
   case c3=>unfold maxLen;omega
   case c4=>omega
   case c5=>exact Nat.zero_le _
   intro v5 w5 cX kG rE
   have WR:Hid (∀ (wa wb:World),(∀ g,((Value.slice a i c).ownBlock=some g∨w.heap.size≤g)→g<wa.heap.size→wb.heap[g]?=wa.heap[g]?)→(Full wa (.slice a i c) i (.int .i64 mk)∧Full wa (.slice a1 (i+1) c1) (i+1) (.int .i64 mk)∧Full wa (.slice a2 (i+2) c2) (i+2) (.int .i64 mk)∧Full wa (.slice a3 (i+3) c3) (i+3) (.int .i64 mk))→
     (Full wb (.slice a i c) i (.int .i64 mk)∧Full wb (.slice a1 (i+1) c1) (i+1) (.int .i64 mk)∧Full wb (.slice a2 (i+2) c2) (i+2) (.int .i64 mk)∧Full wb (.slice a3 (i+3) c3) (i+3) (.int .i64 mk))):=fun wa wb IZ hf=>
    ⟨hf.1.blk (fun g hg hl=>IZ g (Or.inl hg) hl),hf.2.1.blk (fun g hg hl=>IZ g (nn.out g hg) hl),hf.2.2.1.blk (fun g hg hl=>IZ g (eL.out g hg) hl),hf.2.2.2.blk (fun g hg hl=>IZ g (nR.out g hg) hl)⟩
   have afQ:w4.heap.size<w5.heap.size:=by have:=kG.size;simp at this;omega
   have Od:∀ k,k<w4.heap.size→(Value.slice aI ni cI).ownBlock≠some k→w5.heap[k]?=w4.heap[k]?:=fun k hk hn=>(kG.block k (by simp;omega) (fun e=>hn e.symm)).trans (Below.heap_alloc _ _ _ hk)
   have CE:=WR.out w4 w5 (fun g hA hl=>Od g hl (HA.out g hA).1) H9.out
   have SW:w5.heap[B]?=some (.cells #[vD,.slice aI ni cI,.slice aM nm cM,.int .i64 ((nx+1:Nat):Int)] 67 (0,0)):=(Od B HBl.out (aj Gr.out.rowI Gr.out.wb.blk (by decide))).trans Gr.out.wb.blk
   have Kd:w5.ownsRow 0 3 1 (.slice aM nm cM) nm vY:=by
    refine ⟨Gr.out.rowM.1,?_⟩
    rcases Gr.out.rowM.2 with h | ⟨g,fL,eU,h1,h2,h3,h4⟩
    ·exact Or.inl h
    ·exact Or.inr ⟨g,fL,eU,h1,h2,(Od g (Array.getElem?_eq_some_iff.1 h3).1 (aj Gr.out.rowI h3 (by decide))).trans h3,h4⟩
   have fr5:Fr w w5 (VV B (.slice a i c) (.slice aI ni cI) (.slice aM nm cM)):=(Gr.out.fr.alloc _).gb kG (fun k hk=>Or.inl (Or.inr (Or.inr (Or.inl hk))))
   have HX5:Hid (∀ x,x=Value.slice a1 (i+1) c1∨x=Value.slice a2 (i+2) c2∨x=Value.slice a3 (i+3) c3→∀ j,x.ownBlock=some j→v5.ownBlock≠some j):=by
    intro x hx j hj h5
    have aN:j<w4.heap.size∧((Value.slice a i c).ownBlock=some j∨w.heap.size≤j):=by
     rcases hx with rfl | rfl | rfl
     ·exact ⟨H9.out.2.1.lt (by omega) j hj,nn.out j hj⟩
     ·exact ⟨H9.out.2.2.1.lt (by omega) j hj,eL.out j hj⟩
     ·exact ⟨H9.out.2.2.2.lt (by omega) j hj,nR.out j hj⟩
    rcases rE.out j h5 with h | h
    ·exact (HA.out j aN.2).1 h
    ·have:=aN.1
     first | omega | (simp at h;omega)
   have vn:Hid (∀ j,v5.ownBlock=some j→(Value.slice aI ni cI).ownBlock=some j∨w.heap.size≤j):=fun j hj=>(rE.out j hj).imp id (fun h=>by first | omega | (simp at h;omega))
   obtain ⟨a5,c5,OM⟩:=au cX
   subst OM
   have e1:w5.cell? ⟨B,1,none⟩=some (.slice aI ni cI):=aa SW rfl
   have e2:w5.cell? ⟨B,2,none⟩=some (.slice aM nm cM):=aa SW rfl
   have ez:∀ k,w5.frozen? ⟨B,k,none⟩=false:=fun _=>ag SW
   have wb6:(w5.setCell ⟨B,1,none⟩ (.slice a5 (ni+4) c5)).heap[B]?=some (.cells #[vD,.slice a5 (ni+4) c5,.slice aM nm cM,.int .i64 ((nx+1:Nat):Int)] 67 (0,0)):=by rw [aq SW];rfl
   have Pd:=aX Kd (aj Kd SW (by decide)) (p:=⟨B,1,none⟩) (.slice a5 (ni+4) c5)
   have O8:=aX cX (aj cX SW (by decide)) (p:=⟨B,1,none⟩) (.slice a5 (ni+4) c5)
   have fr6:=fr5.set (p:=⟨B,1,none⟩) (Or.inl (Or.inl rfl)) (.slice a5 (ni+4) c5)
   have ME:=WR.out w5 (w5.setCell ⟨B,1,none⟩ (.slice a5 (ni+4) c5)) (fun g hA _=>Below.heap_setCell _ _ _ _ (HA.out g hA).2.2) CE
   have rD:Hid ((w5.setCell ⟨B,1,none⟩ (.slice a5 (ni+4) c5)).heap[B]?=some (.cells #[vD,.slice a5 (ni+4) c5,.slice aM nm cM,.int .i64 ((nx+1:Nat):Int)] 67 (0,0))∧(w5.setCell ⟨B,1,none⟩ (.slice a5 (ni+4) c5)).ownsRow 0 3 1 (.slice aM nm cM) nm vY∧(w5.setCell ⟨B,1,none⟩ (.slice a5 (ni+4) c5)).ownsRow 0 40 1 (.slice a5 (ni+4) c5) (ni+4) (xg++[.slice a i c,.slice a1 (i+1) c1,.slice a2 (i+2) c2,.slice a3 (i+3) c3])∧Fr w (w5.setCell ⟨B,1,none⟩ (.slice a5 (ni+4) c5)) (VV B (.slice a i c) (.slice aI ni cI) (.slice aM nm cM))∧
    (Full (w5.setCell ⟨B,1,none⟩ (.slice a5 (ni+4) c5)) (.slice a i c) i (.int .i64 mk)∧Full (w5.setCell ⟨B,1,none⟩ (.slice a5 (ni+4) c5)) (.slice a1 (i+1) c1) (i+1) (.int .i64 mk)∧Full (w5.setCell ⟨B,1,none⟩ (.slice a5 (ni+4) c5)) (.slice a2 (i+2) c2) (i+2) (.int .i64 mk)∧Full (w5.setCell ⟨B,1,none⟩ (.slice a5 (ni+4) c5)) (.slice a3 (i+3) c3) (i+3) (.int .i64 mk))):=⟨wb6,Pd,O8,fr6,ME⟩
   clear wb6 Pd O8 fr6 ME SW Kd fr5 CE Od cX kG rE Gr H9 b1
   go_upto_region 10 with fail
   obtain ⟨W6,FE⟩:∃ W6,W6=w5.setCell ⟨B,1,none⟩ (.slice a5 (ni+4) c5):=⟨_,rfl⟩
   rw [←FE] at rD ⊢
   clear FE e1 e2 ez
   have acI:=rD.out.2.2.2.1.size
   have e2:W6.cell? ⟨B,2,none⟩=some (.slice aM nm cM):=aa rD.out.1 rfl
   go_wp2_with (at_builtin;refine eA _ rfl (.tmp 63) (.tmp 68) 40 rfl 0 3 i0 (.int .i64 0) 8 Tryz.underlying40 hi gx gw gB rfl _ _ _ rfl (rD.out.2.1.alloc _) ⟨W6.heap.size,0,none⟩ 4 4 (.int .i64 mk) rfl ?c1 rfl ?c3 ?c4 ?c5 ?_)
   case c1=>intro j hj;rw [lO];match j,hj with | 0,_=>rfl | 1,_=>rfl | 2,_=>rfl | 3,_=>rfl
   case c3=>unfold maxLen;omega
   case c4=>omega
   case c5=>exact Nat.zero_le _
   intro v7 w7 yk Yr XN _ _
   have FW:w7.ownsRow 0 3 1 v7 (nm+4) (vY++List.replicate 4 (.int .i64 mk)):=by simpa using yk
   have Of:∀ k,k<W6.heap.size→(Value.slice aM nm cM).ownBlock≠some k→w7.heap[k]?=W6.heap[k]?:=fun k hk hn=>(Yr.block k (by simp;omega) (fun e=>hn e.symm)).trans (Below.heap_alloc _ _ _ hk)
   have hB6:B<W6.heap.size:=(Array.getElem?_eq_some_iff.1 rD.out.1).1
   have TA:=(Of B hB6 (aj rD.out.2.1 rD.out.1 (by decide))).trans rD.out.1
   have PW:=WR.out W6 w7 (fun g hA hl=>Of g hl (HA.out g hA).2.1) rD.out.2.2.2.2
   have J5:w7.ownsRow 0 40 1 (.slice a5 (ni+4) c5) (ni+4) (xg++[.slice a i c,.slice a1 (i+1) c1,.slice a2 (i+2) c2,.slice a3 (i+3) c3]):=by
    refine ⟨rD.out.2.2.1.1,?_⟩
    rcases rD.out.2.2.1.2 with h | ⟨g,fL,eU,h1,h2,h3,h4⟩
    ·exact Or.inl h
    ·exact Or.inr ⟨g,fL,eU,h1,h2,(Of g (Array.getElem?_eq_some_iff.1 h3).1 (aj rD.out.2.1 h3 (by decide))).trans h3,h4⟩
   have TK:Fr w w7 (VV B (.slice a i c) (.slice aI ni cI) (.slice aM nm cM)):=(rD.out.2.2.2.1.alloc _).gb Yr (fun k hk=>Or.inl (Or.inr (Or.inr (Or.inr hk))))
   have HX7:Hid (∀ x,x=Value.slice a1 (i+1) c1∨x=Value.slice a2 (i+2) c2∨x=Value.slice a3 (i+3) c3→∀ j,x.ownBlock=some j→v7.ownBlock≠some j):=by
    intro x hx j hj h5
    have aN:j<W6.heap.size∧((Value.slice a i c).ownBlock=some j∨w.heap.size≤j):=by
     rcases hx with rfl | rfl | rfl
     ·exact ⟨rD.out.2.2.2.2.2.1.lt (by omega) j hj,nn.out j hj⟩
     ·exact ⟨rD.out.2.2.2.2.2.2.1.lt (by omega) j hj,eL.out j hj⟩
     ·exact ⟨rD.out.2.2.2.2.2.2.2.lt (by omega) j hj,nR.out j hj⟩
    rcases XN.out j h5 with h | h
    ·exact (HA.out j aN.2).2.1 h
    ·have:=aN.1
     first | omega | (simp at h;omega)
   have HN7:Hid (∀ j,v7.ownBlock=some j→(Value.slice aM nm cM).ownBlock=some j∨w.heap.size≤j):=fun j hj=>(XN.out j hj).imp id (fun h=>by first | omega | (simp at h;omega))
   obtain ⟨a7,c7,hv7⟩:=au FW
   subst hv7
   have e2':w7.cell? ⟨B,2,none⟩=some (.slice aM nm cM):=aa TA rfl
   have ez:∀ k,w7.frozen? ⟨B,k,none⟩=false:=fun _=>ag TA
   have wb8:(w7.setCell ⟨B,2,none⟩ (.slice a7 (nm+4) c7)).heap[B]?=some (.cells #[vD,.slice a5 (ni+4) c5,.slice a7 (nm+4) c7,.int .i64 ((nx+1:Nat):Int)] 67 (0,0)):=by rw [aq TA];rfl
   have PC:=aX FW (aj FW TA (by decide)) (p:=⟨B,2,none⟩) (.slice a7 (nm+4) c7)
   have PA:=aX J5 (aj J5 TA (by decide)) (p:=⟨B,2,none⟩) (.slice a7 (nm+4) c7)
   have fr8:=TK.set (p:=⟨B,2,none⟩) (Or.inl (Or.inl rfl)) (.slice a7 (nm+4) c7)
   have UV:=WR.out w7 (w7.setCell ⟨B,2,none⟩ (.slice a7 (nm+4) c7)) (fun g hA _=>Below.heap_setCell _ _ _ _ (HA.out g hA).2.2) PW
   have Z9:Hid (sC w B vD (.slice aI ni cI) (.slice aM nm cM) nx (.slice a i c) i ni nm xg vY (.returned (.tuple #[])) (w7.setCell ⟨B,2,none⟩ (.slice a7 (nm+4) c7))):=by
    unfold Hid sC
    rw [MZ.out]
    refine ⟨rfl,.slice a5 (ni+4) c5,.slice a7 (nm+4) c7,.slice a1 (i+1) c1,.slice a2 (i+2) c2,.slice a3 (i+3) c3,wb8,PA,PC,UV.1,UV.2.1,UV.2.2.1,UV.2.2.2,fr8,?_,vn.out,HN7.out,fun x hx j hj=>⟨HX5.out x hx j hj,HX7.out x hx j hj⟩⟩
    rintro x (rfl | rfl | rfl)
    ·exact nn.out
    ·exact eL.out
    ·exact nR.out
   clear wb8 PC PA fr8 UV TA PW J5 TK Of yk FW Yr XN rD e2 hB6
   go_wp2
   go_end0
   exact Z9.out
end Go.Proofs.YtblfffbmklkhmaaGreat
namespace Go.Proofs.YtblfffbmklkhmaaGreat
open Go.RowKit
structure vj where
 v:Value
 n:Nat
 m:Int
def LK (w:World) (B:Nat) (vD vI vM:Value) (nx:Nat) (es:List vj):Prop:=
 WB w B vD vI vM nx∧w.ownsRow 0 40 1 vI es.length (es.map vj.v)∧w.ownsRow 0 3 1 vM es.length (es.map fun e=>.int .i64 e.m)∧∀ e∈es,Full w e.v e.n (.int .i64 e.m)∧e.n≤1099511627776
theorem Full.shape {w:World} {v:Value} {n:Nat} {u:Value} (h:Full w v n u):∃ a c,v=.slice a n c:=by
 rcases h with ⟨rfl,rfl⟩ | ⟨g,c,rfl,_⟩
 ·exact ⟨_,_,rfl⟩
 ·exact ⟨_,_,rfl⟩
theorem Full.at' {w:World} {a:Option Addr} {c:Nat} {n:Nat} {u:Value} (h:Full w (.slice a n c) n u) {i:Nat} (hi:i<n):∃ g,a=some ⟨g,0,none⟩∧w.cell? ⟨g,i,none⟩=some u∧g<w.heap.size:=by
 rcases h with ⟨_,rfl⟩ | ⟨g,c',hv,hc⟩
 ·omega
 ·injection hv with hv _ _
  refine ⟨g,hv,hc i hi,?_⟩
  have h1:=hc i hi
  unfold World.cell? at h1
  cases hb:w.heap[g]? with
  | none=>simp only [hb] at h1;cases h1
  | some o=>exact (Array.getElem?_eq_some_iff.1 hb).1
set_option maxRecDepth 100000 in
set_option maxHeartbeats 4000000 in
theorem D4 (w:World) (B:Nat) (vD vI vM:Value) (nx:Nat) (es:List vj) (h:LK w B vD vI vM nx es) (Tu:es.length≤1099511627776) :
  Calls Tryz.prog 35 #[.pointer (some ⟨B,0,none⟩)] w fun e w'=>e=.returned (.bool true)∧Drew w w':=by
 obtain ⟨wb,rI,rM,hf⟩:=h
 obtain ⟨aI,cI,ZQ⟩:=au rI
 subst ZQ
 obtain ⟨aM,cM,hvM⟩:=au rM
 subst hvM
 have c1:w.cell? ⟨B,1,none⟩=some (.slice aI es.length cI):=aa wb.blk rfl
 have c2:w.cell? ⟨B,2,none⟩=some (.slice aM es.length cM):=aa wb.blk rfl
 have Rv:B<w.heap.size:=(Array.getElem?_eq_some_iff.1 wb.blk).1
 have HI:Hid (w.ownsRow 0 40 1 (.slice aI es.length cI) es.length (es.map vj.v)):=rI
 have HM:Hid (w.ownsRow 0 3 1 (.slice aM es.length cM) es.length (es.map fun e=>.int .i64 e.m)):=rM
 have HF:Hid (∀ e∈es,Full w e.v e.n (.int .i64 e.m)∧e.n≤1099511627776):=hf
 clear rI rM hf wb
 go_enter Tryz.func35,Tryz.ntmps35
 go_wp2
 go_loopg [3] es.length (fun gk iv wr=>∃ i:Nat,iv=.int .i64 i∧i≤es.length∧es.length - i≤gk∧Hid (Drew w wr))
 case atStart=>exact ⟨0,rfl,Nat.zero_le _,by omega,0,rfl⟩
 case round=>
  obtain ⟨i,rfl,jC,fK,hD⟩:=hrel
  have EE:=hD.out.below
  have d1:=(EE.cell (p:=⟨B,1,none⟩) Rv).trans c1
  have d2:=(EE.cell (p:=⟨B,2,none⟩) Rv).trans c2
  by_cases aN:i<es.length
  ·have hd:decide ((i:Int)<(es.length:Int))=true:=by simp;omega
   obtain ⟨g,hg,db,hc⟩:=aH HI.out (by omega)
   subst hg
   have q0:=hc i (es[i].v) (by simp [aN])
   clear hc
   obtain ⟨g',vw,RS,MB⟩:=aH HM.out (by omega)
   subst vw
   have r0:=MB i (.int .i64 es[i].m) (by simp [aN])
   clear MB
   obtain ⟨sk,Cd⟩:=HF.out es[i] (List.getElem_mem aN)
   generalize es[i]=y at q0 r0 sk Cd
   obtain ⟨ay,cy,hy⟩:=sk.shape
   rw [hy] at q0 sk
   have q1:=(EE.cell (p:=⟨g,i,none⟩) db).trans q0
   have HFY:Hid (Full w (.slice ay y.n cy) y.n (.int .i64 y.m)):=sk
   clear sk hy
   go_wp2_with fail
   go_loopg [4] y.n (fun H7 jv wq=>∃ j:Nat,jv=.int .i64 j∧j≤y.n∧y.n - j≤H7∧Hid (Drew w wq))
   case atStart=>exact ⟨0,rfl,Nat.zero_le _,by omega,hD⟩
   case round=>
    obtain ⟨j,rfl,Il,r7,Ze⟩:=hrel
    have V4:=Ze.out.below
    have f1:=(V4.cell (p:=⟨B,1,none⟩) Rv).trans c1
    have f2:=(V4.cell (p:=⟨B,2,none⟩) Rv).trans c2
    have f3:=(V4.cell (p:=⟨g,i,none⟩) db).trans q0
    have f4:=(V4.cell (p:=⟨g',i,none⟩) RS).trans r0
    clear d1 d2 q1
    by_cases hjt:j<y.n
    ·have iL:decide ((j:Int)<(y.n:Int))=true:=by simp;omega
     obtain ⟨gy,hgy,hcy,Y5⟩:=HFY.out.at' hjt
     subst hgy
     have f5:=(V4.cell (p:=⟨gy,j,none⟩) Y5).trans hcy
     go_upto_region 7 with fail
     go_quiet (fail)
     go_wp2
     go_roundg (y.n - (j+1))
     case measure=>omega
     case rel=>exact ⟨j+1,by go_num,by omega,Nat.le_refl _,jJ Ze.out nq⟩
    ·have iL:decide ((j:Int)<(y.n:Int))=false:=by simp;omega
     go_wp2
     go_roundg (es.length - (i+1))
     case measure=>omega
     case rel=>exact ⟨i+1,by go_num,by omega,Nat.le_refl _,Ze⟩
  ·have hd:decide ((i:Int)<(es.length:Int))=false:=by simp;omega
   go_wp2
   go_ret
   exact ⟨rfl,hD.out⟩
end Go.Proofs.YtblfffbmklkhmaaGreat
