import Derived.Test.YtblfffbmklkhmaaGreatSt47
import Derived.Test.YtblfffbmklkhmaaGreatSt21
import Derived.Test.YtblfffbmklkhmaaGreatSt20
import Derived.RegionTactic
import Derived.Test.YtblfffbmklkhmaaGreatSt42
import Derived.Deep.RegionLaw
namespace Go.Proofs.YtblfffbmklkhmaaGreat
open Go.RowKit
theorem Da {w:World} {b i:Nat} {cs:List Value} (h:w.rangeAt b 0 cs) (ht:w.there b i 1) (v:Value):(w.setCell ⟨b,i,none⟩ v).rangeAt b 0 (cs.set i v):=fun j u hu=>by
 rw [Nat.zero_add]
 have e:w.setCell ⟨b,i,none⟩ v=w.setCells b i [v]:=rfl
 by_cases hj:i=j
 ·subst hj
  have hl:i<cs.length:=by have:=(List.getElem?_eq_some_iff.1 hu).1;rwa [List.length_set] at this
  rw [List.getElem?_set_self hl] at hu
  injection hu with hu
  subst hu
  have:=World.rangeAt_setCells_same w b i [v] ht 0 v rfl
  rwa [Nat.add_zero] at this
 ·rw [List.getElem?_set_ne hj] at hu
  rw [e,World.cell?_setCells_out b [v] i w ⟨b,j,none⟩ (fun _ _=>by show j<i∨i+1≤j;omega)]
  have:=h j u hu
  rwa [Nat.zero_add] at this
theorem tM {w:World} {b o n:Nat} (h:w.there b o n) (p:Addr) (hp:p.spot=none) (v:Value):(w.setCell p v).there b o n:=by
 obtain ⟨pb,po,ps⟩:=p
 simp only at hp
 subst hp
 exact World.there_setCells h pb po [v]
def oB (l:List Int) (i:Nat):List Int:=l.take i++List.replicate (9 - i) 0
theorem B1 {l:List Int} (hl:l.length=9) {i:Nat} (hi:i≤9):(oB l i).length=9:=by
 unfold oB
 rw [List.length_append,List.length_take,List.length_replicate]
 omega
theorem Lj {l:List Int} (hl:l.length=9) {i:Nat} (hi:i<9):(ai (oB l i)).set i (.int .i64 (l.getD i 0))=ai (oB l (i+1)):=by
 apply List.ext_getElem?
 intro j
 have e1:l.getD i 0=l[i]:=by rw [List.getD_eq_getElem?_getD,List.getElem?_eq_getElem (by omega)];rfl
 rw [e1]
 have h9:(ai (oB l i)).length=9:=by rw [List.length_map];exact B1 hl (by omega)
 by_cases hj:i=j
 ·subst hj
  rw [List.getElem?_set_self (by omega),List.getElem?_map]
  unfold oB
  rw [List.getElem?_append_left (by rw [List.length_take];omega),List.getElem?_take_of_lt (by omega),List.getElem?_eq_getElem (by omega)]
  rfl
 ·rw [List.getElem?_set_ne hj,List.getElem?_map,List.getElem?_map]
  congr 1
  unfold oB
  by_cases h1:j<i
  ·rw [List.getElem?_append_left (by rw [List.length_take];omega),List.getElem?_append_left (by rw [List.length_take];omega),List.getElem?_take_of_lt h1,List.getElem?_take_of_lt (by omega)]
  ·rw [List.getElem?_append_right (by rw [List.length_take];omega),List.getElem?_append_right (by rw [List.length_take];omega),List.getElem?_replicate,List.getElem?_replicate,List.length_take,List.length_take]
   by_cases h2:j<9
   ·rw [if_pos (by omega),if_pos (by omega)]
   ·rw [if_neg (by omega),if_neg (by omega)]
theorem KM {l:List Int} (hl:l.length=9):oB l 9=l:=by
 unfold oB
 rw [List.take_of_length_le (by omega)]
 exact List.append_nil _
structure OfI (w w1:World) (W:List Clm) (comes L:List Int) (wr:World):Prop where
 rngW:wr.rangeAt w1.heap.size 0 (aF W)
 rngC:wr.rangeAt (w.heap.size+1) 0 (ai comes)
 rngS:wr.rangeAt (w1.heap.size+1) 0 (ai L)
 thrS:wr.there (w1.heap.size+1) 0 9
 res:wr.there (w.heap.size+2) 0 9
 below:Below w.heap.size w wr
 far:w1.heap.size+2≤wr.heap.size
 near:w.heap.size+3≤w1.heap.size
theorem OfI.go {w w1:World} {W:List Clm} {comes L:List Int} {wr w':World} (h:OfI w w1 W comes L wr) (hB:Below wr.heap.size wr w'):OfI w w1 W comes L w':=by
 have h1:=h.far
 have h2:=h.near
 exact ⟨ba hB (by omega) h.rngW,ba hB (by omega) h.rngC,ba hB (by omega) h.rngS,cG hB (by omega) h.thrS,cG hB (by omega) h.res,h.below.trans (hB.mono (by omega)),Nat.le_trans h1 hB.size,h2⟩
theorem OfI.put {w w1:World} {W:List Clm} {comes L L':List Int} {wr:World} (h:OfI w w1 W comes L wr) {i:Nat} (hi:i<9) {v:Int} (hL:(ai L).set i (.int .i64 v)=ai L'):OfI w w1 W comes L' (wr.setCell ⟨w1.heap.size+1,i,none⟩ (.int .i64 v)):=by
 have h1:=h.far
 have h2:=h.near
 have e:wr.setCell ⟨w1.heap.size+1,i,none⟩ (.int .i64 v)=wr.setCells (w1.heap.size+1) i [.int .i64 v]:=rfl
 refine ⟨?_,?_,?_,tM h.thrS _ rfl _,tM h.res _ rfl _,h.below.setCell (by show w.heap.size≤w1.heap.size+1;omega) _,by simpa using h1,h2⟩
 ·rw [e];exact World.rangeAt_setCells_apart h.rngW _ _ _ (Or.inl (by omega))
 ·rw [e];exact World.rangeAt_setCells_apart h.rngC _ _ _ (Or.inl (by omega))
 ·rw [←hL];exact Da h.rngS (oC h.thrS (by omega) (by omega)) _
theorem EG (els:List PEl) (rs:List cQ) (n:Int) (comes:List Int):(Eu els rs n comes).length=9:=by unfold Eu;simp
theorem Sk (els:List PEl) (rs:List cQ) (n:Int) (comes:List Int) {p:Nat} (hp:p<9):(Eu els rs n comes).getD p 0=cV (bc els rs n) comes 9 p:=by
 unfold Eu
 rw [List.getD_eq_getElem?_getD,List.getElem?_map,List.getElem?_range hp]
 rfl
theorem zA {els:List PEl} {rs:List cQ} {n:Int} (h:∀ r∈rs,r.ds.length≤400∧∀ d∈r.ds,d.fine):fw (bc els rs n):=qn xC (fun r hr=>(h r hr).2)
section
set_option maxRecDepth 100000
set_option maxHeartbeats 1500000
variable (w:World)
theorem Nw (b:Nat) (a:Option Addr) (c:Nat) (els:List PEl) (n:Int) (ar:Option Addr) (cr:Nat) (xs:List Value) (rs:List cQ) (comes:List Int) (hc:comes.length=9) (h:TRd w b a c els) (ho:RsRow w ar cr xs rs) :
  Calls Tryz.prog 127 #[.agg #[.slice ar rs.length cr],.pointer (some ⟨b,1,none⟩),.int .i64 n,.agg (ai comes).toArray] w fun e w'=>VR w (Eu els rs n comes) e w':=by
 have IV:Hid (fw (bc els rs n)):=zA ho.decl
 have ow:Hid (∀ Z:Array Value,Below w.heap.size w (((w.alloc (.cells #[.slice ar rs.length cr] 82)).alloc (.cells (ai comes).toArray 103)).alloc (.cells Z 103))):=fun Z=>(((Below.refl _ _).alloc (Nat.le_refl _) _).alloc (by simp) _).alloc (by simp;omega) _
 have HT:Hid (TRd w b a c els∧RsRow w ar cr xs rs):=⟨h,ho⟩
 have Wq:Hid ((Tryz.prog.info? 103).map (·.size)=some (ai comes).length):=sizeS hc
 clear h ho
 go_enter Tryz.func127,Tryz.ntmps127
 go_wp2_with fail
 refine (yH _ b a c els n ar cr xs rs (HT.out.1.below (ow.out _)) (HT.out.2.below (ow.out _))).mono ?_
 rintro e w1 ⟨rfl,hB⟩
 have fO:w.heap.size+3≤w1.heap.size:=by have:=hB.size;simp at this;omega
 have Cj:Hid ((Tryz.prog.info? 223).map (·.size)=some (aF (bc els rs n)).length):=sizeW IV.out.1
 have bR:(aF (bc els rs n)).toArray.size=63:=List.size_toArray.trans (by rw [fP,IV.out.1])
 have Bo:Hid ((Tryz.prog.info? 223).map (·.size)=some (aF (bc els rs n)).toArray.size):=by unfold Hid;rw [bR];exact Tryz.sizeW
 have V1:Hid (63=(aF (bc els rs n)).toArray.size):=bR.symm
 have BQ:Hid ((aF (bc els rs n)).toArray.all (·.oneCell')=true):=all_oneCell_toArray (sK _)
 have JU:Hid (OfI w w1 (bc els rs n) comes (oB (Eu els rs n comes) 0) ((w1.alloc (.cells (aF (bc els rs n)).toArray 223)).alloc (.cells (ai [0,0,0,0,0,0,0,0,0]).toArray 103))):=by
  have e1:(w1.alloc (.cells (aF (bc els rs n)).toArray 223)).heap.size=w1.heap.size+1:=by simp
  refine ⟨World.rangeAt_alloc (dY w1 _ _) _,World.rangeAt_alloc (World.rangeAt_alloc (ba hB (by simp) ?_) _) _,?_,?_,World.there_alloc (World.there_alloc (cG hB (by simp) ?_) _) _,(((ow.out _).trans (hB.mono (by simp;omega))).alloc (by omega) _).alloc (by simp;omega) _,by simp,fO⟩
  ·have:=dY (w.alloc (.cells #[.slice ar rs.length cr] 82)) (ai comes) 103
   exact World.rangeAt_alloc (by simpa using this) _
  ·have:=dY (w1.alloc (.cells (aF (bc els rs n)).toArray 223)) (ai [0,0,0,0,0,0,0,0,0]) 103
   rwa [e1] at this
  ·have:=eF (w1.alloc (.cells (aF (bc els rs n)).toArray 223)) (ai [0,0,0,0,0,0,0,0,0]).toArray 103 9 (by decide)
   rwa [e1] at this
  ·have:=eF ((w.alloc (.cells #[.slice ar rs.length cr] 82)).alloc (.cells (ai comes).toArray 103)) (#[.int .i64 0,.int .i64 0,.int .i64 0,.int .i64 0,.int .i64 0,.int .i64 0,.int .i64 0,.int .i64 0,.int .i64 0]:Array Value) 103 9 (by decide)
   simpa using this
 have HV:Hid (∀ p,p<9→(Eu els rs n comes).getD p 0=cV (bc els rs n) comes 9 p):=fun p hp=>Sk els rs n comes hp
 have Pg:Hid ((Eu els rs n comes).length=9):=EG els rs n comes
 clear hB bR
 generalize bc els rs n=W at IV Cj Bo V1 BQ JU HV ⊢
 obtain ⟨L,hL⟩:∃ L,Eu els rs n comes=L:=⟨_,rfl⟩
 have XA:Hid (Eu els rs n comes=L):=hL
 rw [hL] at JU HV Pg
 clear hL
 go_wp2_with (refine aw rfl 223 _ _ rfl _ (aF W).toArray 223 rfl rfl Bo.out V1.out BQ.out ?_)
 go_loopg [16] 9 (fun gk iv wr=>∃ i:Nat,iv=.int .i64 i∧i≤9∧9 - i≤gk∧Hid (OfI w w1 W comes (oB L i) wr))
 case atStart=>exact ⟨0,rfl,Nat.zero_le _,by omega,JU⟩
 case round=>
  obtain ⟨i,rfl,hi,fK,HN⟩:=hrel
  have Qj:=HN.out.far
  by_cases aN:i<9
  ·have hd:decide ((i:Int)<9)=true:=by simp;omega
   have jC:(i:Int)<9:=by omega
   go_wp2_with (first | (refine wpList_load_mid rfl 223 _ rfl w1.heap.size 0 rfl (aF W) _ HN.out.rngW Tryz.underlying223 rfl Cj.out ?_) | (refine wpList_load_mid rfl 103 _ rfl (w.heap.size+1) 0 rfl (ai comes) _ HN.out.rngC Tryz.underlying103 rfl Wq.out ?_))
   refine (D6 _ W IV.out i aN comes hc).mono ?_
   rintro e w2 ⟨rfl,hB⟩
   have eL:Hid (OfI w w1 W comes (oB L i) w2):=HN.out.go hB
   have q0:w2.cell? ⟨w1.heap.size+1,i,none⟩=some (.int .i64 ((oB L i).getD i 0)):=by have:=eL.out.rngS i _ (qS (by rw [B1 Pg.out hi];exact aN));rwa [Nat.zero_add] at this
   have q1:w2.frozen? ⟨w1.heap.size+1,i,none⟩=false:=by have:=(eL.out.thrS i aN).2;rwa [Nat.zero_add] at this
   have nR:Hid (OfI w w1 W comes (oB L (i+1)) (w2.setCell ⟨w1.heap.size+1,i,none⟩ (.int .i64 (cV W comes 9 i)))):=eL.out.put aN (by rw [←HV.out i aN];exact Lj Pg.out aN)
   clear hB
   generalize cV W comes 9 i=val at nR ⊢
   generalize (oB L i).getD i 0=eP at q0
   go_wp2
   go_roundg (9 - (i+1))
   case measure=>omega
   case rel=>exact ⟨i+1,by go_num,by omega,Nat.le_refl _,nR⟩
  ·have hd:decide ((i:Int)<9)=false:=by simp;omega
   obtain rfl:i=9:=by omega
   rw [KM Pg.out] at HN
   have xQ:Hid ((Tryz.prog.info? 103).map (·.size)=some (ai L).length):=sizeS Pg.out
   have bR:(ai L).toArray.size=9:=List.size_toArray.trans (by rw [List.length_map];exact Pg.out)
   have aaj:Hid ((Tryz.prog.info? 103).map (·.size)=some (ai L).toArray.size):=by unfold Hid;rw [bR];exact Tryz.sizeS
   have rp:Hid (wr.there (w.heap.size+2) 0 (ai L).toArray.size):=by unfold Hid;rw [bR];exact HN.out.res
   have ER:Hid ((ai L).toArray.all (·.oneCell')=true):=gP L
   have yn:Hid ((wr.setCells (w.heap.size+2) 0 (ai L)).rangeAt (w.heap.size+2) 0 (ai L)):=World.rangeAt_setCells_same wr _ 0 _ (by have:=rp.out;rwa [show (ai L).toArray.size=(ai L).length from List.size_toArray] at this)
   have r8:Hid (Below w.heap.size w (wr.setCells (w.heap.size+2) 0 (ai L))):=cq (by omega) _ _ _ HN.out.below
   clear bR
   go_wp2_with (first | (refine wpList_load_mid rfl 103 _ rfl (w1.heap.size+1) 0 rfl (ai L) _ HN.out.rngS Tryz.underlying103 rfl xQ.out ?_) | (refine wpList_store_mid rfl 103 _ _ rfl (w.heap.size+2) 0 (ai L).toArray rfl rfl rp.out aaj.out ER.out ?_))
   exact bodyPost_ret (fS Tryz.results127 _ rfl yn.out Tryz.underlying103 rfl xQ.out) rfl ⟨by rw [XA.out],r8.out⟩
end
end Go.Proofs.YtblfffbmklkhmaaGreat
namespace Go.Proofs.YtblfffbmklkhmaaGreat
open Go.RowKit
theorem me {P:Program} {fn:Func} {s u:Tmp} {t:TypeId} (h:fn.results=#[.cell s t,.tmp u]) (tmps:Array Value) {w:World} {b:Nat} (hx:tmps.getD s undef=.pointer (some ⟨b,0,none⟩)) {cs:List Value} {d:TypeDesc} (hc:w.rangeAt b 0 cs) (hu:P.underlying t=some d) (hd:d.isRow=true) (hi:(P.info? t).map (·.size)=some cs.length) :
  (results fn tmps).run P w=.ok (.tuple #[.agg cs.toArray,tmps.getD u undef]) w:=by
 have BP:tmps[s]?.getD undef=.pointer (some ⟨b,0,none⟩):=by simpa using hx
 simp [results,h,BP,asAddr,run_loadVar_mid w b 0 t cs d hc hu hd hi]
def j5 (kl:List (Int × List Int)) (n:Int):Option (List Int):=(kl.find? fun x=>decide (x.1=n)).map Prod.snd
abbrev jL:List Int:=[0,0,0,0,0,0,0,0,0]
def R9 (w:World) (r:Option (List Int)) (e:Ending) (w':World):Prop:=e=.returned (.tuple #[.agg (ai (r.getD jL)).toArray,.bool r.isSome])∧Below w.heap.size w w'
theorem I8 {kl:List (Int × List Int)} {n:Int} {i:Nat} (hi:i<kl.length) (mm:∀ j (_:j<kl.length),j<i→kl[j].1=n→False) (h:kl[i].1=n):j5 kl n=some kl[i].2:=by
 unfold j5
 have:(kl.find? fun x=>decide (x.1=n))=some kl[i]:=by
  rw [List.find?_eq_some_iff_getElem]
  refine ⟨by simpa using h,i,hi,rfl,fun j hj=>?_⟩
  have:=mm j (by omega) hj
  simpa using this
 rw [this]
 rfl
theorem Lb {kl:List (Int × List Int)} {n:Int} (mm:∀ j (_:j<kl.length),kl[j].1=n→False):j5 kl n=none:=by
 unfold j5
 have:(kl.find? fun x=>decide (x.1=n))=none:=by
  rw [List.find?_eq_none]
  intro x hx
  obtain ⟨j,hj,rfl⟩:=List.getElem_of_mem hx
  simpa using mm j hj
 rw [this]
 rfl
theorem Dw {kl:List (Int × List Int)} {n:Int} {s:List Int} (h:j5 kl n=some s):(n,s)∈kl:=by
 unfold j5 at h
 cases hf:kl.find? fun x=>decide (x.1=n) with
 | none=>rw [hf] at h;cases h
 | some x=>
  rw [hf] at h
  have h1:x.1=n:=by simpa using List.find?_some hf
  have h2:x.2=s:=by simpa using h
  have:=List.mem_of_find?_eq_some hf
  rw [←h1,←h2]
  exact this
theorem Ed {kl:List (Int × List Int)} {n:Int} (h:j5 kl n=none):∀ x∈kl,x.1≠n:=by
 unfold j5 at h
 rw [Option.map_eq_none_iff,List.find?_eq_none] at h
 intro x hx
 simpa using h x hx
section
set_option maxRecDepth 100000
set_option maxHeartbeats 4000000
theorem Cp (w:World) (b:Nat) (v:Value) (kl:List (Int × List Int)) (n:Int) (hb:w.cell? ⟨b,3,none⟩=some v) (h:KL w v kl) (bw:kl.length≤24) :
  Calls Tryz.prog 86 #[.pointer (some ⟨b,3,none⟩),.int .i64 n] w fun e w'=>R9 w (j5 kl n) e w':=by
 obtain ⟨a,c,hv⟩:=h.shape
 subst hv
 have HP:Hid (KL w (.slice a kl.length c) kl):=h
 have jI:b<w.heap.size:=World.block_lt_of_cell? w _ hb
 clear h
 have rZ:Hid ((Tryz.prog.info? 103).map (·.size)=some (ai jL).toArray.size):=Tryz.sizeS
 go_enter Tryz.func86,Tryz.ntmps86
 go_wp2_with fail
 go_loopg [13] kl.length (fun gk iv wr=>∃ i:Nat,iv=.int .i64 i∧i≤kl.length∧kl.length - i≤gk∧Hid (Below w.heap.size w wr∧wr.there w.heap.size 0 9∧w.heap.size<wr.heap.size∧∀ j (_:j<kl.length),j<i→kl[j].1=n→False))
 case atStart=>exact ⟨0,rfl,Nat.zero_le _,by omega,(Below.refl _ _).alloc (Nat.le_refl _) _,eF w _ _ 9 (by decide),by simp,fun j _ h=>by omega⟩
 case round=>
  obtain ⟨i,rfl,hi,fK,HN⟩:=hrel
  have iS:=HN.out.1.size
  by_cases aN:i<kl.length
  ·have hd:decide ((i:Int)<(kl.length:Int))=true:=by simp;omega
   obtain ⟨g,hg,db,he⟩:=HP.out.el aN
   subst hg
   have HE:Hid (KAt wr g (i*10) (hO kl[i]) kl[i].1):=he.below HN.out.1 db
   have h9:=HP.out.nine _ (List.getElem_mem aN)
   have HF:Hid (kl[i].1=n→j5 kl n=some kl[i].2):=fun h=>I8 aN HN.out.2.2.2 h
   have jl:Hid (¬ kl[i].1=n→∀ j (_:j<kl.length),j<i+1→kl[j].1=n→False):=fun hm j hj h1 h2=>by
    by_cases e:j=i
    ·subst e;exact hm h2
    ·exact HN.out.2.2.2 j hj (by omega) h2
   clear he
   generalize kl[i]=y at HE HF jl h9
   have Wb:Hid ((wr.alloc (.cells (hO y).toArray 196)).rangeAt wr.heap.size 1 (ai y.2)):=fun j u hu=>by
    have:=(HE.out.new wr).rng (1+j) u (by rw [Nat.add_comm];exact hu)
    rwa [Nat.zero_add] at this
   obtain ⟨cs,jy⟩:∃ cs,hO y=cs:=⟨_,rfl⟩
   rw [jy] at HE Wb
   clear jy
   obtain ⟨y1,y2⟩:=y
   simp only at HE HF jl h9 Wb
   have c0:cs[0]?=some (.int .i64 y1):=HE.out.c0
   by_cases hy:y1=n
   ·have gy:(y1==n)=true:=by simp [hy]
    have qT:Hid (j5 kl n=some y2):=HF.out hy
    have WV:Hid ((Tryz.prog.info? 103).map (·.size)=some (ai y2).length):=sizeS h9
    have bR:(ai y2).toArray.size=9:=List.size_toArray.trans (by rw [List.length_map];exact h9)
    have t8:Hid ((Tryz.prog.info? 103).map (·.size)=some (ai y2).toArray.size):=by unfold Hid;rw [bR];exact Tryz.sizeS
    have rp:Hid ((wr.alloc (.cells cs.toArray 196)).there w.heap.size 0 (ai y2).toArray.size):=by unfold Hid;rw [bR];exact World.there_alloc HN.out.2.1 _
    have ER:Hid ((ai y2).toArray.all (·.oneCell')=true):=gP y2
    have yn:Hid (((wr.alloc (.cells cs.toArray 196)).setCells w.heap.size 0 (ai y2)).rangeAt w.heap.size 0 (ai y2)):=World.rangeAt_setCells_same _ _ 0 _ (by have:=rp.out;rwa [show (ai y2).toArray.size=(ai y2).length from List.size_toArray] at this)
    have r8:Hid (Below w.heap.size w ((wr.alloc (.cells cs.toArray 196)).setCells w.heap.size 0 (ai y2))):=cq (Nat.le_refl _) _ _ _ (HN.out.1.alloc iS _)
    clear hy bR HF jl
    go_wp2_with (first | (refine wpList_load_mid rfl 196 _ rfl g (i*10) rfl cs _ HE.out.rng Tryz.underlying196 rfl HE.out.size ?_) | (refine aw rfl 196 _ _ rfl _ cs.toArray 196 rfl rfl HE.out.size' HE.out.same HE.out.all ?_) | (refine wpList_load_mid rfl 103 _ rfl wr.heap.size 1 rfl (ai y2) _ Wb.out Tryz.underlying103 rfl WV.out ?_) | (refine wpList_store_mid rfl 103 _ _ rfl w.heap.size 0 (ai y2).toArray rfl rfl rp.out t8.out ER.out ?_))
    exact bodyPost_ret (me Tryz.results86 _ rfl yn.out Tryz.underlying103 rfl WV.out) rfl ⟨by rw [qT.out];rfl,r8.out⟩
   ·have gy:(y1==n)=false:=by simp [hy]
    have eL:Hid (Below w.heap.size w (wr.alloc (.cells cs.toArray 196))∧(wr.alloc (.cells cs.toArray 196)).there w.heap.size 0 9∧w.heap.size<(wr.alloc (.cells cs.toArray 196)).heap.size∧∀ j (_:j<kl.length),j<i+1→kl[j].1=n→False):=⟨HN.out.1.alloc iS _,World.there_alloc HN.out.2.1 _,by simp;omega,jl.out hy⟩
    clear hy HF jl
    go_wp2_with (first | (refine wpList_load_mid rfl 196 _ rfl g (i*10) rfl cs _ HE.out.rng Tryz.underlying196 rfl HE.out.size ?_) | (refine aw rfl 196 _ _ rfl _ cs.toArray 196 rfl rfl HE.out.size' HE.out.same HE.out.all ?_))
    go_roundg (kl.length - (i+1))
    case measure=>omega
    case rel=>exact ⟨i+1,by go_num,by omega,Nat.le_refl _,eL⟩
  ·have hd:decide ((i:Int)<(kl.length:Int))=false:=by simp;omega
   have qT:Hid (j5 kl n=none):=Lb (fun j hj h=>HN.out.2.2.2 j hj (by omega) h)
   have rp:Hid (wr.there w.heap.size 0 (ai jL).toArray.size):=HN.out.2.1
   have ER:Hid ((ai jL).toArray.all (·.oneCell')=true):=gP jL
   have yn:Hid ((wr.setCells w.heap.size 0 (ai jL)).rangeAt w.heap.size 0 (ai jL)):=World.rangeAt_setCells_same _ _ 0 _ HN.out.2.1
   have r8:Hid (Below w.heap.size w (wr.setCells w.heap.size 0 (ai jL))):=cq (Nat.le_refl _) _ _ _ HN.out.1
   have WV:Hid ((Tryz.prog.info? 103).map (·.size)=some (ai jL).length):=sizeS rfl
   go_wp2_with (first | (refine wpList_store_mid rfl 103 _ _ rfl w.heap.size 0 (ai jL).toArray rfl rfl rp.out rZ.out ER.out ?_))
   exact bodyPost_ret (me Tryz.results86 _ rfl yn.out Tryz.underlying103 rfl WV.out) rfl ⟨by rw [qT.out];rfl,r8.out⟩
end
end Go.Proofs.YtblfffbmklkhmaaGreat
namespace Go.Proofs.YtblfffbmklkhmaaGreat
open Go.RowKit
theorem x8 {s:List Int} (h:s.length=9):∃ a b c d e f g i j,s=[a,b,c,d,e,f,g,i,j]:=by
 match s,h with
 | [a,b,c,d,e,f,g,i,j],_=>exact ⟨a,b,c,d,e,f,g,i,j,rfl⟩
def qA (w:World) (b:Nat) (vS:Value × Value) (v:Value) (made:Nat) (kl:List (Int × List Int)) (e:Ending) (w':World):Prop:=
 e=.returned (.tuple #[])∧∃ v',w'.heap[b]?=some (mb (vS.1,v') v made)∧KL w' v' kl∧Fr w w' (fun k=>k=b∨vS.2.ownBlock=some k)∧∀ j,v'.ownBlock=some j→vS.2.ownBlock=some j∨w.heap.size≤j
section
set_option maxRecDepth 100000
set_option maxHeartbeats 4000000
theorem G2 (w:World) (b:Nat) (vS:Value × Value) (v:Value) (made:Nat) (kl:List (Int × List Int)) (n:Int) (st:List Int) (hb:w.heap[b]?=some (mb vS v made)) (h:KL w vS.2 kl) (bw:kl.length≤24) (h9:st.length=9) :
  Calls Tryz.prog 128 #[.pointer (some ⟨b,3,none⟩),.int .i64 n,.agg (ai st).toArray] w fun e w'=>qA w b vS v made (kl++[(n,st)]) e w':=by
 obtain ⟨i0,z0,hi,iz,is,ib,G6⟩:=Tryz.infoK
 obtain ⟨Z4,vs2⟩:=vS
 simp only at h
 obtain ⟨a,c,hv⟩:=h.shape
 subst hv
 have HK:Hid (KL w (.slice a kl.length c) kl):=h
 have sy:Hid (w.heap[b]?=some (mb (Z4,.slice a kl.length c) v made)):=hb
 have jI:b<w.heap.size:=(Array.getElem?_eq_some_iff.1 hb).1
 have q3:w.cell? ⟨b,3,none⟩=some (.slice a kl.length c):=aa hb rfl
 have q3f:w.frozen? ⟨b,3,none⟩=false:=ag hb
 have HNE:Hid ((Value.slice a kl.length c).ownBlock≠some b):=aj h.row hb (by decide)
 obtain ⟨s0,s1,s2,s3,s4,s5,s6,s7,s8,Al⟩:=x8 h9
 subst Al
 clear h hb h9
 have gf:Hid (∀ (A B:Obj) (w8:World) (v8:Value),w8.ownsRow 0 196 10 v8 (kl.length+1) (mi kl++[.int .i64 n,.int .i64 s0,.int .i64 s1,.int .i64 s2,.int .i64 s3,.int .i64 s4,.int .i64 s5,.int .i64 s6,.int .i64 s7,.int .i64 s8])→(((w.alloc A).alloc B).drew).grownBy w8 (Value.slice a kl.length c).ownBlock→(∀ j,v8.ownBlock=some j→(Value.slice a kl.length c).ownBlock=some j∨w.heap.size≤j)→qA w b (Z4,.slice a kl.length c) v made (kl++[(n,[s0,s1,s2,s3,s4,s5,s6,s7,s8])]) (.returned (.tuple #[])) (w8.setCell ⟨b,3,none⟩ v8)∧w8.cell? ⟨b,3,none⟩=some (.slice a kl.length c)∧w8.frozen? ⟨b,3,none⟩=false∧b<w8.heap.size):=fun A B w8 v8 bL hg hj=>by
  have B9:w8.heap[b]?=some (mb (Z4,.slice a kl.length c) v made):=(hg.block b (by simp [World.drew];omega) (fun e=>HNE.out e.symm)).trans ((Below.heap_alloc (w.alloc A) B b (by simp;omega)).trans ((Below.heap_alloc w A b jI).trans sy.out))
  have Hb:v8.ownBlock≠some b:=aj bL B9 (by decide)
  have hH:Fr w w8 (fun k=>k=b∨(Value.slice a kl.length c).ownBlock=some k):=((((Fr.refl w (fun k=>k=b∨(Value.slice a kl.length c).ownBlock=some k)).alloc A).alloc B).drew1).gb hg (fun k hk=>Or.inl (Or.inr hk))
  refine ⟨⟨rfl,v8,?_,⟨?_,fun x hx=>?_⟩,hH.set (p:=⟨b,3,none⟩) (Or.inl (Or.inl rfl)) _,hj⟩,aa B9 rfl,ag B9,(Array.getElem?_eq_some_iff.1 B9).1⟩
  ·rw [aq B9];rfl
  ·rw [uA,List.length_append]
   exact aX bL Hb _
  ·rcases List.mem_append.1 hx with hx | hx
   ·exact HK.out.nine x hx
   ·rw [List.mem_singleton] at hx
    rw [hx]
    rfl
 go_enter Tryz.func128,Tryz.ntmps128
 go_upto_region 1 with fail
 go_region_law (refine lh rfl (.tmp 10) (.tmp 14) 86 rfl 0 196 i0 z0 10 80 Tryz.underlying86 hi iz is ib G6 (by decide) (.slice a kl.length c) kl.length (mi kl) (by simp [Act.eval]) (((HK.out.row.alloc _).alloc _).drew) ⟨w.heap.size+1,0,none⟩ 1 1 [.int .i64 n,.int .i64 s0,.int .i64 s1,.int .i64 s2,.int .i64 s3,.int .i64 s4,.int .i64 s5,.int .i64 s6,.int .i64 s7,.int .i64 s8] (by simp [Act.eval]) rfl (aO (w.alloc _) _ (by simp) _ _ _ rfl) (uz (n,[s0,s1,s2,s3,s4,s5,s6,s7,s8])) (by unfold maxLen;omega) (by omega) (Nat.zero_le _) ?_;intro v8 w8 tG Vn B9;obtain ⟨a8,c8,hv8⟩:=au tG;have GQ:=gf.out _ _ w8 v8 tG Vn (fun j hj=>(B9.out j hj).imp id (fun h=>Nat.le_trans (by simp [World.drew];omega) h));have y1:=GQ.2.1;have y1f:=GQ.2.2.1;have y1l:=GQ.2.2.2;replace GQ:=GQ.1;rw [hv8] at GQ ⊢;clear hv8 tG Vn B9)
 all_goals
  go_wp2
  go_end0
  exact GQ
end
end Go.Proofs.YtblfffbmklkhmaaGreat
