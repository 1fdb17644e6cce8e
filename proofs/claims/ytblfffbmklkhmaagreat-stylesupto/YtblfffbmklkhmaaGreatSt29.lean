import Derived.Test.YtblfffbmklkhmaaGreatSt27
namespace Go.Proofs.YtblfffbmklkhmaaGreat
open Go.RowKit
structure ex where
 sg:Nat
 tx:ByteArray
def ex.no:ex:=⟨0,⟨#[]⟩⟩
def jB (cs:List ex):List Value:=cs.flatMap fun c=>[.int .u8 c.sg,.string c.tx]
theorem qe {cs:List ex} {i:Nat} (h:i<cs.length):(jB cs)[i*2]?=some (.int .u8 cs[i].sg)∧(jB cs)[i*2+1]?=some (.string cs[i].tx):=by
 induction cs generalizing i with
 | nil=>simp at h
 | cons c l ih=>
  unfold jB
  rw [List.flatMap_cons]
  cases i with
  | zero=>exact ⟨rfl,rfl⟩
  | succ i=>
   have:=ih (i:=i) (by simpa using h)
   unfold jB at this
   rw [show (i+1)*2=i*2+2 from by omega]
   exact ⟨by simpa using this.1,by simpa using this.2⟩
def FA (els:List REl) (a:Nat):Int:=((els[a]?.map REl.num).getD 0:Nat)
theorem tV {els:List REl} {a:Nat} (h:a<els.length):FA els a=els[a].num:=by
 unfold FA
 rw [List.getElem?_eq_getElem h]
 rfl
noncomputable def ej (els:List REl) (on:List Bool) (sg:Nat) (b:Int):Nat→Bool
 | 0=>false
 | a+1=>ej els on sg b a||((on[a]?).getD false&&cA els (FA els a) sg b)
noncomputable def gg (els:List REl) (cs:List ex):Nat→List Bool
 | 0=>[]
 | c+1=>els.map fun b=>eM els b 400 (cs[c]?.getD ex.no).tx&&(decide (c=0)||ej els (gg els cs c) (cs[c]?.getD ex.no).sg b.num els.length)
theorem pn {els:List REl} {cs:List ex} {c:Nat} (h:0<c):(gg els cs c).length=els.length:=by
 cases c with
 | zero=>omega
 | succ c=>simp [gg]
theorem Tryz.info4:(Tryz.prog.info? 4).map (fun i=>(i.zero,i.size,i.bytes))=some (some (.bool false),1,1):=by kernel_rfl
abbrev ei (l:List Bool):List Value:=l.map Value.bool
def V0 (w:World) (l:List Bool) (e:Ending) (w':World):Prop:=∃ (a:Option Addr) (c:Nat),e=.returned (.slice a l.length c)∧w'.ownsRow w.heap.size 4 1 (.slice a l.length c) l.length (ei l)∧Below w.heap.size w w'
theorem Le (w:World) (ae n:Nat) (hb:ae≤w.heap.size) (hn:n≤24):(w.alloc (.cells (madeCells #[.bool false] n) 4)).ownsRow ae 4 1 (.slice (some ⟨w.heap.size,0,none⟩) n n) n (List.replicate n (.bool false)):=
 ⟨by simp,Or.inr ⟨w.heap.size,n,madeCells #[.bool false] n,rfl,hb,heap_alloc_new w _,Nat.le_refl _,by unfold maxLen;omega,by rw [size_madeCells,Nat.mul_one],by rw [toList_madeCells_one];simp⟩⟩
theorem Lp {l:List Bool} {i:Nat} (h:i<l.length) {n:Nat} (hn:l.length=n):(ei (l.take i)++List.replicate (n - i) (Value.bool false)).set i (.bool l[i])=ei (l.take (i+1))++List.replicate (n - (i+1)) (.bool false):=by
 have hl:(ei (l.take i)).length=i:=by simp;omega
 rw [List.set_append_right _ _ (by omega),hl,Nat.sub_self,show n - i=(n - (i+1))+1 from by omega,List.replicate_succ,List.set_cons_zero,List.take_succ_eq_append_getElem h]
 unfold ei
 rw [List.map_append,List.append_assoc]
 rfl
theorem HPost.quiet {w:World} {k:Nat} {r:Bool} {f:FuncId} {args:Array Value} (h:Calls Tryz.prog f args (w.drewN k) fun e w'=>HPost (w.drewN k) r e w'):Calls Tryz.prog f args (w.drewN k) fun e w''=>e=.returned (.bool r)∧∃ m,w''=w.drewN m:=
 h.mono fun _ _ ⟨he,j,hj⟩=>⟨he,k+j,by rw [hj,World.drewN_drewN]⟩
structure NI (w:World) (ae:Nat) (wq:World) (av:Value) (on:List Bool) (nb n:Nat) (row:List Value):Prop where
 onr:wq.ownsRow ae 4 1 av on.length (ei on)
 nowr:wq.ownsRow ae 4 1 (.slice (some ⟨nb,0,none⟩) n n) n row
 below:Below ae w wq
 ne:∀ j,av.ownBlock=some j→j≠nb
theorem uU {els:List REl} {on:List Bool} {sg:Nat} {b:Int}:∀ {i n:Nat},i≤n→ej els on sg b i=true→ej els on sg b n=true
 | i,0,h,h1=>by
  obtain rfl:i=0:=by omega
  exact h1
 | i,n+1,h,h1=>by
  by_cases e:i=n+1
  ·rw [←e];exact h1
  ·have:=uU (i:=i) (n:=n) (by omega) h1
   show (ej els on sg b n||_)=true
   rw [this]
   rfl
theorem NI.set {w:World} {ae:Nat} {wq:World} {av:Value} {on:List Bool} {nb n:Nat} {row:List Value} (h:NI w ae wq av on nb n row) (i:Nat) (u:Value):NI w ae (wq.setCell ⟨nb,i,none⟩ u) av on nb n (row.set i u):=by
 have hb:ae≤nb:=(h.nowr.lt nb rfl).1
 exact ⟨aX h.onr (fun e=>h.ne nb e rfl) _,(h.nowr.stored i u).1,h.below.setCell hb _,h.ne⟩
theorem NI.drawn {w:World} {ae:Nat} {wq:World} {av:Value} {on:List Bool} {nb n:Nat} {row:List Value} (h:NI w ae wq av on nb n row) (iS:ae≤wq.heap.size) {w':World} (hd:Drew wq w'):NI w ae w' av on nb n row:=
 ⟨aQ h.onr hd.below,aQ h.nowr hd.below,h.below.trans (hd.below.mono iS),h.ne⟩
set_option maxRecDepth 100000 in
set_option maxHeartbeats 8000000 in
theorem zR (w:World) (d:Nat) (els:List REl) (made:Nat) (hp:Option Addr) (vT:Value) (aR:Bool) (vL:Value) (h:RD w d els made hp vT aR vL) (rk:Nat→Nat) (hr:lM els rk) (kI:∀ y∈els,y.cl.size≤maxLen)
  (ae:Nat) (a:Option Addr) (c:Nat) (cs:List ex) (ho:w.ownsRow ae 206 2 (.slice a cs.length c) cs.length (jB cs)) (oE:∀ x∈cs,kT 400 x.tx) (jy:cs.length≤400) :
  Calls Tryz.prog 188 #[.pointer (some ⟨d,0,none⟩),.slice a cs.length c] w fun e w'=>V0 w (gg els cs cs.length) e w':=by
 obtain ⟨i0,hi,gx,gw,gB⟩:=info_parts Tryz.info4
 have bw:=h.few
 have Ci:∀ u:World,(Instr.makeSlice 245 (.int .i64 (els.length:Int)) (.int .i64 (els.length:Int))).run Tryz.prog u=.ok (.slice (some ⟨u.heap.size,0,none⟩) els.length els.length) (u.alloc (.cells (madeCells #[.bool false] els.length) 4)):=fun u=>by
  have h:=run_make (P:=Tryz.prog) u 245 4 i0 (.bool false) Tryz.underlying245 hi gx .i64 .i64 (els.length:Int) (els.length:Int) (by omega) (Int.le_refl _) (by rw [gB];omega) (by omega)
  simpa [gw,Value.cells] using h
 obtain ⟨aL,cL,sX⟩:=h.shape
 subst sX
 have HR:Hid (RD w d els made hp vT aR (.slice aL els.length cL)∧lM els rk∧∀ y∈els,y.cl.size≤maxLen):=⟨h,hr,kI⟩
 have HO:Hid (w.ownsRow ae 206 2 (.slice a cs.length c) cs.length (jB cs)∧∀ x∈cs,kT 400 x.tx):=⟨ho,oE⟩
 clear h hr kI ho oE
 go_enter Tryz.func188,Tryz.ntmps188
 go_wp2_with fail
 go_loopg [5,6] cs.length (fun gk onv cv wr=>∃ k:Nat,cv=.int .i64 k∧k≤cs.length∧cs.length - k≤gk∧Hid (wr.ownsRow w.heap.size 4 1 onv (gg els cs k).length (ei (gg els cs k))∧Below w.heap.size w wr))
 case atStart=>exact ⟨0,rfl,Nat.zero_le _,by omega,World.ownsRow_nil _ _ _ _,Below.refl _ _⟩
 case round=>
  obtain ⟨k,rfl,om,fK,HN⟩:=hrel
  obtain ⟨a2,c2,jr⟩:=au HN.out.1
  subst jr
  have iS:=HN.out.2.size
  by_cases aN:k<cs.length
  ·have hd:decide ((k:Int)<(cs.length:Int))=true:=by simp;omega
   obtain ⟨g,hg,db,fN⟩:=aH HO.out.1 (by omega)
   subst hg
   obtain ⟨f0,f1⟩:=qe aN
   have s0:=fN _ _ f0
   have s1:=fN _ _ f1
   have Wh:Hid (kT 400 cs[k].tx):=HO.out.2 _ (List.getElem_mem aN)
   have BQ:Hid (gg els cs (k+1)=els.map fun b=>eM els b 400 cs[k].tx&&(decide (k=0)||ej els (gg els cs k) cs[k].sg b.num els.length)):=by
    unfold Hid
    show (els.map fun b=>_)=_
    rw [List.getElem?_eq_getElem aN]
    rfl
   have HOL:Hid (k≠0→(gg els cs k).length=els.length):=fun h0=>pn (by omega)
   clear fN f0 f1
   generalize cs[k]=x at s0 s1 Wh BQ
   generalize gg els cs k=on at HN BQ HOL ⊢
   have d1:=(HR.out.1.below HN.out.2).c1
   have WJ:Hid (NI w w.heap.size (wr.alloc (.cells (madeCells #[.bool false] els.length) 4)) (.slice a2 on.length c2) on wr.heap.size els.length (ei ((gg els cs (k+1)).take 0)++List.replicate (els.length - 0) (.bool false))):=
    ⟨HN.out.1.alloc _,Le wr _ _ iS bw,HN.out.2.alloc iS _,fun j hj=>by have:=(HN.out.1.lt j hj).2;omega⟩
   have OL:(gg els cs (k+1)).length=els.length:=pn (by omega)
   clear HN
   generalize hnw:gg els cs (k+1)=nowT at BQ WJ OL
   have HNW:Hid (nowT=gg els cs (k+1)):=hnw.symm
   clear hnw
   go_wp2_with fail
   clear d1
   generalize wr.alloc (.cells (madeCells #[.bool false] els.length) 4)=W0 at WJ ⊢
   generalize wr.heap.size=nb at WJ ⊢
   have Z3:Hid (∀ b (hb:b<els.length),∃ Y6:b<nowT.length,nowT[b]=(eM els els[b] 400 x.tx&&(decide (k=0)||ej els on x.sg els[b].num els.length))):=fun b hb=>⟨by rw [OL];exact hb,by
    have h1:=BQ.out
    subst h1
    simp⟩
   clear BQ
   go_loopg [8] els.length (fun H7 bv wq=>∃ b:Nat,bv=.int .i64 b∧b≤els.length∧els.length - b≤H7∧Hid (NI w w.heap.size wq (.slice a2 on.length c2) on nb els.length (ei (nowT.take b)++List.replicate (els.length - b) (.bool false))))
   case atStart=>exact ⟨0,rfl,Nat.zero_le _,by omega,WJ⟩
   case round=>
    obtain ⟨b,rfl,jI,r7,HM⟩:=hrel
    have d1:=(HR.out.1.below HM.out.below).c1
    by_cases Eb:b<els.length
    ·have iL:decide ((b:Int)<(els.length:Int))=true:=by simp;omega
     obtain ⟨gL,Yz,e1⟩:=(HR.out.1.below HM.out.below).at' Eb
     subst Yz
     have Ku:els[b]∈els:=List.getElem_mem Eb
     have Uh:=(HM.out.below.cell (p:=⟨g,k*2,none⟩) db).trans s0
     have s1r:=(HM.out.below.cell (p:=⟨g,k*2+1,none⟩) db).trans s1
     have Re:=HM.out.below.size
     obtain ⟨WK,UX⟩:=Z3.out b Eb
     have IT:Hid (nowT[b]=(eM els els[b] 400 x.tx&&(decide (k=0)||ej els on x.sg els[b].num els.length))):=UX
     have yK:Hid ((ei (nowT.take b)++List.replicate (els.length - b) (Value.bool false)).set b (.bool nowT[b])=ei (nowT.take (b+1))++List.replicate (els.length - (b+1)) (.bool false)):=Lp WK OL
     have sM:Hid (∀ j,Calls Tryz.prog 202 #[.pointer (some ⟨d,0,none⟩),.pointer (some ⟨els[b].blk,0,none⟩),.string x.tx] (wr.drewN j) fun e w'=>e=.returned (.bool (eM els els[b] 400 x.tx))∧∃ m,w'=wr.drewN m):=fun j=>HPost.quiet (Ll _ d els made hp vT aR _ els[b] x.tx 400 (HR.out.1.below (HM.out.below.trans ((cJ wr j).mono Re))) Ku (HR.out.2.2 _ Ku) Wh.out)
     have QD:(b:Int)<(els.length:Int):=by omega
     have V2:(k:Int)<(cs.length:Int):=by omega
     clear UX
     generalize nowT[b]=res at IT yK
     go_upto_region 9 with fail
     go_quiet ((go_at_call 202;exact (sM.out _)))
     have MK:Hid (NI w w.heap.size (wr.drewN nq) (.slice a2 on.length c2) on nb els.length (ei (nowT.take b)++List.replicate (els.length - b) (.bool false))):=HM.out.drawn Re ⟨nq,rfl⟩
     generalize wr.drewN nq=wz at MK ⊢
     clear sM d1 e1 Uh s1r HM
     have yx:Hid ((ei (nowT.take b)++List.replicate (els.length - b) (Value.bool false))[b]?=some (.bool false)):=by
      unfold Hid
      have hl:(ei (nowT.take b)).length=b:=by simp;omega
      rw [List.getElem?_append_right (by omega),hl,Nat.sub_self,List.getElem?_replicate,if_pos (by omega)]
     generalize hy:els[b]=y at IT Ku ⊢
     have HY:Hid (els[b]=y):=hy
     clear hy
     cases hf:eM els y 400 x.tx with
     | false=>
      have Di:Hid (res=false):=by unfold Hid;rw [IT.out,hf];rfl
      clear hf IT
      have q:=MK.out.nowr.cellAt b (by omega)
      rw [yx.out] at q
      have qz:=MK.out.nowr.frozenAt b
      have Sp:Hid (NI w w.heap.size (wz.setCell ⟨nb,b,none⟩ (.bool false)) (.slice a2 on.length c2) on nb els.length (ei (nowT.take (b+1))++List.replicate (els.length - (b+1)) (.bool false))):=by
       have:=MK.out.set b (.bool res)
       rw [yK.out,Di.out] at this
       exact this
      go_wp2_with fail
      refine wp_loop_rounds 1 ?_
      rw [rounds_succ]
      go_wp2
      go_roundg (els.length - (b+1))
      case measure=>omega
      case rel=>exact ⟨b+1,by go_num,by omega,Nat.le_refl _,Sp⟩
     | true=>
      by_cases IU:k=0
      ·have gk0:((k:Int)==0)=true:=by simp [IU]
       have Di:Hid (res=true):=by unfold Hid;rw [IT.out,hf,decide_eq_true IU];rfl
       clear hf IT IU
       have q:=MK.out.nowr.cellAt b (by omega)
       rw [yx.out] at q
       have qz:=MK.out.nowr.frozenAt b
       have Sp:Hid (NI w w.heap.size (wz.setCell ⟨nb,b,none⟩ (.bool true)) (.slice a2 on.length c2) on nb els.length (ei (nowT.take (b+1))++List.replicate (els.length - (b+1)) (.bool false))):=by
        have:=MK.out.set b (.bool res)
        rw [yK.out,Di.out] at this
        exact this
       go_wp2_with fail
       refine wp_loop_rounds 1 ?_
       rw [rounds_succ]
       go_wp2
       go_roundg (els.length - (b+1))
       case measure=>omega
       case rel=>exact ⟨b+1,by go_num,by omega,Nat.le_refl _,Sp⟩
      ·have gk0:((k:Int)==0)=false:=by rw [beq_eq_false_iff_ne];omega
       have Wo:Hid (res=ej els on x.sg y.num els.length):=by unfold Hid;rw [IT.out,hf,decide_eq_false IU];rfl
       have Xt:=HOL.out IU
       clear hf IT IU
       go_wp2_with fail
       go_loopg [10,11] els.length (fun UG sv av wq=>∃ (i:Nat) (t:Bool),sv=.bool t∧av=.int .i64 i∧i≤els.length∧els.length - i≤UG∧Hid (t=ej els on x.sg y.num i∧NI w w.heap.size wq (.slice a2 on.length c2) on nb els.length (ei (nowT.take b)++List.replicate (els.length - b) (.bool false))))
       case atStart=>exact ⟨0,false,rfl,rfl,Nat.zero_le _,by omega,rfl,MK.out⟩
       case round=>
        obtain ⟨i,t,rfl,rfl,jC,LM,HJ⟩:=hrel
        have d1:=(HR.out.1.below HJ.out.2.below).c1
        cases t with
        | true=>
         have Di:Hid (res=true):=by unfold Hid;rw [Wo.out];exact uU jC HJ.out.1.symm
         have rW:Hid (NI w w.heap.size wr (.slice a2 on.length c2) on nb els.length (ei (nowT.take b)++List.replicate (els.length - b) (.bool false))):=HJ.out.2
         clear HJ d1
         have q:=rW.out.nowr.cellAt b (by omega)
         rw [yx.out] at q
         have qz:=rW.out.nowr.frozenAt b
         have Sp:Hid (NI w w.heap.size (wr.setCell ⟨nb,b,none⟩ (.bool true)) (.slice a2 on.length c2) on nb els.length (ei (nowT.take (b+1))++List.replicate (els.length - (b+1)) (.bool false))):=by
          have:=rW.out.set b (.bool res)
          rw [yK.out,Di.out] at this
          exact this
         go_wp2
         go_roundg (els.length - (b+1))
         case measure=>omega
         case rel=>exact ⟨b+1,by go_num,by omega,Nat.le_refl _,Sp⟩
        | false=>
         by_cases hit:i<els.length
         ·have Bi:decide ((i:Int)<(els.length:Int))=true:=by simp;omega
          obtain ⟨gO,YX,_,Wk⟩:=aH HJ.out.2.onr (by omega)
          have o1:=Wk i (.bool (on[i]'(by omega))) (by simp [Xt,hit])
          obtain ⟨gL2,VB,e1⟩:=(HR.out.1.below HJ.out.2.below).at' hit
          obtain rfl:gL=gL2:=by simpa using VB
          obtain ⟨gL3,UD,e2⟩:=(HR.out.1.below HJ.out.2.below).at' Eb
          obtain rfl:gL=gL3:=by simpa using UD
          rw [HY.out] at e2
          have y0:wr.cell? ⟨y.blk,0,none⟩=some (.int .i64 y.num):=aa ((HR.out.1.below HJ.out.2.below).el y Ku) rfl
          have z0:wr.cell? ⟨els[i].blk,0,none⟩=some (.int .i64 els[i].num):=aa ((HR.out.1.below HJ.out.2.below).el _ (List.getElem_mem hit)) rfl
          have Uh:=(HJ.out.2.below.cell (p:=⟨g,k*2,none⟩) db).trans s0
          have IR:Hid (ej els on x.sg y.num (i+1)=(on[i]'(by omega)&&cA els els[i].num x.sg y.num)):=by
           unfold Hid
           show (ej els on x.sg y.num i||_)=_
           rw [←HJ.out.1,List.getElem?_eq_getElem (by omega),tV hit]
           rfl
          have WF:Hid (∀ j,Calls Tryz.prog 203 #[.pointer (some ⟨d,0,none⟩),.int .i64 els[i].num,.int .u8 x.sg,.int .i64 y.num] (wr.drewN j) fun e w'=>e=.returned (.bool (cA els els[i].num x.sg y.num))∧w'=wr.drewN j):=fun j=>Dz _ d els made hp vT aR _ els[i].num x.sg y.num (HR.out.1.below (HJ.out.2.below.trans ((cJ wr j).mono HJ.out.2.below.size))) rk HR.out.2.1
          have rW:Hid (NI w w.heap.size wr (.slice a2 on.length c2) on nb els.length (ei (nowT.take b)++List.replicate (els.length - b) (.bool false))):=HJ.out.2
          clear Wk HJ VB UD
          subst YX
          generalize els[i]=z at e1 z0 IR WF
          have afq:(b:Int)<(els.length:Int):=by omega
          have acF:(k:Int)<(cs.length:Int):=by omega
          have hio:(i:Int)<(on.length:Int):=by omega
          cases ho:on[i]'(by omega) with
          | false=>
           rw [ho] at o1 IR
           have EX:Hid (false=ej els on x.sg y.num (i+1)∧NI w w.heap.size wr (.slice (some ⟨gO,0,none⟩) on.length c2) on nb els.length (ei (nowT.take b)++List.replicate (els.length - b) (.bool false))):=⟨by rw [IR.out];rfl,rW.out⟩
           clear ho IR rW WF
           go_wp2
           go_roundg (els.length - (i+1))
           case measure=>omega
           case rel=>exact ⟨i+1,false,rfl,by go_num,by omega,Nat.le_refl _,EX⟩
          | true=>
           rw [ho] at o1 IR
           clear ho
           go_upto_region 15 with fail
           go_quiet ((go_at_call 203;exact Calls.quiet_of_same (WF.out _)))
           have EX:Hid (cA els z.num x.sg y.num=ej els on x.sg y.num (i+1)∧NI w w.heap.size (wr.drewN nq) (.slice (some ⟨gO,0,none⟩) on.length c2) on nb els.length (ei (nowT.take b)++List.replicate (els.length - b) (.bool false))):=⟨by rw [IR.out];rfl,rW.out.drawn rW.out.below.size ⟨nq,rfl⟩⟩
           generalize cA els z.num x.sg y.num=st at EX ⊢
           clear IR rW WF
           go_wp2
           go_roundg (els.length - (i+1))
           case measure=>omega
           case rel=>exact ⟨i+1,st,rfl,by go_num,by omega,Nat.le_refl _,EX⟩
         ·have Bi:decide ((i:Int)<(els.length:Int))=false:=by simp;omega
          obtain rfl:i=els.length:=by omega
          have Di:Hid (res=false):=by unfold Hid;rw [Wo.out];exact HJ.out.1.symm
          have rW:Hid (NI w w.heap.size wr (.slice a2 on.length c2) on nb els.length (ei (nowT.take b)++List.replicate (els.length - b) (.bool false))):=HJ.out.2
          clear HJ
          have q:=rW.out.nowr.cellAt b (by omega)
          rw [yx.out] at q
          have qz:=rW.out.nowr.frozenAt b
          have Sp:Hid (NI w w.heap.size (wr.setCell ⟨nb,b,none⟩ (.bool false)) (.slice a2 on.length c2) on nb els.length (ei (nowT.take (b+1))++List.replicate (els.length - (b+1)) (.bool false))):=by
           have:=rW.out.set b (.bool res)
           rw [yK.out,Di.out] at this
           exact this
          go_wp2
          go_roundg (els.length - (b+1))
          case measure=>omega
          case rel=>exact ⟨b+1,by go_num,by omega,Nat.le_refl _,Sp⟩
    ·have iL:decide ((b:Int)<(els.length:Int))=false:=by simp;omega
     obtain rfl:b=els.length:=by omega
     have HF:Hid (wr.ownsRow w.heap.size 4 1 (.slice (some ⟨nb,0,none⟩) els.length els.length) (gg els cs (k+1)).length (ei (gg els cs (k+1)))∧Below w.heap.size w wr):=by
      have h1:=HM.out.nowr
      rw [Nat.sub_self,List.replicate_zero,List.append_nil,List.take_of_length_le (by omega)] at h1
      refine ⟨?_,HM.out.below⟩
      rw [←HNW.out,OL]
      exact h1
     go_wp2
     go_roundg (cs.length - (k+1))
     case measure=>omega
     case rel=>exact ⟨k+1,by go_num,by omega,Nat.le_refl _,HF⟩
  ·have hd:decide ((k:Int)<(cs.length:Int))=false:=by simp;omega
   obtain rfl:k=cs.length:=by omega
   go_wp2
   go_ret
   exact ⟨a2,c2,rfl,HN.out.1,HN.out.2⟩
end Go.Proofs.YtblfffbmklkhmaaGreat
namespace Go.Proofs.YtblfffbmklkhmaaGreat
open Go.RowKit
def EO:Nat→ByteArray→Nat
 | 0,_=>0
 | f+1,u=>if u.size=0 then 0 else lf (u.extract 0 (bS u 0)) 0+EO f (u.extract (bS u 0) u.size)
theorem EP (s:ByteArray) (i:Nat):lf s i≤1000000:=by
 unfold lf oU
 (repeat' split)<;>omega
theorem MA:∀ (f:Nat) (u:ByteArray),EO f u≤1000000*f
 | 0,_=>Nat.zero_le _
 | f+1,u=>by
  show (if _ then _ else _)≤_
  split
  ·exact Nat.zero_le _
  ·have h1:=EP (u.extract 0 (bS u 0)) 0
   have h2:=MA f (u.extract (bS u 0) u.size)
   exact Nat.le_trans (Nat.add_le_add h1 h2) (by omega)
def iK (cs:List ex):Nat:=(cs.map fun c=>EO 400 c.tx).sum
theorem Ig {cs:List ex} {i:Nat} (h:i<cs.length):iK (cs.take (i+1))=iK (cs.take i)+EO 400 cs[i].tx:=by
 unfold iK
 rw [List.take_succ_eq_append_getElem h,List.map_append,List.sum_append]
 simp
theorem FI (cs:List ex):iK cs≤400000000*cs.length:=by
 induction cs with
 | nil=>simp [iK]
 | cons c l ih=>
  have:=MA 400 c.tx
  unfold iK at ih ⊢
  rw [List.map_cons,List.sum_cons,List.length_cons]
  omega
theorem PartOK.cut {p:ByteArray} (h:PartOK p):fo p 0<p.size:=by
 unfold fo
 split
 ·rename_i gu
  have:=(h.turned gu).pos
  rw [ByteArray.size_extract] at this
  omega
 ·exact h.pos
def P6 (w:World) (n:Nat) (e:Ending) (w':World):Prop:=e=.returned (.int .i64 n)∧Drew w w'
set_option maxRecDepth 100000 in
set_option maxHeartbeats 4000000 in
theorem Ho (w:World) (pa:Option Addr) (ae:Nat) (a:Option Addr) (c:Nat) (cs:List ex) (ho:w.ownsRow ae 206 2 (.slice a cs.length c) cs.length (jB cs)) (oE:∀ x∈cs,kT 400 x.tx) (jy:cs.length≤400) :
  Calls Tryz.prog 89 #[.pointer pa,.slice a cs.length c] w fun e w'=>P6 w (iK cs) e w':=by
 have HO:Hid (w.ownsRow ae 206 2 (.slice a cs.length c) cs.length (jB cs)∧∀ x∈cs,kT 400 x.tx):=⟨ho,oE⟩
 clear ho oE
 go_enter Tryz.func89,Tryz.ntmps89
 go_wp2_with fail
 go_loopg [5,6] cs.length (fun gk sv iv wr=>∃ i:Nat,iv=.int .i64 i∧i≤cs.length∧cs.length - i≤gk∧sv=.int .i64 ((iK (cs.take i):Nat):Int)∧Hid (Drew w wr))
 case atStart=>exact ⟨0,rfl,Nat.zero_le _,by omega,by simp [iK],0,rfl⟩
 case round=>
  obtain ⟨i,rfl,hi,fK,rfl,hD⟩:=hrel
  by_cases aN:i<cs.length
  ·have hd:decide ((i:Int)<(cs.length:Int))=true:=by simp;omega
   obtain ⟨g,hg,db,fN⟩:=aH HO.out.1 (by omega)
   subst hg
   have s1:=(hD.out.below.cell (p:=⟨g,i*2+1,none⟩) db).trans (fN _ _ (qe aN).2)
   have Wh:Hid (kT 400 cs[i].tx):=HO.out.2 _ (List.getElem_mem aN)
   have HP:Hid (iK (cs.take (i+1))=iK (cs.take i)+EO 400 cs[i].tx):=Ig aN
   have oF:iK (cs.take i)≤400000000*400:=by
    have h1:=FI (cs.take i)
    have h2:(cs.take i).length≤cs.length:=List.length_take_le' _ _
    omega
   clear fN
   generalize cs[i].tx=u at s1 Wh HP
   generalize iK (cs.take i)=p0 at HP oF ⊢
   obtain ⟨P,hP⟩:∃ P,P=iK (cs.take (i+1)):=⟨_,rfl⟩
   rw [←hP] at HP
   have TP:Hid (P=iK (cs.take (i+1))):=hP
   clear hP
   go_wp2_with fail
   go_loopg [5,7] 400 (fun gk sv uv wr=>∃ (v:ByteArray) (t:Nat),uv=.string v∧sv=.int .i64 (t:Int)∧gk≤400∧t≤p0+1000000*(400 - gk)∧Hid (kT gk v∧t+EO gk v=P∧Drew w wr))
   case atStart=>exact ⟨u,p0,rfl,rfl,Nat.le_refl _,by omega,Wh.out,HP.out.symm,hD.out⟩
   case round=>
    obtain ⟨v,t,rfl,rfl,UI,htl,HR⟩:=hrel
    by_cases h0:v.size=0
    ·have HT:Hid (t=P):=by
      unfold Hid
      have h1:=HR.out.2.1
      have h2:EO gk v=0:=by
       cases gk with
       | zero=>rfl
       | succ n=>show (if _ then _ else _)=_;rw [if_pos h0]
      omega
     obtain rfl:=dX h0
     have n9:Hid (Drew w wr):=HR.out.2.2
     clear h0 HR
     go_wp2
     go_roundg (cs.length - (i+1))
     case measure=>omega
     case rel=>exact ⟨i+1,by go_num,by omega,Nat.le_refl _,by rw [←TP.out,←HT.out],n9⟩
    ·obtain ⟨n,rfl⟩:∃ n,gk=n+1:=by
      cases gk with
      | zero=>exact absurd HR.out.1 h0
      | succ n=>exact ⟨n,rfl⟩
     have eV:=fR v (by omega)
     have HQ:Hid (bS v 0≤v.size∧v.size≤400∧PartOK (v.extract 0 (bS v 0))∧kT n (v.extract (bS v 0) v.size)):=(show kT (n+1) v from HR.out.1).resolve_left h0
     have HS:Hid (t+(lf (v.extract 0 (bS v 0)) 0+EO n (v.extract (bS v 0) v.size))=P):=by
      unfold Hid
      have h1:=HR.out.2.1
      have h2:EO (n+1) v=lf (v.extract 0 (bS v 0)) 0+EO n (v.extract (bS v 0) v.size):=by show (if _ then _ else _)=_;rw [if_neg h0]
      rw [h2] at h1
      exact h1
     have HDr:Hid (Drew w wr):=HR.out.2.2
     have hcv:=EP (v.extract 0 (bS v 0)) 0
     clear h0 HR
     go_wp2_with fail
     refine (FH _ v HQ.out.1 HQ.out.2.1).mono ?_
     rintro e w2 ⟨rfl,n2,rfl⟩
     go_wp2_with fail
     refine (CX _ (v.extract 0 (bS v 0)) HQ.out.2.2.1.cut (by have:=HQ.out.2.1;rw [ByteArray.size_extract];omega)).mono ?_
     rintro e w3 ⟨rfl,rfl⟩
     have n9:Hid (Drew w (wr.drewN n2)):=jJ HDr.out n2
     have mC:Hid (kT n (v.extract (bS v 0) v.size)):=HQ.out.2.2.2
     generalize lf (v.extract 0 (bS v 0)) 0=y at HS hcv ⊢
     generalize v.extract (bS v 0) v.size=v2 at HS mC ⊢
     generalize v.extract 0 (bS v 0)=v3
     clear HQ eV HDr
     go_wp2
     go_roundg n
     case measure=>omega
     case rel=>exact ⟨v2,t+y,rfl,by go_num,by omega,by omega,mC.out,by have:=HS.out;omega,n9.out⟩
  ·have hd:decide ((i:Int)<(cs.length:Int))=false:=by simp;omega
   obtain rfl:i=cs.length:=by omega
   go_wp2
   go_ret
   refine ⟨?_,hD.out⟩
   rw [List.take_length]
   rfl
end Go.Proofs.YtblfffbmklkhmaaGreat
