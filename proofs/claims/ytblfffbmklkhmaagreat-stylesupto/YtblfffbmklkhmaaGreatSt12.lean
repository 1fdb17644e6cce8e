import Derived.Test.YtblfffbmklkhmaaGreatSt11
namespace Go.Proofs.YtblfffbmklkhmaaGreat
open Go.RowKit
theorem Tryz.info171:(Tryz.prog.info? 171).map (fun i=>(i.zero,i.size,i.bytes))=some (some (.pointer none),1,8):=by kernel_rfl
structure Fr (w w':World) (S:Nat→Prop):Prop where
 os:w'.os=w.os
 tape:w'.tape=w.tape
 output:w'.output=w.output
 size:w.heap.size≤w'.heap.size
 block:∀ k,k<w.heap.size→¬ S k→w'.heap[k]?=w.heap[k]?
theorem Fr.refl (w:World) (S:Nat→Prop):Fr w w S:=⟨rfl,rfl,rfl,Nat.le_refl _,fun _ _ _=>rfl⟩
theorem Fr.trans {a b c:World} {S:Nat→Prop} (h:Fr a b S) (k:Fr b c S):Fr a c S:=
 ⟨k.os.trans h.os,k.tape.trans h.tape,k.output.trans h.output,Nat.le_trans h.size k.size,fun i hi hn=>(k.block i (Nat.lt_of_lt_of_le hi h.size) hn).trans (h.block i hi hn)⟩
theorem Fr.below {a w w':World} {S:Nat→Prop} (h:Fr a w S) (hb:Below w.heap.size w w'):Fr a w' S:=
 ⟨hb.os.trans h.os,hb.tape.trans h.tape,hb.output.trans h.output,Nat.le_trans h.size hb.size,fun i hi hn=>(hb.block i (Nat.lt_of_lt_of_le hi h.size)).trans (h.block i hi hn)⟩
theorem Fr.set {a w:World} {S:Nat→Prop} (h:Fr a w S) {p:Addr} (hp:S p.block∨a.heap.size≤p.block) (u:Value):Fr a (w.setCell p u) S:=
 ⟨h.os,h.tape,h.output,by simpa [World.setCell] using h.size,fun k hk hn=>(Below.heap_setCell _ _ _ _ (fun e=>hp.elim (fun x=>hn (by rw [e];exact x)) (fun x=>by omega))).trans (h.block k hk hn)⟩
theorem Fr.alloc {a w:World} {S:Nat→Prop} (h:Fr a w S) (o:Obj):Fr a (w.alloc o) S:=
 ⟨h.os,h.tape,h.output,by simpa using Nat.le_succ_of_le h.size,fun k hk hn=>(Below.heap_alloc w o k (Nat.lt_of_lt_of_le hk h.size)).trans (h.block k hk hn)⟩
theorem Fr.gb {a w w':World} {S:Nat→Prop} (h:Fr a w S) {r:Option Nat} (hg:w.grownBy w' r) (hr:∀ k,r=some k→S k∨a.heap.size≤k):Fr a w' S:=
 ⟨hg.os.trans h.os,hg.tape.trans h.tape,hg.output.trans h.output,Nat.le_trans h.size hg.size,fun k hk hn=>(hg.block k (Nat.lt_of_lt_of_le hk h.size) (fun e=>(hr k e.symm).elim (fun x=>hn x) (fun x=>by omega))).trans (h.block k hk hn)⟩
def gQ (d:Nat) (els:List REl) (vL:Value) (k:Nat):Prop:=k=d∨(∃ e∈els,k=e.blk)∨vL.ownBlock=some k∨∃ e∈els,e.ks.ownBlock=some k
theorem aj {w:World} {ae:Nat} {e:TypeId} {size:Nat} {v:Value} {n:Nat} {xs:List Value} (h:w.ownsRow ae e size v n xs) {b:Nat} {cs:Array Value} {t:TypeId} {z:Nat × Nat} (hb:w.heap[b]?=some (.cells cs t z)) (eV:t≠e):v.ownBlock≠some b:=by
 intro eq
 rcases h.2 with ⟨rfl,_⟩ | ⟨g,fL,eU,rfl,_,hg,_⟩
 ·simp [Value.ownBlock] at eq
 ·simp [Value.ownBlock] at eq
  subst eq
  rw [hb] at hg
  injection hg with hg
  injection hg with _ h2 _
  exact eV h2
theorem aX {w:World} {ae:Nat} {e:TypeId} {size:Nat} {v:Value} {n:Nat} {xs:List Value} (h:w.ownsRow ae e size v n xs) {p:Addr} (hp:v.ownBlock≠some p.block) (u:Value):(w.setCell p u).ownsRow ae e size v n xs:=by
 refine ⟨h.1,?_⟩
 rcases h.2 with hn | ⟨g,fL,eU,rfl,hb,hg,rest⟩
 ·exact Or.inl hn
 ·refine Or.inr ⟨g,fL,eU,rfl,hb,?_,rest⟩
  rw [Below.heap_setCell _ _ _ _ (fun e=>hp (by simp [Value.ownBlock,e]))]
  exact hg
theorem aQ {w w':World} {ae:Nat} {e:TypeId} {size:Nat} {v:Value} {n:Nat} {xs:List Value} (h:w.ownsRow ae e size v n xs) (hb:Below w.heap.size w w'):w'.ownsRow ae e size v n xs:=(fI hb ae e).owns h
section
variable {w:World} {d:Nat} {els:List REl} {made:Nat} {hp:Option Addr} {vT:Value} {aR:Bool} {vL:Value}
theorem RD.below (h:RD w d els made hp vT aR vL) {w':World} (hb:Below w.heap.size w w'):RD w' d els made hp vT aR vL:=
 ⟨(hb.block d (Array.getElem?_eq_some_iff.1 h.doc).1).trans h.doc,aQ h.row hb,fun e he=>(hb.block _ (Array.getElem?_eq_some_iff.1 (h.el e he)).1).trans (h.el e he),fun e he=>aQ (h.kid e he) hb,h.few,h.kfew⟩
theorem RD.setDoc (h:RD w d els made hp vT aR vL) {o:Nat} {u:Value} {made':Nat} {sB:Option Addr} {oZ:Value} {Lh:Bool} {vL':Value} (hc:(#[Value.pointer hp,vL,.int .i64 made,vT,.bool aR]:Array Value).setIfInBounds o u=#[.pointer sB,vL',.int .i64 made',oZ,.bool Lh])
  {bm:List REl} (hr:w.ownsRow 0 171 1 vL' bm.length (bm.map fun e=>.pointer (some ⟨e.blk,0,none⟩))) (he:∀ e∈bm,w.heap[e.blk]?=some (.cells e.cells 176 (0,0))) (hk:∀ e∈bm,w.ownsRow 0 3 1 e.ks e.kids.length (aK e.kids)) (h1:bm.length≤24) (h2:∀ e∈bm,e.kids.length≤24) :
  RD (w.setCell ⟨d,o,none⟩ u) d bm made' sB oZ Lh vL':=by
 refine ⟨by rw [aq h.doc,hc],aX hr (aj hr h.doc (by decide)) _,fun e UU=>?_,fun e UU=>aX (hk e UU) (aj (hk e UU) h.doc (by decide)) _,h1,h2⟩
 rw [Below.heap_setCell]
 ·exact he e UU
 ·intro eq
  have h3:=he e UU
  rw [show e.blk=d from eq,h.doc] at h3
  injection h3 with h3
  injection h3 with _ h4 _
  exact absurd h4 (by decide)
theorem RD.setDoc' (h:RD w d els made hp vT aR vL) {o:Nat} {u:Value} {made':Nat} {sB:Option Addr} {oZ:Value} {Lh:Bool} (hc:(#[Value.pointer hp,vL,.int .i64 made,vT,.bool aR]:Array Value).setIfInBounds o u=#[.pointer sB,vL,.int .i64 made',oZ,.bool Lh]) :
  RD (w.setCell ⟨d,o,none⟩ u) d els made' sB oZ Lh vL:=h.setDoc hc h.row h.el h.kid h.few h.kfew
end
def cP (b:Nat) (kids:List Nat) (ks:Value) (e:REl):REl:=if e.blk=b then {e with kids:=kids,ks:=ks} else e
theorem jf (b:Nat) (kids:List Nat) (ks:Value) (e:REl):(cP b kids ks e).blk=e.blk:=by unfold cP;split<;>rfl
theorem vg (b:Nat) (kids:List Nat) (ks:Value) (e:REl):(cP b kids ks e).num=e.num:=by unfold cP;split<;>rfl
theorem RD.setKids {w:World} {d:Nat} {els:List REl} {made:Nat} {hp:Option Addr} {vT:Value} {aR:Bool} {vL:Value} (h:RD w d els made hp vT aR vL) {p:REl} (yQ:p∈els) {kids:List Nat} {ks:Value}
  (ho:w.ownsRow 0 3 1 ks kids.length (aK kids)) (hl:kids.length≤24):RD (w.setCell ⟨p.blk,4,none⟩ ks) d (els.map (cP p.blk kids ks)) made hp vT aR vL:=by
 have Cc:=h.el p yQ
 have pA:∀ e∈els.map (cP p.blk kids ks),w.ownsRow 0 3 1 e.ks e.kids.length (aK e.kids):=by
  intro e he
  obtain ⟨f,hf,rfl⟩:=List.mem_map.1 he
  unfold cP
  split
  ·exact ho
  ·exact h.kid f hf
 refine ⟨?_,?_,?_,?_,by simpa using h.few,?_⟩
 ·rw [Below.heap_setCell]
  ·exact h.doc
  ·intro eq
   rw [←show d=p.blk from eq,h.doc] at Cc
   injection Cc with h3
   injection h3 with _ h4 _
   exact absurd h4 (by decide)
 ·have hr:=h.row
  have hm:(els.map (cP p.blk kids ks)).map (fun e=>Value.pointer (some ⟨e.blk,0,none⟩))=els.map fun e=>Value.pointer (some ⟨e.blk,0,none⟩):=by
   rw [List.map_map]
   refine List.map_congr_left fun e _=>?_
   simp [jf]
  rw [hm,List.length_map]
  exact aX hr (aj hr Cc (by decide)) _
 ·intro e he
  obtain ⟨f,hf,rfl⟩:=List.mem_map.1 he
  rw [jf]
  by_cases hb:f.blk=p.blk
  ·have FC:=h.el f hf
   rw [hb] at FC ⊢
   rw [aq FC]
   unfold cP
   rw [if_pos hb]
   rfl
  ·rw [Below.heap_setCell _ _ _ _ (by exact hb)]
   unfold cP
   rw [if_neg hb]
   exact h.el f hf
 ·intro e he
  exact aX (pA e he) (aj (pA e he) Cc (by decide)) _
 ·intro e he
  obtain ⟨f,hf,rfl⟩:=List.mem_map.1 he
  unfold cP
  split
  ·exact hl
  ·exact h.kfew f hf
theorem cg {els:List REl} {n:Int} {e:REl} (h:aZ els n=some e):e∈els∧(e.num:Int)=n:=by
 unfold aZ at h
 exact ⟨List.mem_of_find?_eq_some h,by simpa using List.find?_some h⟩
def gW (els:List REl) (par at':Int) (kind:ByteArray):Int:=
 match aZ els par with
 | none=>5
 | some p=>if at'<0∨(p.kids.length:Int)<at' then 8 else if ax kind=false then 4 else if 24≤els.length then 9 else 0
def fE (b n:Nat) (kind:ByteArray):REl:=⟨b,n,[],kind,⟨#[]⟩,⟨#[]⟩,.slice none 0 0,false⟩
def Ow (w:World) (d:Nat) (els:List REl) (made:Nat) (hp:Option Addr) (vT:Value) (vL:Value) (par at':Int) (kind:ByteArray) (e:Ending) (w':World):Prop:=
 (∃ y:Int,e=.returned (.tuple #[.int .i64 0,.int .i64 y])∧y≠0∧gW els par at' kind=y∧w'=w)∨
 (∃ (p:REl) (k:Nat) (ks:Value) (b:Nat) (vL':Value),e=.returned (.tuple #[.int .i64 made,.int .i64 0])∧gW els par at' kind=0∧aZ els par=some p∧at'=k∧k≤p.kids.length∧
  RD w' d (els.map (cP p.blk (bN p.kids k made) ks)++[fE b made kind]) (made+1) hp vT false vL'∧Fr w w' (gQ d els vL)∧w.heap.size≤b∧(∀ j,ks.ownBlock=some j→w.heap.size≤j)∧(∀ j,vL'.ownBlock=some j→vL.ownBlock=some j∨w.heap.size≤j))
theorem Fi (b:Nat):∀ u∈[Value.pointer (some ⟨b,0,none⟩)],u.oneCell'=true:=by
 intro u hu
 simp at hu
 subst hu
 rfl
theorem Bh (W:World) (a b:Obj) (k:Nat) (h:k<W.heap.size):((W.alloc a).alloc b).heap[k]?=W.heap[k]?:=by
 rw [Below.heap_alloc _ _ _ (by simp;omega),Below.heap_alloc _ _ _ h]
theorem RD.addEl {W:World} {d:Nat} {els:List REl} {made:Nat} {hp:Option Addr} {vT:Value} {aR:Bool} {vL:Value} (h:RD W d els made hp vT aR vL) {n:Nat} {kind:ByteArray} {sl:Obj} {w6:World} {v':Value}
  (ho:w6.ownsRow 0 171 1 v' (els.length+1) ((els.map fun e=>Value.pointer (some ⟨e.blk,0,none⟩))++[.pointer (some ⟨W.heap.size,0,none⟩)]))
  (hg:((W.alloc (.cells (fE W.heap.size n kind).cells 176)).alloc sl).grownBy w6 vL.ownBlock) (hl:els.length<24) :
  w6.heap[d]?=some (.cells #[.pointer hp,vL,.int .i64 made,vT,.bool aR] 121 (0,0))∧RD (w6.setCell ⟨d,1,none⟩ v') d (els++[fE W.heap.size n kind]) made hp vT aR v':=by
 have fT:((W.alloc (.cells (fE W.heap.size n kind).cells 176)).alloc sl).heap.size=W.heap.size+2:=by simp
 have fY:=h.row
 have keep:∀ k,k<W.heap.size→vL.ownBlock≠some k→w6.heap[k]?=W.heap[k]?:=fun k hk hn=>(hg.block k (by omega) (fun e=>hn e.symm)).trans (Bh W _ _ k hk)
 have Md:w6.heap[d]?=some (.cells #[.pointer hp,vL,.int .i64 made,vT,.bool aR] 121 (0,0)):=(keep d (Array.getElem?_eq_some_iff.1 h.doc).1 (aj fY h.doc (by decide))).trans h.doc
 have Tu:∀ e∈els++[fE W.heap.size n kind],w6.heap[e.blk]?=some (.cells e.cells 176 (0,0)):=by
  intro e he
  rcases List.mem_append.1 he with he | he
  ·exact (keep _ (Array.getElem?_eq_some_iff.1 (h.el e he)).1 (aj fY (h.el e he) (by decide))).trans (h.el e he)
  ·simp only [List.mem_cons,List.not_mem_nil,or_false] at he
   subst he
   show w6.heap[W.heap.size]?=_
   have eV:some W.heap.size≠vL.ownBlock:=fun e=>by have:=(fY.lt _ e.symm).2;omega
   rw [hg.block W.heap.size (by omega) eV,Below.heap_alloc _ _ _ (by simp),heap_alloc_new W]
 have pA:∀ e∈els++[fE W.heap.size n kind],w6.ownsRow 0 3 1 e.ks e.kids.length (aK e.kids):=by
  intro e he
  rcases List.mem_append.1 he with he | he
  ·have hk:=h.kid e he
   refine ⟨hk.1,?_⟩
   rcases hk.2 with hn | ⟨g,fL,eU,hv,hb,hh,rest⟩
   ·exact Or.inl hn
   ·exact Or.inr ⟨g,fL,eU,hv,hb,(keep g (Array.getElem?_eq_some_iff.1 hh).1 (aj fY hh (by decide))).trans hh,rest⟩
  ·simp only [List.mem_cons,List.not_mem_nil,or_false] at he
   subst he
   exact World.ownsRow_nil _ _ _ _
 refine ⟨Md,by rw [aq Md];rfl,?_,fun e he=>?_,fun e he=>aX (pA e he) (aj (pA e he) Md (by decide)) _,by simp;omega,fun e he=>?_⟩
 ·have So:w6.ownsRow 0 171 1 v' (els++[fE W.heap.size n kind]).length ((els++[fE W.heap.size n kind]).map fun e=>Value.pointer (some ⟨e.blk,0,none⟩)):=by simpa [fE] using ho
  exact aX So (aj So Md (by decide)) _
 ·rw [Below.heap_setCell]
  ·exact Tu e he
  ·intro eq
   have h3:=Tu e he
   rw [show e.blk=d from eq,Md] at h3
   injection h3 with h3
   injection h3 with _ h4 _
   exact absurd h4 (by decide)
 ·rcases List.mem_append.1 he with he | he
  ·exact h.kfew e he
  ·simp only [List.mem_cons,List.not_mem_nil,or_false] at he
   subst he
   exact Nat.zero_le _
set_option maxRecDepth 100000 in
set_option maxHeartbeats 4000000 in
theorem vQ (w:World) (d:Nat) (els:List REl) (made:Nat) (hp:Option Addr) (vT:Value) (aR:Bool) (vL:Value) (par at':Int) (kind:ByteArray) (h:RD w d els made hp vT aR vL) (om:∀ e∈els,e.kids.length<els.length) (lz:made≤1099511627776) :
  Calls Tryz.prog 142 #[.pointer (some ⟨d,0,none⟩),.int .i64 par,.int .i64 at',.string kind] w fun e w'=>Ow w d els made hp vT vL par at' kind e w':=by
 obtain ⟨aL,cL,sX⟩:=h.shape
 subst sX
 have d1:=h.c1
 have d2:w.cell? ⟨d,2,none⟩=some (.int .i64 made):=aa h.doc rfl
 have dz:∀ k,w.frozen? ⟨d,k,none⟩=false:=fun _=>ag h.doc
 have d4:w.cell? ⟨d,4,none⟩=some (.bool aR):=aa h.doc rfl
 have bw:=h.few
 have HR:Hid (RD w d els made hp vT aR (.slice aL els.length cL)):=h
 have HL:Hid (∀ e∈els,e.kids.length<els.length):=om
 clear h om
 obtain ⟨i0,hi,gx,gw,gB⟩:=info_parts Tryz.info171
 go_enter Tryz.func142,Tryz.ntmps142
 go_wp2_with fail
 refine (eb _ d els made hp vT aR _ par HR.out).mono ?_
 rintro e w1 ⟨rfl,rfl⟩
 obtain ⟨w,rfl⟩:∃ w,w=w1:=⟨_,rfl⟩
 cases hfind:aZ els par with
 | none=>
  have HE:Hid (gW els par at' kind=5):=by unfold Hid gW;rw [hfind]
  clear hfind
  rw [show ey none=Value.pointer none from rfl]
  go_wp2
  go_ret2
  exact Or.inl ⟨5,rfl,by decide,HE.out,rfl⟩
 | some p=>
  have HF:Hid (aZ els par=some p):=hfind
  obtain ⟨fp,_⟩:=cg hfind
  clear hfind
  obtain ⟨_,p4⟩:=ep (HR.out.el p fp)
  have pz:∀ k,w.frozen? ⟨p.blk,k,none⟩=false:=fun _=>ag (HR.out.el p fp)
  have pk:=HR.out.kid p fp
  have kL:=HL.out p fp
  obtain ⟨ka,kc,qj⟩:=au pk
  rw [qj] at p4 pk
  have MT:Hid (w.ownsRow 0 3 1 (.slice ka p.kids.length kc) p.kids.length (aK p.kids)):=pk
  have qm:Hid (p∈els):=fp
  have HKS:Hid (p.ks=.slice ka p.kids.length kc):=qj
  clear qj pk fp
  have HI:Hid (gW els par at' kind=if at'<0∨(p.kids.length:Int)<at' then 8 else if ax kind=false then 4 else if 24≤els.length then 9 else 0):=by unfold Hid gW;rw [HF.out]
  rw [show ey (some p)=Value.pointer (some ⟨p.blk,0,none⟩) from rfl]
  by_cases h0:at'<0
  ·have g0:decide (at'<0)=true:=by simpa using h0
   have HE:Hid (gW els par at' kind=8):=by unfold Hid;rw [HI.out,if_pos (Or.inl h0)]
   clear h0 HI
   go_wp2
   go_ret2
   exact Or.inl ⟨8,rfl,by decide,HE.out,rfl⟩
  have g0:decide (at'<0)=false:=by simpa using h0
  obtain ⟨k,rfl⟩:∃ k:Nat,at'=k:=⟨at'.toNat,by omega⟩
  by_cases h1:p.kids.length<k
  ·have g1:decide ((p.kids.length:Int)<(k:Int))=true:=by simp;omega
   have HE:Hid (gW els par k kind=8):=by unfold Hid;rw [HI.out,if_pos (Or.inr (by omega))]
   clear h0 HI
   go_wp2
   go_ret2
   exact Or.inl ⟨8,rfl,by decide,HE.out,rfl⟩
  have g1:decide ((p.kids.length:Int)<(k:Int))=false:=by simp;omega
  have Wf:k≤p.kids.length:=by omega
  have sd:Hid (gW els par k kind=if ax kind=false then 4 else if 24≤els.length then 9 else 0):=by unfold Hid;rw [HI.out,if_neg (by omega)]
  clear HI h0 h1
  go_wp2_with fail
  refine (lT _ kind).mono ?_
  rintro e w2 ⟨rfl,rfl⟩
  obtain ⟨w,rfl⟩:∃ w,w=w2:=⟨_,rfl⟩
  cases jH:ax kind with
  | false=>
   have HE:Hid (gW els par k kind=4):=by unfold Hid;rw [sd.out,if_pos jH]
   clear jH sd
   go_wp2
   go_ret2
   exact Or.inl ⟨4,rfl,by decide,HE.out,rfl⟩
  | true=>
   by_cases NG:24≤els.length
   ·have g24:decide ((24:Int)≤(els.length:Int))=true:=by simp;omega
    have HE:Hid (gW els par k kind=9):=by unfold Hid;rw [sd.out,if_neg (by rw [jH];decide),if_pos NG]
    clear jH sd
    go_wp2
    go_ret2
    exact Or.inl ⟨9,rfl,by decide,HE.out,rfl⟩
   ·have g24:decide ((24:Int)≤(els.length:Int))=false:=by simp;omega
    have HE:Hid (gW els par k kind=0):=by unfold Hid;rw [sd.out,if_neg (by rw [jH];decide),if_neg NG]
    clear jH sd
    have zJ:p.blk≠d:=fun eq=>by
     have h3:=HR.out.el p qm.out
     rw [eq,HR.out.doc] at h3
     injection h3 with h3
     injection h3 with _ h4 _
     exact absurd h4 (by decide)
    have hdp:d≠p.blk:=fun eq=>zJ eq.symm
    have R1:RD (w.setCell ⟨d,4,none⟩ (.bool false)) d els made hp vT false (.slice aL els.length cL):=HR.out.setDoc' rfl
    have R2:RD ((w.setCell ⟨d,4,none⟩ (.bool false)).setCell ⟨d,2,none⟩ (.int .i64 ((made:Int)+1))) d els (made+1) hp vT false (.slice aL els.length cL):=R1.setDoc' rfl
    have F2:Fr w ((w.setCell ⟨d,4,none⟩ (.bool false)).setCell ⟨d,2,none⟩ (.int .i64 ((made:Int)+1))) (gQ d els (.slice aL els.length cL)):=((Fr.refl w _).set (Or.inl (Or.inl rfl)) _).set (Or.inl (Or.inl rfl)) _
    have rB:Hid (RD ((w.setCell ⟨d,4,none⟩ (.bool false)).setCell ⟨d,2,none⟩ (.int .i64 ((made:Int)+1))) d els (made+1) hp vT false (.slice aL els.length cL)∧Fr w ((w.setCell ⟨d,4,none⟩ (.bool false)).setCell ⟨d,2,none⟩ (.int .i64 ((made:Int)+1))) (gQ d els (.slice aL els.length cL))):=⟨R2,F2⟩
    clear R1 R2 F2
    go_wp2_with fail
    obtain ⟨W2,EC⟩:∃ W2,W2=(w.setCell ⟨d,4,none⟩ (.bool false)).setCell ⟨d,2,none⟩ (.int .i64 ((made:Int)+1)):=⟨_,rfl⟩
    rw [←EC] at rB ⊢
    clear EC d1 d2 dz d4 p4 pz MT
    have SY:=rB.out.1.kid p qm.out
    rw [HKS.out] at SY
    refine (pu W2 ka kc p.kids k made 0 SY (by omega) Wf).mono ?_
    rintro e W3 ⟨a3,c3,rfl,bg,mq⟩
    have jC:(bN p.kids k made).length=p.kids.length+1:=by simp [bN];omega
    have R3:=rB.out.1.below mq
    have F3:=rB.out.2.below mq
    have p4:=(ep (R3.el p qm.out)).2
    rw [HKS.out] at p4
    have pz:∀ k,W3.frozen? ⟨p.blk,k,none⟩=false:=fun _=>ag (R3.el p qm.out)
    have R4:=R3.setKids qm.out (aG bg (Nat.zero_le _)) (by omega)
    have F4:=F3.set (p:=⟨p.blk,4,none⟩) (Or.inl (Or.inr (Or.inl ⟨p,qm.out,rfl⟩))) (.slice a3 (bN p.kids k made).length c3)
    have Vk:Hid (∀ j,(Value.slice a3 (bN p.kids k made).length c3).ownBlock=some j→w.heap.size≤j):=fun j hj=>by
     have:=(bg.lt j hj).1
     have:=rB.out.2.size
     omega
    have Cg:Hid (RD (W3.setCell ⟨p.blk,4,none⟩ (.slice a3 (bN p.kids k made).length c3)) d (els.map (cP p.blk (bN p.kids k made) (.slice a3 (bN p.kids k made).length c3))) (made+1) hp vT false (.slice aL els.length cL)∧Fr w (W3.setCell ⟨p.blk,4,none⟩ (.slice a3 (bN p.kids k made).length c3)) (gQ d els (.slice aL els.length cL))):=⟨R4,F4⟩
    have HIL:Hid ((bN p.kids k made).length=p.kids.length+1):=jC
    clear R3 F3 R4 F4 SY bg mq jC
    go_upto_region 15 with fail
    obtain ⟨W4,Ac⟩:∃ W4,W4=W3.setCell ⟨p.blk,4,none⟩ (.slice a3 (bN p.kids k made).length c3):=⟨_,rfl⟩
    rw [←Ac] at Cg ⊢
    clear Ac p4 pz
    have e1:W4.cell? ⟨d,1,none⟩=some (.slice aL els.length cL):=Cg.out.1.c1
    have ez:∀ k,W4.frozen? ⟨d,k,none⟩=false:=fun _=>ag Cg.out.1.doc
    have NW:d<W4.heap.size:=(Array.getElem?_eq_some_iff.1 Cg.out.1.doc).1
    have Oq:=Cg.out.1.row
    rw [List.length_map] at Oq
    obtain ⟨rs,C4⟩:∃ rs,rs=(els.map (cP p.blk (bN p.kids k made) (.slice a3 (bN p.kids k made).length c3))).map fun e=>Value.pointer (some ⟨e.blk,0,none⟩):=⟨_,rfl⟩
    rw [←C4] at Oq
    have Wb:Hid (rs=(els.map (cP p.blk (bN p.kids k made) (.slice a3 (bN p.kids k made).length c3))).map fun e=>Value.pointer (some ⟨e.blk,0,none⟩)):=C4
    clear C4
    go_wp2_with (at_builtin;refine gZ _ rfl (.tmp 67) (.tmp 72) 118 rfl 0 171 i0 (.pointer none) 1 8 Tryz.underlying118 hi gx gw gB rfl (by decide) _ _ _ rfl ((Oq.alloc _).alloc _) ⟨W4.heap.size+1,0,none⟩ 1 1 [.pointer (some ⟨W4.heap.size,0,none⟩)] rfl rfl ?c1 ?c2 ?c3 ?c4 ?c5 ?_)
    case c1=>exact aO (W4.alloc _) _ (by simp) _ _ _ rfl
    case c2=>exact Fi _
    case c3=>unfold maxLen;omega
    case c4=>omega
    case c5=>exact Nat.zero_le _
    ·intro v' w6 rJ T5 VD
     have hl6:(els.map (cP p.blk (bN p.kids k made) (.slice a3 (bN p.kids k made).length c3))).length<24:=by simp;omega
     rw [Wb.out] at rJ
     have K5:w6.ownsRow 0 171 1 v' ((els.map (cP p.blk (bN p.kids k made) (.slice a3 (bN p.kids k made).length c3))).length+1) (((els.map (cP p.blk (bN p.kids k made) (.slice a3 (bN p.kids k made).length c3))).map fun e=>Value.pointer (some ⟨e.blk,0,none⟩))++[.pointer (some ⟨W4.heap.size,0,none⟩)]):=by rw [List.length_map];exact rJ
     obtain ⟨JQ,R6⟩:=Cg.out.1.addEl (n:=made) (kind:=kind) K5 T5 hl6
     have F6:Fr w w6 (gQ d els (.slice aL els.length cL)):=((Cg.out.2.alloc _).alloc _).gb T5 (fun j hj=>Or.inl (Or.inr (Or.inr (Or.inl hj))))
     have vO:Hid (w.heap.size≤W4.heap.size):=Cg.out.2.size
     have HV6:Hid (∀ j,v'.ownBlock=some j→(Value.slice aL els.length cL).ownBlock=some j∨w.heap.size≤j):=fun j hj=>(VD.out j hj).elim Or.inl (fun x=>Or.inr (by have:=Cg.out.2.size;first | omega | (simp at x;omega)))
     obtain ⟨a6,c6,Wx⟩:=au rJ
     subst Wx
     have f1:w6.cell? ⟨d,1,none⟩=some (.slice aL els.length cL):=aa JQ rfl
     have fz:∀ k,w6.frozen? ⟨d,k,none⟩=false:=fun _=>ag JQ
     have NH:Hid (RD (w6.setCell ⟨d,1,none⟩ (.slice a6 (els.length+1) c6)) d (els.map (cP p.blk (bN p.kids k made) (.slice a3 (bN p.kids k made).length c3))++[fE W4.heap.size made kind]) (made+1) hp vT false (.slice a6 (els.length+1) c6)):=R6
     have Rc:Hid (Fr w (w6.setCell ⟨d,1,none⟩ (.slice a6 (els.length+1) c6)) (gQ d els (.slice aL els.length cL))):=F6.set (Or.inl (Or.inl rfl)) _
     clear rJ T5 K5 R6 F6 Oq JQ VD
     go_wp2
     go_ret2
     exact Or.inr ⟨p,k,.slice a3 (bN p.kids k made).length c3,W4.heap.size,.slice a6 (els.length+1) c6,rfl,HE.out,HF.out,rfl,Wf,NH.out,Rc.out,vO.out,Vk.out,HV6.out⟩
end Go.Proofs.YtblfffbmklkhmaaGreat
namespace Go.Proofs.YtblfffbmklkhmaaGreat
open Go.RowKit
open Classical in
noncomputable def fB (els:List REl) (a n:Int):Bool:=decide (mg els a n)
theorem jV {els:List REl} {a n:Int}:fB els a n=true↔mg els a n:=by simp [fB]
noncomputable def bD (els:List REl) (a:Int) (l:List REl):List REl:=l.filter fun e=>!fB els a e.num
def uC (l:List REl):List Value:=l.map fun e=>.pointer (some ⟨e.blk,0,none⟩)
theorem Du {els l:List REl} {i:Nat} (h:i<l.length) (a:Int):bD els a (l.take (i+1))=bD els a (l.take i)++if fB els a l[i].num=true then [] else [l[i]]:=by
 unfold bD
 rw [List.take_succ_eq_append_getElem h,List.filter_append]
 congr 1
 by_cases e:fB els a l[i].num=true
 ·simp [e]
 ·simp only [Bool.not_eq_true] at e
  simp [e]
theorem wG (els l:List REl) (a:Int):(bD els a l).length≤l.length:=List.length_filter_le _ _
theorem AP {els:List REl} {e:REl} (h:e∈els):∃ p,aZ els e.num=some p:=by
 cases hf:aZ els e.num with
 | some p=>exact ⟨p,rfl⟩
 | none=>
  unfold aZ at hf
  rw [List.find?_eq_none] at hf
  exact absurd (hf e h) (by simp)
theorem tP {els:List REl} {a:Int} (h:¬ aJ els a<0):∃ p,aZ els (aJ els a)=some p:=by
 rcases nY els a with h1 | ⟨e,he,_,h2⟩
 ·omega
 ·rw [h2];exact AP he
def Ok (w:World) (d:Nat) (els:List REl) (made:Nat) (hp:Option Addr) (vT:Value) (vL:Value) (a:Int) (e:Ending) (w':World):Prop:=
 (aZ els a=none∧e=.returned (.int .i64 5)∧w'=w)∨
 ((∃ y,aZ els a=some y)∧aJ els a<0∧e=.returned (.int .i64 6)∧w'=w)∨
 (∃ (p:REl) (ks vL':Value),(∃ y,aZ els a=some y)∧0≤aJ els a∧aZ els (aJ els a)=some p∧e=.returned (.int .i64 0)∧
  RD w' d ((bD els a els).map (cP p.blk (af a p.kids) ks)) made hp vT false vL'∧Fr w w' (gQ d els vL)∧(∀ j,ks.ownBlock=some j→w.heap.size≤j)∧(∀ j,vL'.ownBlock=some j→w.heap.size≤j))
theorem GP (b:Nat) (kids:List Nat) (ks:Value) (l:List REl):uC (l.map (cP b kids ks))=uC l:=by
 unfold uC
 rw [List.map_map]
 refine List.map_congr_left fun e _=>?_
 simp [jf]
set_option maxRecDepth 100000 in
set_option maxHeartbeats 4000000 in
theorem vU (w:World) (d:Nat) (els:List REl) (made:Nat) (hp:Option Addr) (vT:Value) (aR:Bool) (vL:Value) (n:Int) (h:RD w d els made hp vT aR vL) (rk:Nat→Nat) (hr:lM els rk) :
  Calls Tryz.prog 145 #[.pointer (some ⟨d,0,none⟩),.int .i64 n] w fun e w'=>Ok w d els made hp vT vL n e w':=by
 obtain ⟨aL,cL,sX⟩:=h.shape
 subst sX
 have d4:w.cell? ⟨d,4,none⟩=some (.bool aR):=aa h.doc rfl
 have dz:∀ k,w.frozen? ⟨d,k,none⟩=false:=fun _=>ag h.doc
 have bw:=h.few
 have HR:Hid (RD w d els made hp vT aR (.slice aL els.length cL)):=h
 have HK:Hid (lM els rk):=hr
 clear h hr
 obtain ⟨i0,hi,gx,gw,gB⟩:=info_parts Tryz.info171
 go_enter Tryz.func145,Tryz.ntmps145
 go_wp2_with fail
 refine (eb _ d els made hp vT aR _ n HR.out).mono ?_
 rintro e w1 ⟨rfl,rfl⟩
 obtain ⟨w,rfl⟩:∃ w,w=w1:=⟨_,rfl⟩
 cases hfind:aZ els n with
 | none=>
  have HE:Hid (aZ els n=none):=hfind
  clear hfind
  rw [show ey none=Value.pointer none from rfl]
  go_wp2
  go_ret
  exact Or.inl ⟨HE.out,rfl,rfl⟩
 | some y=>
  have HF:Hid (aZ els n=some y):=hfind
  clear hfind
  rw [show ey (some y)=Value.pointer (some ⟨y.blk,0,none⟩) from rfl]
  go_wp2_with fail
  refine (eQ _ d els made hp vT aR _ n HR.out).mono ?_
  rintro e w1 ⟨rfl,rfl⟩
  obtain ⟨w,rfl⟩:∃ w,w=w1:=⟨_,rfl⟩
  by_cases pc:aJ els n<0
  ·have gp:decide (aJ els n<0)=true:=by simpa using pc
   have HP:Hid (aJ els n<0):=pc
   clear pc
   generalize hq:aJ els n=q at gp HP ⊢
   have HQ:Hid (aJ els n=q):=hq
   clear hq
   go_wp2
   go_ret
   exact Or.inr (Or.inl ⟨⟨y,HF.out⟩,by rw [HQ.out];exact HP.out,rfl,rfl⟩)
  ·have gp:decide (aJ els n<0)=false:=by simpa using pc
   obtain ⟨p,zK⟩:=tP pc
   have HP:Hid (0≤aJ els n):=by unfold Hid;omega
   have HPF:Hid (aZ els (aJ els n)=some p):=zK
   obtain ⟨fp,_⟩:=cg zK
   have qm:Hid (p∈els):=fp
   clear zK fp pc
   have R1:RD (w.setCell ⟨d,4,none⟩ (.bool false)) d els made hp vT false (.slice aL els.length cL):=HR.out.setDoc' rfl
   have F1:Fr w (w.setCell ⟨d,4,none⟩ (.bool false)) (gQ d els (.slice aL els.length cL)):=(Fr.refl w _).set (Or.inl (Or.inl rfl)) _
   have kM:Hid (RD (w.setCell ⟨d,4,none⟩ (.bool false)) d els made hp vT false (.slice aL els.length cL)∧Fr w (w.setCell ⟨d,4,none⟩ (.bool false)) (gQ d els (.slice aL els.length cL))):=⟨R1,F1⟩
   clear R1 F1
   go_wp2_with fail
   obtain ⟨W1,PX⟩:∃ W1,W1=w.setCell ⟨d,4,none⟩ (.bool false):=⟨_,rfl⟩
   rw [←PX] at kM ⊢
   clear PX d4 dz
   go_loopg [7,8] els.length (fun gk v iv wr=>∃ i:Nat,iv=.int .i64 i∧i≤els.length∧els.length - i≤gk∧wr.ownsRow W1.heap.size 171 1 v (bD els n (els.take i)).length (uC (bD els n (els.take i)))∧Below W1.heap.size W1 wr)
   case atStart=>exact ⟨0,rfl,Nat.zero_le _,by omega,World.ownsRow_nil _ _ _ _,Below.refl _ _⟩
   case round=>
    obtain ⟨i,rfl,jC,fK,bL,hB⟩:=hrel
    obtain ⟨a2,c2,hv⟩:=au bL
    subst hv
    have yD:Hid (RD wr d els made hp vT false (.slice aL els.length cL)):=kM.out.1.below hB
    have d1:=yD.out.c1
    by_cases aN:i<els.length
    ·have hd:decide ((i:Int)<(els.length:Int))=true:=by simp;omega
     obtain ⟨g,hg,q1⟩:=yD.out.at' aN
     subst hg
     obtain ⟨q2,_⟩:=ep (yD.out.el els[i] (List.getElem_mem aN))
     have rt:(bD els n (els.take i)).length≤24:=by
      have:=wG els (els.take i) n
      have:(els.take i).length≤els.length:=List.length_take_le' _ _
      omega
     have HT:Hid (bD els n (els.take (i+1))=bD els n (els.take i)++if fB els n els[i].num=true then [] else [els[i]]):=Du aN n
     generalize bD els n (els.take i)=f at bL rt HT ⊢
     generalize els[i]=x at q1 q2 HT
     have HO:Hid (wr.ownsRow W1.heap.size 171 1 (.slice a2 f.length c2) f.length (uC f)):=bL
     have hz:=hB.size
     clear bL
     go_wp2_with fail
     refine (nQ _ d els made hp vT false _ n x.num yD.out rk HK.out).mono ?_
     rintro e w2 ⟨b,rfl,rfl,HU⟩
     obtain ⟨wr,rfl⟩:∃ wr,wr=w2:=⟨_,rfl⟩
     cases b with
     | true=>
      have n8:Hid (bD els n (els.take (i+1))=f):=by
       unfold Hid
       rw [HT.out,if_pos (jV.2 (HU.out.1 rfl))]
       simp
      clear HT HU
      go_wp2
      go_roundg (els.length - (i+1))
      case measure=>omega
      case rel=>exact ⟨i+1,by go_num,by omega,Nat.le_refl _,by rw [n8.out];exact HO.out,hB⟩
     | false=>
      have n8:Hid (bD els n (els.take (i+1))=f++[x]):=by
       unfold Hid
       rw [HT.out,if_neg (fun h=>by have:=HU.out.2 (jV.1 h);cases this)]
      clear HT HU
      go_wp2_with (at_builtin;refine wpList_append_own _ rfl (.tmp 48) (.tmp 56) 118 rfl W1.heap.size 171 i0 (.pointer none) 1 8 Tryz.underlying118 hi gx gw gB rfl (by decide) _ _ _ rfl (HO.out.alloc _) ⟨wr.heap.size,0,none⟩ 1 1 [.pointer (some ⟨x.blk,0,none⟩)] rfl rfl ?c1 ?c2 ?c3 ?c4 ?c5 ?_)
      case c1=>exact aO wr _ rfl _ _ _ rfl
      case c2=>exact Fi _
      case c3=>unfold maxLen;omega
      case c4=>omega
      case c5=>simp;omega
      ·intro v' w3 bB eJ _
       have bg:w3.ownsRow W1.heap.size 171 1 v' (f++[x]).length (uC (f++[x])):=by simpa [uC] using bB
       have eS:Below W1.heap.size W1 w3:=(hB.alloc hz _).grown eJ (by simp;omega) (fun k hk=>(HO.out.lt k hk).1)
       have SD:Hid (w3.ownsRow W1.heap.size 171 1 v' (f++[x]).length (uC (f++[x]))):=bg
       obtain ⟨a3,c3,A6⟩:=au bg
       subst A6
       clear bB eJ bg
       go_wp2
       go_roundg (els.length - (i+1))
       case measure=>omega
       case rel=>exact ⟨i+1,by go_num,by omega,Nat.le_refl _,by rw [n8.out];exact SD.out,eS⟩
    ·have hd:decide ((i:Int)<(els.length:Int))=false:=by simp;omega
     obtain rfl:i=els.length:=by omega
     rw [List.take_length] at bL ⊢
     have UH:(bD els n els).length≤24:=by have:=wG els els n;omega
     have HO:Hid (wr.ownsRow W1.heap.size 171 1 (.slice a2 (bD els n els).length c2) (bD els n els).length (uC (bD els n els))):=bL
     have HFr:Hid (Fr w wr (gQ d els (.slice aL els.length cL))):=kM.out.2.below hB
     clear bL
     go_wp2_with fail
     refine (eb _ d els made hp vT false _ (aJ els n) yD.out).mono ?_
     rintro e w2 ⟨rfl,rfl⟩
     obtain ⟨wr,rfl⟩:∃ wr,wr=w2:=⟨_,rfl⟩
     rw [HPF.out,show ey (some p)=Value.pointer (some ⟨p.blk,0,none⟩) from rfl]
     obtain ⟨_,p4⟩:=ep (yD.out.el p qm.out)
     have pk:=yD.out.kid p qm.out
     have kL:=yD.out.kfew p qm.out
     obtain ⟨ka,kc,qj⟩:=au pk
     rw [qj] at p4 pk
     have MT:Hid (wr.ownsRow 0 3 1 (.slice ka p.kids.length kc) p.kids.length (aK p.kids)):=pk
     clear pk qj
     go_wp2_with fail
     refine (uo wr ka kc p.kids n 0 MT.out kL).mono ?_
     rintro e W3 ⟨a3,c3,rfl,bg,mq⟩
     have OL:(af n p.kids).length≤24:=by have:=jR n p.kids;omega
     have R3:=yD.out.below mq
     have F3:=HFr.out.below mq
     have TZ:=R3.el p qm.out
     have pz:∀ k,W3.frozen? ⟨p.blk,k,none⟩=false:=fun _=>ag TZ
     have p4':W3.cell? ⟨p.blk,4,none⟩=some p.ks:=(ep TZ).2
     have Qs:W3.ownsRow W1.heap.size 171 1 (.slice a2 (bD els n els).length c2) (bD els n els).length (uC (bD els n els)):=aQ HO.out mq
     have Vk:Hid (∀ j,(Value.slice a3 (af n p.kids).length c3).ownBlock=some j→w.heap.size≤j):=fun j hj=>by
      have:=(bg.lt j hj).1
      have:=HFr.out.size
      omega
     have PR:Hid (∀ j,(Value.slice a2 (bD els n els).length c2).ownBlock=some j→w.heap.size≤j):=fun j hj=>by
      have:=(HO.out.lt j hj).1
      have:=kM.out.2.size
      omega
     have o3:W3.ownsRow 0 3 1 (.slice a3 (af n p.kids).length c3) (af n p.kids).length (aK (af n p.kids)):=aG bg (Nat.zero_le _)
     have R4:=R3.setKids qm.out o3 OL
     have F4:=F3.set (p:=⟨p.blk,4,none⟩) (Or.inl (Or.inr (Or.inl ⟨p,qm.out,rfl⟩))) (.slice a3 (af n p.kids).length c3)
     have PI:=aX Qs (aj Qs TZ (by decide)) (p:=⟨p.blk,4,none⟩) (.slice a3 (af n p.kids).length c3)
     have tN:∀ e∈(bD els n els).map (cP p.blk (af n p.kids) (.slice a3 (af n p.kids).length c3)),e∈els.map (cP p.blk (af n p.kids) (.slice a3 (af n p.kids).length c3)):=fun e he=>by
      obtain ⟨f,hf,rfl⟩:=List.mem_map.1 he
      exact List.mem_map.2 ⟨f,(List.mem_filter.1 hf).1,rfl⟩
     have Po:(W3.setCell ⟨p.blk,4,none⟩ (.slice a3 (af n p.kids).length c3)).ownsRow 0 171 1 (.slice a2 (bD els n els).length c2) ((bD els n els).map (cP p.blk (af n p.kids) (.slice a3 (af n p.kids).length c3))).length (uC ((bD els n els).map (cP p.blk (af n p.kids) (.slice a3 (af n p.kids).length c3)))):=by
      rw [GP,List.length_map]
      exact aG PI (Nat.zero_le _)
     have R5:RD ((W3.setCell ⟨p.blk,4,none⟩ (.slice a3 (af n p.kids).length c3)).setCell ⟨d,1,none⟩ (.slice a2 (bD els n els).length c2)) d ((bD els n els).map (cP p.blk (af n p.kids) (.slice a3 (af n p.kids).length c3))) made hp vT false (.slice a2 (bD els n els).length c2):=
      R4.setDoc (o:=1) (u:=.slice a2 (bD els n els).length c2) rfl Po (fun e he=>R4.el e (tN e he)) (fun e he=>R4.kid e (tN e he)) (by rw [List.length_map];exact UH) (fun e he=>R4.kfew e (tN e he))
     have F5:=F4.set (p:=⟨d,1,none⟩) (Or.inl (Or.inl rfl)) (.slice a2 (bD els n els).length c2)
     have de:(W3.setCell ⟨p.blk,4,none⟩ (.slice a3 (af n p.kids).length c3)).heap[d]?=_:=R4.doc
     have d1':W3.cell? ⟨d,1,none⟩=some (.slice aL els.length cL):=R3.c1
     have dz':∀ k,W3.frozen? ⟨d,k,none⟩=false:=fun _=>ag R3.doc
     have hdp:d≠p.blk:=fun eq=>by
      rw [←eq,R3.doc] at TZ
      injection TZ with h3
      injection h3 with _ h4 _
      exact absurd h4 (by decide)
     have I4:Hid (RD ((W3.setCell ⟨p.blk,4,none⟩ (.slice a3 (af n p.kids).length c3)).setCell ⟨d,1,none⟩ (.slice a2 (bD els n els).length c2)) d ((bD els n els).map (cP p.blk (af n p.kids) (.slice a3 (af n p.kids).length c3))) made hp vT false (.slice a2 (bD els n els).length c2)):=R5
     have HF5:Hid (Fr w ((W3.setCell ⟨p.blk,4,none⟩ (.slice a3 (af n p.kids).length c3)).setCell ⟨d,1,none⟩ (.slice a2 (bD els n els).length c2)) (gQ d els (.slice aL els.length cL))):=F5
     clear R3 F3 R4 F4 R5 F5 Qs PI Po bg o3 mq tN de TZ p4 kM
     go_wp2
     go_ret
     exact Or.inr (Or.inr ⟨p,(.slice a3 (af n p.kids).length c3),(.slice a2 (bD els n els).length c2),⟨y,HF.out⟩,HP.out,HPF.out,rfl,I4.out,HF5.out,Vk.out,PR.out⟩)
end Go.Proofs.YtblfffbmklkhmaaGreat
