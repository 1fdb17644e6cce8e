/- Own work. -/
import Derived.Test.YtblfffbmklkhmabGreatAl4
set_option maxRecDepth 100000
set_option maxHeartbeats 40000000
namespace Go.Proofs.YtblfffbmklkhmabGreat
open Go.RowKit Go.Proofs.Tryz
section
variable {S:Nat->Prop}{a w w':World}{aB d ae made' n o size:Nat}{e:TypeId}{aa:List REl}{br SP:Bool}{hp uF:Option Addr}{p:Addr}{u v vL vT rD:Value}{xs:List Value}
theorem Tryz.info88:(Tryz.prog.info? 88).map (λi=>(i.zero,i.size,i.bytes))=some (some (.pointer none),1,8):=by kernel_rfl
structure Fr (w w':World)(S:Nat->Prop):Prop where
 os:w'.os=w.os
 tape:w'.tape=w.tape
 output:w'.output=w.output
 size:w.heap.size<=w'.heap.size
 block:∀k,k<w.heap.size->¬S k->w'.heap[k]?=w.heap[k]?
theorem Fr.refl (w:World)(S:Nat->Prop):Fr w w S:=⟨rfl,rfl,rfl,aF,λ_ _ _=>rfl⟩
theorem Fr.trans {b c:World}(h:Fr a b S)(k:Fr b c S):Fr a c S:=
 ⟨k.os.trans h.os,k.tape.trans h.tape,k.output.trans h.output,Nat.le_trans h.size k.size,λi hi hn=>(k.block i (Nat.lt_of_lt_of_le hi h.size) hn).trans (h.block i hi hn)⟩
theorem Fr.below (h:Fr a w S)(hb:Below w.heap.size w w'):Fr a w' S:=
 ⟨hb.os.trans h.os,hb.tape.trans h.tape,hb.output.trans h.output,Nat.le_trans h.size hb.size,λi hi hn=>(hb.block i (Nat.lt_of_lt_of_le hi h.size)).trans (h.block i hi hn)⟩
theorem Fr.set (h:Fr a w S)(hp:S p.block∨a.heap.size<=p.block)(u:Value):Fr a (w.setCell p u) S:=
 ⟨h.os,h.tape,h.output,by simpa[World.setCell] using h.size,λk hk hn=>(Below.heap_setCell _ _ _ _ (λe=>hp.elim (λx=>hn (by rw[e];exact x)) (λx=>by omega))).trans (h.block k hk hn)⟩
theorem Fr.alloc (h:Fr a w S)(o:Obj):Fr a (w.alloc o) S:=
 ⟨h.os,h.tape,h.output,by simpa using Nat.le_succ_of_le h.size,λk hk hn=>(Below.heap_alloc w o k (Nat.lt_of_lt_of_le hk h.size)).trans (h.block k hk hn)⟩
theorem Fr.gb (h:Fr a w S){r:Option Nat}(hg:w.grownBy w' r)(hr:∀k,r=some k->S k∨a.heap.size<=k):Fr a w' S:=
 ⟨hg.os.trans h.os,hg.tape.trans h.tape,hg.output.trans h.output,Nat.le_trans h.size hg.size,λk hk hn=>(hg.block k (Nat.lt_of_lt_of_le hk h.size) (λe=>(hr k e.symm).elim (λx=>hn x) (λx=>by omega))).trans (h.block k hk hn)⟩
def jX (d:Nat)(aa:List REl)(vL:Value)(k:Nat):Prop:=k=d∨(∃e∈aa,k=e.blk)∨vL.ownBlock=some k∨∃e∈aa,e.ks.ownBlock=some k
theorem aN (h:w.ownsRow aB e size v n xs){b:Nat}{cs:Array Value}{t:TypeId}{z:Nat × Nat}(hb:w.heap[b]?=some (.cells cs t z))(fG:t≠e):v.ownBlock≠some b:=by
 intro eq;rcases h.2 with⟨rfl,_⟩ | ⟨g,ij,gu,rfl,_,hg,_⟩
 ·simp[Value.ownBlock] at eq
 ·simp[Value.ownBlock] at eq;subst eq;rw[hb] at hg;injection hg with hg
  injection hg with _ h2 _
  exact fG h2
theorem bw (h:w.ownsRow aB e size v n xs)(hp:v.ownBlock≠some p.block)(u:Value):(w.setCell p u).ownsRow aB e size v n xs:=by
 refine⟨h.1,?_⟩;rcases h.2 with hn | ⟨g,ij,gu,rfl,hb,hg,rest⟩
 ·exact ax hn
 ·refine az ⟨g,ij,gu,rfl,hb,?_,rest⟩;rw[Below.heap_setCell _ _ _ _ (λe=>hp (by simp[Value.ownBlock,e]))];exact hg
theorem aY (h:w.ownsRow aB e size v n xs)(hb:Below w.heap.size w w'):w'.ownsRow aB e size v n xs:=(iE hb aB e).owns h
section
variable {w:World}{d:Nat}{aa:List REl}{ae:Nat}{hp:Option Addr}{vT:Value}{br:Bool}{vL:Value}
theorem RD.below (h:RD w d aa ae hp vT br vL)(hb:Below w.heap.size w w'):RD w' d aa ae hp vT br vL:=
 ⟨(hb.block d (bG.1 h.doc).1).trans h.doc,aY h.row hb,λe he=>(hb.block _ (bG.1 (h.el e he)).1).trans (h.el e he),λe he=>aY (h.kid e he) hb,h.few,h.kfew⟩
theorem RD.setDoc (h:RD w d aa ae hp vT br vL){vL':Value}(hc:(#[Value.pointer hp,vL,.int .i64 ae,vT,.bool br]:Array Value).setIfInBounds o u=#[.pointer uF,vL',.int .i64 made',rD,.bool SP])
  {bX:List REl} (hr:w.ownsRow 0 88 1 vL' bX.length (bX.map λe=>.pointer (some ⟨e.blk,0,none⟩))) (he:∀e∈bX,w.heap[e.blk]?=some (.cells e.cells 93 (0,0))) (hk:∀e∈bX,w.ownsRow 0 3 1 e.ks e.kids.length (bq e.kids)) (h1:bX.length<=24) (h2:∀e∈bX,e.kids.length<=24) :
  RD (w.setCell ⟨d,o,none⟩ u) d bX made' uF rD SP vL':=by
 refine⟨by rw[aP h.doc,hc],bw hr (aN hr h.doc (by decide)) _,λe hee=>?_,λe hee=>bw (hk e hee) (aN (hk e hee) h.doc (by decide)) _,h1,h2⟩;rw[Below.heap_setCell]
 ·exact he e hee
 ·intro eq;have h3:=he e hee;rw[show e.blk=d from eq,h.doc] at h3;injection h3 with h3
  injection h3 with _ h4 _
  exact absurd h4 (by decide)
theorem RD.setDoc' (h:RD w d aa ae hp vT br vL)(hc:(#[Value.pointer hp,vL,.int .i64 ae,vT,.bool br]:Array Value).setIfInBounds o u=#[.pointer uF,vL,.int .i64 made',rD,.bool SP]):
  RD (w.setCell ⟨d,o,none⟩ u) d aa made' uF rD SP vL:=h.setDoc hc h.row h.el h.kid h.few h.kfew
end
def et (b:Nat)(kids:List Nat)(ks:Value)(e:REl):REl:=if e.blk=b then{e with kids:=kids,ks:=ks} else e
theorem kI (b:Nat)(kids:List Nat)(ks:Value)(e:REl):(et b kids ks e).blk=e.blk:=by unfold et;split<;>rfl
theorem yJ (b:Nat)(kids:List Nat)(ks:Value)(e:REl):(et b kids ks e).num=e.num:=by unfold et;split<;>rfl
theorem RD.setKids (h:RD w d aa ae hp vT br vL){p:REl}(CP:p∈aa){kids:List Nat}{ks:Value}
  (ho:w.ownsRow 0 3 1 ks kids.length (bq kids)) (hl:kids.length<=24):RD (w.setCell ⟨p.blk,4,none⟩ ks) d (aa.map (et p.blk kids ks)) ae hp vT br vL:=by
 have FW:=h.el p CP
 have sb:∀e∈aa.map (et p.blk kids ks),w.ownsRow 0 3 1 e.ks e.kids.length (bq e.kids):=by
  intro e he;obtain⟨f,hf,rfl⟩:=bx.1 he;unfold et;split
  ·exact ho
  ·exact h.kid f hf
 refine⟨?_,?_,?_,?_,by simpa using h.few,?_⟩
 ·rw[Below.heap_setCell]
  ·exact h.doc
  ·intro eq;rw[<-show d=p.blk from eq,h.doc] at FW;injection FW with h3
   injection h3 with _ h4 _
   exact absurd h4 (by decide)
 ·have hr:=h.row
  have hm:(aa.map (et p.blk kids ks)).map (λe=>Value.pointer (some ⟨e.blk,0,none⟩))=aa.map λe=>Value.pointer (some ⟨e.blk,0,none⟩):=by
   rw[List.map_map];refine List.map_congr_left λe _=>?_;simp[kI]
  rw[hm,List.length_map];exact bw hr (aN hr FW (by decide)) _
 ·intro e he;obtain⟨f,hf,rfl⟩:=bx.1 he;rw[kI]
  by_cases hb:f.blk=p.blk
  ·have D1:=h.el f hf;rw[hb] at D1 ⊢;rw[aP D1];unfold et;rw[aE hb];rfl
  ·rw[Below.heap_setCell _ _ _ _ (by exact hb)];unfold et;rw[aA hb];exact h.el f hf
 ·intro e he;exact bw (sb e he) (aN (sb e he) FW (by decide)) _
 ·intro e he;obtain⟨f,hf,rfl⟩:=bx.1 he;unfold et;split
  ·exact hl
  ·exact h.kfew f hf
theorem cY {n:Int}{e:REl}(h:bR aa n=some e):e∈aa/\(e.num:Int)=n:=by
 unfold bR at h;exact⟨List.mem_of_find?_eq_some h,by simpa using List.find?_some h⟩
def jw (aa:List REl)(an af:Int)(aj:ByteArray):Int:=
 match bR aa an with
 | none=>5
 | some p=>if af<0∨(p.kids.length:Int)<af then 8 else if aQ aj=false then 4 else if 24<=aa.length then 9 else 0
def iU (b n:Nat)(aj:ByteArray):REl:=⟨b,n,[],aj,⟨#[]⟩,⟨#[]⟩,.slice none 0 0,false⟩
def RU (w:World)(d:Nat)(aa:List REl)(ae:Nat)(hp:Option Addr)(vT:Value)(vL:Value)(an af:Int)(aj:ByteArray)(e:Ending)(w':World):Prop:=
 (∃y:Int,e=.returned (.tuple #[.int .i64 0,.int .i64 y])/\y≠0/\jw aa an af aj=y/\w'=w)∨
 (∃(p:REl) (k:Nat) (ks:Value) (b:Nat) (vL':Value),e=.returned (.tuple #[.int .i64 ae,.int .i64 0])/\jw aa an af aj=0/\bR aa an=some p/\af=k/\k<=p.kids.length/\
  RD w' d (aa.map (et p.blk (dp p.kids k ae) ks)++[iU b ae aj]) (ae+1) hp vT false vL'/\Fr w w' (jX d aa vL)/\w.heap.size<=b/\(∀j,ks.ownBlock=some j->w.heap.size<=j)/\(∀j,vL'.ownBlock=some j->vL.ownBlock=some j∨w.heap.size<=j))
theorem Ji (b:Nat):∀u∈[Value.pointer (some ⟨b,0,none⟩)],u.oneCell'=true:=by
 intro u hu;simp at hu;subst hu;rfl
theorem D0 (W:World)(a b:Obj)(k:Nat)(h:k<W.heap.size):((W.alloc a).alloc b).heap[k]?=W.heap[k]?:=by
 rw[Below.heap_alloc _ _ _ (by simp;omega),Below.heap_alloc _ _ _ h]
theorem RD.addEl {W:World}(h:RD W d aa ae hp vT br vL){aj:ByteArray}{sl:Obj}{w6:World}{v':Value}
  (ho:w6.ownsRow 0 88 1 v' (aa.length+1) ((aa.map λe=>Value.pointer (some ⟨e.blk,0,none⟩))++[.pointer (some ⟨W.heap.size,0,none⟩)]))
  (hg:((W.alloc (.cells (iU W.heap.size n aj).cells 93)).alloc sl).grownBy w6 vL.ownBlock) (hl:aa.length<24) :
  w6.heap[d]?=some (.cells #[.pointer hp,vL,.int .i64 ae,vT,.bool br] 52 (0,0))/\RD (w6.setCell ⟨d,1,none⟩ v') d (aa++[iU W.heap.size n aj]) ae hp vT br v':=by
 have il:((W.alloc (.cells (iU W.heap.size n aj).cells 93)).alloc sl).heap.size=W.heap.size+2:=by simp
 have eo:=h.row;have keep:∀k,k<W.heap.size->vL.ownBlock≠some k->w6.heap[k]?=W.heap[k]?:=λk hk hn=>(hg.block k (by omega) (λe=>hn e.symm)).trans (D0 W _ _ k hk);have OW:w6.heap[d]?=some (.cells #[.pointer hp,vL,.int .i64 ae,vT,.bool br] 52 (0,0)):=(keep d (bG.1 h.doc).1 (aN eo h.doc (by decide))).trans h.doc
 have OZ:∀e∈aa++[iU W.heap.size n aj],w6.heap[e.blk]?=some (.cells e.cells 93 (0,0)):=by
  intro e he;rcases List.mem_append.1 he with he | he
  ·exact(keep _ (bG.1 (h.el e he)).1 (aN eo (h.el e he) (by decide))).trans (h.el e he)
  ·simp only[List.mem_cons,List.not_mem_nil,or_false] at he;subst he;show w6.heap[W.heap.size]?=_;have fG:some W.heap.size≠vL.ownBlock:=λe=>by have:=(eo.lt _ e.symm).2;omega
   rw[hg.block W.heap.size (by omega) fG,Below.heap_alloc _ _ _ (by simp),heap_alloc_new W]
 have sb:∀e∈aa++[iU W.heap.size n aj],w6.ownsRow 0 3 1 e.ks e.kids.length (bq e.kids):=by
  intro e he;rcases List.mem_append.1 he with he | he
  ·have hk:=h.kid e he;refine⟨hk.1,?_⟩;rcases hk.2 with hn | ⟨g,ij,gu,hv,hb,hh,rest⟩
   ·exact ax hn
   ·exact az ⟨g,ij,gu,hv,hb,(keep g (bG.1 hh).1 (aN eo hh (by decide))).trans hh,rest⟩
  ·simp only[List.mem_cons,List.not_mem_nil,or_false] at he;subst he;exact eB
 refine⟨OW,by rw[aP OW];rfl,?_,λe he=>?_,λe he=>bw (sb e he) (aN (sb e he) OW (by decide)) _,by simp;omega,λe he=>?_⟩
 ·have WD:w6.ownsRow 0 88 1 v' (aa++[iU W.heap.size n aj]).length ((aa++[iU W.heap.size n aj]).map λe=>Value.pointer (some ⟨e.blk,0,none⟩)):=by simpa[iU] using ho
  exact bw WD (aN WD OW (by decide)) _
 ·rw[Below.heap_setCell]
  ·exact OZ e he
  ·intro eq;have h3:=OZ e he;rw[show e.blk=d from eq,OW] at h3;injection h3 with h3
   injection h3 with _ h4 _
   exact absurd h4 (by decide)
 ·rcases List.mem_append.1 he with he | he
  ·exact h.kfew e he
  ·simp only[List.mem_cons,List.not_mem_nil,or_false] at he;subst he;exact bm
theorem zC (w:World)(d:Nat)(aa:List REl)(ae:Nat)(hp:Option Addr)(vT:Value)(br:Bool)(vL:Value)(an af:Int)(aj:ByteArray)(h:RD w d aa ae hp vT br vL)(qu:∀e∈aa,e.kids.length<aa.length)(nA:ae<=1099511627776):
  Calls prog 68 #[.pointer (some ⟨d,0,none⟩),.int .i64 an,.int .i64 af,.string aj] w λe w'=>RU w d aa ae hp vT vL an af aj e w':=by
 obtain⟨aL,cL,vq⟩:=h.shape;subst vq;have d1:=h.c1;have d2:w.cell? ⟨d,2,none⟩=some (.int .i64 ae):=au h.doc rfl;have dz:∀k,w.frozen? ⟨d,k,none⟩=false:=λ_=>aH h.doc;have d4:w.cell? ⟨d,4,none⟩=some (.bool br):=au h.doc rfl;have bJ:=h.few;have HR:=aw h;have HL:=aw qu;clear h qu;obtain⟨i0,hi,gP,gQ,gR⟩:=info_parts Tryz.info88;go_enter func68,ntmps68;go_wp2_with fail;refine(eJ _ d aa ae hp vT br _ an HR.out).mono ?_;rintro e w1 ⟨rfl,rfl⟩;obtain⟨w,rfl⟩:∃w,w=w1:=⟨_,rfl⟩;cases hfind:bR aa an with
 | none=>
  have HE:Hid (jw aa an af aj=5):=by unfold Hid jw;rw[hfind]
  clear hfind;rw[show fk none=Value.pointer none from rfl];go_wp2;go_ret2;exact ax ⟨5,rfl,by decide,HE.out,rfl⟩
 | some p=>
  have HF:=aw hfind;obtain⟨fJ,_⟩:=cY hfind;clear hfind;obtain⟨_,p4⟩:=eZ (HR.out.el p fJ);have pz:∀k,w.frozen? ⟨p.blk,k,none⟩=false:=λ_=>aH (HR.out.el p fJ);have pk:=HR.out.kid p fJ;have ml:=HL.out p fJ;obtain⟨ka,kc,te⟩:=aK pk;rw[te] at p4 pk;have Rf:=aw pk;have tl:=aw fJ;have HKS:=aw te;clear te pk fJ;have HI:Hid (jw aa an af aj=if af<0∨(p.kids.length:Int)<af then 8 else if aQ aj=false then 4 else if 24<=aa.length then 9 else 0):=by unfold Hid jw;rw[HF.out]
  rw[show fk (some p)=Value.pointer (some ⟨p.blk,0,none⟩) from rfl]
  by_cases h0:af<0
  ·have g0:decide (af<0)=true:=by simpa using h0
   have HE:Hid (jw aa an af aj=8):=by unfold Hid;rw[HI.out,aE (ax h0)]
   clear h0 HI;go_wp2;go_ret2;exact ax ⟨8,rfl,by decide,HE.out,rfl⟩
  have g0:decide (af<0)=false:=by simpa using h0
  obtain⟨k,rfl⟩:∃k:Nat,af=k:=⟨af.toNat,by omega⟩
  by_cases h1:p.kids.length<k
  ·have g1:decide ((p.kids.length:Int)<(k:Int))=true:=by simp;omega
   have HE:Hid (jw aa an k aj=8):=by unfold Hid;rw[HI.out,aE (az (by omega))]
   clear h0 HI;go_wp2;go_ret2;exact ax ⟨8,rfl,by decide,HE.out,rfl⟩
  have g1:decide ((p.kids.length:Int)<(k:Int))=false:=by simp;omega
  have hkk:k<=p.kids.length:=by omega
  have qp:Hid (jw aa an k aj=if aQ aj=false then 4 else if 24<=aa.length then 9 else 0):=by unfold Hid;rw[HI.out,aA (by omega)]
  clear HI h0 h1;go_wp2_with fail;refine(om _ aj).mono ?_;rintro e w2 ⟨rfl,rfl⟩;obtain⟨w,rfl⟩:∃w,w=w2:=⟨_,rfl⟩;cases lf:aQ aj with
  | false=>
   have HE:Hid (jw aa an k aj=4):=by unfold Hid;rw[qp.out,aE lf]
   clear lf qp;go_wp2;go_ret2;exact ax ⟨4,rfl,by decide,HE.out,rfl⟩
  | true=>
   by_cases SO:24<=aa.length
   ·have g24:decide ((24:Int)<=(aa.length:Int))=true:=by simp;omega
    have HE:Hid (jw aa an k aj=9):=by unfold Hid;rw[qp.out,aA (by rw[lf];decide),aE SO]
    clear lf qp;go_wp2;go_ret2;exact ax ⟨9,rfl,by decide,HE.out,rfl⟩
   ·have g24:decide ((24:Int)<=(aa.length:Int))=false:=by simp;omega
    have HE:Hid (jw aa an k aj=0):=by unfold Hid;rw[qp.out,aA (by rw[lf];decide),aA SO]
    clear lf qp
    have tO:p.blk≠d:=λeq=>by
     have h3:=HR.out.el p tl.out;rw[eq,HR.out.doc] at h3;injection h3 with h3
     injection h3 with _ h4 _
     exact absurd h4 (by decide)
    have hdp:d≠p.blk:=λeq=>tO eq.symm;have R1:RD (w.setCell ⟨d,4,none⟩ (.bool false)) d aa ae hp vT false (.slice aL aa.length cL):=HR.out.setDoc' rfl;have R2:RD ((w.setCell ⟨d,4,none⟩ (.bool false)).setCell ⟨d,2,none⟩ (.int .i64 ((ae:Int)+1))) d aa (ae+1) hp vT false (.slice aL aa.length cL):=R1.setDoc' rfl;have F2:Fr w ((w.setCell ⟨d,4,none⟩ (.bool false)).setCell ⟨d,2,none⟩ (.int .i64 ((ae:Int)+1))) (jX d aa (.slice aL aa.length cL)):=((Fr.refl w _).set (ax (ax rfl)) _).set (ax (ax rfl)) _;have oG:=bZ R2 F2;clear R1 R2 F2;go_wp2_with fail;obtain⟨W2,IQ⟩:∃W2,W2=(w.setCell ⟨d,4,none⟩ (.bool false)).setCell ⟨d,2,none⟩ (.int .i64 ((ae:Int)+1)):=⟨_,rfl⟩;rw[<-IQ] at oG ⊢;clear IQ d1 d2 dz d4 p4 pz Rf;have WE:=oG.out.1.kid p tl.out;rw[HKS.out] at WE;refine(si W2 ka kc p.kids k ae 0 WE (by omega) hkk).mono ?_;rintro e W3 ⟨a3,c3,rfl,bH,lu⟩;have jQ:(dp p.kids k ae).length=p.kids.length+1:=by simp[dp];omega
    have R3:=oG.out.1.below lu;have F3:=oG.out.2.below lu;have p4:=(eZ (R3.el p tl.out)).2;rw[HKS.out] at p4;have pz:∀k,W3.frozen? ⟨p.blk,k,none⟩=false:=λ_=>aH (R3.el p tl.out);have R4:=R3.setKids tl.out (ba bH bm) (by omega);have F4:=F3.set (p:=⟨p.blk,4,none⟩) (ax (az (ax ⟨p,tl.out,rfl⟩))) (.slice a3 (dp p.kids k ae).length c3)
    have X7:Hid (∀j,(Value.slice a3 (dp p.kids k ae).length c3).ownBlock=some j->w.heap.size<=j):=λj hj=>by
     have:=(bH.lt j hj).1;have:=oG.out.2.size;omega
    have FI:=bZ R4 F4;have HIL:=aw jQ;clear R3 F3 R4 F4 WE bH lu jQ;go_upto_region 15 with fail;obtain⟨W4,DU⟩:∃W4,W4=W3.setCell ⟨p.blk,4,none⟩ (.slice a3 (dp p.kids k ae).length c3):=⟨_,rfl⟩;rw[<-DU] at FI ⊢;clear DU p4 pz;have e1:W4.cell? ⟨d,1,none⟩=some (.slice aL aa.length cL):=FI.out.1.c1;have ez:∀k,W4.frozen? ⟨d,k,none⟩=false:=λ_=>aH FI.out.1.doc;have SU:=(bG.1 FI.out.1.doc).1;have TO:=FI.out.1.row;rw[List.length_map] at TO;obtain⟨rs,CR⟩:∃rs,rs=(aa.map (et p.blk (dp p.kids k ae) (.slice a3 (dp p.kids k ae).length c3))).map λe=>Value.pointer (some ⟨e.blk,0,none⟩):=⟨_,rfl⟩;rw[<-CR] at TO;have Yo:=aw CR;clear CR;go_wp2_with (at_builtin;refine ff _ rfl (.tmp 67) (.tmp 72) 49 rfl 0 88 i0 (.pointer none) 1 8 underlying49 hi gP gQ gR rfl (by decide) _ _ _ rfl ((TO.alloc _).alloc _) ⟨W4.heap.size+1,0,none⟩ 1 1 [.pointer (some ⟨W4.heap.size,0,none⟩)] rfl rfl ?c1 ?c2 ?c3 ?c4 ?c5 ?_)
    case c1=>exact bg (W4.alloc _) _ (by simp) _ _ _ rfl
    case c2=>exact Ji _
    case c3=>unfold maxLen;omega
    case c4=>omega
    case c5=>exact bm
    ·intro v' w6 uE O5 Yz;have hl6:(aa.map (et p.blk (dp p.kids k ae) (.slice a3 (dp p.kids k ae).length c3))).length<24:=by simp;omega
     rw[Yo.out] at uE;have Pd:w6.ownsRow 0 88 1 v' ((aa.map (et p.blk (dp p.kids k ae) (.slice a3 (dp p.kids k ae).length c3))).length+1) (((aa.map (et p.blk (dp p.kids k ae) (.slice a3 (dp p.kids k ae).length c3))).map λe=>Value.pointer (some ⟨e.blk,0,none⟩))++[.pointer (some ⟨W4.heap.size,0,none⟩)]):=by rw[List.length_map];exact uE
     obtain⟨OX,R6⟩:=FI.out.1.addEl (n:=ae) (aj:=aj) Pd O5 hl6;have F6:Fr w w6 (jX d aa (.slice aL aa.length cL)):=((FI.out.2.alloc _).alloc _).gb O5 (λj hj=>ax (az (az (ax hj))));have vw:=aw FI.out.2.size;have HV6:Hid (∀j,v'.ownBlock=some j->(Value.slice aL aa.length cL).ownBlock=some j∨w.heap.size<=j):=λj hj=>(Yz.out j hj).elim ax (λx=>az (by have:=FI.out.2.size;first | omega | (simp at x;omega)));obtain⟨a6,c6,hv6⟩:=aK uE;subst hv6;have f1:w6.cell? ⟨d,1,none⟩=some (.slice aL aa.length cL):=au OX rfl;have fz:∀k,w6.frozen? ⟨d,k,none⟩=false:=λ_=>aH OX;have RK:=aw R6;have Vs:Hid (Fr w (w6.setCell ⟨d,1,none⟩ (.slice a6 (aa.length+1) c6)) (jX d aa (.slice aL aa.length cL))):=F6.set (ax (ax rfl)) _;clear uE O5 Pd R6 F6 TO OX Yz;go_wp2;go_ret2;exact az ⟨p,k,.slice a3 (dp p.kids k ae).length c3,W4.heap.size,.slice a6 (aa.length+1) c6,rfl,HE.out,HF.out,rfl,hkk,RK.out,Vs.out,vw.out,X7.out,HV6.out⟩
end
section
variable {a:Int}{aa:List REl}
open Classical in
noncomputable def fb (aa:List REl)(a n:Int):Bool:=decide (oJ aa a n)
theorem ko {n:Int}:fb aa a n=true↔oJ aa a n:=by simp[fb]
noncomputable def dL (aa:List REl)(a:Int)(l:List REl):List REl:=l.filter λe=>!fb aa a e.num
def Hk (l:List REl):List Value:=l.map λe=>.pointer (some ⟨e.blk,0,none⟩)
theorem H3 {l:List REl}{i:Nat}(h:i<l.length)(a:Int):dL aa a (l.take (i+1))=dL aa a (l.take i)++if fb aa a l[i].num=true then[] else[l[i]]:=by
 unfold dL;rw[gj h,List.filter_append]
 congr 1
 by_cases e:fb aa a l[i].num=true
 ·simp[e]
 ·simp only[Bool.not_eq_true] at e;simp[e]
theorem Bb (aa l:List REl)(a:Int):(dL aa a l).length<=l.length:=List.length_filter_le _ _
theorem DH {e:REl}(h:e∈aa):∃p,bR aa e.num=some p:=by
 cases hf:bR aa e.num with
 | some p=>exact⟨p,rfl⟩
 | none=>
  unfold bR at hf;rw[List.find?_eq_none] at hf;exact absurd (hf e h) (by simp)
theorem xg (h:¬bn aa a<0):∃p,bR aa (bn aa a)=some p:=by
 rcases qh aa a with h1 | ⟨e,he,_,h2⟩
 ·omega
 ·rw[h2];exact DH he
def Sc (w:World)(d:Nat)(aa:List REl)(ae:Nat)(hp:Option Addr)(vT:Value)(vL:Value)(a:Int)(e:Ending)(w':World):Prop:=
 (bR aa a=none/\e=.returned (.int .i64 5)/\w'=w)∨
 ((∃y,bR aa a=some y)/\bn aa a<0/\e=.returned (.int .i64 6)/\w'=w)∨
 (∃(p:REl) (ks vL':Value),(∃y,bR aa a=some y)/\0<=bn aa a/\bR aa (bn aa a)=some p/\e=.returned (.int .i64 0)/\
  RD w' d ((dL aa a aa).map (et p.blk (aG a p.kids) ks)) ae hp vT false vL'/\Fr w w' (jX d aa vL)/\(∀j,ks.ownBlock=some j->w.heap.size<=j)/\(∀j,vL'.ownBlock=some j->w.heap.size<=j))
theorem LB (b:Nat)(kids:List Nat)(ks:Value)(l:List REl):Hk (l.map (et b kids ks))=Hk l:=by
 unfold Hk;rw[List.map_map];refine List.map_congr_left λe _=>?_;simp[kI]
theorem zD (w:World)(d:Nat)(aa:List REl)(ae:Nat)(hp:Option Addr)(vT:Value)(br:Bool)(vL:Value)(n:Int)(h:RD w d aa ae hp vT br vL)(rk:Nat->Nat)(hr:rN aa rk):
  Calls prog 72 #[.pointer (some ⟨d,0,none⟩),.int .i64 n] w λe w'=>Sc w d aa ae hp vT vL n e w':=by
 obtain⟨aL,cL,vq⟩:=h.shape;subst vq;have d4:w.cell? ⟨d,4,none⟩=some (.bool br):=au h.doc rfl;have dz:∀k,w.frozen? ⟨d,k,none⟩=false:=λ_=>aH h.doc;have bJ:=h.few;have HR:=aw h;have HK:=aw hr;clear h hr;obtain⟨i0,hi,gP,gQ,gR⟩:=info_parts Tryz.info88;go_enter func72,ntmps72;go_wp2_with fail;refine(eJ _ d aa ae hp vT br _ n HR.out).mono ?_;rintro e w1 ⟨rfl,rfl⟩;obtain⟨w,rfl⟩:∃w,w=w1:=⟨_,rfl⟩;cases hfind:bR aa n with
 | none=>
  have HE:=aw hfind;clear hfind;rw[show fk none=Value.pointer none from rfl];go_wp2;go_ret;exact ax ⟨HE.out,rfl,rfl⟩
 | some y=>
  have HF:=aw hfind;clear hfind;rw[show fk (some y)=Value.pointer (some ⟨y.blk,0,none⟩) from rfl];go_wp2_with fail;refine(gG _ d aa ae hp vT br _ n HR.out).mono ?_;rintro e w1 ⟨rfl,rfl⟩;obtain⟨w,rfl⟩:∃w,w=w1:=⟨_,rfl⟩
  by_cases qW:bn aa n<0
  ·have gp:decide (bn aa n<0)=true:=by simpa using qW
   have HP:=aw qW;clear qW;generalize hq:bn aa n=q at gp HP ⊢;have HQ:=aw hq;clear hq;go_wp2;go_ret;exact az (ax ⟨⟨y,HF.out⟩,by rw[HQ.out];exact HP.out,rfl,rfl⟩)
  ·have gp:decide (bn aa n<0)=false:=by simpa using qW
   obtain⟨p,CQ⟩:=xg qW;have HP:Hid (0<=bn aa n):=by unfold Hid;omega
   have HPF:=aw CQ;obtain⟨fJ,_⟩:=cY CQ;have tl:=aw fJ;clear CQ fJ qW;have R1:RD (w.setCell ⟨d,4,none⟩ (.bool false)) d aa ae hp vT false (.slice aL aa.length cL):=HR.out.setDoc' rfl;have F1:Fr w (w.setCell ⟨d,4,none⟩ (.bool false)) (jX d aa (.slice aL aa.length cL)):=(Fr.refl w _).set (ax (ax rfl)) _;have kJ:=bZ R1 F1;clear R1 F1;go_wp2_with fail;obtain⟨W1,UE⟩:∃W1,W1=w.setCell ⟨d,4,none⟩ (.bool false):=⟨_,rfl⟩;rw[<-UE] at kJ ⊢;clear UE d4 dz
   go_loopg [7,8] aa.length (λgk v iv wr=>∃i:Nat,iv=.int .i64 i/\i<=aa.length/\aa.length - i<=gk/\wr.ownsRow W1.heap.size 88 1 v (dL aa n (aa.take i)).length (Hk (dL aa n (aa.take i)))/\Below W1.heap.size W1 wr)
   case atStart=>exact⟨0,rfl,bm,by omega,eB,bo⟩
   case round=>
    obtain⟨i,rfl,jQ,fT,bS,hB⟩:=hrel;obtain⟨a2,c2,hv⟩:=aK bS;subst hv;have Bt:=aw (kJ.out.1.below hB);have d1:=Bt.out.c1
    by_cases bc:i<aa.length
    ·have hd:decide ((i:Int)<(aa.length:Int))=true:=by simp;omega
     obtain⟨g,hg,q1⟩:=Bt.out.at' bc;subst hg;obtain⟨q2,_⟩:=eZ (Bt.out.el aa[i] (bN bc))
     have uB:(dL aa n (aa.take i)).length<=24:=by
      have:=Bb aa (aa.take i) n;have:(aa.take i).length<=aa.length:=List.length_take_le' _ _;omega
     have HT:Hid (dL aa n (aa.take (i+1))=dL aa n (aa.take i)++if fb aa n aa[i].num=true then[] else[aa[i]]):=H3 bc n;generalize dL aa n (aa.take i)=f at bS uB HT ⊢;generalize aa[i]=x at q1 q2 HT;have HO:=aw bS;have hz:=hB.size;clear bS;go_wp2_with fail;refine(nR _ d aa ae hp vT false _ n x.num Bt.out rk HK.out).mono ?_;rintro e w2 ⟨b,rfl,rfl,HU⟩;obtain⟨wr,rfl⟩:∃wr,wr=w2:=⟨_,rfl⟩;cases b with
     | true=>
      have oR:Hid (dL aa n (aa.take (i+1))=f):=by
       unfold Hid;rw[HT.out,aE (ko.2 (HU.out.1 rfl))];simp
      clear HT HU;go_wp2;go_roundg (aa.length - (i+1))
      case measure=>omega
      case rel=>exact⟨i+1,by go_num,by omega,aF,by rw[oR.out];exact HO.out,hB⟩
     | false=>
      have oR:Hid (dL aa n (aa.take (i+1))=f++[x]):=by
       unfold Hid;rw[HT.out,aA (λh=>by have:=HU.out.2 (ko.1 h);cases this)]
      clear HT HU;go_wp2_with (at_builtin;refine wpList_append_own _ rfl (.tmp 48) (.tmp 56) 49 rfl W1.heap.size 88 i0 (.pointer none) 1 8 underlying49 hi gP gQ gR rfl (by decide) _ _ _ rfl (HO.out.alloc _) ⟨wr.heap.size,0,none⟩ 1 1 [.pointer (some ⟨x.blk,0,none⟩)] rfl rfl ?c1 ?c2 ?c3 ?c4 ?c5 ?_)
      case c1=>exact bg wr _ rfl _ _ _ rfl
      case c2=>exact Ji _
      case c3=>unfold maxLen;omega
      case c4=>omega
      case c5=>simp;omega
      ·intro v' w3 cj fB _;have bH:w3.ownsRow W1.heap.size 88 1 v' (f++[x]).length (Hk (f++[x])):=by simpa[Hk] using cj
       have fA:Below W1.heap.size W1 w3:=(hB.alloc hz _).grown fB (by simp;omega) (λk hk=>(HO.out.lt k hk).1);have MB:=aw bH;obtain⟨a3,c3,zm⟩:=aK bH;subst zm;clear cj fB bH;go_wp2;go_roundg (aa.length - (i+1))
       case measure=>omega
       case rel=>exact⟨i+1,by go_num,by omega,aF,by rw[oR.out];exact MB.out,fA⟩
    ·have hd:decide ((i:Int)<(aa.length:Int))=false:=by simp;omega
     obtain rfl:i=aa.length:=by omega
     rw[List.take_length] at bS ⊢;have CT:(dL aa n aa).length<=24:=by have:=Bb aa aa n;omega
     have HO:=aw bS;have HFr:=aw (kJ.out.2.below hB);clear bS;go_wp2_with fail;refine(eJ _ d aa ae hp vT false _ (bn aa n) Bt.out).mono ?_;rintro e w2 ⟨rfl,rfl⟩;obtain⟨wr,rfl⟩:∃wr,wr=w2:=⟨_,rfl⟩;rw[HPF.out,show fk (some p)=Value.pointer (some ⟨p.blk,0,none⟩) from rfl];obtain⟨_,p4⟩:=eZ (Bt.out.el p tl.out);have pk:=Bt.out.kid p tl.out;have ml:=Bt.out.kfew p tl.out;obtain⟨ka,kc,te⟩:=aK pk;rw[te] at p4 pk;have Rf:=aw pk;clear pk te;go_wp2_with fail;refine(xI wr ka kc p.kids n 0 Rf.out ml).mono ?_;rintro e W3 ⟨a3,c3,rfl,bH,lu⟩;have S8:(aG n p.kids).length<=24:=by have:=lL n p.kids;omega
     have R3:=Bt.out.below lu;have F3:=HFr.out.below lu;have XO:=R3.el p tl.out;have pz:∀k,W3.frozen? ⟨p.blk,k,none⟩=false:=λ_=>aH XO;have p4':=(eZ XO).2;have WU:=aY HO.out lu
     have X7:Hid (∀j,(Value.slice a3 (aG n p.kids).length c3).ownBlock=some j->w.heap.size<=j):=λj hj=>by
      have:=(bH.lt j hj).1;have:=HFr.out.size;omega
     have Ui:Hid (∀j,(Value.slice a2 (dL aa n aa).length c2).ownBlock=some j->w.heap.size<=j):=λj hj=>by
      have:=(HO.out.lt j hj).1;have:=kJ.out.2.size;omega
     have o3:W3.ownsRow 0 3 1 (.slice a3 (aG n p.kids).length c3) (aG n p.kids).length (bq (aG n p.kids)):=ba bH bm;have R4:=R3.setKids tl.out o3 S8;have F4:=F3.set (p:=⟨p.blk,4,none⟩) (ax (az (ax ⟨p,tl.out,rfl⟩))) (.slice a3 (aG n p.kids).length c3);have U7:=bw WU (aN WU XO (by decide)) (p:=⟨p.blk,4,none⟩) (.slice a3 (aG n p.kids).length c3)
     have zk:∀e∈(dL aa n aa).map (et p.blk (aG n p.kids) (.slice a3 (aG n p.kids).length c3)),e∈aa.map (et p.blk (aG n p.kids) (.slice a3 (aG n p.kids).length c3)):=λe he=>by
      obtain⟨f,hf,rfl⟩:=bx.1 he;exact bx.2 ⟨f,(dJ.1 hf).1,rfl⟩
     have U8:(W3.setCell ⟨p.blk,4,none⟩ (.slice a3 (aG n p.kids).length c3)).ownsRow 0 88 1 (.slice a2 (dL aa n aa).length c2) ((dL aa n aa).map (et p.blk (aG n p.kids) (.slice a3 (aG n p.kids).length c3))).length (Hk ((dL aa n aa).map (et p.blk (aG n p.kids) (.slice a3 (aG n p.kids).length c3)))):=by
      rw[LB,List.length_map];exact ba U7 bm
     have R5:RD ((W3.setCell ⟨p.blk,4,none⟩ (.slice a3 (aG n p.kids).length c3)).setCell ⟨d,1,none⟩ (.slice a2 (dL aa n aa).length c2)) d ((dL aa n aa).map (et p.blk (aG n p.kids) (.slice a3 (aG n p.kids).length c3))) ae hp vT false (.slice a2 (dL aa n aa).length c2):=
      R4.setDoc (o:=1) (u:=.slice a2 (dL aa n aa).length c2) rfl U8 (λe he=>R4.el e (zk e he)) (λe he=>R4.kid e (zk e he)) (by rw[List.length_map];exact CT) (λe he=>R4.kfew e (zk e he))
     have F5:=F4.set (p:=⟨d,1,none⟩) (ax (ax rfl)) (.slice a2 (dL aa n aa).length c2);have de:(W3.setCell ⟨p.blk,4,none⟩ (.slice a3 (aG n p.kids).length c3)).heap[d]?=_:=R4.doc;have d1':W3.cell? ⟨d,1,none⟩=some (.slice aL aa.length cL):=R3.c1;have dz':∀k,W3.frozen? ⟨d,k,none⟩=false:=λ_=>aH R3.doc
     have hdp:d≠p.blk:=λeq=>by
      rw[<-eq,R3.doc] at XO;injection XO with h3
      injection h3 with _ h4 _
      exact absurd h4 (by decide)
     have MD:=aw R5;have HF5:=aw F5;clear R3 F3 R4 F4 R5 F5 WU U7 U8 bH o3 lu zk de XO p4 kJ;go_wp2;go_ret;exact az (az ⟨p,(.slice a3 (aG n p.kids).length c3),(.slice a2 (dL aa n aa).length c2),⟨y,HF.out⟩,HP.out,HPF.out,rfl,MD.out,HF5.out,X7.out,Ui.out⟩)
end
def RW (w:World)(d:Nat)(aa:List REl)(ae:Nat)(hp:Option Addr)(vT:Value)(br:Bool)(vL:Value)(n m af:Int)(e:Ending)(w':World):Prop:=
 ((bR aa n=none∨bR aa m=none)/\e=.returned (.int .i64 5)/\w'=w)∨
 (∃y p,bR aa n=some y/\bR aa m=some p/\
  ((bn aa n<0/\e=.returned (.int .i64 6)/\w'=w)∨
   (0<=bn aa n/\oJ aa n m/\e=.returned (.int .i64 7)/\w'=w)∨
   (0<=bn aa n/\¬oJ aa n m/\(af<0∨((aG n p.kids).length:Int)<af)/\e=.returned (.int .i64 8)/\RD w' d aa ae hp vT br vL/\Below w.heap.size w w')∨
   (∃(q:REl) (k:Nat) (k1 k2:Value),0<=bn aa n/\¬oJ aa n m/\af=k/\k<=(aG n p.kids).length/\bR aa (bn aa n)=some q/\e=.returned (.int .i64 0)/\
    RD w' d ((aa.map (et q.blk (aG n q.kids) k1)).map (et p.blk (dp (aG n p.kids) k y.num) k2)) ae hp vT false vL/\Fr w w' (jX d aa vL)/\(∀j,k1.ownBlock=some j->w.heap.size<=j)/\(∀j,k2.ownBlock=some j->w.heap.size<=j))))
theorem EQ (w:World)(d:Nat)(aa:List REl)(ae:Nat)(hp:Option Addr)(vT:Value)(br:Bool)(vL:Value)(n m af:Int)(h:RD w d aa ae hp vT br vL)(rk:Nat->Nat)(hr:rN aa rk)(qu:∀e∈aa,e.kids.length<aa.length):
  Calls prog 75 #[.pointer (some ⟨d,0,none⟩),.int .i64 n,.int .i64 m,.int .i64 af] w λe w'=>RW w d aa ae hp vT br vL n m af e w':=by
 obtain⟨aL,cL,vq⟩:=h.shape;subst vq;have bJ:=h.few;have HR:=aw h;have HK:=aw hr;have HL:=aw qu;clear h hr qu;go_enter func75,ntmps75;go_wp2_with fail;refine(eJ _ d aa ae hp vT br _ n HR.out).mono ?_;rintro e w1 ⟨rfl,rfl⟩;obtain⟨w,rfl⟩:∃w,w=w1:=⟨_,rfl⟩;go_wp2_with fail;refine(eJ _ d aa ae hp vT br _ m HR.out).mono ?_;rintro e w1 ⟨rfl,rfl⟩;obtain⟨w,rfl⟩:∃w,w=w1:=⟨_,rfl⟩;cases hfind:bR aa n with
 | none=>
  have HE:=aw hfind;clear hfind;rw[show fk none=Value.pointer none from rfl];generalize fk (bR aa m)=pm;go_wp2;go_ret;exact ax ⟨ax HE.out,rfl,rfl⟩
 | some y=>
 have HF:=aw hfind;clear hfind;rw[show fk (some y)=Value.pointer (some ⟨y.blk,0,none⟩) from rfl];cases hfind:bR aa m with
 | none=>
  have HE:=aw hfind;clear hfind;rw[show fk none=Value.pointer none from rfl];go_wp2;go_ret;exact ax ⟨az HE.out,rfl,rfl⟩
 | some p=>
 have X3:=aw hfind;obtain⟨fJ,_⟩:=cY hfind;have tl:=aw fJ;clear hfind fJ;rw[show fk (some p)=Value.pointer (some ⟨p.blk,0,none⟩) from rfl];go_wp2_with fail;refine(gG _ d aa ae hp vT br _ n HR.out).mono ?_;rintro e w1 ⟨rfl,rfl⟩;obtain⟨w,rfl⟩:∃w,w=w1:=⟨_,rfl⟩
 by_cases qW:bn aa n<0
 ·have gp:decide (bn aa n<0)=true:=by simpa using qW
  have HP:=aw qW;clear qW;generalize hq:bn aa n=q at gp HP ⊢;have HQ:=aw hq;clear hq;go_wp2;go_ret;exact az ⟨y,p,HF.out,X3.out,ax ⟨by rw[HQ.out];exact HP.out,rfl,rfl⟩⟩
 have gp:decide (bn aa n<0)=false:=by simpa using qW
 obtain⟨q,hqf⟩:=xg qW;have HP:Hid (0<=bn aa n):=by unfold Hid;omega
 have HQF:=aw hqf;obtain⟨Ph,_⟩:=cY hqf;have Xp:=aw Ph;clear hqf Ph qW;go_wp2_with fail;refine(nR _ d aa ae hp vT br _ n m HR.out rk HK.out).mono ?_;rintro e w2 ⟨b,rfl,rfl,HU⟩;obtain⟨w,rfl⟩:∃w,w=w2:=⟨_,rfl⟩;cases b with
 | true=>
  have HYU:Hid (oJ aa n m):=HU.out.1 rfl;clear HU;go_wp2;go_ret;exact az ⟨y,p,HF.out,X3.out,az (ax ⟨HP.out,HYU.out,rfl,rfl⟩)⟩
 | false=>
 have VC:Hid (¬oJ aa n m):=λh=>by have:=HU.out.2 h;cases this
 clear HU;obtain⟨_,p4⟩:=eZ (HR.out.el p tl.out);have pk:=HR.out.kid p tl.out;have ml:=HR.out.kfew p tl.out;obtain⟨ka,kc,te⟩:=aK pk;rw[te] at p4 pk;have Rf:=aw pk;clear pk te;go_wp2_with fail;refine(xI w ka kc p.kids n 0 Rf.out ml).mono ?_;rintro e W1 ⟨a1,c1,rfl,pJ,mS⟩;clear p4 Rf
 have S8:(aG n p.kids).length<24:=by
  have:=lL n p.kids;have:=HL.out p tl.out;omega
 have kJ:=aw (HR.out.below mS);have eu:=aw mS;have Xo:=aw pJ;clear pJ mS
 by_cases h0:af<0
 ·have g0:decide (af<0)=true:=by simpa using h0
  have H0:=aw h0;clear h0;go_wp2;go_ret;exact az ⟨y,p,HF.out,X3.out,az (az (ax ⟨HP.out,VC.out,ax H0.out,rfl,kJ.out,eu.out⟩))⟩
 have g0:decide (af<0)=false:=by simpa using h0
 obtain⟨k,rfl⟩:∃k:Nat,af=k:=⟨af.toNat,by omega⟩;clear h0
 by_cases h1:(aG n p.kids).length<k
 ·have g1:decide (((aG n p.kids).length:Int)<(k:Int))=true:=by simp;omega
  go_wp2;go_ret;exact az ⟨y,p,HF.out,X3.out,az (az (ax ⟨HP.out,VC.out,az (by omega),rfl,kJ.out,eu.out⟩))⟩
 have g1:decide (((aG n p.kids).length:Int)<(k:Int))=false:=by simp;omega
 have hkk:k<=(aG n p.kids).length:=by omega
 clear h1;have d4:W1.cell? ⟨d,4,none⟩=some (.bool br):=au kJ.out.doc rfl;have dz:∀k,W1.frozen? ⟨d,k,none⟩=false:=λ_=>aH kJ.out.doc;have R2:RD (W1.setCell ⟨d,4,none⟩ (.bool false)) d aa ae hp vT false (.slice aL aa.length cL):=kJ.out.setDoc' rfl;have F2:Fr w (W1.setCell ⟨d,4,none⟩ (.bool false)) (jX d aa (.slice aL aa.length cL)):=((Fr.refl w _).below eu.out).set (ax (ax rfl)) _;have O2:=bw Xo.out (aN Xo.out kJ.out.doc (by decide)) (p:=⟨d,4,none⟩) (.bool false);have oG:=kC R2 F2 O2;clear R2 F2 O2;go_wp2_with fail;obtain⟨W2,IQ⟩:∃W2,W2=W1.setCell ⟨d,4,none⟩ (.bool false):=⟨_,rfl⟩;rw[<-IQ] at oG ⊢;clear IQ d4 dz kJ eu Xo;refine(eJ _ d aa ae hp vT false _ (bn aa n) oG.out.1).mono ?_;rintro e w3 ⟨rfl,rfl⟩;obtain⟨W2,rfl⟩:∃W2,W2=w3:=⟨_,rfl⟩;rw[HQF.out,show fk (some q)=Value.pointer (some ⟨q.blk,0,none⟩) from rfl];obtain⟨_,q4⟩:=eZ (oG.out.1.el q Xp.out);have qk:=oG.out.1.kid q Xp.out;have hql:=oG.out.1.kfew q Xp.out;obtain⟨la,lc,B6⟩:=aK qk;rw[B6] at q4 qk;have HQK:=aw qk;clear qk B6;go_wp2_with fail;refine(xI W2 la lc q.kids n 0 HQK.out hql).mono ?_;rintro e W3 ⟨a3,c3,rfl,bH,lu⟩;clear q4 HQK;have hnq:(aG n q.kids).length<=24:=by have:=lL n q.kids;omega
 have R3:=oG.out.1.below lu;have F3:=oG.out.2.1.below lu;have O3:=aY oG.out.2.2 lu;have qe3:=R3.el q Xp.out;have qz:∀k,W3.frozen? ⟨q.blk,k,none⟩=false:=λ_=>aH qe3;have q4:=(eZ qe3).2;have o3:W3.ownsRow 0 3 1 (.slice a3 (aG n q.kids).length c3) (aG n q.kids).length (bq (aG n q.kids)):=ba bH bm
 have X7:Hid (∀j,(Value.slice a3 (aG n q.kids).length c3).ownBlock=some j->w.heap.size<=j):=λj hj=>by
  have:=(bH.lt j hj).1;have:=oG.out.2.1.size;omega
 have R4:=R3.setKids Xp.out o3 hnq;have F4:=F3.set (p:=⟨q.blk,4,none⟩) (ax (az (ax ⟨q,Xp.out,rfl⟩))) (.slice a3 (aG n q.kids).length c3);have O4:=bw O3 (aN O3 qe3 (by decide)) (p:=⟨q.blk,4,none⟩) (.slice a3 (aG n q.kids).length c3);have FI:=kC R4 F4 O4;clear R3 F3 O3 R4 F4 O4 bH lu o3 qe3 oG;go_wp2_with fail;obtain⟨W4,DU⟩:∃W4,W4=W3.setCell ⟨q.blk,4,none⟩ (.slice a3 (aG n q.kids).length c3):=⟨_,rfl⟩;rw[<-DU] at FI ⊢;clear DU qz q4;have As:=(cY HF.out).2.symm;have aaP:=si W4 a1 c1 (aG n p.kids) k y.num w.heap.size FI.out.2.2 (by omega) hkk;refine(show Calls prog 107 #[.slice a1 (aG n p.kids).length c1,.int .i64 k,.int .i64 n] W4 λe w'=>wl W4 (dp (aG n p.kids) k y.num) e w' from by rw[show(Value.int .i64 n)=.int .i64 (y.num:Int) from by rw[As]];exact aaP).mono ?_;rintro e W5 ⟨a5,c5,rfl,cf,zd⟩;clear aaP As;have jQ:(dp (aG n p.kids) k y.num).length<=24:=by simp[dp];omega
 have R5:=FI.out.1.below zd;have F5:=FI.out.2.1.below zd;have WF:et q.blk (aG n q.kids) (.slice a3 (aG n q.kids).length c3) p∈aa.map (et q.blk (aG n q.kids) (.slice a3 (aG n q.kids).length c3)):=bx.2 ⟨p,tl.out,rfl⟩;have pe5:=R5.el _ WF;have R6:=R5.setKids WF (ba cf bm) jQ;rw[kI] at pe5 R6;have pz:∀k,W5.frozen? ⟨p.blk,k,none⟩=false:=λ_=>aH pe5;have p4:W5.cell? ⟨p.blk,4,none⟩=some (et q.blk (aG n q.kids) (.slice a3 (aG n q.kids).length c3) p).ks:=au pe5 rfl;have F6:=F5.set (p:=⟨p.blk,4,none⟩) (ax (az (ax ⟨p,tl.out,rfl⟩))) (.slice a5 (dp (aG n p.kids) k y.num).length c5)
 have HK5:Hid (∀j,(Value.slice a5 (dp (aG n p.kids) k y.num).length c5).ownBlock=some j->w.heap.size<=j):=λj hj=>by
  have:=(cf.lt j hj).1;have:=FI.out.2.1.size;omega
 have RK:=aw R6;have Vs:=aw F6;clear R5 F5 R6 F6 pe5 cf zd WF FI;generalize (et q.blk (aG n q.kids) (.slice a3 (aG n q.kids).length c3) p).ks=oldk at p4;go_wp2;go_ret;exact az ⟨y,p,HF.out,X3.out,az (az (az ⟨q,k,.slice a3 (aG n q.kids).length c3,.slice a5 (dp (aG n p.kids) k y.num).length c5,HP.out,VC.out,rfl,hkk,HQF.out,rfl,RK.out,Vs.out,X7.out,HK5.out⟩))⟩
def eC (s aq:ByteArray):Int:=if(eH s).1≠0 then(eH s).1 else if aQ aq=false then 4 else 0
theorem Tr {w:World}{g:Nat}{t:TypeId}{v:Value}(hg:w.heap[g]?=some (.cells #[v] t (0,0))):w.ownsRow 0 t 1 (.slice (some ⟨g,0,none⟩) 1 1) 1 [v]:=by
 refine⟨rfl,az ⟨g,1,#[v],rfl,bm,hg,aF,by unfold maxLen;omega,rfl,rfl⟩⟩
theorem QS (w:World)(a b c:Obj):(((w.alloc a).alloc b).alloc c).heap[w.heap.size]?=some a/\(((w.alloc a).alloc b).alloc c).heap[w.heap.size+1]?=some b/\(((w.alloc a).alloc b).alloc c).heap[w.heap.size+1+1]?=some c:=by
 refine⟨?_,?_,?_⟩
 ·rw[D0 _ _ _ _ (by simp),heap_alloc_new w]
 ·rw[Below.heap_alloc _ _ _ (by simp)];have:=heap_alloc_new (w.alloc a) (o:=b);simpa using this
 ·have:=heap_alloc_new ((w.alloc a).alloc b) (o:=c);simpa using this
theorem WS (w:World)(aq:ByteArray)(pa:Option Addr):
  RD (((w.alloc (.cells (iU w.heap.size 0 aq).cells 93)).alloc (.cells #[.pointer (some ⟨w.heap.size,0,none⟩)] 88)).alloc (.cells #[.pointer pa,.slice (some ⟨w.heap.size+1,0,none⟩) 1 1,.int .i64 1,.slice none 0 0,.bool false] 52)) (w.heap.size+1+1) [iU w.heap.size 0 aq] 1 pa (.slice none 0 0) false (.slice (some ⟨w.heap.size+1,0,none⟩) 1 1):=by
 obtain⟨h1,h2,h3⟩:=QS w (.cells (iU w.heap.size 0 aq).cells 93) (.cells #[.pointer (some ⟨w.heap.size,0,none⟩)] 88) (.cells #[.pointer pa,.slice (some ⟨w.heap.size+1,0,none⟩) 1 1,.int .i64 1,.slice none 0 0,.bool false] 52);refine⟨h3,Tr h2,λe he=>?_,λe he=>?_,by simp,λe he=>?_⟩
 ·simp only[List.mem_cons,List.not_mem_nil,or_false] at he;subst he;exact h1
 ·simp only[List.mem_cons,List.not_mem_nil,or_false] at he;subst he;exact eB
 ·simp only[List.mem_cons,List.not_mem_nil,or_false] at he;subst he;exact bm
section
variable {l:List Nat}{n:Int}
def fQ (l:List Nat)(n:Int):Bool:=l.any λk=>decide ((k:Int)=n)
theorem OV {j:Nat}(hj:j<l.length)(h:((l[j]:Nat):Int)=n):fQ l n=true:=by
 unfold fQ;exact List.any_eq_true.2 ⟨_,bN hj,by simpa using h⟩
theorem SQ (h:∀j (hj:j<l.length),((l[j]:Nat):Int)=n->False):fQ l n=false:=by
 cases hk:fQ l n with
 | false=>rfl
 | true=>
  obtain⟨k,qa,gg⟩:=List.any_eq_true.1 hk;obtain⟨j,hj,rfl⟩:=List.getElem_of_mem qa;exact(h j hj (by simpa using gg)).elim
theorem mj (w:World)(a:Option Addr)(c:Nat)(l:List Nat)(n:Int)(aB:Nat)(ho:w.ownsRow aB 3 1 (.slice a l.length c) l.length (bq l))(hl:l.length<=24):
  Calls prog 35 #[.slice a l.length c,.int .i64 n] w λe w'=>e=.returned (.bool (fQ l n))/\w'=w:=by
 have HO:=aw ho;clear ho;go_enter func35,ntmps35;go_wp2
 go_loop [5] (λiv=>∃i:Nat,iv=.int .i64 i/\i<=l.length/\Hid (∀t (ht:t<l.length),t<i->((l[t]:Nat):Int)=n->False)) (λiv=>l.length - (intOf iv).toNat)
 case atStart=>exact⟨0,rfl,bm,λt ht h=>by omega⟩
 case round=>
  obtain⟨i,rfl,hi,HN⟩:=hrel
  by_cases bc:i<l.length
  ·have hd:decide ((i:Int)<(l.length:Int))=true:=by simp;omega
   obtain⟨g,hg,_,hc⟩:=aX HO.out (by omega);subst hg;have q:=hc i (.int .i64 ((l[i]:Nat):Int)) (by simp[bc]);clear hc
   by_cases hn:((l[i]:Nat):Int)=n
   ·have HE:=aw (OV bc hn);have gn:(((l[i]:Nat):Int)==n)=true:=by simp[hn]
    clear hn;go_wp2;go_ret;rw[HE.out];exact⟨rfl,rfl⟩
   ·have gn:(((l[i]:Nat):Int)==n)=false:=by simp[hn]
    have fj:Hid (∀t (ht:t<l.length),t<i+1->((l[t]:Nat):Int)=n->False):=λt ht h1 h2=>by
     by_cases e:t=i
     ·subst e;exact hn h2
     ·exact HN.out t ht (by omega) h2
    clear hn;go_wp2
    go_round
    case rel=>exact⟨i+1,by go_num,by omega,fj⟩
    case measure=>simp[intOf];omega
  ·have hd:decide ((i:Int)<(l.length:Int))=false:=by simp;omega
   have HE:Hid (fQ l n=false):=SQ (λj hj h=>HN.out j hj (by omega) h);go_wp2;go_ret;rw[HE.out];exact⟨rfl,rfl⟩
def dN (l:List Nat)(n:Nat):List Nat:=if fQ l n=true then l else l++[n]
def YL (w:World)(v:Value)(l:List Nat)(e:Ending)(w':World):Prop:=∃(a:Option Addr) (c:Nat),e=.returned (.slice a l.length c)/\w'.ownsRow 0 3 1 (.slice a l.length c) l.length (bq l)/\Below w.heap.size w w'/\Hid (∀j,(Value.slice a l.length c).ownBlock=some j->v.ownBlock=some j∨w.heap.size<=j)
theorem sZ (w:World)(a:Option Addr)(c:Nat)(l:List Nat)(n:Nat)(ho:w.ownsRow 0 3 1 (.slice a l.length c) l.length (bq l))(hl:l.length<=24):
  Calls prog 69 #[.slice a l.length c,.int .i64 n] w λe w'=>YL w (.slice a l.length c) (dN l n) e w':=by
 obtain⟨i0,hi,gP,gQ,gR⟩:=info_parts Tryz.info3;have HO:=aw ho;clear ho;go_enter func69,ntmps69;go_wp2_with fail;refine(mj _ a c l n 0 HO.out hl).mono ?_;rintro e w1 ⟨rfl,rfl⟩;obtain⟨w,rfl⟩:∃w,w=w1:=⟨_,rfl⟩;cases hh:fQ l n with
 | true=>
  have HE:Hid (dN l n=l):=by unfold Hid dN;rw[aE hh]
  clear hh;go_wp2;go_ret;rw[HE.out];exact⟨a,c,rfl,HO.out,bo,λj hj=>ax hj⟩
 | false=>
  have HE:Hid (dN l n=l++[n]):=by unfold Hid dN;rw[aA (by rw[hh];decide)]
  clear hh
  by_cases h0:a=none
  ·subst h0
   have hn:l=[]/\c=0:=by
    rcases HO.out.2 with⟨h,h2⟩ | ⟨_,_,_,h,_⟩
    ·injection h with _ h3 h4;exact⟨List.eq_nil_of_length_eq_zero h2,h4⟩
    ·injection h with h;cases h
   obtain⟨rfl,rfl⟩:=hn;go_wp2_with (first | (at_builtin;refine wpList_append_own_none rfl (.tmp 12) (.tmp 13) 28 rfl w.heap.size 3 i0 1 underlying28 hi _ _ _ rfl eB rfl ?_) | (at_builtin;refine wpList_append_own _ rfl (.tmp 15) (.tmp 17) 28 rfl w.heap.size 3 i0 (.int .i64 0) 1 8 underlying28 hi gP gQ gR rfl (by decide) _ _ _ rfl eB ⟨w.heap.size,0,none⟩ 1 1 [.int .i64 (n:Int)] rfl rfl (bg w _ rfl _ _ _ rfl) (sE n) (by unfold maxLen;omega) (by omega) (by simp) ?_))
   ·intro v2 w2 pA iD _;have dy:w2.ownsRow w.heap.size 3 1 v2 1 (bq [n]):=by simpa[bq] using pA
    have dk:Below w.heap.size w w2:=(bo.alloc aF _).grown iD (by simp) (λk hk=>by simp[Value.ownBlock] at hk);obtain⟨a2,c2,jJ⟩:=aK dy;subst jJ;have Rc:=aw dy;clear pA iD dy;go_wp2;go_ret;rw[HE.out];exact⟨a2,c2,rfl,ba Rc.out bm,dk,λj hj=>az (Rc.out.lt j hj).1⟩
  ·obtain⟨g,rfl⟩:∃g,a=some ⟨g,0,none⟩:=by
    rcases HO.out.2 with⟨h,_⟩ | ⟨g,_,_,h,_⟩
    ·injection h with h;exact absurd h h0
    ·injection h with h;exact⟨g,h⟩
   clear h0;have hc:=HO.out.cells (g:=g) rfl;go_wp2_with (at_builtin;refine wpList_append_own _ rfl (.tmp 12) (.tmp 13) 28 rfl w.heap.size 3 i0 (.int .i64 0) 1 8 underlying28 hi gP gQ gR rfl (by decide) _ _ _ rfl eB ⟨g,0,none⟩ l.length c (bq l) rfl (by simp[bq]) hc (sj _) ?c3 ?c4 ?c5 ?_)
   case c3=>unfold maxLen;omega
   case c4=>omega
   case c5=>exact aF
   ·intro v1 w1 D8 D2 _;have pJ:w1.ownsRow w.heap.size 3 1 v1 l.length (bq l):=by simpa using D8
    have cH:Below w.heap.size w w1:=bo.grown D2 aF (λk hk=>by simp[Value.ownBlock] at hk);obtain⟨a1,c1,I1⟩:=aK pJ;subst I1;clear D8 D2 hc;have gA:=cH.size;go_wp2_with (at_builtin;refine wpList_append_own _ rfl (.tmp 15) (.tmp 17) 28 rfl w.heap.size 3 i0 (.int .i64 0) 1 8 underlying28 hi gP gQ gR rfl (by decide) _ _ _ rfl (pJ.alloc _) ⟨w1.heap.size,0,none⟩ 1 1 [.int .i64 (n:Int)] rfl rfl ?d1 ?d2 ?d3 ?d4 ?d5 ?_)
    case d1=>exact bg w1 _ rfl _ _ _ rfl
    case d2=>exact sE n
    case d3=>unfold maxLen;omega
    case d4=>omega
    case d5=>simp;omega
    ·intro v2 w2 pA iD _;have dy:w2.ownsRow w.heap.size 3 1 v2 (l++[n]).length (bq (l++[n])):=by simpa[bq] using pA
     have dk:Below w.heap.size w w2:=(cH.alloc gA _).grown iD (by simp;omega) (λk hk=>(pJ.lt k hk).1);obtain⟨a2,c2,jJ⟩:=aK dy;subst jJ;have Rc:=aw dy;clear pA iD dy pJ;go_wp2;go_ret;rw[HE.out];exact⟨a2,c2,rfl,ba Rc.out bm,dk,λj hj=>az (Rc.out.lt j hj).1⟩
noncomputable def j7 (aa:List REl)(f n:Int):Bool:=decide (bn aa f<0)||fb aa (bn aa f) n
theorem KW (w:World)(d:Nat)(aa:List REl)(ae:Nat)(hp:Option Addr)(vT:Value)(br:Bool)(vL:Value)(f n:Int)(h:RD w d aa ae hp vT br vL)(rk:Nat->Nat)(hr:rN aa rk):
  Calls prog 108 #[.pointer (some ⟨d,0,none⟩),.int .i64 f,.int .i64 n] w λe w'=>e=.returned (.bool (j7 aa f n))/\w'=w:=by
 have HR:=aw h;have HK:=aw hr;clear h hr;go_enter func108,ntmps108;go_wp2_with fail;refine(gG _ d aa ae hp vT br _ f HR.out).mono ?_;rintro e w1 ⟨rfl,rfl⟩;obtain⟨w,rfl⟩:∃w,w=w1:=⟨_,rfl⟩
 by_cases hp:bn aa f<0
 ·have HE:Hid (j7 aa f n=true):=by unfold Hid j7;rw[decide_eq_true hp];rfl
  have gp:decide (bn aa f<0)=true:=by simpa using hp
  clear hp;generalize bn aa f=q at gp ⊢;go_wp2;go_ret;rw[HE.out];exact⟨rfl,rfl⟩
 ·have HE:Hid (j7 aa f n=fb aa (bn aa f) n):=by unfold Hid j7;rw[decide_eq_false hp];rfl
  have gp:decide (bn aa f<0)=false:=by simpa using hp
  clear hp;go_wp2_with fail;refine(nR _ d aa ae _ vT br _ (bn aa f) n HR.out rk HK.out).mono ?_;rintro e w2 ⟨b,rfl,rfl,HU⟩;obtain⟨w,rfl⟩:∃w,w=w2:=⟨_,rfl⟩
  have HB:Hid (fb aa (bn aa f) n=b):=by
   unfold Hid;have h1:=HU.out;rw[<-ko] at h1;cases b<;>cases hu:fb aa (bn aa f) n<;>simp_all
  clear HU;go_wp2;go_ret;rw[HE.out,HB.out];exact⟨rfl,rfl⟩
end
section
variable {b d:Nat}{aa:List REl}{l:List Nat}{w:World}
theorem RD.setT {ae:Nat}{hp:Option Addr}{vT:Value}{br:Bool}{vL:Value}(h:RD w d aa ae hp vT br vL){cs:Array Value}{t:TypeId}{z:Nat × Nat}(hb:w.heap[b]?=some (.cells cs t z))
  (h1:t≠52) (h2:t≠93) (h3:t≠88) (h4:t≠3) (o:Nat) (u:Value):RD (w.setCell ⟨b,o,none⟩ u) d aa ae hp vT br vL:=by
 have ne:∀{k:Nat} {V0:Array Value} {t':TypeId} {z':Nat × Nat},w.heap[k]?=some (.cells V0 t' z')->t≠t'->k≠b:=by
  intro k V0 t' z' hk hn eq;rw[eq,hb] at hk;injection hk with hk
  injection hk with _ h5 _
  exact hn h5
 refine⟨?_,bw h.row (aN h.row hb h3) _,λe he=>?_,λe he=>bw (h.kid e he) (aN (h.kid e he) hb h4) _,h.few,h.kfew⟩
 ·rw[Below.heap_setCell _ _ _ _ (ne h.doc h1)];exact h.doc
 ·rw[Below.heap_setCell _ _ _ _ (ne (h.el e he) h2)];exact h.el e he
def PB (w:World)(b:Nat)(px:Value)(d:Nat)(vm vy:Value)(cnt:Int)(vs:Value)(held:Bool):Prop:=
 w.heap[b]?=some (.cells #[px,.pointer (some ⟨d,0,none⟩),vm,vy,.int .i64 cnt,vs,.bool held] 56 (0,0))
theorem PB.blk {px:Value}{vm vy:Value}{cnt:Int}{vs:Value}{held:Bool}(h:PB w b px d vm vy cnt vs held):w.heap[b]?=some (.cells #[px,.pointer (some ⟨d,0,none⟩),vm,vy,.int .i64 cnt,vs,.bool held] 56 (0,0)):=h
def LS (aa:List REl)(l:List Nat):Prop:=l.Nodup/\∀k∈l,∃e∈aa,e.num=k
theorem dG:∀{l m:List Nat},l.Nodup->(∀k∈l,k∈m)->l.length<=m.length
 | [],_,_,_=>bm
 | x :: l,m,h,hs=>by
  have hx:=hs x (List.mem_cons_self ..);have h2:=List.nodup_cons.1 h
  have:l.length<=(m.erase x).length:=dG h2.2 (λk hk=>by
   refine(List.mem_erase_of_ne (λe=>?_)).2 (hs k (List.mem_cons_of_mem _ hk));subst e;exact h2.1 hk)
  rw[List.length_erase_of_mem hx] at this;have:=List.length_pos_of_mem hx;simp only[List.length_cons];omega
theorem LS.len (h:LS aa l):l.length<=aa.length:=by
 have:=dG h.1 (m:=aa.map REl.num) (λk hk=>by
  obtain⟨e,he,rfl⟩:=h.2 k hk;exact bx.2 ⟨e,he,rfl⟩)
 simpa using this
theorem iB {n:Nat}:fQ l n=true↔n∈l:=by
 unfold fQ;rw[List.any_eq_true];constructor
 ·rintro⟨k,hk,he⟩;have:(k:Int)=n:=by simpa using he
  rw[show n=k from by omega];exact hk
 ·intro h;exact⟨n,h,by simp⟩
theorem LS.with (h:LS aa l){e:REl}(he:e∈aa):LS aa (dN l e.num):=by
 unfold dN;split
 ·exact h
 ·rename_i hn;rw[iB] at hn;refine⟨?_,?_⟩
  ·rw[List.nodup_append];refine⟨h.1,by simp,λa ha b hb=>?_⟩;simp at hb;rw[hb];intro e2;exact hn (e2▸ha)
  ·intro k hk;rcases List.mem_append.1 hk with hk | hk
   ·exact h.2 k hk
   ·simp at hk;exact⟨e,he,hk.symm⟩
noncomputable def gI (aa:List REl)(f:Int)(l:List REl)(m:List Nat):List Nat:=l.foldl (λm e=>if j7 aa f e.num=true then dN m e.num else m) m
theorem Hx {l:List REl}{i:Nat}(h:i<l.length)(f:Int)(m:List Nat):gI aa f (l.take (i+1)) m=if j7 aa f l[i].num=true then dN (gI aa f (l.take i) m) l[i].num else gI aa f (l.take i) m:=by
 unfold gI;rw[gj h,List.foldl_append];rfl
theorem LS.spoil (f:Int):∀{l:List REl} {m:List Nat},LS aa m->(∀e∈l,e∈aa)->LS aa (gI aa f l m)
 | [],_,h,_=>h
 | e :: l,m,h,hs=>by
  show LS aa (gI aa f l (if j7 aa f e.num=true then dN m e.num else m));refine LS.spoil f ?_ (λx hx=>hs x (List.mem_cons_of_mem _ hx));split
  ·exact h.with (hs e (List.mem_cons_self ..))
  ·exact h
def YI (w:World)(b:Nat)(px:Value)(d:Nat)(vm vy vs:Value)(l:List Nat)(e:Ending)(w':World):Prop:=
 e=.returned (.tuple #[])/\∃(a:Option Addr) (c:Nat),PB w' b px d vm (.slice a l.length c) (-1) vs false/\w'.ownsRow 0 3 1 (.slice a l.length c) l.length (bq l)/\Fr w w' (λk=>k=b)/\(∀j,(Value.slice a l.length c).ownBlock=some j->vy.ownBlock=some j∨w.heap.size<=j)
structure SI (w:World)(b:Nat)(px:Value)(d:Nat)(els:List REl)(made:Nat)(hp:Option Addr)(vT:Value)(br:Bool)(vL:Value)(vm vy vs:Value)(cnt:Int)(held:Bool)(l:List Nat)(wr:World)(v:Value):Prop where
 pb:PB wr b px d vm v cnt vs held
 own:wr.ownsRow 0 3 1 v l.length (bq l)
 fr:Fr w wr (λk=>k=b)
 rd:RD wr d els made hp vT br vL
 blk:∀j,v.ownBlock=some j->vy.ownBlock=some j∨w.heap.size<=j
theorem Hy (w:World)(b:Nat)(px:Value)(d:Nat)(aa:List REl)(ae:Nat)(hp:Option Addr)(vT:Value)(br:Bool)(vL:Value)(vm vy vs:Value)(cnt:Int)(held:Bool)(l:List Nat)(f:Int)
  (hb:PB w b px d vm vy cnt vs held) (h:RD w d aa ae hp vT br vL) (rk:Nat->Nat) (hr:rN aa rk) (ho:w.ownsRow 0 3 1 vy l.length (bq l)) (B6:LS aa l) :
  Calls prog 70 #[.pointer (some ⟨b,0,none⟩),.int .i64 f] w λe w'=>YI w b px d vm vy vs (gI aa f aa l) e w':=by
 obtain⟨aL,cL,vq⟩:=h.shape;subst vq;have bJ:=h.few;have HK:=aw hr
 have Ue:Hid (∀i,(gI aa f (aa.take i) l).length<=24):=λi=>by
  have:=(LS.spoil f B6 (l:=aa.take i) (λe he=>List.mem_of_mem_take he)).len;omega
 have J1:Hid (SI w b px d aa ae hp vT br (.slice aL aa.length cL) vm vy vs cnt held (gI aa f (aa.take 0) l) w vy):=⟨hb,ho,Fr.refl _ _,h,λj hj=>ax hj⟩;clear h hr ho hb B6;go_enter func70,ntmps70;go_wp2_with fail
 go_loopg [4] aa.length (λgk iv wr=>∃(i:Nat) (v:Value),iv=.int .i64 i/\i<=aa.length/\aa.length - i<=gk/\Hid (SI w b px d aa ae hp vT br (.slice aL aa.length cL) vm vy vs cnt held (gI aa f (aa.take i) l) wr v))
 case atStart=>exact⟨0,vy,rfl,bm,by omega,J1⟩
 case round=>
  obtain⟨i,v,rfl,jQ,fT,HS⟩:=hrel;obtain⟨av,cv,hv⟩:=aK HS.out.own;subst hv;have b1:wr.cell? ⟨b,1,none⟩=some (.pointer (some ⟨d,0,none⟩)):=au HS.out.pb.blk rfl;have d1:=HS.out.rd.c1
  by_cases bc:i<aa.length
  ·have hd:decide ((i:Int)<(aa.length:Int))=true:=by simp;omega
   obtain⟨g,hg,q1⟩:=HS.out.rd.at' bc;subst hg;obtain⟨q2,_⟩:=eZ (HS.out.rd.el aa[i] (bN bc));have HT:Hid (gI aa f (aa.take (i+1)) l=if j7 aa f aa[i].num=true then dN (gI aa f (aa.take i) l) aa[i].num else gI aa f (aa.take i) l):=Hx bc f l;have hml:=Ue.out i;have ajg:=Ue.out (i+1);generalize gI aa f (aa.take i) l=m at HS HT hml ⊢;generalize aa[i]=x at q1 q2 HT;go_wp2_with fail;refine(KW _ d aa ae hp vT br _ f x.num HS.out.rd rk HK.out).mono ?_;rintro e w2 ⟨rfl,rfl⟩;obtain⟨wr,rfl⟩:∃wr,wr=w2:=⟨_,rfl⟩;cases hh:j7 aa f x.num with
   | false=>
    have oR:Hid (gI aa f (aa.take (i+1)) l=m):=by unfold Hid;rw[HT.out,aA (by rw[hh];decide)]
    clear HT hh;go_wp2;go_roundg (aa.length - (i+1))
    case measure=>omega
    case rel=>exact⟨i+1,_,by go_num,by omega,aF,by rw[oR.out];exact HS⟩
   | true=>
    have oR:Hid (gI aa f (aa.take (i+1)) l=dN m x.num):=by unfold Hid;rw[HT.out,aE hh]
    clear HT hh;have b3:wr.cell? ⟨b,3,none⟩=some (.slice av m.length cv):=au HS.out.pb.blk rfl;go_wp2_with fail;refine(sZ wr av cv m x.num HS.out.own hml).mono ?_;rintro e W3 ⟨a3,c3,rfl,bH,lu,iP⟩;have sH:PB W3 b px d vm (.slice av m.length cv) cnt vs held:=(lu.block b (bG.1 HS.out.pb).1).trans HS.out.pb;have e3:W3.cell? ⟨b,3,none⟩=some (.slice av m.length cv):=au sH.blk rfl;have ez:∀k,W3.frozen? ⟨b,k,none⟩=false:=λ_=>aH sH.blk
    have Ui:Hid (SI w b px d aa ae hp vT br (.slice (some ⟨g,0,none⟩) aa.length cL) vm vy vs cnt held (dN m x.num) (W3.setCell ⟨b,3,none⟩ (.slice a3 (dN m x.num).length c3)) (.slice a3 (dN m x.num).length c3)):=by
     refine⟨?_,bw bH (aN bH sH.blk (by decide)) _,(HS.out.fr.below lu).set (ax rfl) _,(HS.out.rd.below lu).setT sH.blk (by decide) (by decide) (by decide) (by decide) _ _,λj hj=>?_⟩
     ·show(W3.setCell _ _).heap[b]?=_;rw[aP sH.blk];rfl
     ·rcases iP.out j hj with h1 | h1
      ·exact HS.out.blk j h1
      ·exact az (Nat.le_trans HS.out.fr.size h1)
    clear bH lu iP sH b3 b1 d1 q1 q2 HS;go_wp2;go_roundg (aa.length - (i+1))
    case measure=>omega
    case rel=>exact⟨i+1,_,by go_num,by omega,aF,by rw[oR.out];exact Ui⟩
  ·have hd:decide ((i:Int)<(aa.length:Int))=false:=by simp;omega
   obtain rfl:i=aa.length:=by omega
   rw[List.take_length] at HS;have ez:∀k,wr.frozen? ⟨b,k,none⟩=false:=λ_=>aH HS.out.pb.blk;have b4:wr.cell? ⟨b,4,none⟩=some (.int .i64 cnt):=au HS.out.pb.blk rfl;have b6:wr.cell? ⟨b,6,none⟩=some (.bool held):=au HS.out.pb.blk rfl;go_wp2;go_end0;refine⟨rfl,av,cv,?_,?_,(HS.out.fr.set (p:=⟨b,4,none⟩) (ax rfl) _).set (p:=⟨b,6,none⟩) (ax rfl) _,HS.out.blk⟩
   ·have h1:(wr.setCell ⟨b,4,none⟩ (.int .i64 (-1))).heap[b]?=some (.cells #[px,.pointer (some ⟨d,0,none⟩),vm,.slice av (gI aa f aa l).length cv,.int .i64 (-1),vs,.bool held] 56 (0,0)):=by
     rw[aP HS.out.pb.blk];rfl
    show(World.setCell _ _ _).heap[b]?=_;rw[aP h1];rfl
   ·have fG:=aN HS.out.own HS.out.pb.blk (by decide);exact bw (bw HS.out.own fG _) fG _
end
theorem dF (w:World):∀n,Below w.heap.size w (w.drewN n)
 | 0=>bo
 | n+1=>(dF w n).drew
def lN (aa:List REl)(l:List Nat):List Nat:=l.filter λk=>(bR aa k).isSome
theorem Ln {aa:List REl}{l:List Nat}{i:Nat}(h:i<l.length):lN aa (l.take (i+1))=lN aa (l.take i)++if(bR aa (l[i]:Nat)).isSome=true then[l[i]] else[]:=by
 unfold lN;rw[gj h,List.filter_append]
 congr 1
 by_cases e:(bR aa (l[i]:Nat)).isSome=true<;>simp[e]
theorem P2 (aa:List REl)(l:List Nat):(lN aa l).length<=l.length:=List.length_filter_le _ _
theorem P1 (w:World)(b:Nat)(px:Value)(d:Nat)(aa:List REl)(ae:Nat)(hp:Option Addr)(vT:Value)(br:Bool)(vL:Value)(vm vy vs:Value)(cnt:Int)(held:Bool)(a:Option Addr)(c:Nat)(l:List Nat)
  (hb:PB w b px d vm vy cnt vs held) (h:RD w d aa ae hp vT br vL) (ho:w.ownsRow 0 3 1 (.slice a l.length c) l.length (bq l)) (hl:l.length<=24) :
  Calls prog 73 #[.pointer (some ⟨b,0,none⟩),.slice a l.length c] w λe w'=>wl w (lN aa l) e w':=by
 obtain⟨i0,hi,gP,gQ,gR⟩:=info_parts Tryz.info3;have HO:=aw ho;have HR:=aw h;have HB:=aw hb;clear ho h hb;go_enter func73,ntmps73;go_wp2_with fail
 go_loopg [5,6] l.length (λgk v iv wr=>∃i:Nat,iv=.int .i64 i/\i<=l.length/\l.length - i<=gk/\wr.ownsRow w.heap.size 3 1 v (lN aa (l.take i)).length (bq (lN aa (l.take i)))/\Below w.heap.size w wr)
 case atStart=>exact⟨0,rfl,bm,by omega,eB,bo⟩
 case round=>
  obtain⟨i,rfl,jQ,fT,bS,hB⟩:=hrel;obtain⟨a2,c2,hv⟩:=aK bS;subst hv
  by_cases bc:i<l.length
  ·have hd:decide ((i:Int)<(l.length:Int))=true:=by simp;omega
   obtain⟨g,hg,di,hc⟩:=aX HO.out (by omega);subst hg;have q:=(hB.cell (p:=⟨g,i,none⟩) di).trans (hc i (.int .i64 ((l[i]:Nat):Int)) (by simp[bc]))
   have uB:(lN aa (l.take i)).length<=24:=by
    have:=P2 aa (l.take i);have:(l.take i).length<=l.length:=List.length_take_le' _ _;omega
   have HT:Hid (lN aa (l.take (i+1))=lN aa (l.take i)++if(bR aa (l[i]:Nat)).isSome=true then[l[i]] else[]):=Ln bc;clear hc;generalize lN aa (l.take i)=f at bS uB HT;generalize l[i]=y at q HT;have Bt:=aw (HR.out.below hB);have b1:wr.cell? ⟨b,1,none⟩=some (.pointer (some ⟨d,0,none⟩)):=(hB.cell (p:=⟨b,1,none⟩) (bG.1 HB.out.blk).1).trans (au HB.out.blk rfl);have HW:=aw bS;clear bS;have wj:Hid (∀k,Calls prog 28 #[.pointer (some ⟨d,0,none⟩),.int .i64 (y:Int)] (wr.drewN k) λe w'=>e=.returned (fk (bR aa y))/\w'=wr.drewN k):=λk=>eJ _ d aa ae hp vT br vL y (Bt.out.below (dF _ _));cases hf:bR aa (y:Int) with
   | none=>
    have Rz:Hid (∀k,Calls prog 28 #[.pointer (some ⟨d,0,none⟩),.int .i64 (y:Int)] (wr.drewN k) λe w'=>e=.returned (.pointer none)/\w'=wr.drewN k):=λk=>by
     have:=wj.out k;rw[hf] at this;exact this
    have oR:Hid (lN aa (l.take (i+1))=f):=by unfold Hid;rw[HT.out,hf];simp
    clear hf wj HT;go_upto_region 5 with fail;go_quiet ((go_at_call 28;exact Calls.quiet_of_same (Rz.out _)));have hBq:=hB.trans ((dF wr nq).mono hB.size);have VL:=aw (aY HW.out (dF wr nq));go_wp2;go_roundg (l.length - (i+1))
    case measure=>omega
    case rel=>exact⟨i+1,by go_num,by omega,aF,by rw[oR.out];exact VL.out,hBq⟩
   | some p=>
    have Rz:Hid (∀k,Calls prog 28 #[.pointer (some ⟨d,0,none⟩),.int .i64 (y:Int)] (wr.drewN k) λe w'=>e=.returned (.pointer (some ⟨p.blk,0,none⟩))/\w'=wr.drewN k):=λk=>by
     have:=wj.out k;rw[hf] at this;exact this
    have oR:Hid (lN aa (l.take (i+1))=f++[y]):=by unfold Hid;rw[HT.out,hf];simp
    clear hf wj HT;go_upto_region 5 with fail;go_quiet ((go_at_call 28;exact Calls.quiet_of_same (Rz.out _)));have hBq:=hB.trans ((dF wr nq).mono hB.size);have VL:=aw (aY HW.out (dF wr nq));have q':(wr.drewN nq).cell? ⟨g,i,none⟩=some (.int .i64 (y:Int)):=q;generalize wr.drewN nq=wq at hBq VL q' ⊢;clear q b1 Rz Bt HW;have hz:=hBq.size;go_wp2_with (at_builtin;refine wpList_append_own _ rfl (.tmp 23) (.tmp 28) 28 rfl w.heap.size 3 i0 (.int .i64 0) 1 8 underlying28 hi gP gQ gR rfl (by decide) _ _ _ rfl (VL.out.alloc _) ⟨wq.heap.size,0,none⟩ 1 1 [.int .i64 (y:Int)] rfl rfl ?c1 ?c2 ?c3 ?c4 ?c5 ?_)
    case c1=>exact bg wq _ rfl _ _ _ rfl
    case c2=>exact sE y
    case c3=>unfold maxLen;omega
    case c4=>omega
    case c5=>simp;omega
    ·intro v' w3 cj fB _;have bH:w3.ownsRow w.heap.size 3 1 v' (f++[y]).length (bq (f++[y])):=by simpa[bq] using cj
     have fA:Below w.heap.size w w3:=(hBq.alloc hz _).grown fB (by simp;omega) (λk hk=>(VL.out.lt k hk).1);have MB:=aw bH;clear cj fB bH q';go_wp2;go_roundg (l.length - (i+1))
     case measure=>omega
     case rel=>exact⟨i+1,by go_num,by omega,aF,by rw[oR.out];exact MB.out,fA⟩
  ·have hd:decide ((i:Int)<(l.length:Int))=false:=by simp;omega
   obtain rfl:i=l.length:=by omega
   rw[List.take_length] at bS;have HW:=aw bS;rw[List.take_length];clear bS;go_wp2;go_ret;exact⟨a2,c2,rfl,HW.out,hB⟩
section
variable {w w':World}
def Drew (w w':World):Prop:=∃k,w'=w.drewN k
theorem Drew.below (h:Drew w w'):Below w.heap.size w w':=by
 obtain⟨k,rfl⟩:=h;exact dF w k
theorem ln (h:Drew w w')(n:Nat):Drew w (w'.drewN n):=by
 obtain⟨k,rfl⟩:=h;exact⟨k+n,by rw[World.drewN_drewN]⟩
theorem QG (w:World)(a a':Option Addr)(c c':Nat)(l:List Nat)(ho:w.ownsRow 0 3 1 (.slice a l.length c) l.length (bq l))(WD:w.ownsRow 0 3 1 (.slice a' l.length c') l.length (bq l))(hl:l.length<=24):
  Calls prog 30 #[.slice a l.length c,.slice a' l.length c'] w λe w'=>e=.returned (.bool true)/\Drew w w':=by
 have HO:=aw ho;have HO':=aw WD;clear ho WD;go_enter func30,ntmps30;go_wp2
 go_loopg [5] l.length (λgk iv wr=>∃i:Nat,iv=.int .i64 i/\i<=l.length/\l.length - i<=gk/\Drew w wr)
 case atStart=>exact⟨0,rfl,bm,by omega,0,rfl⟩
 case round=>
  obtain⟨i,rfl,jQ,fT,hD'⟩:=hrel;have hD:=aw hD';have CL:=hD'.below;clear hD'
  by_cases bc:i<l.length
  ·have hd:decide ((i:Int)<(l.length:Int))=true:=by simp;omega
   obtain⟨g,hg,di,hc⟩:=aX HO.out (by omega);subst hg;have q:=(CL.cell (p:=⟨g,i,none⟩) di).trans <| hc i (.int .i64 ((l[i]:Nat):Int)) (by simp[bc])
   clear hc;obtain⟨g',vk,O7,Rn⟩:=aX HO'.out (by omega);subst vk;have q':=(CL.cell (p:=⟨g',i,none⟩) O7).trans <| Rn i (.int .i64 ((l[i]:Nat):Int)) (by simp[bc])
   clear Rn;go_upto_region 6 with fail;go_quiet (fail);go_wp2;go_roundg (l.length - (i+1))
   case measure=>omega
   case rel=>exact⟨i+1,by go_num,by omega,aF,ln hD.out nq⟩
  ·have hd:decide ((i:Int)<(l.length:Int))=false:=by simp;omega
   go_wp2;go_ret;exact⟨rfl,hD.out⟩
end
section
variable {P:Program}{u:Value}
def Stays (u:Value)(w w':World):Prop:=∀p,w.cell? p=some u->w'.cell? p=some u
theorem Stays.trans {a b c:World}(h:Stays u a b)(k:Stays u b c):Stays u a c:=λp hp=>k p (h p hp)
theorem oy {w w':World}(h:∀k,k<w.heap.size->w'.heap[k]?=w.heap[k]?):Stays u w w':=by
 intro p hp
 have bc:p.block<w.heap.size:=by
  unfold World.cell? at hp;cases hb:w.heap[p.block]? with
  | none=>rw[hb] at hp;simp at hp
  | some o=>exact(bG.1 hb).1
 unfold World.cell? at hp ⊢;rw[h _ bc];exact hp
theorem ud (w:World)(aB:Nat)(t ty e:TypeId)(i:TypeInfo)(z:Value)(bytes:Nat)(ht:P.underlying t=some (.slice e))(hi:P.info? e=some i)(hz:i.zero=some z)
  (mm:i.size=1) (Rm:i.bytes=bytes) (UZ:z.cells.size=1) (v:Value) (n:Nat) (xs:List Value) (bS:w.ownsRow aB e 1 v n xs)
  (a:Addr) (m c:Nat) (u:Value) (qC:∀j,j<m->w.cell? (a.add j)=some u) (h1:u.oneCell'=true)
  (Rl:n+m<=maxLen) (mJ:(n+m)*bytes<=140737488355328) (xt:aB<=w.heap.size) :
  ∃v' w',(Builtin.append_ #[t,t] ty #[v,.slice (some a) m c]).run P w=.ok v' w'/\w'.ownsRow aB e 1 v' (n+m) (xs++List.replicate m u)/\w.grownBy w' v.ownBlock/\(∀j,v'.ownBlock=some j->v.ownBlock=some j∨w.heap.size<=j)/\w'.ownsRow aB e 1 v n xs/\Stays u w w':=by
 have hl:(List.replicate m u).length=m*1:=by simp
 have GZ:∀j x,(List.replicate m u)[j]?=some x->w.cell? (a.add j)=some x:=λj x hx=>by
  obtain⟨hj,rfl⟩:=ee.1 hx;simp only[List.getElem_replicate];exact qC j (by simpa using hj)
 have tc:∀x∈List.replicate m u,x.oneCell'=true:=λx hx=>by rw[(List.mem_replicate.1 hx).2];exact h1
 obtain⟨v',w',hr,h2,h3,h4⟩:=kP (P:=P) w aB t ty e i z 1 bytes ht hi hz mm Rm UZ (by decide) v n xs bS a m c (List.replicate m u) hl GZ tc Rl mJ xt;refine⟨v',w',hr,h2,h3,h4,?_⟩;rcases bS.2 with⟨rfl,rfl⟩ | ⟨g,ij,gu,rfl,hbg,hg,hnc,IS,kr,htake⟩
 ·have hx:xs=[]:=List.eq_nil_of_length_eq_zero (by simpa using bS.1);subst hx;exact⟨eB,oy λk hk=>h3.block k hk (by simp[Value.ownBlock])⟩
 ·by_cases hroom:n+m<=ij
  ·rw[Nat.mul_one] at kr htake;have O1:n*i.size+(List.replicate m u).length<=gu.size:=by rw[mm];simp;omega
   have Ea:=run_append_room (P:=P) w t ty e i ht hi g n ij gu hg a m c (List.replicate m u) (by rw[mm];exact hl) GZ tc hroom O1;rw[hr,mm,Nat.mul_one] at Ea;injection Ea with e1 e2
   subst e1 e2;have hn:=(bG.1 hg).1;have lX:gu.toList.length=ij:=by simpa using kr
   have nw:(w.setRow g (gu.toList.take n++List.replicate m u++gu.toList.drop (n+(List.replicate m u).length)).toArray).heap[g]?=some (.cells (gu.toList.take n++List.replicate m u++gu.toList.drop (n+(List.replicate m u).length)).toArray e (0,0)):=by
    simp[World.setRow,Array.getElem?_modify,hg]
   refine⟨⟨bS.1,az ⟨g,ij,_,rfl,hbg,nw,hnc,IS,?_,?_⟩⟩,?_⟩
   ·simp only[List.size_toArray,List.length_append,List.length_take,List.length_replicate,List.length_drop,lX,Nat.mul_one];omega
   ·rw[Nat.mul_one,<-htake];simp only[List.append_assoc];rw[List.take_append_of_le_length (by simp only[List.length_take,lX];omega),List.take_take,Nat.min_self]
   ·intro p hp
    by_cases hpg:p.block=g
    ·unfold World.cell? at hp ⊢;rw[hpg] at hp ⊢;rw[hg] at hp;rw[nw];simp only at hp ⊢;split at hp
     ·cases hp
     ·rename_i Te;rw[aA Te];obtain⟨ho,hou⟩:=bG.1 hp;rw[List.getElem?_toArray]
      by_cases h5:p.off<n
      ·rw[List.append_assoc,List.getElem?_append_left (by simp only[List.length_take,lX];omega),List.getElem?_take_of_lt h5];simpa using hp
      ·by_cases h6:p.off<n+m
       ·rw[List.append_assoc,List.getElem?_append_right (by simp only[List.length_take,lX];omega)];rw[List.getElem?_append_left (by simp only[List.length_take,lX,List.length_replicate];omega),List.getElem?_replicate,aE (by simp only[List.length_take,lX];omega)]
       ·rw[List.getElem?_append_right (by simp only[List.length_append,List.length_take,List.length_replicate,lX];omega),List.getElem?_drop]
        have:n+(List.replicate m u).length+(p.off - (List.take n gu.toList++List.replicate m u).length)=p.off:=by
         simp only[List.length_append,List.length_take,List.length_replicate,lX];omega
        rw[this];simpa using hp
    ·have hb:(w.setRow g (gu.toList.take n++List.replicate m u++gu.toList.drop (n+(List.replicate m u).length)).toArray).heap[p.block]?=w.heap[p.block]?:=by
      simp only[World.setRow,Array.getElem?_modify];rw[aA (λh=>hpg h.symm)]
     unfold World.cell? at hp ⊢;rw[hb];exact hp
  ·have Pc:∀j x,xs[j]?=some x->w.cell? ((⟨g,0,none⟩:Addr).add j)=some x:=bS.cells (g:=g) rfl;have Wb:((n+m:Nat):Int)<=9223372036854775807:=by unfold maxLen at Rl;omega
   subst Rm;have Ea:=run_append_grow (P:=P) w t ty e i z ht hi hz ⟨g,0,none⟩ n ij xs (by rw[mm];exact bS.1) Pc a m c (List.replicate m u) (by rw[mm];exact hl) GZ (by omega) Wb (growslice_fits (by omega) mJ);rw[hr] at Ea;injection Ea with _ e2
   subst e2;have ze:∀(o:Obj) k,k<w.heap.size->(w.drew.alloc o).heap[k]?=w.heap[k]?:=λo k hk=>Below.heap_alloc w.drew o k hk;exact⟨⟨bS.1,az ⟨g,ij,gu,rfl,hbg,(ze _ g (bG.1 hg).1).trans hg,hnc,IS,kr,htake⟩⟩,oy (ze _)⟩
theorem fN (w:World){Cj:Array Oper}{rest:List Oper}{o:Oper}{a:Act}{Q:Exit->Act->World->Prop}(hgd:o.guard=none)(s x:Operand)(t:TypeId)
  (ho:o.op=.call {callee:=.builtin .append,args:=#[s,x],argTypes:=#[t,t]})
  (aB:Nat) (e:TypeId) (i:TypeInfo) (z:Value) (bytes:Nat) (ht:P.underlying t=some (.slice e)) (hi:P.info? e=some i) (hz:i.zero=some z)
  (mm:i.size=1) (Rm:i.bytes=bytes) (UZ:z.cells.size=1)
  (v:Value) (n:Nat) (xs:List Value) (hs:a.eval s=v) (bS:w.ownsRow aB e 1 v n xs)
  (ad:Addr) (m c:Nat) (u:Value) (hx:a.eval x=.slice (some ad) m c) (qC:∀j,j<m->w.cell? (ad.add j)=some u) (h1:u.oneCell'=true)
  (Rl:n+m<=maxLen) (mJ:(n+m)*bytes<=140737488355328) (xt:aB<=w.heap.size)
  (h:∀v' w',w'.ownsRow aB e 1 v' (n+m) (xs++List.replicate m u)->w.grownBy w' v.ownBlock->Hid (∀j,v'.ownBlock=some j->v.ownBlock=some j∨w.heap.size<=j)->w'.ownsRow aB e 1 v n xs->Hid (Stays u w w')->wpList P Cj Q rest (a.put o.dst v') w'):wpList P Cj Q (o :: rest) a w:=by
 refine wpList_plain hgd λK hK=>?_;obtain⟨v',w',G1,r1,r2,r3,r4,r5⟩:=ud (P:=P) w aB t o.type e i z bytes ht hi hz mm Rm UZ v n xs bS ad m c u qC h1 Rl mJ xt;unfold Oper.wp;simp only[execOp,ho,resolve,invoke,builtin,Sem.run_bind,Sem.run_pure,Result.andThen_ok,List.map_toArray,List.map_cons,List.map_nil,hs,hx,G1];exact hK _ _ (h v' w' r1 r2 r3 r4 r5)
end
end Go.Proofs.YtblfffbmklkhmabGreat
