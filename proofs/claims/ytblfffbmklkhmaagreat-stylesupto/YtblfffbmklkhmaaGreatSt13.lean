import Derived.Test.YtblfffbmklkhmaaGreatSt12
import Derived.Test.YtblfffbmklkhmaaGreatSt10
import Derived.Deep.QuietTactic
namespace Go.Proofs.YtblfffbmklkhmaaGreat
open Go.RowKit
def NN (w:World) (d:Nat) (els:List REl) (made:Nat) (hp:Option Addr) (vT:Value) (aR:Bool) (vL:Value) (n m at':Int) (e:Ending) (w':World):Prop:=
 ((aZ els n=none∨aZ els m=none)∧e=.returned (.int .i64 5)∧w'=w)∨
 (∃ y p,aZ els n=some y∧aZ els m=some p∧
  ((aJ els n<0∧e=.returned (.int .i64 6)∧w'=w)∨
   (0≤aJ els n∧mg els n m∧e=.returned (.int .i64 7)∧w'=w)∨
   (0≤aJ els n∧¬ mg els n m∧(at'<0∨((af n p.kids).length:Int)<at')∧e=.returned (.int .i64 8)∧RD w' d els made hp vT aR vL∧Below w.heap.size w w')∨
   (∃ (q:REl) (k:Nat) (k1 k2:Value),0≤aJ els n∧¬ mg els n m∧at'=k∧k≤(af n p.kids).length∧aZ els (aJ els n)=some q∧e=.returned (.int .i64 0)∧
    RD w' d ((els.map (cP q.blk (af n q.kids) k1)).map (cP p.blk (bN (af n p.kids) k y.num) k2)) made hp vT false vL∧Fr w w' (gQ d els vL)∧(∀ j,k1.ownBlock=some j→w.heap.size≤j)∧(∀ j,k2.ownBlock=some j→w.heap.size≤j))))
set_option maxRecDepth 100000 in
set_option maxHeartbeats 4000000 in
theorem AN (w:World) (d:Nat) (els:List REl) (made:Nat) (hp:Option Addr) (vT:Value) (aR:Bool) (vL:Value) (n m at':Int) (h:RD w d els made hp vT aR vL) (rk:Nat→Nat) (hr:lM els rk) (om:∀ e∈els,e.kids.length<els.length) :
  Calls Tryz.prog 147 #[.pointer (some ⟨d,0,none⟩),.int .i64 n,.int .i64 m,.int .i64 at'] w fun e w'=>NN w d els made hp vT aR vL n m at' e w':=by
 obtain ⟨aL,cL,sX⟩:=h.shape
 subst sX
 have bw:=h.few
 have HR:Hid (RD w d els made hp vT aR (.slice aL els.length cL)):=h
 have HK:Hid (lM els rk):=hr
 have HL:Hid (∀ e∈els,e.kids.length<els.length):=om
 clear h hr om
 go_enter Tryz.func147,Tryz.ntmps147
 go_wp2_with fail
 refine (eb _ d els made hp vT aR _ n HR.out).mono ?_
 rintro e w1 ⟨rfl,rfl⟩
 obtain ⟨w,rfl⟩:∃ w,w=w1:=⟨_,rfl⟩
 go_wp2_with fail
 refine (eb _ d els made hp vT aR _ m HR.out).mono ?_
 rintro e w1 ⟨rfl,rfl⟩
 obtain ⟨w,rfl⟩:∃ w,w=w1:=⟨_,rfl⟩
 cases hfind:aZ els n with
 | none=>
  have HE:Hid (aZ els n=none):=hfind
  clear hfind
  rw [show ey none=Value.pointer none from rfl]
  generalize ey (aZ els m)=pm
  go_wp2
  go_ret
  exact Or.inl ⟨Or.inl HE.out,rfl,rfl⟩
 | some y=>
 have HF:Hid (aZ els n=some y):=hfind
 clear hfind
 rw [show ey (some y)=Value.pointer (some ⟨y.blk,0,none⟩) from rfl]
 cases hfind:aZ els m with
 | none=>
  have HE:Hid (aZ els m=none):=hfind
  clear hfind
  rw [show ey none=Value.pointer none from rfl]
  go_wp2
  go_ret
  exact Or.inl ⟨Or.inr HE.out,rfl,rfl⟩
 | some p=>
 have Vy:Hid (aZ els m=some p):=hfind
 obtain ⟨fp,_⟩:=cg hfind
 have qm:Hid (p∈els):=fp
 clear hfind fp
 rw [show ey (some p)=Value.pointer (some ⟨p.blk,0,none⟩) from rfl]
 go_wp2_with fail
 refine (eQ _ d els made hp vT aR _ n HR.out).mono ?_
 rintro e w1 ⟨rfl,rfl⟩
 obtain ⟨w,rfl⟩:∃ w,w=w1:=⟨_,rfl⟩
 by_cases pc:aJ els n<0
 ·have gp:decide (aJ els n<0)=true:=by simpa using pc
  have HP:Hid (aJ els n<0):=pc
  clear pc
  generalize hq:aJ els n=q at gp HP ⊢
  have HQ:Hid (aJ els n=q):=hq
  clear hq
  go_wp2
  go_ret
  exact Or.inr ⟨y,p,HF.out,Vy.out,Or.inl ⟨by rw [HQ.out];exact HP.out,rfl,rfl⟩⟩
 have gp:decide (aJ els n<0)=false:=by simpa using pc
 obtain ⟨q,VT⟩:=tP pc
 have HP:Hid (0≤aJ els n):=by unfold Hid;omega
 have HQF:Hid (aZ els (aJ els n)=some q):=VT
 obtain ⟨KV,_⟩:=cg VT
 have Ui:Hid (q∈els):=KV
 clear VT KV pc
 go_wp2_with fail
 refine (nQ _ d els made hp vT aR _ n m HR.out rk HK.out).mono ?_
 rintro e w2 ⟨b,rfl,rfl,HU⟩
 obtain ⟨w,rfl⟩:∃ w,w=w2:=⟨_,rfl⟩
 cases b with
 | true=>
  have HYU:Hid (mg els n m):=HU.out.1 rfl
  clear HU
  go_wp2
  go_ret
  exact Or.inr ⟨y,p,HF.out,Vy.out,Or.inr (Or.inl ⟨HP.out,HYU.out,rfl,rfl⟩)⟩
 | false=>
 have Qt:Hid (¬ mg els n m):=fun h=>by have:=HU.out.2 h;cases this
 clear HU
 obtain ⟨_,p4⟩:=ep (HR.out.el p qm.out)
 have pk:=HR.out.kid p qm.out
 have kL:=HR.out.kfew p qm.out
 obtain ⟨ka,kc,qj⟩:=au pk
 rw [qj] at p4 pk
 have MT:Hid (w.ownsRow 0 3 1 (.slice ka p.kids.length kc) p.kids.length (aK p.kids)):=pk
 clear pk qj
 go_wp2_with fail
 refine (uo w ka kc p.kids n 0 MT.out kL).mono ?_
 rintro e W1 ⟨a1,c1,rfl,mW,oF⟩
 clear p4 MT
 have OL:(af n p.kids).length<24:=by
  have:=jR n p.kids
  have:=HL.out p qm.out
  omega
 have kM:Hid (RD W1 d els made hp vT aR (.slice aL els.length cL)):=HR.out.below oF
 have ed:Hid (Below w.heap.size w W1):=oF
 have TD:Hid (W1.ownsRow w.heap.size 3 1 (.slice a1 (af n p.kids).length c1) (af n p.kids).length (aK (af n p.kids))):=mW
 clear mW oF
 by_cases h0:at'<0
 ·have g0:decide (at'<0)=true:=by simpa using h0
  have H0:Hid (at'<0):=h0
  clear h0
  go_wp2
  go_ret
  exact Or.inr ⟨y,p,HF.out,Vy.out,Or.inr (Or.inr (Or.inl ⟨HP.out,Qt.out,Or.inl H0.out,rfl,kM.out,ed.out⟩))⟩
 have g0:decide (at'<0)=false:=by simpa using h0
 obtain ⟨k,rfl⟩:∃ k:Nat,at'=k:=⟨at'.toNat,by omega⟩
 clear h0
 by_cases h1:(af n p.kids).length<k
 ·have g1:decide (((af n p.kids).length:Int)<(k:Int))=true:=by simp;omega
  go_wp2
  go_ret
  exact Or.inr ⟨y,p,HF.out,Vy.out,Or.inr (Or.inr (Or.inl ⟨HP.out,Qt.out,Or.inr (by omega),rfl,kM.out,ed.out⟩))⟩
 have g1:decide (((af n p.kids).length:Int)<(k:Int))=false:=by simp;omega
 have Wf:k≤(af n p.kids).length:=by omega
 clear h1
 have d4:W1.cell? ⟨d,4,none⟩=some (.bool aR):=aa kM.out.doc rfl
 have dz:∀ k,W1.frozen? ⟨d,k,none⟩=false:=fun _=>ag kM.out.doc
 have R2:RD (W1.setCell ⟨d,4,none⟩ (.bool false)) d els made hp vT false (.slice aL els.length cL):=kM.out.setDoc' rfl
 have F2:Fr w (W1.setCell ⟨d,4,none⟩ (.bool false)) (gQ d els (.slice aL els.length cL)):=((Fr.refl w _).below ed.out).set (Or.inl (Or.inl rfl)) _
 have O2:=aX TD.out (aj TD.out kM.out.doc (by decide)) (p:=⟨d,4,none⟩) (.bool false)
 have rB:Hid (RD (W1.setCell ⟨d,4,none⟩ (.bool false)) d els made hp vT false (.slice aL els.length cL)∧Fr w (W1.setCell ⟨d,4,none⟩ (.bool false)) (gQ d els (.slice aL els.length cL))∧(W1.setCell ⟨d,4,none⟩ (.bool false)).ownsRow w.heap.size 3 1 (.slice a1 (af n p.kids).length c1) (af n p.kids).length (aK (af n p.kids))):=⟨R2,F2,O2⟩
 clear R2 F2 O2
 go_wp2_with fail
 obtain ⟨W2,EC⟩:∃ W2,W2=W1.setCell ⟨d,4,none⟩ (.bool false):=⟨_,rfl⟩
 rw [←EC] at rB ⊢
 clear EC d4 dz kM ed TD
 refine (eb _ d els made hp vT false _ (aJ els n) rB.out.1).mono ?_
 rintro e w3 ⟨rfl,rfl⟩
 obtain ⟨W2,rfl⟩:∃ W2,W2=w3:=⟨_,rfl⟩
 rw [HQF.out,show ey (some q)=Value.pointer (some ⟨q.blk,0,none⟩) from rfl]
 obtain ⟨_,q4⟩:=ep (rB.out.1.el q Ui.out)
 have qk:=rB.out.1.kid q Ui.out
 have hql:=rB.out.1.kfew q Ui.out
 obtain ⟨la,lc,G4⟩:=au qk
 rw [G4] at q4 qk
 have HQK:Hid (W2.ownsRow 0 3 1 (.slice la q.kids.length lc) q.kids.length (aK q.kids)):=qk
 clear qk G4
 go_wp2_with fail
 refine (uo W2 la lc q.kids n 0 HQK.out hql).mono ?_
 rintro e W3 ⟨a3,c3,rfl,bg,mq⟩
 clear q4 HQK
 have hnq:(af n q.kids).length≤24:=by have:=jR n q.kids;omega
 have R3:=rB.out.1.below mq
 have F3:=rB.out.2.1.below mq
 have O3:=aQ rB.out.2.2 mq
 have WW:=R3.el q Ui.out
 have qz:∀ k,W3.frozen? ⟨q.blk,k,none⟩=false:=fun _=>ag WW
 have q4:W3.cell? ⟨q.blk,4,none⟩=some q.ks:=(ep WW).2
 have o3:W3.ownsRow 0 3 1 (.slice a3 (af n q.kids).length c3) (af n q.kids).length (aK (af n q.kids)):=aG bg (Nat.zero_le _)
 have Vk:Hid (∀ j,(Value.slice a3 (af n q.kids).length c3).ownBlock=some j→w.heap.size≤j):=fun j hj=>by
  have:=(bg.lt j hj).1
  have:=rB.out.2.1.size
  omega
 have R4:=R3.setKids Ui.out o3 hnq
 have F4:=F3.set (p:=⟨q.blk,4,none⟩) (Or.inl (Or.inr (Or.inl ⟨q,Ui.out,rfl⟩))) (.slice a3 (af n q.kids).length c3)
 have O4:=aX O3 (aj O3 WW (by decide)) (p:=⟨q.blk,4,none⟩) (.slice a3 (af n q.kids).length c3)
 have Cg:Hid (RD (W3.setCell ⟨q.blk,4,none⟩ (.slice a3 (af n q.kids).length c3)) d (els.map (cP q.blk (af n q.kids) (.slice a3 (af n q.kids).length c3))) made hp vT false (.slice aL els.length cL)∧Fr w (W3.setCell ⟨q.blk,4,none⟩ (.slice a3 (af n q.kids).length c3)) (gQ d els (.slice aL els.length cL))∧(W3.setCell ⟨q.blk,4,none⟩ (.slice a3 (af n q.kids).length c3)).ownsRow w.heap.size 3 1 (.slice a1 (af n p.kids).length c1) (af n p.kids).length (aK (af n p.kids))):=⟨R4,F4,O4⟩
 clear R3 F3 O3 R4 F4 O4 bg mq o3 WW rB
 go_wp2_with fail
 obtain ⟨W4,Ac⟩:∃ W4,W4=W3.setCell ⟨q.blk,4,none⟩ (.slice a3 (af n q.kids).length c3):=⟨_,rfl⟩
 rw [←Ac] at Cg ⊢
 clear Ac qz q4
 have xE:n=y.num:=(cg HF.out).2.symm
 have U8:=pu W4 a1 c1 (af n p.kids) k y.num w.heap.size Cg.out.2.2 (by omega) Wf
 refine (show Calls Tryz.prog 171 #[.slice a1 (af n p.kids).length c1,.int .i64 k,.int .i64 n] W4 fun e w'=>uR W4 (bN (af n p.kids) k y.num) e w' from by rw [show (Value.int .i64 n)=.int .i64 (y.num:Int) from by rw [xE]];exact U8).mono ?_
 rintro e W5 ⟨a5,c5,rfl,cX,vR⟩
 clear U8 xE
 have jC:(bN (af n p.kids) k y.num).length≤24:=by simp [bN];omega
 have R5:=Cg.out.1.below vR
 have F5:=Cg.out.2.1.below vR
 have Ry:cP q.blk (af n q.kids) (.slice a3 (af n q.kids).length c3) p∈els.map (cP q.blk (af n q.kids) (.slice a3 (af n q.kids).length c3)):=List.mem_map.2 ⟨p,qm.out,rfl⟩
 have WN:=R5.el _ Ry
 have R6:=R5.setKids Ry (aG cX (Nat.zero_le _)) jC
 rw [jf] at WN R6
 have pz:∀ k,W5.frozen? ⟨p.blk,k,none⟩=false:=fun _=>ag WN
 have p4:W5.cell? ⟨p.blk,4,none⟩=some (cP q.blk (af n q.kids) (.slice a3 (af n q.kids).length c3) p).ks:=aa WN rfl
 have F6:=F5.set (p:=⟨p.blk,4,none⟩) (Or.inl (Or.inr (Or.inl ⟨p,qm.out,rfl⟩))) (.slice a5 (bN (af n p.kids) k y.num).length c5)
 have HK5:Hid (∀ j,(Value.slice a5 (bN (af n p.kids) k y.num).length c5).ownBlock=some j→w.heap.size≤j):=fun j hj=>by
  have:=(cX.lt j hj).1
  have:=Cg.out.2.1.size
  omega
 have NH:Hid (RD (W5.setCell ⟨p.blk,4,none⟩ (.slice a5 (bN (af n p.kids) k y.num).length c5)) d ((els.map (cP q.blk (af n q.kids) (.slice a3 (af n q.kids).length c3))).map (cP p.blk (bN (af n p.kids) k y.num) (.slice a5 (bN (af n p.kids) k y.num).length c5))) made hp vT false (.slice aL els.length cL)):=R6
 have Rc:Hid (Fr w (W5.setCell ⟨p.blk,4,none⟩ (.slice a5 (bN (af n p.kids) k y.num).length c5)) (gQ d els (.slice aL els.length cL))):=F6
 clear R5 F5 R6 F6 WN cX vR Ry Cg
 generalize (cP q.blk (af n q.kids) (.slice a3 (af n q.kids).length c3) p).ks=oldk at p4
 go_wp2
 go_ret
 exact Or.inr ⟨y,p,HF.out,Vy.out,Or.inr (Or.inr (Or.inr ⟨q,k,.slice a3 (af n q.kids).length c3,.slice a5 (bN (af n p.kids) k y.num).length c5,HP.out,Qt.out,rfl,Wf,HQF.out,rfl,NH.out,Rc.out,Vk.out,HK5.out⟩))⟩
end Go.Proofs.YtblfffbmklkhmaaGreat
namespace Go.Proofs.YtblfffbmklkhmaaGreat
open Go.RowKit
def dH (s root:ByteArray):Int:=if (fa s).1≠0 then (fa s).1 else if ax root=false then 4 else 0
theorem Nx {w:World} {g:Nat} {t:TypeId} {v:Value} (hg:w.heap[g]?=some (.cells #[v] t (0,0))):w.ownsRow 0 t 1 (.slice (some ⟨g,0,none⟩) 1 1) 1 [v]:=by
 refine ⟨rfl,Or.inr ⟨g,1,#[v],rfl,Nat.zero_le _,hg,Nat.le_refl _,by unfold maxLen;omega,rfl,rfl⟩⟩
theorem JT (w:World) (a b c:Obj):(((w.alloc a).alloc b).alloc c).heap[w.heap.size]?=some a∧(((w.alloc a).alloc b).alloc c).heap[w.heap.size+1]?=some b∧(((w.alloc a).alloc b).alloc c).heap[w.heap.size+1+1]?=some c:=by
 refine ⟨?_,?_,?_⟩
 ·rw [Bh _ _ _ _ (by simp),heap_alloc_new w]
 ·rw [Below.heap_alloc _ _ _ (by simp)]
  have:=heap_alloc_new (w.alloc a) (o:=b)
  simpa using this
 ·have:=heap_alloc_new ((w.alloc a).alloc b) (o:=c)
  simpa using this
theorem Q2 (w:World) (root:ByteArray) (pa:Option Addr) :
  RD (((w.alloc (.cells (fE w.heap.size 0 root).cells 176)).alloc (.cells #[.pointer (some ⟨w.heap.size,0,none⟩)] 171)).alloc (.cells #[.pointer pa,.slice (some ⟨w.heap.size+1,0,none⟩) 1 1,.int .i64 1,.slice none 0 0,.bool false] 121)) (w.heap.size+1+1) [fE w.heap.size 0 root] 1 pa (.slice none 0 0) false (.slice (some ⟨w.heap.size+1,0,none⟩) 1 1):=by
 obtain ⟨h1,h2,h3⟩:=JT w (.cells (fE w.heap.size 0 root).cells 176) (.cells #[.pointer (some ⟨w.heap.size,0,none⟩)] 171) (.cells #[.pointer pa,.slice (some ⟨w.heap.size+1,0,none⟩) 1 1,.int .i64 1,.slice none 0 0,.bool false] 121)
 refine ⟨h3,Nx h2,fun e he=>?_,fun e he=>?_,by simp,fun e he=>?_⟩
 ·simp only [List.mem_cons,List.not_mem_nil,or_false] at he
  subst he
  exact h1
 ·simp only [List.mem_cons,List.not_mem_nil,or_false] at he
  subst he
  exact World.ownsRow_nil _ _ _ _
 ·simp only [List.mem_cons,List.not_mem_nil,or_false] at he
  subst he
  exact Nat.zero_le _
end Go.Proofs.YtblfffbmklkhmaaGreat
namespace Go.Proofs.YtblfffbmklkhmaaGreat
open Go.RowKit
def lV (l:List Nat) (n:Int):Bool:=l.any fun k=>decide ((k:Int)=n)
theorem KK {l:List Nat} {n:Int} {j:Nat} (hj:j<l.length) (h:((l[j]:Nat):Int)=n):lV l n=true:=by
 unfold lV
 exact List.any_eq_true.2 ⟨_,List.getElem_mem hj,by simpa using h⟩
theorem Ni {l:List Nat} {n:Int} (h:∀ j (hj:j<l.length),((l[j]:Nat):Int)=n→False):lV l n=false:=by
 cases hk:lV l n with
 | false=>rfl
 | true=>
  obtain ⟨k,vE,iU⟩:=List.any_eq_true.1 hk
  obtain ⟨j,hj,rfl⟩:=List.getElem_of_mem vE
  exact (h j hj (by simpa using iU)).elim
set_option maxRecDepth 100000 in
set_option maxHeartbeats 2000000 in
theorem zn (w:World) (a:Option Addr) (c:Nat) (l:List Nat) (n:Int) (ae:Nat) (ho:w.ownsRow ae 3 1 (.slice a l.length c) l.length (aK l)) (hl:l.length≤24) :
  Calls Tryz.prog 98 #[.slice a l.length c,.int .i64 n] w fun e w'=>e=.returned (.bool (lV l n))∧w'=w:=by
 have HO:Hid (w.ownsRow ae 3 1 (.slice a l.length c) l.length (aK l)):=ho
 clear ho
 go_enter Tryz.func98,Tryz.ntmps98
 go_wp2
 go_loop [5] (fun iv=>∃ i:Nat,iv=.int .i64 i∧i≤l.length∧Hid (∀ t (ht:t<l.length),t<i→((l[t]:Nat):Int)=n→False)) (fun iv=>l.length - (intOf iv).toNat)
 case atStart=>exact ⟨0,rfl,Nat.zero_le _,fun t ht h=>by omega⟩
 case round=>
  obtain ⟨i,rfl,hi,HN⟩:=hrel
  by_cases aN:i<l.length
  ·have hd:decide ((i:Int)<(l.length:Int))=true:=by simp;omega
   obtain ⟨g,hg,_,hc⟩:=aH HO.out (by omega)
   subst hg
   have q:=hc i (.int .i64 ((l[i]:Nat):Int)) (by simp [aN])
   clear hc
   by_cases hn:((l[i]:Nat):Int)=n
   ·have HE:Hid (lV l n=true):=KK aN hn
    have gn:(((l[i]:Nat):Int)==n)=true:=by simp [hn]
    clear hn
    go_wp2
    go_ret
    rw [HE.out]
    exact ⟨rfl,rfl⟩
   ·have gn:(((l[i]:Nat):Int)==n)=false:=by simp [hn]
    have eL:Hid (∀ t (ht:t<l.length),t<i+1→((l[t]:Nat):Int)=n→False):=fun t ht h1 h2=>by
     by_cases e:t=i
     ·subst e;exact hn h2
     ·exact HN.out t ht (by omega) h2
    clear hn
    go_wp2
    go_round
    case rel=>exact ⟨i+1,by go_num,by omega,eL⟩
    case measure=>simp [intOf];omega
  ·have hd:decide ((i:Int)<(l.length:Int))=false:=by simp;omega
   have HE:Hid (lV l n=false):=Ni (fun j hj h=>HN.out j hj (by omega) h)
   go_wp2
   go_ret
   rw [HE.out]
   exact ⟨rfl,rfl⟩
def dw (l:List Nat) (n:Nat):List Nat:=if lV l n=true then l else l++[n]
def VC (w:World) (v:Value) (l:List Nat) (e:Ending) (w':World):Prop:=∃ (a:Option Addr) (c:Nat),e=.returned (.slice a l.length c)∧w'.ownsRow 0 3 1 (.slice a l.length c) l.length (aK l)∧Below w.heap.size w w'∧Hid (∀ j,(Value.slice a l.length c).ownBlock=some j→v.ownBlock=some j∨w.heap.size≤j)
set_option maxRecDepth 100000 in
set_option maxHeartbeats 2000000 in
theorem tn (w:World) (a:Option Addr) (c:Nat) (l:List Nat) (n:Nat) (ho:w.ownsRow 0 3 1 (.slice a l.length c) l.length (aK l)) (hl:l.length≤24) :
  Calls Tryz.prog 143 #[.slice a l.length c,.int .i64 n] w fun e w'=>VC w (.slice a l.length c) (dw l n) e w':=by
 obtain ⟨i0,hi,gx,gw,gB⟩:=info_parts Tryz.info3
 have HO:Hid (w.ownsRow 0 3 1 (.slice a l.length c) l.length (aK l)):=ho
 clear ho
 go_enter Tryz.func143,Tryz.ntmps143
 go_wp2_with fail
 refine (zn _ a c l n 0 HO.out hl).mono ?_
 rintro e w1 ⟨rfl,rfl⟩
 obtain ⟨w,rfl⟩:∃ w,w=w1:=⟨_,rfl⟩
 cases hh:lV l n with
 | true=>
  have HE:Hid (dw l n=l):=by unfold Hid dw;rw [if_pos hh]
  clear hh
  go_wp2
  go_ret
  rw [HE.out]
  exact ⟨a,c,rfl,HO.out,Below.refl _ _,fun j hj=>Or.inl hj⟩
 | false=>
  have HE:Hid (dw l n=l++[n]):=by unfold Hid dw;rw [if_neg (by rw [hh];decide)]
  clear hh
  by_cases h0:a=none
  ·subst h0
   have hn:l=[]∧c=0:=by
    rcases HO.out.2 with ⟨h,h2⟩ | ⟨_,_,_,h,_⟩
    ·injection h with _ h3 h4;exact ⟨List.eq_nil_of_length_eq_zero h2,h4⟩
    ·injection h with h;cases h
   obtain ⟨rfl,rfl⟩:=hn
   go_wp2_with (first | (at_builtin;refine wpList_append_own_none rfl (.tmp 12) (.tmp 13) 40 rfl w.heap.size 3 i0 1 Tryz.underlying40 hi _ _ _ rfl (World.ownsRow_nil _ _ _ _) rfl ?_) | (at_builtin;refine wpList_append_own _ rfl (.tmp 15) (.tmp 17) 40 rfl w.heap.size 3 i0 (.int .i64 0) 1 8 Tryz.underlying40 hi gx gw gB rfl (by decide) _ _ _ rfl (World.ownsRow_nil _ _ _ _) ⟨w.heap.size,0,none⟩ 1 1 [.int .i64 (n:Int)] rfl rfl (aO w _ rfl _ _ _ rfl) (pQ n) (by unfold maxLen;omega) (by omega) (by simp) ?_))
   ·intro v2 w2 mN hJ _
    have cu:w2.ownsRow w.heap.size 3 1 v2 1 (aK [n]):=by simpa [aK] using mN
    have dp:Below w.heap.size w w2:=((Below.refl _ _).alloc (Nat.le_refl _) _).grown hJ (by simp) (fun k hk=>by simp [Value.ownBlock] at hk)
    obtain ⟨a2,c2,jr⟩:=au cu
    subst jr
    have ML:Hid (w2.ownsRow w.heap.size 3 1 (.slice a2 1 c2) 1 (aK [n])):=cu
    clear mN hJ cu
    go_wp2
    go_ret
    rw [HE.out]
    exact ⟨a2,c2,rfl,aG ML.out (Nat.zero_le _),dp,fun j hj=>Or.inr (ML.out.lt j hj).1⟩
  ·obtain ⟨g,rfl⟩:∃ g,a=some ⟨g,0,none⟩:=by
    rcases HO.out.2 with ⟨h,_⟩ | ⟨g,_,_,h,_⟩
    ·injection h with h;exact absurd h h0
    ·injection h with h;exact ⟨g,h⟩
   clear h0
   have hc:=HO.out.cells (g:=g) rfl
   go_wp2_with (at_builtin;refine wpList_append_own _ rfl (.tmp 12) (.tmp 13) 40 rfl w.heap.size 3 i0 (.int .i64 0) 1 8 Tryz.underlying40 hi gx gw gB rfl (by decide) _ _ _ rfl (World.ownsRow_nil _ _ _ _) ⟨g,0,none⟩ l.length c (aK l) rfl (by simp [aK]) hc (uS _) ?c3 ?c4 ?c5 ?_)
   case c3=>unfold maxLen;omega
   case c4=>omega
   case c5=>exact Nat.le_refl _
   ·intro v1 w1 Ay I0 _
    have mW:w1.ownsRow w.heap.size 3 1 v1 l.length (aK l):=by simpa using Ay
    have cF:Below w.heap.size w w1:=(Below.refl _ _).grown I0 (Nat.le_refl _) (fun k hk=>by simp [Value.ownBlock] at hk)
    obtain ⟨a1,c1,EB⟩:=au mW
    subst EB
    clear Ay I0 hc
    have fO:=cF.size
    go_wp2_with (at_builtin;refine wpList_append_own _ rfl (.tmp 15) (.tmp 17) 40 rfl w.heap.size 3 i0 (.int .i64 0) 1 8 Tryz.underlying40 hi gx gw gB rfl (by decide) _ _ _ rfl (mW.alloc _) ⟨w1.heap.size,0,none⟩ 1 1 [.int .i64 (n:Int)] rfl rfl ?d1 ?d2 ?d3 ?d4 ?d5 ?_)
    case d1=>exact aO w1 _ rfl _ _ _ rfl
    case d2=>exact pQ n
    case d3=>unfold maxLen;omega
    case d4=>omega
    case d5=>simp;omega
    ·intro v2 w2 mN hJ _
     have cu:w2.ownsRow w.heap.size 3 1 v2 (l++[n]).length (aK (l++[n])):=by simpa [aK] using mN
     have dp:Below w.heap.size w w2:=(cF.alloc fO _).grown hJ (by simp;omega) (fun k hk=>(mW.lt k hk).1)
     obtain ⟨a2,c2,jr⟩:=au cu
     subst jr
     have ML:Hid (w2.ownsRow w.heap.size 3 1 (.slice a2 (l++[n]).length c2) (l++[n]).length (aK (l++[n]))):=cu
     clear mN hJ cu mW
     go_wp2
     go_ret
     rw [HE.out]
     exact ⟨a2,c2,rfl,aG ML.out (Nat.zero_le _),dp,fun j hj=>Or.inr (ML.out.lt j hj).1⟩
noncomputable def iV (els:List REl) (f n:Int):Bool:=decide (aJ els f<0)||fB els (aJ els f) n
set_option maxRecDepth 100000 in
set_option maxHeartbeats 2000000 in
theorem Hn (w:World) (d:Nat) (els:List REl) (made:Nat) (hp:Option Addr) (vT:Value) (aR:Bool) (vL:Value) (f n:Int) (h:RD w d els made hp vT aR vL) (rk:Nat→Nat) (hr:lM els rk) :
  Calls Tryz.prog 172 #[.pointer (some ⟨d,0,none⟩),.int .i64 f,.int .i64 n] w fun e w'=>e=.returned (.bool (iV els f n))∧w'=w:=by
 have HR:Hid (RD w d els made hp vT aR vL):=h
 have HK:Hid (lM els rk):=hr
 clear h hr
 go_enter Tryz.func172,Tryz.ntmps172
 go_wp2_with fail
 refine (eQ _ d els made hp vT aR _ f HR.out).mono ?_
 rintro e w1 ⟨rfl,rfl⟩
 obtain ⟨w,rfl⟩:∃ w,w=w1:=⟨_,rfl⟩
 by_cases hp:aJ els f<0
 ·have HE:Hid (iV els f n=true):=by unfold Hid iV;rw [decide_eq_true hp];rfl
  have gp:decide (aJ els f<0)=true:=by simpa using hp
  clear hp
  generalize aJ els f=q at gp ⊢
  go_wp2
  go_ret
  rw [HE.out]
  exact ⟨rfl,rfl⟩
 ·have HE:Hid (iV els f n=fB els (aJ els f) n):=by unfold Hid iV;rw [decide_eq_false hp];rfl
  have gp:decide (aJ els f<0)=false:=by simpa using hp
  clear hp
  go_wp2_with fail
  refine (nQ _ d els made _ vT aR _ (aJ els f) n HR.out rk HK.out).mono ?_
  rintro e w2 ⟨b,rfl,rfl,HU⟩
  obtain ⟨w,rfl⟩:∃ w,w=w2:=⟨_,rfl⟩
  have HB:Hid (fB els (aJ els f) n=b):=by
   unfold Hid
   have h1:=HU.out
   rw [←jV] at h1
   cases b<;>cases hu:fB els (aJ els f) n<;>simp_all
  clear HU
  go_wp2
  go_ret
  rw [HE.out,HB.out]
  exact ⟨rfl,rfl⟩
end Go.Proofs.YtblfffbmklkhmaaGreat
namespace Go.Proofs.YtblfffbmklkhmaaGreat
open Go.RowKit
theorem RD.setT {w:World} {d:Nat} {els:List REl} {made:Nat} {hp:Option Addr} {vT:Value} {aR:Bool} {vL:Value} (h:RD w d els made hp vT aR vL) {b:Nat} {cs:Array Value} {t:TypeId} {z:Nat × Nat} (hb:w.heap[b]?=some (.cells cs t z))
  (h1:t≠121) (h2:t≠176) (h3:t≠171) (h4:t≠3) (o:Nat) (u:Value):RD (w.setCell ⟨b,o,none⟩ u) d els made hp vT aR vL:=by
 have ne:∀ {k:Nat} {SZ:Array Value} {t':TypeId} {z':Nat × Nat},w.heap[k]?=some (.cells SZ t' z')→t≠t'→k≠b:=by
  intro k SZ t' z' hk hn eq
  rw [eq,hb] at hk
  injection hk with hk
  injection hk with _ h5 _
  exact hn h5
 refine ⟨?_,aX h.row (aj h.row hb h3) _,fun e he=>?_,fun e he=>aX (h.kid e he) (aj (h.kid e he) hb h4) _,h.few,h.kfew⟩
 ·rw [Below.heap_setCell _ _ _ _ (ne h.doc h1)];exact h.doc
 ·rw [Below.heap_setCell _ _ _ _ (ne (h.el e he) h2)];exact h.el e he
def PB (w:World) (b:Nat) (px:Value) (d:Nat) (vm vy:Value) (cnt:Int) (vs:Value) (held:Bool):Prop:=
 w.heap[b]?=some (.cells #[px,.pointer (some ⟨d,0,none⟩),vm,vy,.int .i64 cnt,vs,.bool held] 124 (0,0))
theorem PB.blk {w:World} {b:Nat} {px:Value} {d:Nat} {vm vy:Value} {cnt:Int} {vs:Value} {held:Bool} (h:PB w b px d vm vy cnt vs held):w.heap[b]?=some (.cells #[px,.pointer (some ⟨d,0,none⟩),vm,vy,.int .i64 cnt,vs,.bool held] 124 (0,0)):=h
def LS (els:List REl) (l:List Nat):Prop:=l.Nodup∧∀ k∈l,∃ e∈els,e.num=k
theorem fc:∀ {l m:List Nat},l.Nodup→(∀ k∈l,k∈m)→l.length≤m.length
 | [],_,_,_=>Nat.zero_le _
 | x :: l,m,h,hs=>by
  have hx:x∈m:=hs x (List.mem_cons_self ..)
  have h2:=List.nodup_cons.1 h
  have:l.length≤(m.erase x).length:=fc h2.2 (fun k hk=>by
   refine (List.mem_erase_of_ne (fun e=>?_)).2 (hs k (List.mem_cons_of_mem _ hk))
   subst e
   exact h2.1 hk)
  rw [List.length_erase_of_mem hx] at this
  have:=List.length_pos_of_mem hx
  simp only [List.length_cons]
  omega
theorem LS.len {els:List REl} {l:List Nat} (h:LS els l):l.length≤els.length:=by
 have:=fc h.1 (m:=els.map REl.num) (fun k hk=>by
  obtain ⟨e,he,rfl⟩:=h.2 k hk
  exact List.mem_map.2 ⟨e,he,rfl⟩)
 simpa using this
theorem A3 {l:List Nat} {n:Nat}:lV l n=true↔n∈l:=by
 unfold lV
 rw [List.any_eq_true]
 constructor
 ·rintro ⟨k,hk,he⟩
  have:(k:Int)=n:=by simpa using he
  rw [show n=k from by omega]
  exact hk
 ·intro h
  exact ⟨n,h,by simp⟩
theorem LS.with {els:List REl} {l:List Nat} (h:LS els l) {e:REl} (he:e∈els):LS els (dw l e.num):=by
 unfold dw
 split
 ·exact h
 ·rename_i hn
  rw [A3] at hn
  refine ⟨?_,?_⟩
  ·rw [List.nodup_append]
   refine ⟨h.1,by simp,fun a ha b hb=>?_⟩
   simp at hb
   rw [hb]
   intro e2
   exact hn (e2▸ha)
  ·intro k hk
   rcases List.mem_append.1 hk with hk | hk
   ·exact h.2 k hk
   ·simp at hk
    exact ⟨e,he,hk.symm⟩
noncomputable def eO (els:List REl) (f:Int) (l:List REl) (m:List Nat):List Nat:=l.foldl (fun m e=>if iV els f e.num=true then dw m e.num else m) m
theorem Eh {els l:List REl} {i:Nat} (h:i<l.length) (f:Int) (m:List Nat):eO els f (l.take (i+1)) m=if iV els f l[i].num=true then dw (eO els f (l.take i) m) l[i].num else eO els f (l.take i) m:=by
 unfold eO
 rw [List.take_succ_eq_append_getElem h,List.foldl_append]
 rfl
theorem LS.spoil {els:List REl} (f:Int):∀ {l:List REl} {m:List Nat},LS els m→(∀ e∈l,e∈els)→LS els (eO els f l m)
 | [],_,h,_=>h
 | e :: l,m,h,hs=>by
  show LS els (eO els f l (if iV els f e.num=true then dw m e.num else m))
  refine LS.spoil f ?_ (fun x hx=>hs x (List.mem_cons_of_mem _ hx))
  split
  ·exact h.with (hs e (List.mem_cons_self ..))
  ·exact h
def VL (w:World) (b:Nat) (px:Value) (d:Nat) (vm vy vs:Value) (l:List Nat) (e:Ending) (w':World):Prop:=
 e=.returned (.tuple #[])∧∃ (a:Option Addr) (c:Nat),PB w' b px d vm (.slice a l.length c) (-1) vs false∧w'.ownsRow 0 3 1 (.slice a l.length c) l.length (aK l)∧Fr w w' (fun k=>k=b)∧(∀ j,(Value.slice a l.length c).ownBlock=some j→vy.ownBlock=some j∨w.heap.size≤j)
structure SI (w:World) (b:Nat) (px:Value) (d:Nat) (els:List REl) (made:Nat) (hp:Option Addr) (vT:Value) (aR:Bool) (vL:Value) (vm vy vs:Value) (cnt:Int) (held:Bool) (l:List Nat) (wr:World) (v:Value):Prop where
 pb:PB wr b px d vm v cnt vs held
 own:wr.ownsRow 0 3 1 v l.length (aK l)
 fr:Fr w wr (fun k=>k=b)
 rd:RD wr d els made hp vT aR vL
 blk:∀ j,v.ownBlock=some j→vy.ownBlock=some j∨w.heap.size≤j
set_option maxRecDepth 100000 in
set_option maxHeartbeats 4000000 in
theorem Co (w:World) (b:Nat) (px:Value) (d:Nat) (els:List REl) (made:Nat) (hp:Option Addr) (vT:Value) (aR:Bool) (vL:Value) (vm vy vs:Value) (cnt:Int) (held:Bool) (l:List Nat) (f:Int)
  (hb:PB w b px d vm vy cnt vs held) (h:RD w d els made hp vT aR vL) (rk:Nat→Nat) (hr:lM els rk) (ho:w.ownsRow 0 3 1 vy l.length (aK l)) (G4:LS els l) :
  Calls Tryz.prog 144 #[.pointer (some ⟨b,0,none⟩),.int .i64 f] w fun e w'=>VL w b px d vm vy vs (eO els f els l) e w':=by
 obtain ⟨aL,cL,sX⟩:=h.shape
 subst sX
 have bw:=h.few
 have HK:Hid (lM els rk):=hr
 have PD:Hid (∀ i,(eO els f (els.take i) l).length≤24):=fun i=>by
  have:=(LS.spoil f G4 (l:=els.take i) (fun e he=>List.mem_of_mem_take he)).len
  omega
 have G8:Hid (SI w b px d els made hp vT aR (.slice aL els.length cL) vm vy vs cnt held (eO els f (els.take 0) l) w vy):=⟨hb,ho,Fr.refl _ _,h,fun j hj=>Or.inl hj⟩
 clear h hr ho hb G4
 go_enter Tryz.func144,Tryz.ntmps144
 go_wp2_with fail
 go_loopg [4] els.length (fun gk iv wr=>∃ (i:Nat) (v:Value),iv=.int .i64 i∧i≤els.length∧els.length - i≤gk∧Hid (SI w b px d els made hp vT aR (.slice aL els.length cL) vm vy vs cnt held (eO els f (els.take i) l) wr v))
 case atStart=>exact ⟨0,vy,rfl,Nat.zero_le _,by omega,G8⟩
 case round=>
  obtain ⟨i,v,rfl,jC,fK,HS⟩:=hrel
  obtain ⟨av,cv,hv⟩:=au HS.out.own
  subst hv
  have b1:wr.cell? ⟨b,1,none⟩=some (.pointer (some ⟨d,0,none⟩)):=aa HS.out.pb.blk rfl
  have d1:=HS.out.rd.c1
  by_cases aN:i<els.length
  ·have hd:decide ((i:Int)<(els.length:Int))=true:=by simp;omega
   obtain ⟨g,hg,q1⟩:=HS.out.rd.at' aN
   subst hg
   obtain ⟨q2,_⟩:=ep (HS.out.rd.el els[i] (List.getElem_mem aN))
   have HT:Hid (eO els f (els.take (i+1)) l=if iV els f els[i].num=true then dw (eO els f (els.take i) l) els[i].num else eO els f (els.take i) l):=Eh aN f l
   have Xg:=PD.out i
   have ad0:=PD.out (i+1)
   generalize eO els f (els.take i) l=m at HS HT Xg ⊢
   generalize els[i]=x at q1 q2 HT
   go_wp2_with fail
   refine (Hn _ d els made hp vT aR _ f x.num HS.out.rd rk HK.out).mono ?_
   rintro e w2 ⟨rfl,rfl⟩
   obtain ⟨wr,rfl⟩:∃ wr,wr=w2:=⟨_,rfl⟩
   cases hh:iV els f x.num with
   | false=>
    have n8:Hid (eO els f (els.take (i+1)) l=m):=by unfold Hid;rw [HT.out,if_neg (by rw [hh];decide)]
    clear HT hh
    go_wp2
    go_roundg (els.length - (i+1))
    case measure=>omega
    case rel=>exact ⟨i+1,_,by go_num,by omega,Nat.le_refl _,by rw [n8.out];exact HS⟩
   | true=>
    have n8:Hid (eO els f (els.take (i+1)) l=dw m x.num):=by unfold Hid;rw [HT.out,if_pos hh]
    clear HT hh
    have b3:wr.cell? ⟨b,3,none⟩=some (.slice av m.length cv):=aa HS.out.pb.blk rfl
    go_wp2_with fail
    refine (tn wr av cv m x.num HS.out.own Xg).mono ?_
    rintro e W3 ⟨a3,c3,rfl,bg,mq,ji⟩
    have yP:PB W3 b px d vm (.slice av m.length cv) cnt vs held:=(mq.block b (Array.getElem?_eq_some_iff.1 HS.out.pb).1).trans HS.out.pb
    have e3:W3.cell? ⟨b,3,none⟩=some (.slice av m.length cv):=aa yP.blk rfl
    have ez:∀ k,W3.frozen? ⟨b,k,none⟩=false:=fun _=>ag yP.blk
    have PR:Hid (SI w b px d els made hp vT aR (.slice (some ⟨g,0,none⟩) els.length cL) vm vy vs cnt held (dw m x.num) (W3.setCell ⟨b,3,none⟩ (.slice a3 (dw m x.num).length c3)) (.slice a3 (dw m x.num).length c3)):=by
     refine ⟨?_,aX bg (aj bg yP.blk (by decide)) _,(HS.out.fr.below mq).set (Or.inl rfl) _,(HS.out.rd.below mq).setT yP.blk (by decide) (by decide) (by decide) (by decide) _ _,fun j hj=>?_⟩
     ·show (W3.setCell _ _).heap[b]?=_
      rw [aq yP.blk];rfl
     ·rcases ji.out j hj with h1 | h1
      ·exact HS.out.blk j h1
      ·exact Or.inr (Nat.le_trans HS.out.fr.size h1)
    clear bg mq ji yP b3 b1 d1 q1 q2 HS
    go_wp2
    go_roundg (els.length - (i+1))
    case measure=>omega
    case rel=>exact ⟨i+1,_,by go_num,by omega,Nat.le_refl _,by rw [n8.out];exact PR⟩
  ·have hd:decide ((i:Int)<(els.length:Int))=false:=by simp;omega
   obtain rfl:i=els.length:=by omega
   rw [List.take_length] at HS
   have ez:∀ k,wr.frozen? ⟨b,k,none⟩=false:=fun _=>ag HS.out.pb.blk
   have b4:wr.cell? ⟨b,4,none⟩=some (.int .i64 cnt):=aa HS.out.pb.blk rfl
   have b6:wr.cell? ⟨b,6,none⟩=some (.bool held):=aa HS.out.pb.blk rfl
   go_wp2
   go_end0
   refine ⟨rfl,av,cv,?_,?_,(HS.out.fr.set (p:=⟨b,4,none⟩) (Or.inl rfl) _).set (p:=⟨b,6,none⟩) (Or.inl rfl) _,HS.out.blk⟩
   ·have h1:(wr.setCell ⟨b,4,none⟩ (.int .i64 (-1))).heap[b]?=some (.cells #[px,.pointer (some ⟨d,0,none⟩),vm,.slice av (eO els f els l).length cv,.int .i64 (-1),vs,.bool held] 124 (0,0)):=by
     rw [aq HS.out.pb.blk];rfl
    show (World.setCell _ _ _).heap[b]?=_
    rw [aq h1];rfl
   ·have eV:=aj HS.out.own HS.out.pb.blk (by decide)
    exact aX (aX HS.out.own eV _) eV _
end Go.Proofs.YtblfffbmklkhmaaGreat
namespace Go.Proofs.YtblfffbmklkhmaaGreat
open Go.RowKit
theorem cJ (w:World):∀ n,Below w.heap.size w (w.drewN n)
 | 0=>Below.refl _ _
 | n+1=>(cJ w n).drew
def iP (els:List REl) (l:List Nat):List Nat:=l.filter fun k=>(aZ els k).isSome
theorem Hi {els:List REl} {l:List Nat} {i:Nat} (h:i<l.length):iP els (l.take (i+1))=iP els (l.take i)++if (aZ els (l[i]:Nat)).isSome=true then [l[i]] else []:=by
 unfold iP
 rw [List.take_succ_eq_append_getElem h,List.filter_append]
 congr 1
 by_cases e:(aZ els (l[i]:Nat)).isSome=true<;>simp [e]
theorem Ky (els:List REl) (l:List Nat):(iP els l).length≤l.length:=List.length_filter_le _ _
set_option maxRecDepth 100000 in
set_option maxHeartbeats 4000000 in
theorem Mq (w:World) (b:Nat) (px:Value) (d:Nat) (els:List REl) (made:Nat) (hp:Option Addr) (vT:Value) (aR:Bool) (vL:Value) (vm vy vs:Value) (cnt:Int) (held:Bool) (a:Option Addr) (c:Nat) (l:List Nat)
  (hb:PB w b px d vm vy cnt vs held) (h:RD w d els made hp vT aR vL) (ho:w.ownsRow 0 3 1 (.slice a l.length c) l.length (aK l)) (hl:l.length≤24) :
  Calls Tryz.prog 146 #[.pointer (some ⟨b,0,none⟩),.slice a l.length c] w fun e w'=>uR w (iP els l) e w':=by
 obtain ⟨i0,hi,gx,gw,gB⟩:=info_parts Tryz.info3
 have HO:Hid (w.ownsRow 0 3 1 (.slice a l.length c) l.length (aK l)):=ho
 have HR:Hid (RD w d els made hp vT aR vL):=h
 have HB:Hid (PB w b px d vm vy cnt vs held):=hb
 clear ho h hb
 go_enter Tryz.func146,Tryz.ntmps146
 go_wp2_with fail
 go_loopg [5,6] l.length (fun gk v iv wr=>∃ i:Nat,iv=.int .i64 i∧i≤l.length∧l.length - i≤gk∧wr.ownsRow w.heap.size 3 1 v (iP els (l.take i)).length (aK (iP els (l.take i)))∧Below w.heap.size w wr)
 case atStart=>exact ⟨0,rfl,Nat.zero_le _,by omega,World.ownsRow_nil _ _ _ _,Below.refl _ _⟩
 case round=>
  obtain ⟨i,rfl,jC,fK,bL,hB⟩:=hrel
  obtain ⟨a2,c2,hv⟩:=au bL
  subst hv
  by_cases aN:i<l.length
  ·have hd:decide ((i:Int)<(l.length:Int))=true:=by simp;omega
   obtain ⟨g,hg,db,hc⟩:=aH HO.out (by omega)
   subst hg
   have q:=(hB.cell (p:=⟨g,i,none⟩) db).trans (hc i (.int .i64 ((l[i]:Nat):Int)) (by simp [aN]))
   have rt:(iP els (l.take i)).length≤24:=by
    have:=Ky els (l.take i)
    have:(l.take i).length≤l.length:=List.length_take_le' _ _
    omega
   have HT:Hid (iP els (l.take (i+1))=iP els (l.take i)++if (aZ els (l[i]:Nat)).isSome=true then [l[i]] else []):=Hi aN
   clear hc
   generalize iP els (l.take i)=f at bL rt HT
   generalize l[i]=y at q HT
   have yD:Hid (RD wr d els made hp vT aR vL):=HR.out.below hB
   have b1:wr.cell? ⟨b,1,none⟩=some (.pointer (some ⟨d,0,none⟩)):=(hB.cell (p:=⟨b,1,none⟩) (Array.getElem?_eq_some_iff.1 HB.out.blk).1).trans (aa HB.out.blk rfl)
   have HW:Hid (wr.ownsRow w.heap.size 3 1 (.slice a2 f.length c2) f.length (aK f)):=bL
   clear bL
   have sM:Hid (∀ k,Calls Tryz.prog 92 #[.pointer (some ⟨d,0,none⟩),.int .i64 (y:Int)] (wr.drewN k) fun e w'=>e=.returned (ey (aZ els y))∧w'=wr.drewN k):=fun k=>eb _ d els made hp vT aR vL y (yD.out.below (cJ _ _))
   cases hf:aZ els (y:Int) with
   | none=>
    have OH:Hid (∀ k,Calls Tryz.prog 92 #[.pointer (some ⟨d,0,none⟩),.int .i64 (y:Int)] (wr.drewN k) fun e w'=>e=.returned (.pointer none)∧w'=wr.drewN k):=fun k=>by
     have:=sM.out k
     rw [hf] at this
     exact this
    have n8:Hid (iP els (l.take (i+1))=f):=by unfold Hid;rw [HT.out,hf];simp
    clear hf sM HT
    go_upto_region 5 with fail
    go_quiet ((go_at_call 92;exact Calls.quiet_of_same (OH.out _)))
    have Uw:Below w.heap.size w (wr.drewN nq):=hB.trans ((cJ wr nq).mono hB.size)
    have Qh:Hid ((wr.drewN nq).ownsRow w.heap.size 3 1 (.slice a2 f.length c2) f.length (aK f)):=aQ HW.out (cJ wr nq)
    go_wp2
    go_roundg (l.length - (i+1))
    case measure=>omega
    case rel=>exact ⟨i+1,by go_num,by omega,Nat.le_refl _,by rw [n8.out];exact Qh.out,Uw⟩
   | some p=>
    have OH:Hid (∀ k,Calls Tryz.prog 92 #[.pointer (some ⟨d,0,none⟩),.int .i64 (y:Int)] (wr.drewN k) fun e w'=>e=.returned (.pointer (some ⟨p.blk,0,none⟩))∧w'=wr.drewN k):=fun k=>by
     have:=sM.out k
     rw [hf] at this
     exact this
    have n8:Hid (iP els (l.take (i+1))=f++[y]):=by unfold Hid;rw [HT.out,hf];simp
    clear hf sM HT
    go_upto_region 5 with fail
    go_quiet ((go_at_call 92;exact Calls.quiet_of_same (OH.out _)))
    have Uw:Below w.heap.size w (wr.drewN nq):=hB.trans ((cJ wr nq).mono hB.size)
    have Qh:Hid ((wr.drewN nq).ownsRow w.heap.size 3 1 (.slice a2 f.length c2) f.length (aK f)):=aQ HW.out (cJ wr nq)
    have q':(wr.drewN nq).cell? ⟨g,i,none⟩=some (.int .i64 (y:Int)):=q
    generalize wr.drewN nq=wq at Uw Qh q' ⊢
    clear q b1 OH yD HW
    have hz:=Uw.size
    go_wp2_with (at_builtin;refine wpList_append_own _ rfl (.tmp 23) (.tmp 28) 40 rfl w.heap.size 3 i0 (.int .i64 0) 1 8 Tryz.underlying40 hi gx gw gB rfl (by decide) _ _ _ rfl (Qh.out.alloc _) ⟨wq.heap.size,0,none⟩ 1 1 [.int .i64 (y:Int)] rfl rfl ?c1 ?c2 ?c3 ?c4 ?c5 ?_)
    case c1=>exact aO wq _ rfl _ _ _ rfl
    case c2=>exact pQ y
    case c3=>unfold maxLen;omega
    case c4=>omega
    case c5=>simp;omega
    ·intro v' w3 bB eJ _
     have bg:w3.ownsRow w.heap.size 3 1 v' (f++[y]).length (aK (f++[y])):=by simpa [aK] using bB
     have eS:Below w.heap.size w w3:=(Uw.alloc hz _).grown eJ (by simp;omega) (fun k hk=>(Qh.out.lt k hk).1)
     have SD:Hid (w3.ownsRow w.heap.size 3 1 v' (f++[y]).length (aK (f++[y]))):=bg
     clear bB eJ bg q'
     go_wp2
     go_roundg (l.length - (i+1))
     case measure=>omega
     case rel=>exact ⟨i+1,by go_num,by omega,Nat.le_refl _,by rw [n8.out];exact SD.out,eS⟩
  ·have hd:decide ((i:Int)<(l.length:Int))=false:=by simp;omega
   obtain rfl:i=l.length:=by omega
   rw [List.take_length] at bL
   have HW:Hid (wr.ownsRow w.heap.size 3 1 (.slice a2 (iP els l).length c2) (iP els l).length (aK (iP els l))):=bL
   rw [List.take_length]
   clear bL
   go_wp2
   go_ret
   exact ⟨a2,c2,rfl,HW.out,hB⟩
end Go.Proofs.YtblfffbmklkhmaaGreat
