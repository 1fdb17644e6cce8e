import Derived.Test.YtblfffbmklkhmaaGreatSt21
import Derived.Test.YtblfffbmklkhmaaGreatSt20
import Derived.Test.YtblfffbmklkhmaaGreatSt8
import Derived.Test.YtblfffbmklkhmaaGreatSt10
import Derived.Test.YtblfffbmklkhmaaGreatSt9
namespace Go.Proofs.YtblfffbmklkhmaaGreat
open Go.RowKit
def lF (els:List PEl) (y t:Int):Bool:=(List.range els.length).any fun j=>decide (upP els j y=t)
theorem rx {els:List PEl} {y t:Int}:lF els y t=true↔∃ k,k<els.length∧upP els k y=t:=by
 unfold lF
 rw [List.any_eq_true]
 constructor
 ·rintro ⟨j,hj,h⟩
  exact ⟨j,List.mem_range.1 hj,by simpa using h⟩
 ·rintro ⟨j,hj,h⟩
  exact ⟨j,List.mem_range.2 hj,by simpa using h⟩
def bO (els l:List PEl) (t:Int):List Int:=(l.filter fun y=>lF els y.num t).map fun y=>(y.num:Int)
def dU (els l:List PEl) (par:Int):List Int:=l.flatMap fun t=>if t.par=par then bO els els t.num else []
def cR (els:List PEl) (n:Int):List Int:=match bU els n with | none=>[] | some x=>dU els (els.drop (kO els n)) x.par
theorem yS {els l:List PEl} {i:Nat} (h:i<l.length) (t:Int):bO els (l.take (i+1)) t=if lF els l[i].num t=true then bO els (l.take i) t++[(l[i].num:Int)] else bO els (l.take i) t:=by
 unfold bO
 rw [List.take_succ_eq_append_getElem h,List.filter_append]
 cases hu:lF els l[i].num t<;>simp [hu]
theorem Bl {els l:List PEl} {i:Nat} (h:i<l.length) (par:Int):dU els (l.take (i+1)) par=if l[i].par=par then dU els (l.take i) par++bO els els l[i].num else dU els (l.take i) par:=by
 unfold dU
 rw [List.take_succ_eq_append_getElem h,List.flatMap_append]
 split
 ·rename_i h1
  simp [h1]
 ·rename_i h1
  simp [h1]
theorem rC (els l:List PEl) (t:Int):(bO els l t).length≤l.length:=by
 unfold bO
 rw [List.length_map]
 exact List.length_filter_le _ _
theorem oX (els:List PEl) (par:Int):∀ l:List PEl,(dU els l par).length≤l.length*els.length
 | []=>Nat.zero_le _
 | t :: l=>by
  have ih:=oX els par l
  have h1:=rC els els t.num
  have e:(t :: l).length*els.length=els.length+l.length*els.length:=by rw [List.length_cons,Nat.succ_mul,Nat.add_comm]
  have e2:dU els (t :: l) par=(if t.par=par then bO els els t.num else [])++dU els l par:=rfl
  rw [e,e2,List.length_append]
  split
  ·omega
  ·simp only [List.length_nil];omega
theorem uh {els:List PEl} (h:els.length≤24) (n:Int):(cR els n).length≤1000:=by
 unfold cR
 split
 ·simp
 ·rename_i x _
  have h1:=oX els x.par (els.drop (kO els n))
  have h2:(els.drop (kO els n)).length*els.length≤24*24:=Nat.mul_le_mul (by rw [List.length_drop];omega) h
  omega
theorem DZ {els:List PEl} (hn:(els.map PEl.num).Nodup) {n:Int} {k:Nat} (h:FR els n k):(k:Int)∈cR els n:=by
 obtain ⟨i,x,hx,Pw,t,ht,htp,y,hy,hyk,hw⟩:=h
 have hf:bU els n=some x:=by
  cases hf:bU els n with
  | none=>exact absurd Pw (oN hf (List.mem_of_getElem? hx))
  | some z=>
   obtain ⟨hz,hzn⟩:=du hf
   rw [zd hn hz (List.mem_of_getElem? hx) (by omega)]
 have hi:=oJ hn hx
 rw [Pw] at hi
 unfold cR
 rw [hf]
 show (k:Int)∈dU els (els.drop (kO els n)) x.par
 rw [hi]
 unfold dU
 rw [List.mem_flatMap]
 refine ⟨t,ht,?_⟩
 rw [if_pos htp]
 unfold bO
 rw [List.mem_map]
 exact ⟨y,List.mem_filter.2 ⟨hy,rx.2 hw⟩,by rw [hyk]⟩
def Aw (w:World) (l:List Int) (e:Ending) (w':World):Prop:=∃ (a:Option Addr) (c:Nat),e=.returned (.slice a l.length c)∧w'.ownsRow w.heap.size 3 1 (.slice a l.length c) l.length (ai l)∧Below w.heap.size w w'
section
set_option maxRecDepth 100000
set_option maxHeartbeats 4000000
variable (w:World) (b:Nat) (a:Option Addr) (c:Nat) (els:List PEl) (n:Int)
theorem tS (h:TRd w b a c els):Calls Tryz.prog 75 #[.pointer (some ⟨b,1,none⟩),.int .i64 n] w fun e w'=>Aw w (cR els n) e w':=by
 obtain ⟨i0,hi0,gx,gw,gB⟩:=info_parts Tryz.info3
 have HT:Hid (TRd w b a c els):=h
 have bw:=h.few
 clear h
 go_enter Tryz.func75,Tryz.ntmps75
 go_wp2_with fail
 refine (dq w b _ els n HT.out.cell HT.out.pl HT.out.few).mono ?_
 rintro e w1 ⟨hB,⟨hf,rfl⟩ | ⟨ip,x,hx,hf,rfl⟩⟩
 ·have HE:Hid (Aw w (cR els n) (.returned (.slice none 0 0)) w1):=by
   have:cR els n=[]:=by unfold cR;rw [hf]
   rw [this]
   exact ⟨none,0,rfl,World.ownsRow_nil _ _ _ _,hB⟩
  clear hf hB
  go_wp2
  go_ret
  exact HE.out
 ·have nZ:ip<els.length:=(List.getElem?_eq_some_iff.1 hx).1
  have mZ:els[ip]=x:=(List.getElem?_eq_some_iff.1 hx).2
  have HA:Hid (cR els n=dU els (els.drop ip) x.par):=by
   unfold Hid cR
   rw [hf]
   have h1:=(du hf).2
   have h2:=oJ HT.out.nums hx
   rw [h1] at h2
   show dU els (els.drop (kO els n)) x.par=_
   rw [h2]
  have T1:=HT.out.below hB
  have LE:=lP T1.pl.row
  have FX:c≤maxLen:=kS T1.pl.row
  obtain ⟨g,hg,db,he⟩:=T1.pl.el nZ
  subst hg
  have q1:=he.cell1
  rw [mZ] at q1
  have q0:=T1.cell
  have jC:(ip:Int)<(els.length:Int):=by omega
  have ed:Hid (Below w.heap.size w w1):=hB
  have fT:(Tryz.prog.info? 134).map (·.size)=some 31:=Tryz.size134
  unfold maxLen at FX
  clear hf hB hx mZ he T1
  generalize x.par=par at HA q1
  have jI:=HT.out.lt
  go_wp2_with fail
  ·obtain ⟨m,hm⟩:∃ m,els.length - ip=m:=⟨_,rfl⟩
   have Xg:m≤24:=by omega
   have HM:Hid (els.length - ip=m):=hm
   have HDL:Hid ((els.drop ip).length=m):=by unfold Hid;rw [List.length_drop];exact hm
   rw [hm]
   clear hm q0 q1
   go_loopg [8,36] m (fun gk v iv wr=>∃ i:Nat,iv=.int .i64 i∧i≤m∧m - i≤gk∧Hid (wr.ownsRow w.heap.size 3 1 v (dU els ((els.drop ip).take i) par).length (ai (dU els ((els.drop ip).take i) par))∧Below w.heap.size w wr))
   case atStart=>exact ⟨0,rfl,Nat.zero_le _,by omega,World.ownsRow_nil _ _ _ _,ed.out⟩
   case round=>
    obtain ⟨i,rfl,hi,fK,HN⟩:=hrel
    obtain ⟨wo,rfl⟩:∃ wo,wo=wr:=⟨_,rfl⟩
    obtain ⟨a2,c2,jr⟩:=au HN.out.1
    subst jr
    have hRL:(dU els ((els.drop ip).take i) par).length≤576:=by
     have h1:=oX els par ((els.drop ip).take i)
     have h2:((els.drop ip).take i).length*els.length≤24*24:=Nat.mul_le_mul (by rw [List.length_take];omega) bw
     omega
    have iS:=HN.out.2.size
    by_cases aN:i<m
    ·have hd:decide ((i:Int)<(m:Int))=true:=by simp;omega
     have QE:ip+i<els.length:=by have:=HM.out;omega
     obtain ⟨g2,hJ,mj,he⟩:=HT.out.pl.el QE
     injection hJ with hJ
     injection hJ with hJ _ _
     subst hJ
     have HE:Hid (ElAt wo g (ip*31+i*31) els[ip+i].cells els[ip+i].num els[ip+i].par):=by
      rw [show ip*31+i*31=(ip+i)*31 from by omega]
      exact he.below HN.out.2 mj
     have gA:Hid (dU els ((els.drop ip).take (i+1)) par=if els[ip+i].par=par then dU els ((els.drop ip).take i) par++bO els els els[ip+i].num else dU els ((els.drop ip).take i) par):=by
      have h1:=Bl (els:=els) (l:=els.drop ip) (i:=i) (by rw [HDL.out];exact aN) par
      rw [List.getElem_drop] at h1
      exact h1
     have q0:wo.cell? ⟨b,1,none⟩=some (.slice (some ⟨g,0,none⟩) els.length c):=(HN.out.2.cell (p:=⟨b,1,none⟩) jI).trans HT.out.cell
     have XP:b<wo.heap.size:=by omega
     clear he
     generalize els[ip+i].par=py at HE gA
     generalize els[ip+i].num=ny at HE gA
     generalize els[ip+i].cells=cs at HE
     have c0:cs[0]?=some (.int .i64 ny):=HE.out.c0
     have c1:cs[1]?=some (.int .i64 py):=HE.out.c1
     generalize dU els ((els.drop ip).take i) par=R at HN gA hRL ⊢
     by_cases hp:py=par
     ·have gp:(py != par)=false:=by simp [hp]
      have fD:Hid (dU els ((els.drop ip).take (i+1)) par=R++bO els els ny):=by unfold Hid;rw [gA.out,if_pos hp]
      have sy:Hid ((wo.alloc (.cells cs.toArray 134)).heap[wo.heap.size]?=some (.cells cs.toArray 134)):=heap_alloc_new wo _
      have nn:Hid ((wo.alloc (.cells cs.toArray 134)).ownsRow w.heap.size 3 1 (.slice a2 R.length c2) (R++bO els (els.take 0) ny).length (ai (R++bO els (els.take 0) ny))∧Below w.heap.size w (wo.alloc (.cells cs.toArray 134))):=by
       have:R++bO els (els.take 0) ny=R:=by simp [bO]
       rw [this]
       exact ⟨HN.out.1.alloc _,HN.out.2.alloc iS _⟩
      clear hp gA HN
      go_wp2_with (first | (refine wpList_load_mid rfl 134 _ rfl g (ip*31+i*31) rfl cs _ HE.out.rng Tryz.underlying134 rfl HE.out.size ?_) | (refine aw rfl 134 _ _ rfl _ cs.toArray 134 rfl rfl HE.out.size' HE.out.same HE.out.all ?_))
      go_loopg [8,49] els.length (fun gk v kv wr=>∃ k:Nat,kv=.int .i64 k∧k≤els.length∧els.length - k≤gk∧Hid ((wr.ownsRow w.heap.size 3 1 v (R++bO els (els.take k) ny).length (ai (R++bO els (els.take k) ny))∧Below w.heap.size w wr)∧wr.heap[wo.heap.size]?=some (.cells cs.toArray 134)))
      case atStart=>exact ⟨0,rfl,Nat.zero_le _,by omega,nn.out,sy.out⟩
      case round=>
       obtain ⟨k,rfl,hk,r7,HJ⟩:=hrel
       obtain ⟨a3,c3,A6⟩:=au HJ.out.1.1
       subst A6
       have aac:(R++bO els (els.take k) ny).length≤600:=by
        have h1:=rC els (els.take k) ny
        have h2:(els.take k).length≤els.length:=List.length_take_le' _ _
        rw [List.length_append]
        omega
       have Tv:=HJ.out.1.2.size
       obtain ⟨L,Z0⟩:∃ L,R++bO els (els.take k) ny=L:=⟨_,rfl⟩
       have Z5:Hid (R++bO els (els.take k) ny=L):=Z0
       rw [Z0] at HJ aac ⊢
       clear Z0
       by_cases mB:k<els.length
       ·have iL:decide ((k:Int)<(els.length:Int))=true:=by simp;omega
        obtain ⟨g3,eJ,Yl,he3⟩:=HT.out.pl.el mB
        injection eJ with eJ
        injection eJ with eJ _ _
        subst eJ
        have JP:Hid (ElAt wr g (k*31) els[k].cells els[k].num els[k].par):=he3.below HJ.out.1.2 Yl
        have K3:Hid (bO els (els.take (k+1)) ny=if lF els els[k].num ny=true then bO els (els.take k) ny++[(els[k].num:Int)] else bO els (els.take k) ny):=yS mB ny
        have q10:wr.cell? ⟨wo.heap.size,0,none⟩=some (.int .i64 ny):=aa HJ.out.2 (by simpa using c0)
        have TN:wo.heap.size<wr.heap.size:=(Array.getElem?_eq_some_iff.1 HJ.out.2).1
        clear he3
        generalize els[k].num=nk at JP K3
        generalize els[k].par=pk at JP
        generalize els[k].cells=cs3 at JP
        have c03:cs3[0]?=some (.int .i64 nk):=JP.out.c0
        have jk:Hid (TRd (wr.alloc (.cells cs3.toArray 134)) b (some ⟨g,0,none⟩) c els):=HT.out.below (HJ.out.1.2.alloc Tv _)
        have HEY:Hid (ElAt (wr.alloc (.cells cs3.toArray 134)) wr.heap.size 0 cs3 nk pk):=JP.out.new wr
        go_wp2_with (first | (refine wpList_load_mid rfl 134 _ rfl g (k*31) rfl cs3 _ JP.out.rng Tryz.underlying134 rfl JP.out.size ?_) | (refine aw rfl 134 _ _ rfl _ cs3.toArray 134 rfl rfl JP.out.size' JP.out.same JP.out.all ?_))
        refine (nC (wr.alloc (.cells cs3.toArray 134)) b _ els nk ny jk.out.cell jk.out.pl bw).mono ?_
        rintro e w3 ⟨eS,r,rfl,hr⟩
        have HR:Hid (r=true↔lF els nk ny=true):=hr.trans rx.symm
        have EK:wr.heap.size+1≤w3.heap.size:=by have:=eS.size;simpa using this
        have ji:Hid (Below (wr.heap.size+1) (wr.alloc (.cells cs3.toArray 134)) w3):=by simpa [Hid] using eS
        have EX:Hid ((w3.ownsRow w.heap.size 3 1 (.slice a3 L.length c3) L.length (ai L)∧Below w.heap.size w w3)∧w3.heap[wo.heap.size]?=some (.cells cs.toArray 134)):=
         ⟨⟨aQ (HJ.out.1.1.alloc _) eS,(HJ.out.1.2.alloc Tv _).trans (eS.mono (by simp;omega))⟩,(eS.block wo.heap.size (by simp;omega)).trans ((Below.heap_alloc _ _ _ TN).trans HJ.out.2)⟩
        have iB:Hid (ElAt w3 wr.heap.size 0 cs3 nk pk):=HEY.out.below ji.out (by omega)
        have q12:w3.cell? ⟨wr.heap.size,0,none⟩=some (.int .i64 nk):=iB.out.rng 0 _ iB.out.c0
        clear eS hr ji HJ HEY jk JP q10 c03 iB
        cases r with
        | false=>
         have HJ5:Hid ((w3.ownsRow w.heap.size 3 1 (.slice a3 L.length c3) (R++bO els (els.take (k+1)) ny).length (ai (R++bO els (els.take (k+1)) ny))∧Below w.heap.size w w3)∧w3.heap[wo.heap.size]?=some (.cells cs.toArray 134)):=by
          rw [K3.out,if_neg (fun hx=>by have:=HR.out.2 hx;cases this),Z5.out]
          exact EX.out
         clear K3 HR EX
         go_wp2
         go_roundg (els.length - (k+1))
         case measure=>omega
         case rel=>exact ⟨k+1,by go_num,by omega,Nat.le_refl _,HJ5⟩
        | true=>
         have Zz:Hid (R++bO els (els.take (k+1)) ny=L++[(nk:Int)]):=by
          unfold Hid
          rw [K3.out,if_pos (HR.out.1 rfl),←Z5.out,List.append_assoc]
         clear K3 HR
         go_wp2_with (first | (at_builtin;refine wpList_append_own _ rfl (.tmp 59) (.tmp 62) 40 rfl w.heap.size 3 i0 (.int .i64 0) 1 8 Tryz.underlying40 hi0 gx gw gB rfl (by decide) _ _ _ rfl (EX.out.1.1.alloc _) ⟨w3.heap.size,0,none⟩ 1 1 [.int .i64 (nk:Int)] rfl rfl ?c1 ?c2 ?c3 ?c4 ?c5 ?_))
         case c1=>exact aO w3 _ rfl _ _ _ rfl
         case c2=>exact Fm nk
         case c3=>unfold maxLen;omega
         case c4=>omega
         case c5=>simp;omega
         intro v5 w5 cX kG _
         have HJ5:Hid ((w5.ownsRow w.heap.size 3 1 v5 (R++bO els (els.take (k+1)) ny).length (ai (R++bO els (els.take (k+1)) ny))∧Below w.heap.size w w5)∧w5.heap[wo.heap.size]?=some (.cells cs.toArray 134)):=by
          rw [Zz.out]
          refine ⟨⟨by simpa [ai] using cX,(EX.out.1.2.alloc (by omega) _).grown kG (by simp;omega) (fun k hk=>(EX.out.1.1.lt k hk).1)⟩,?_⟩
          exact (kG.block wo.heap.size (by simp;omega) (fun e=>aj EX.out.1.1 EX.out.2 (by decide) e.symm)).trans ((Below.heap_alloc _ _ _ (by omega)).trans EX.out.2)
         clear cX kG EX q12
         go_wp2
         go_roundg (els.length - (k+1))
         case measure=>omega
         case rel=>exact ⟨k+1,by go_num,by omega,Nat.le_refl _,HJ5⟩
       ·have iL:decide ((k:Int)<(els.length:Int))=false:=by simp;omega
        obtain rfl:k=els.length:=by omega
        have vn:Hid (wr.ownsRow w.heap.size 3 1 (.slice a3 L.length c3) (dU els ((els.drop ip).take (i+1)) par).length (ai (dU els ((els.drop ip).take (i+1)) par))∧Below w.heap.size w wr):=by
         have h1:=Z5.out
         rw [List.take_length] at h1
         rw [fD.out,h1]
         exact HJ.out.1
        clear HJ
        go_wp2
        go_roundg (m - (i+1))
        case measure=>omega
        case rel=>exact ⟨i+1,by go_num,by omega,Nat.le_refl _,vn⟩
     ·have gp:(py != par)=true:=by simp [hp]
      have vn:Hid ((wo.alloc (.cells cs.toArray 134)).ownsRow w.heap.size 3 1 (.slice a2 R.length c2) (dU els ((els.drop ip).take (i+1)) par).length (ai (dU els ((els.drop ip).take (i+1)) par))∧Below w.heap.size w (wo.alloc (.cells cs.toArray 134))):=by
       rw [gA.out,if_neg hp]
       exact ⟨HN.out.1.alloc _,HN.out.2.alloc iS _⟩
      clear hp gA
      go_wp2_with (first | (refine wpList_load_mid rfl 134 _ rfl g (ip*31+i*31) rfl cs _ HE.out.rng Tryz.underlying134 rfl HE.out.size ?_) | (refine aw rfl 134 _ _ rfl _ cs.toArray 134 rfl rfl HE.out.size' HE.out.same HE.out.all ?_))
      go_roundg (m - (i+1))
      case measure=>omega
      case rel=>exact ⟨i+1,by go_num,by omega,Nat.le_refl _,vn⟩
    ·have hd:decide ((i:Int)<(m:Int))=false:=by simp;omega
     obtain rfl:i=m:=by omega
     have HDT:Hid ((els.drop ip).take i=els.drop ip):=by
      unfold Hid
      rw [List.take_of_length_le (by rw [HDL.out];exact Nat.le_refl _)]
     rw [HDT.out,←HA.out] at HN hRL ⊢
     go_wp2
     go_ret
     exact ⟨a2,c2,rfl,HN.out.1,HN.out.2⟩
end
end Go.Proofs.YtblfffbmklkhmaaGreat
namespace Go.Proofs.YtblfffbmklkhmaaGreat
open Go.RowKit
def sD (s:ByteArray) (i:Nat):Nat:=if bt s i=33 then (if fl (bt s (i+1))=true then 2 else 1+sl s (i+1)) else sl s i
theorem Ad {s:ByteArray} {i j:Nat} {p:PPt} (h:jc s i p j):p=kz s i∧j=i+sD s i:=by
 refine ⟨h.1,?_⟩
 have h2:=h.2
 unfold sD
 by_cases gu:bt s i=33
 ·rw [if_pos gu] at h2 ⊢
  by_cases hl:fl (bt s (i+1))=true
  ·rw [if_pos hl] at h2 ⊢
   exact h2.2
  ·rw [if_neg hl] at h2 ⊢
   have:=h2.2.2.2.1
   omega
 ·rw [if_neg gu] at h2 ⊢
  exact h2.2.2.2.1
def qW (s:ByteArray):Nat→Nat→List PPt × Nat
 | 0,i=>([],i)
 | f+1,i=>if lJ (bt s i)=true then (kz s i :: (qW s f (i+sD s i)).1,(qW s f (i+sD s i)).2) else ([],i)
theorem nF {s:ByteArray}:∀ {ks:List PPt} {i j:Nat} (f:Nat),PartsAt s i j ks→lJ (bt s j)=false→ks.length≤f→qW s f i=(ks,j)
 | [],i,j,f,h,hA,_=>by
  simp only [PartsAt] at h
  subst h
  cases f with
  | zero=>rfl
  | succ f=>unfold qW;rw [if_neg (by rw [hA];simp)]
 | k :: ks,i,j,f,⟨h1,l,h2,h3⟩,hA,hf=>by
  cases f with
  | zero=>simp at hf
  | succ f=>
   obtain ⟨rfl,rfl⟩:=Ad h2
   unfold qW
   rw [if_pos h1,nF f h3 hA (by simpa using hf)]
def JO (s:ByteArray) (i:Nat):Nat × Nat:=if fl (bt s i)=true then (bt s i,i+1) else if bt s i=42 then (0,i+1) else (0,i)
def oq (s:ByteArray) (f i:Nat):Nat × List PPt × Nat:=((JO s i).1,qW s f (JO s i).2)
theorem kf {s:ByteArray}:∀ {ks:List PPt} {i j:Nat},PartsAt s i j ks→ks.length≤j - i
 | [],_,_,_=>by simp
 | _ :: _,_,_,⟨_,_,h1,h2⟩=>by
  have:=lN h1
  have:=kf h2
  have:=(nw h2).1
  simp only [List.length_cons]
  omega
theorem An {s:ByteArray} {i j ty:Nat} {ks:List PPt} {f:Nat} (h:eC s i j ty ks) (hA:lJ (bt s j)=false) (hf:j≤f):oq s f i=(ty,ks,j):=by
 unfold oq JO
 rcases h with ⟨h1,h2,h3⟩ | ⟨h0,h1,h2,h3⟩ | ⟨h0,h1,h2,h3,_⟩
 ·have:=kf h3
  rw [if_pos h1,nF f h3 hA (by omega),h2]
 ·have:=kf h3
  rw [if_neg (by rw [h0];simp),if_pos h1,nF f h3 hA (by omega),h2]
 ·have:=kf h3
  rw [if_neg (by rw [h0];simp),if_neg h1,nF f h3 hA (by omega),h2]
def rY (s:ByteArray) (n i0:Nat):Nat→Nat→List cO × Nat
 | 0,i=>([],i)
 | f+1,i=>if fM (bt s (oq s n i).2.2)=true then (⟨mo s i0 i,(oq s n i).1,(oq s n i).2.1⟩ :: (rY s n i0 f ((oq s n i).2.2+1)).1,(rY s n i0 f ((oq s n i).2.2+1)).2) else ([⟨mo s i0 i,(oq s n i).1,(oq s n i).2.1⟩],(oq s n i).2.2)
theorem Fw {s:ByteArray} {n i0 l j ty:Nat} {ks:List PPt} (hc:eC s l j ty ks) (hA:lJ (bt s j)=false) (hS:fM (bt s j)=false) (C9:l<j) (hn:j≤n):∀ {pre:List cO} {i:Nat} (f:Nat),SelPre s i0 i l pre→pre.length<f→rY s n i0 f i=(pre++[⟨mo s i0 l,ty,ks⟩],j)
 | [],i,f,h,hf=>by
  simp only [SelPre] at h
  subst h
  cases f with
  | zero=>simp at hf
  | succ f=>
   unfold rY
   rw [An hc hA hn,if_neg (by rw [hS];simp)]
   rfl
 | x :: cs,i,f,⟨l',h1,h2,h3,h4,h5,h6⟩,hf=>by
  cases f with
  | zero=>simp at hf
  | succ f=>
   have:=iX h5
   unfold rY
   rw [An h1 h3 (by omega:l'≤n),if_pos h4,Fw hc hA hS C9 hn f h5 (by simpa using hf)]
   obtain ⟨sg,tx,px⟩:=x
   replace h6:sg=mo s i0 i:=h6
   rw [h6]
   rfl
theorem qb {s:ByteArray}:∀ {cs:List cO} {i0 i j:Nat},SelPre s i0 i j cs→cs.length≤j - i
 | [],_,_,_,_=>by simp
 | _ :: _,_,_,_,⟨l,_,h2,_,_,h5,_⟩=>by
  have:=qb h5
  have:=iX h5
  simp only [List.length_cons]
  omega
theorem xh {s:ByteArray} {i j n:Nat} {cs:List cO} (h:jU s i j cs) (hn:j≤n):rY s n i n i=(cs,j):=by
 obtain ⟨pre,l,ty,ks,rfl,h2,h3,h4,h5,h6⟩:=h
 have:=qb h2
 exact Fw h3 h5 h6 h4 hn n h2 (by omega)
def qg (s:ByteArray) (n:Nat):Nat→Nat→List (List cO) × Nat
 | 0,i=>([],i)
 | f+1,i=>if bt s (rY s n i n i).2=44 then ((rY s n i n i).1 :: (qg s n f ((rY s n i n i).2+1)).1,(qg s n f ((rY s n i n i).2+1)).2) else ([(rY s n i n i).1],(rY s n i n i).2)
theorem Ap {s:ByteArray} {n l j:Nat} {cs:List cO} (hc:jU s l j cs) (FG:bt s j≠44) (hn:j≤n) (C9:l<j):∀ {pre:List (List cO)} {i:Nat} (f:Nat),SelsPre s i l pre→pre.length<f→qg s n f i=(pre++[cs],j)
 | [],i,f,h,hf=>by
  simp only [SelsPre] at h
  subst h
  cases f with
  | zero=>simp at hf
  | succ f=>
   unfold qg
   rw [xh hc hn,if_neg FG]
   rfl
 | x :: ss,i,f,⟨l',h1,h2,h3,h4⟩,hf=>by
  cases f with
  | zero=>simp at hf
  | succ f=>
   have:=ij h4
   unfold qg
   rw [xh h1 (by omega:l'≤n),if_pos h3,Ap hc FG hn C9 f h4 (by simpa using hf)]
   rfl
theorem od {s:ByteArray}:∀ {ss:List (List cO)} {i j:Nat},SelsPre s i j ss→ss.length≤j - i
 | [],_,_,_=>by simp
 | _ :: _,_,_,⟨l,_,h2,_,h5⟩=>by
  have:=od h5
  have:=ij h5
  simp only [List.length_cons]
  omega
theorem DR {s:ByteArray} {i j n:Nat} {ss:List (List cO)} (h:mJ s i j ss) (hn:j≤n):qg s n n i=(ss,j):=by
 obtain ⟨pre,l,cs,rfl,h2,h3,h4,h5⟩:=h
 have:=od h2
 exact Ap h3 h5 hn h4 n h2 (by omega)
def EH (s:ByteArray) (i:Nat):Nat:=if fk (bt s (i+1))=true then (if fk (bt s (i+2))=true then 3 else 2) else 1
def BV (s:ByteArray) (i:Nat):Int × Int × Int × Nat:=
 if bt s i=105 then (2,0,0,i+1) else if bt s i=114 then (3,0,0,i+1) else if bt s i=117 then (4,0,0,i+1) else if bt s i=36 then (5,0,bt s (i+1),i+2) else (1,zx s i (EH s i),0,i+EH s i)
theorem Oe {s:ByteArray} {i j:Nat} {kd nv vr:Int} (h:Ae s i j kd nv vr):BV s i=(kd,nv,vr,j):=by
 unfold BV
 rcases h with ⟨h1,rfl,rfl,rfl,rfl⟩ | ⟨h1,rfl,rfl,rfl,rfl⟩ | ⟨h1,rfl,rfl,rfl,rfl⟩ | ⟨h1,rfl,rfl,rfl,_,rfl⟩ | ⟨rfl,h2,rfl,h4,h5,h6,h7⟩
 ·rw [if_pos h1]
 ·rw [if_neg (by omega),if_pos h1]
 ·rw [if_neg (by omega),if_neg (by omega),if_pos h1]
 ·rw [if_neg (by omega),if_neg (by omega),if_neg (by omega),if_pos h1]
 ·have h0:=uV (h6 i (Nat.le_refl _) h4)
  rw [if_neg (by omega),if_neg (by omega),if_neg (by omega),if_neg (by omega)]
  have hd:EH s i=j - i:=by
   unfold EH
   by_cases a:i+1<j
   ·rw [if_pos (h6 _ (by omega) a)]
    by_cases b:i+2<j
    ·rw [if_pos (h6 _ (by omega) b)];omega
    ·obtain rfl:j=i+2:=by omega
     rcases h7 with h7 | h7
     ·omega
     ·rw [if_neg (by rw [h7];simp)];omega
   ·obtain rfl:j=i+1:=by omega
    rcases h7 with h7 | h7
    ·omega
    ·rw [if_neg (by rw [h7];simp)];omega
  rw [hd,h2,show i+(j - i)=j from by omega]
def rV (s:ByteArray) (i:Nat):PDc × Nat:=
 (⟨bt s i,(BV s (i+2)).1,(BV s (i+2)).2.1,(BV s (i+2)).2.2.1,decide (bt s (BV s (i+2)).2.2.2=33)⟩,(BV s (i+2)).2.2.2+if bt s (BV s (i+2)).2.2.2=33 then 1 else 0)
theorem Ba {s:ByteArray} {i j:Nat} {d:PDc} (h:kC s i j d):rV s i=(d,j):=by
 obtain ⟨_,h2,_,k,h4,_,h6⟩:=h
 obtain ⟨pr,kd,nu,va,im⟩:=d
 unfold rV
 rw [Oe h4]
 replace h2:pr=bt s i:=h2
 subst h2
 rcases h6 with ⟨h7,h8,h9⟩ | ⟨h7,h8,h9⟩
 ·replace h7:im=true:=h7
  simp [h7,h8,h9]
 ·replace h7:im=false:=h7
  simp [h7,h8,h9]
def BK (s:ByteArray):Nat→Nat→List PDc × Nat
 | 0,i=>([],i)
 | f+1,i=>if bt s (rV s i).2=59 then ((rV s i).1 :: (BK s f ((rV s i).2+1)).1,(BK s f ((rV s i).2+1)).2) else ([(rV s i).1],(rV s i).2)
theorem Ft {s:ByteArray} {l j:Nat} {d:PDc} (hc:kC s l j d) (Gh:bt s j≠59):∀ {pre:List PDc} {i:Nat} (f:Nat),DcPre s i l pre→pre.length<f→BK s f i=(pre++[d],j)
 | [],i,f,h,hf=>by
  simp only [DcPre] at h
  subst h
  cases f with
  | zero=>simp at hf
  | succ f=>
   unfold BK
   rw [Ba hc,if_neg Gh]
   rfl
 | x :: ss,i,f,⟨l',h1,h2,h3,h4⟩,hf=>by
  cases f with
  | zero=>simp at hf
  | succ f=>
   unfold BK
   rw [Ba h1,if_pos h3,Ft hc Gh f h4 (by simpa using hf)]
   rfl
theorem rK {s:ByteArray}:∀ {ds:List PDc} {i j:Nat},DcPre s i j ds→i≤j∧ds.length≤j - i
 | [],_,_,h=>by simp only [DcPre] at h;subst h;simp
 | _ :: _,_,_,⟨l,_,h2,_,h5⟩=>by
  have:=rK h5
  simp only [List.length_cons]
  omega
theorem Hq {s:ByteArray} {i j n:Nat} {ds:List PDc} (h:AS s i j ds) (hn:j≤n):BK s n i=(ds,j):=by
 obtain ⟨pre,l,d,rfl,h2,h3,h4,h5⟩:=h
 have:=rK h2
 exact Ft h3 h5 n h2 (by omega)
def NZ (s:ByteArray) (n i:Nat):List PDc × Nat:=if bt s (i+1)=125 then ([],i+2) else ((BK s n (i+1)).1,(BK s n (i+1)).2+1)
theorem NA {s:ByteArray} {i j n:Nat} {ds:List PDc} (h:BC s i j ds) (hn:j≤n):NZ s n i=(ds,j):=by
 unfold NZ
 rcases h.2 with ⟨h1,rfl,rfl⟩ | ⟨h1,k,h2,h3,rfl⟩
 ·rw [if_pos h1]
 ·rw [if_neg h1,Hq h2 (by omega)]
def J9 (s:ByteArray) (i:Nat):Nat:=if bt s i=64 then i+2 else i
def EW (s:ByteArray) (n i:Nat):cQ × Nat:=
 (⟨Lq s i,(qg s n n (J9 s i)).1,(NZ s n (qg s n n (J9 s i)).2).1⟩,(NZ s n (qg s n n (J9 s i)).2).2)
theorem LU {s:ByteArray} {i j n:Nat} {r:cQ} (h:qL s i j r) (hn:j≤n):EW s n i=(r,j):=by
 obtain ⟨l,q,h1,h2,h3,h4,h5,h6,h7,h8⟩:=h
 have hl:J9 s i=l:=by
  unfold J9
  rcases h1 with ⟨a,b⟩ | ⟨a,b⟩
  ·rw [if_pos a,b]
  ·rw [if_neg a,b]
 unfold EW
 rw [hl,DR h2 (by omega),NA h8 hn,←h7]
def AH (s:ByteArray) (n:Nat):Nat→Nat→List cQ
 | 0,_=>[]
 | f+1,i=>if i<s.size then (EW s n i).1 :: AH s n f (EW s n i).2 else []
theorem xj {s:ByteArray}:∀ {rs:List cQ} {i j:Nat},RulsAt s i j rs→i≤j
 | [],_,_,h=>by simp only [RulsAt] at h;omega
 | _ :: _,_,_,⟨_,_,h2,h5⟩=>by have:=xj h5;omega
theorem A1 {s:ByteArray} {n:Nat} (hn:s.size≤n):∀ {rs:List cQ} {i:Nat} (f:Nat),RulsAt s i s.size rs→s.size - i≤f→AH s n f i=rs
 | [],i,f,h,_=>by
  simp only [RulsAt] at h
  subst h
  cases f with
  | zero=>rfl
  | succ f=>unfold AH;rw [if_neg (Nat.lt_irrefl _)]
 | r :: rs,i,f,⟨l,h1,h2,h3⟩,hf=>by
  have:=xj h3
  cases f with
  | zero=>omega
  | succ f=>
   unfold AH
   rw [if_pos (by omega),LU h1 (by omega),A1 hn f h3 (by omega)]
def dQ (s:ByteArray):List cQ:=AH s 400 400 0
theorem xz {s:ByteArray} (h4:s.size≤400) {rs:List cQ} (h:RulsAt s 0 s.size rs):dQ s=rs:=A1 h4 400 h (by omega)
end Go.Proofs.YtblfffbmklkhmaaGreat
namespace Go.Proofs.YtblfffbmklkhmaaGreat
open Go.RowKit
theorem pC {w:World} {ae:Nat}:∀ {xs:List Value} {cs:List cO} {i:Nat},Comps w ae xs cs→(h:i<cs.length)→∃ (a:Option Addr) (c:Nat) (ps:List Value),xs[i*3]?=some (.int .u8 cs[i].sg)∧xs[i*3+1]?=some (.int .u8 cs[i].ty)∧xs[i*3+2]?=some (.slice a cs[i].ps.length c)∧w.ownsRow ae 192 5 (.slice a cs[i].ps.length c) cs[i].ps.length ps∧Kinds ps cs[i].ps
 | _,_ :: cs,0,⟨a,c,ps,ys,h1,h2,h3,_⟩,_=>by subst h1;exact ⟨a,c,ps,rfl,rfl,rfl,h2,h3⟩
 | _,_ :: cs,i+1,⟨a,c,ps,ys,h1,h2,h3,h4⟩,h=>by
  obtain ⟨a',c',rP,e1,e2,e3,e4,e5⟩:=pC (i:=i) h4 (by simpa using h)
  subst h1
  rw [show (i+1)*3=i*3+3 from by omega]
  exact ⟨a',c',rP,by simpa using e1,by simpa using e2,by simpa using e3,by simpa using e4,by simpa using e5⟩
theorem ya {w:World} {ae:Nat}:∀ {xs:List Value} {ss:List (List cO)} {i:Nat},Sels w ae xs ss→(h:i<ss.length)→∃ (a:Option Addr) (c:Nat) (ps:List Value),xs[i]?=some (.slice a ss[i].length c)∧w.ownsRow ae 190 3 (.slice a ss[i].length c) ss[i].length ps∧Comps w ae ps ss[i]
 | _,cs :: ss,0,⟨a,c,ps,ys,h1,h2,h3,_⟩,_=>by subst h1;exact ⟨a,c,ps,rfl,h2,h3⟩
 | _,cs :: ss,i+1,⟨a,c,ps,ys,h1,h2,h3,h4⟩,h=>by
  obtain ⟨a',c',rP,e1,e2,e3⟩:=ya (i:=i) h4 (by simpa using h)
  subst h1
  exact ⟨a',c',rP,by simpa using e1,by simpa using e2,by simpa using e3⟩
theorem zy {w:World} {ae:Nat}:∀ {xs:List Value} {rs:List cQ} {i:Nat},Ruls w ae xs rs→(h:i<rs.length)→∃ (a:Option Addr) (c:Nat) (ps:List Value),xs[i*3+1]?=some (.slice a rs[i].ss.length c)∧w.ownsRow ae 141 1 (.slice a rs[i].ss.length c) rs[i].ss.length ps∧Sels w ae ps rs[i].ss
 | _,ss :: rs,0,⟨a,c,a',c',ps,qs,ys,h1,h2,h3,_⟩,_=>by subst h1;exact ⟨a,c,ps,rfl,h2,h3⟩
 | _,ss :: rs,i+1,⟨a,c,a',c',ps,qs,ys,h1,h2,h3,h5,h4⟩,h=>by
  obtain ⟨a1,c1,ps1,e1,e2,e3⟩:=zy (i:=i) h4 (by simpa using h)
  subst h1
  rw [show (i+1)*3+1=i*3+1+3 from by omega]
  exact ⟨a1,c1,ps1,by simpa using e1,by simpa using e2,by simpa using e3⟩
theorem qC {w:World} {ae:Nat}:∀ {xs:List Value} {rs:List cQ} {i:Nat},Ruls w ae xs rs→(h:i<rs.length)→xs[i*3]?=some (.int .i64 rs[i].ly)∧∃ (a:Option Addr) (c:Nat) (qs:List Value),xs[i*3+2]?=some (.slice a rs[i].ds.length c)∧w.ownsRow ae 253 5 (.slice a rs[i].ds.length c) rs[i].ds.length qs∧Decs qs rs[i].ds
 | _,ss :: rs,0,⟨a,c,a',c',ps,qs,ys,h1,h2,h3,h5,_⟩,_=>by subst h1;exact ⟨rfl,a',c',qs,rfl,h5.1,h5.2⟩
 | _,ss :: rs,i+1,⟨a,c,a',c',ps,qs,ys,h1,h2,h3,h5,h4⟩,h=>by
  obtain ⟨e0,a1,c1,ps1,e1,e2,e3⟩:=qC (i:=i) h4 (by simpa using h)
  subst h1
  rw [show (i+1)*3=i*3+3 from by omega]
  exact ⟨by simpa using e0,a1,c1,ps1,by simpa using e1,by simpa using e2,by simpa using e3⟩
theorem Fa:∀ {xs:List Value} {ks:List PDc} {i:Nat},Decs xs ks→(h:i<ks.length)→xs[i*5]?=some (.int .u8 ks[i].pr)∧xs[i*5+1]?=some (.int .i64 ks[i].kd)∧xs[i*5+2]?=some (.int .i64 ks[i].nu)∧xs[i*5+3]?=some (.int .u8 ks[i].va)∧xs[i*5+4]?=some (.bool ks[i].im)
 | _,k :: ks,0,⟨ys,h1,_⟩,_=>by subst h1;exact ⟨rfl,rfl,rfl,rfl,rfl⟩
 | _,k :: ks,i+1,⟨ys,h1,h2⟩,h=>by
  obtain ⟨e1,e2,e3,e4,e5⟩:=Fa (i:=i) h2 (by simpa using h)
  subst h1
  rw [show (i+1)*5=i*5+5 from by omega]
  exact ⟨by simpa using e1,by simpa using e2,by simpa using e3,by simpa using e4,by simpa using e5⟩
set_option maxRecDepth 100000 in
set_option maxHeartbeats 2000000 in
theorem I7 (w:World) (ae:Nat) (a:Option Addr) (c:Nat) (cs:List cO) (xs:List Value) (ho:w.ownsRow ae 190 3 (.slice a cs.length c) cs.length xs) (hk:Comps w ae xs cs) (hs:nD cs) :
  Calls Tryz.prog 88 #[.agg #[.slice a cs.length c]] w fun e w'=>Ul w (vq cs) e w':=by
 have HO:Hid (w.ownsRow ae 190 3 (.slice a cs.length c) cs.length xs∧Comps w ae xs cs∧nD cs):=⟨ho,hk,hs⟩
 have hl:=hs.1
 clear ho hk hs
 go_enter Tryz.func88,Tryz.ntmps88
 go_wp2_with fail
 go_loopg [3,9] cs.length (fun gk sv iv wr=>∃ i:Nat,iv=.int .i64 i∧i≤cs.length∧cs.length - i≤gk∧sv=.int .i64 ((vq (cs.take i):Nat):Int)∧Below w.heap.size w wr)
 case atStart=>exact ⟨0,rfl,Nat.zero_le _,by omega,by simp [vq],(Below.refl _ _).alloc (Nat.le_refl _) _⟩
 case round=>
  obtain ⟨i,rfl,hi,fK,rfl,hB⟩:=hrel
  by_cases aN:i<cs.length
  ·have hd:decide ((i:Int)<(cs.length:Int))=true:=by simp;omega
   obtain ⟨g,hg,db,hc⟩:=aH HO.out.1 (by omega)
   subst hg
   obtain ⟨a',c',ps,e0,e1,e2,e3,e4⟩:=pC HO.out.2.1 aN
   have c0:=(hB.cell (p:=⟨g,i*3,none⟩) db).trans (hc _ _ e0)
   have c1:=(hB.cell (p:=⟨g,i*3+1,none⟩) db).trans (hc _ _ e1)
   have c2:=(hB.cell (p:=⟨g,i*3+2,none⟩) db).trans (hc _ _ e2)
   have HP:Hid (vq (cs.take (i+1))=vq (cs.take i)+cw cs[i].ty cs[i].ps):=Jj aN
   have oF:=m7 HO.out.2.2 i
   have Lz:=HO.out.2.2.2 cs[i] (List.getElem_mem aN)
   have BY:=PQ cs[i].ty cs[i].ps
   have HE:Hid (w.ownsRow ae 192 5 (.slice a' cs[i].ps.length c') cs[i].ps.length ps∧Kinds ps cs[i].ps):=⟨e3,e4⟩
   clear e0 e1 e2 e3 e4 hc
   generalize cs[i].sg=sg at c0
   generalize cs[i].ty=ty at c1 HP BY
   generalize cs[i].ps=ks at c2 HP BY HE Lz
   generalize vq (cs.take i)=p0 at HP oF
   go_wp2_with fail
   have O0:Keeps w (wr.alloc (.cells #[.int .u8 sg,.int .u8 ty,.slice a' ks.length c'] 190)) ae 192:=(fI hB _ _).trans (bX _ _ _ _)
   refine (GJ _ ae sg ty a' c' ks ps (by exact O0.owns HE.out.1) HE.out.2 Lz).mono ?_
   rintro e w2 ⟨rfl,hb⟩
   generalize cw ty ks=p1 at HP BY
   have dp:Below w.heap.size w w2:=(hB.alloc hB.size _).trans (hb.mono (by have:=hB.size;simp;omega))
   clear c0 c1 c2 hb O0
   go_wp2
   go_roundg (cs.length - (i+1))
   case measure=>omega
   case rel=>exact ⟨i+1,by go_num,by omega,Nat.le_refl _,by rw [HP.out];congr 1,dp⟩
  ·have hd:decide ((i:Int)<(cs.length:Int))=false:=by simp;omega
   obtain rfl:i=cs.length:=by omega
   go_wp2
   go_ret
   refine ⟨?_,hB⟩
   rw [List.take_length]
   rfl
end Go.Proofs.YtblfffbmklkhmaaGreat
