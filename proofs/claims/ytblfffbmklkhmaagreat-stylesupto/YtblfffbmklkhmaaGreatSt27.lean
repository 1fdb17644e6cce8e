import Derived.Test.YtblfffbmklkhmaaGreatSt26
import Derived.Deep.MidRow
import Derived.Deep.RegionHeld3
namespace Go.Proofs.YtblfffbmklkhmaaGreat
open Go.RowKit
def UR (w:World) (r:Bool) (e:Ending) (w':World):Prop:=e=.returned (.bool r)∧Below w.heap.size w w'
def lu (m1:Bool) (l1 h1 a1:Int) (m2:Bool) (l2 h2 a2:Int):Bool:=
 if m1≠m2 then m1 else if l1≠l2 then (if m1=true then decide (l1<l2) else decide (l2<l1)) else if h1≠h2 then decide (h2<h1) else decide (a2<a1)
set_option maxRecDepth 100000 in
set_option maxHeartbeats 2000000 in
theorem Mn (w:World) (p1:Int) (v1:ByteArray) (m1:Bool) (l1 h1 a1:Int) (p2:Int) (v2:ByteArray) (m2:Bool) (l2 h2 a2:Int) :
  Calls Tryz.prog 168 #[.agg #[.int .u8 p1,.string v1,.bool m1,.int .i64 l1,.int .i64 h1,.int .i64 a1],.agg #[.int .u8 p2,.string v2,.bool m2,.int .i64 l2,.int .i64 h2,.int .i64 a2]] w fun e w'=>UR w (lu m1 l1 h1 a1 m2 l2 h2 a2) e w':=by
 by_cases hm:m1=m2
 ·subst hm
  by_cases hl:l1=l2
  ·subst hl
   by_cases hh:h1=h2
   ·subst hh
    have HE:Hid (lu m1 l1 h1 a1 m1 l1 h1 a2=decide (a2<a1)):=by unfold Hid lu;simp
    go_enter Tryz.func168,Tryz.ntmps168
    go_wp2
    go_ret
    exact ⟨by rw [HE.out];rfl,((Below.refl _ _).alloc (Nat.le_refl _) _).alloc (by simp) _⟩
   ·have gh:(h1 != h2)=true:=by rw [bne_iff_ne];exact hh
    have HE:Hid (lu m1 l1 h1 a1 m1 l1 h2 a2=decide (h2<h1)):=by unfold Hid lu;simp [hh]
    clear hh
    go_enter Tryz.func168,Tryz.ntmps168
    go_wp2
    go_ret
    exact ⟨by rw [HE.out];rfl,((Below.refl _ _).alloc (Nat.le_refl _) _).alloc (by simp) _⟩
  ·have gl:(l1 != l2)=true:=by rw [bne_iff_ne];exact hl
   cases m1 with
   | true=>
    have HE:Hid (lu true l1 h1 a1 true l2 h2 a2=decide (l1<l2)):=by unfold Hid lu;simp [hl]
    clear hl
    go_enter Tryz.func168,Tryz.ntmps168
    go_wp2
    go_ret
    exact ⟨by rw [HE.out];rfl,((Below.refl _ _).alloc (Nat.le_refl _) _).alloc (by simp) _⟩
   | false=>
    have HE:Hid (lu false l1 h1 a1 false l2 h2 a2=decide (l2<l1)):=by unfold Hid lu;simp [hl]
    clear hl
    go_enter Tryz.func168,Tryz.ntmps168
    go_wp2
    go_ret
    exact ⟨by rw [HE.out];rfl,((Below.refl _ _).alloc (Nat.le_refl _) _).alloc (by simp) _⟩
 ·have HE:Hid (lu m1 l1 h1 a1 m2 l2 h2 a2=m1):=by unfold Hid lu;rw [if_pos hm]
  have HM:Hid (m1≠m2):=hm
  clear hm
  cases m1 with
  | true=>
   cases m2 with
   | true=>exact absurd rfl HM.out
   | false=>
    clear HM
    go_enter Tryz.func168,Tryz.ntmps168
    go_wp2
    go_ret
    exact ⟨by rw [HE.out];rfl,((Below.refl _ _).alloc (Nat.le_refl _) _).alloc (by simp) _⟩
  | false=>
   cases m2 with
   | false=>exact absurd rfl HM.out
   | true=>
    clear HM
    go_enter Tryz.func168,Tryz.ntmps168
    go_wp2
    go_ret
    exact ⟨by rw [HE.out];rfl,((Below.refl _ _).alloc (Nat.le_refl _) _).alloc (by simp) _⟩
def d8 (s:ByteArray):Option Nat:=if s.size=0 then none else if bt s 0=36 then eh (bt s 1) else none
structure ng (s:ByteArray):Prop where
 few:s.size≤400
 var:0<s.size→bt s 0=36→1<s.size∧∃ q,eh (bt s 1)=some q∧6≤q∧q<9
structure Ob (cs:Array Value) (W:Nat→ByteArray):Prop where
 size:cs.size=9
 at':∀ i,i<9→cs[i]?=some (.string (W i))
 ok:∀ i,i<9→ng (W i)
def bx (W:Nat→ByteArray) (v:Nat):Nat→Nat→Bool
 | 0,_=>false
 | n+1,a=>match d8 (W a) with | none=>false | some q=>if q=v then true else bx W v n q
theorem JX (w:World) {cs:Array Value} {W:Nat→ByteArray} (h:Ob cs W) (t:TypeId) {i:Nat} (hi:i<9):(w.alloc (.cells cs t)).cell? ⟨w.heap.size,i,none⟩=some (.string (W i)):=by
 rw [cell_of_row _ _ i cs t (0,0) (heap_alloc_new w _)]
 exact h.at' i hi
set_option maxRecDepth 100000 in
set_option maxHeartbeats 2000000 in
theorem Je (w:World) (cs:Array Value) (W:Nat→ByteArray) (v:Nat) (h:Ob cs W) (hv:v<9) :
  Calls Tryz.prog 190 #[.agg cs,.int .i64 v] w fun e w'=>UR w (bx W v 9 v) e w':=by
 have HN:Hid (Ob cs W):=h
 have fT:cs.size=9:=h.size
 have HB:Hid (Below w.heap.size w (w.alloc (.cells cs 234))):=(Below.refl _ _).alloc (Nat.le_refl _) _
 have HC:Hid (∀ i,i<9→(w.alloc (.cells cs 234)).cell? ⟨w.heap.size,i,none⟩=some (.string (W i))):=fun i hi=>JX w h _ hi
 clear h
 go_enter Tryz.func190,Tryz.ntmps190
 go_wp2_with fail
 obtain ⟨W1,PX⟩:∃ W1,W1=w.alloc (.cells cs 234):=⟨_,rfl⟩
 rw [←PX] at HB HC ⊢
 clear PX fT
 go_loop [5,6] (fun av iv=>∃ (a i:Nat),av=.int .i64 a∧iv=.int .i64 i∧a<9∧i≤9∧Hid (bx W v 9 v=bx W v (9 - i) a)) (fun _ iv=>9 - (intOf iv).toNat)
 case atStart=>exact ⟨v,0,rfl,rfl,hv,by omega,rfl⟩
 case round=>
  obtain ⟨a,i,rfl,rfl,ha,hi,HR⟩:=hrel
  by_cases aN:i<9
  ·have hd:decide ((i:Int)<9)=true:=by simp;omega
   have q:=HC.out a ha
   have HV:Hid (ng (W a)):=HN.out.ok a ha
   have HS:Hid (bx W v 9 v=match d8 (W a) with | none=>false | some q=>if q=v then true else bx W v (9 - (i+1)) q):=by
    unfold Hid
    rw [HR.out,show 9 - i=(9 - (i+1))+1 from by omega]
    rfl
   have hal:(a:Int)<9:=by omega
   clear HR
   generalize W a=s at q HV HS
   by_cases h0:s.size=0
   ·have HE:Hid (bx W v 9 v=false):=by unfold Hid;rw [HS.out];unfold d8;rw [if_pos h0]
    obtain rfl:=dX h0
    clear h0 HS
    go_wp2
    go_ret
    exact ⟨by rw [HE.out];rfl,HB.out⟩
   ·have eV:=fR s (by omega)
    have Ww:0<s.size:=by omega
    have mr:(s[0].toNat:Int)=(bt s 0:Int):=by rw [bq s 0 Ww]
    by_cases sx:bt s 0=36
    ·have UY:((bt s 0:Int) != 36)=false:=by simp [sx]
     obtain ⟨h1,qq,rH,C3,hq3⟩:=HV.out.var Ww sx
     have pU:Hid (bx W v 9 v=if qq=v then true else bx W v (9 - (i+1)) qq):=by unfold Hid;rw [HS.out];unfold d8;rw [if_neg h0,if_pos sx,rH]
     have oF:(s[1].toNat:Int)=(bt s 1:Int):=by rw [bq s 1 h1]
     have HQ:Hid (eh (bt s 1)=some qq):=rH
     clear h0 sx HS rH
     go_wp2_with fail
     refine (nL W1 (bt s 1)).mono ?_
     rintro e w2 ⟨r,rfl,rfl,XD⟩
     obtain ⟨W1,rfl⟩:∃ W1,W1=w2:=⟨_,rfl⟩
     obtain rfl:r=qq:=by
      have h1:=HQ.out
      rcases XD.out with ⟨_,h2⟩ | ⟨_,h2⟩
      ·rw [h1] at h2;injection h2 with h2;exact h2.symm
      ·rw [h1] at h2;cases h2
     clear XD HQ
     by_cases hrv:r=v
     ·have gr:((r:Int)==(v:Int))=true:=by simp [hrv]
      have HE:Hid (bx W v 9 v=true):=by unfold Hid;rw [pU.out,if_pos hrv]
      clear hrv pU
      go_wp2
      go_ret
      exact ⟨by rw [HE.out];rfl,HB.out⟩
     ·have gr:((r:Int)==(v:Int))=false:=by rw [beq_eq_false_iff_ne];omega
      have HE:Hid (bx W v 9 v=bx W v (9 - (i+1)) r):=by unfold Hid;rw [pU.out,if_neg hrv]
      clear hrv pU
      go_wp2
      go_round
      case rel=>exact ⟨r,i+1,rfl,by go_num,by omega,by omega,HE⟩
      case measure=>simp [intOf];omega
    ·have UY:((bt s 0:Int) != 36)=true:=by rw [bne_iff_ne];omega
     have HE:Hid (bx W v 9 v=false):=by unfold Hid;rw [HS.out];unfold d8;rw [if_neg h0,if_neg sx]
     clear h0 sx HS
     go_wp2
     go_ret
     exact ⟨by rw [HE.out];rfl,HB.out⟩
  ·have hd:decide ((i:Int)<9)=false:=by simp;omega
   have HE:Hid (bx W v 9 v=false):=by unfold Hid;rw [HR.out,show 9 - i=0 from by omega];rfl
   go_wp2
   go_ret
   exact ⟨by rw [HE.out];rfl,HB.out⟩
end Go.Proofs.YtblfffbmklkhmaaGreat
namespace Go.Proofs.YtblfffbmklkhmaaGreat
open Go.RowKit
def i9 (s:ByteArray):Nat→Nat
 | 0=>0
 | i+1=>i9 s i*10+(bt s i - 48)
theorem Lw (s:ByteArray):∀ i,i≤3→(∀ k,k<i→bt s k≤57)→i9 s i≤999
 | 0,_,_=>Nat.zero_le _
 | 1,_,h=>by have:=h 0 (by omega);simp [i9];omega
 | 2,_,h=>by have:=h 0 (by omega);have:=h 1 (by omega);simp [i9];omega
 | 3,_,h=>by have:=h 0 (by omega);have:=h 1 (by omega);have:=h 2 (by omega);simp [i9];omega
 | i+4,h,_=>by omega
structure oY (s:ByteArray):Prop where
 num:0<s.size→bt s 0≠36→bt s 0≠105→bt s 0≠114→bt s 0≠117→s.size≤3∧∀ k,k<s.size→48≤bt s k∧bt s k≤57
 one:bt s 0=117→s.size=1
noncomputable def ct (W:Nat→ByteArray) (C:Nat→Int):Nat→Nat→Int
 | 0,p=>C p
 | f+1,p=>
  if (W p).size=0∨bt (W p) 0=117 then (if ii p=true then C p else dE p)
  else if bt (W p) 0=105 then C p
  else if bt (W p) 0=114 then dE p
  else if bt (W p) 0=36 then (if bx W p 9 p=true then C p else ct W C f ((eh (bt (W p) 1)).getD 0))
  else (i9 (W p) (W p).size:Int)
def uW (W:Nat→ByteArray):Nat→Nat→Prop
 | 0,p=>d8 (W p)=none∨bx W p 9 p=true
 | f+1,p=>d8 (W p)=none∨bx W p 9 p=true∨∃ q,d8 (W p)=some q∧uW W f q
structure NineL (cs:List Value) (W:Nat→ByteArray):Prop where
 len:cs.length=9
 at':∀ i,i<9→cs[i]?=some (.string (W i))
 ok:∀ i,i<9→ng (W i)
 num:∀ i,i<9→oY (W i)
 one:∀ v∈cs,v.oneCell'=true
structure oo (cs:List Value) (C:Nat→Int):Prop where
 len:cs.length=9
 at':∀ i,i<9→cs[i]?=some (.int .i64 (C i))
 one:∀ v∈cs,v.oneCell'=true
theorem NineL.nine {cs:List Value} {W:Nat→ByteArray} (h:NineL cs W):Ob cs.toArray W:=⟨by simp [h.len],fun i hi=>by simpa using h.at' i hi,h.ok⟩
def JH (w:World) (n:Int) (e:Ending) (w':World):Prop:=e=.returned (.int .i64 n)∧Below w.heap.size w w'
theorem kN {w wr:World} {ae:Nat} (hB:Below ae w wr) {g o:Nat} (hg:g<ae) {cs:List Value} (h:w.rangeAt g o cs):wr.rangeAt g o cs:=
 fun j v hv=>(hB.cell (p:=⟨g,o+j,none⟩) hg).trans (h j v hv)
theorem tJ (w:World) (cs:List Value) (t:TypeId):(w.alloc (.cells cs.toArray t)).rangeAt w.heap.size 0 cs:=fun j v hv=>by
 rw [Nat.zero_add,cell_of_row _ _ j cs.toArray t (0,0) (heap_alloc_new w _)]
 simpa using hv
theorem BD {cs:List Value} {W:Nat→ByteArray} (h:NineL cs W):cs.toArray=#[.string (W 0),.string (W 1),.string (W 2),.string (W 3),.string (W 4),.string (W 5),.string (W 6),.string (W 7),.string (W 8)]:=by
 apply Array.ext_getElem?
 intro i
 by_cases hi:i<9
 ·have h1:=h.at' i hi
  rw [List.getElem?_toArray,h1]
  have:i=0∨i=1∨i=2∨i=3∨i=4∨i=5∨i=6∨i=7∨i=8:=by omega
  rcases this with rfl | rfl | rfl | rfl | rfl | rfl | rfl | rfl | rfl<;>rfl
 ·rw [Array.getElem?_eq_none (by have:=h.len;simp;omega),Array.getElem?_eq_none (by simp;omega)]
theorem zf {cs:List Value} {C:Nat→Int} (h:oo cs C):cs.toArray=#[.int .i64 (C 0),.int .i64 (C 1),.int .i64 (C 2),.int .i64 (C 3),.int .i64 (C 4),.int .i64 (C 5),.int .i64 (C 6),.int .i64 (C 7),.int .i64 (C 8)]:=by
 apply Array.ext_getElem?
 intro i
 by_cases hi:i<9
 ·have h1:=h.at' i hi
  rw [List.getElem?_toArray,h1]
  have:i=0∨i=1∨i=2∨i=3∨i=4∨i=5∨i=6∨i=7∨i=8:=by omega
  rcases this with rfl | rfl | rfl | rfl | rfl | rfl | rfl | rfl | rfl<;>rfl
 ·rw [Array.getElem?_eq_none (by have:=h.len;simp;omega),Array.getElem?_eq_none (by simp;omega)]
theorem GM (v:ByteArray) (i:Nat) (r:List UInt8):ByteArray.toList.loop v i r=r.reverse++v.data.toList.drop i:=by
 generalize hn:v.size - i=n
 induction n generalizing i r with
 | zero=>
  unfold ByteArray.toList.loop
  rw [if_neg (by omega),List.drop_of_length_le (by rw [Array.length_toList];exact Nat.le_of_sub_eq_zero hn),List.append_nil]
 | succ n ih=>
  unfold ByteArray.toList.loop
  have hi:i<v.data.toList.length:=by rw [Array.length_toList];exact (show i<v.size from by omega)
  rw [if_pos (by omega),ih _ _ (by omega),List.drop_eq_getElem_cons hi,List.reverse_cons,List.append_assoc]
  congr 1
  have h2:i<v.data.size:=by simpa using hi
  have h3:v.get! i=v.data.toList[i]:=by
   show v.data[i]! = _
   rw [getElem!_pos v.data i h2]
   simp
  rw [h3]
  rfl
theorem ko (v:ByteArray):v.toList=v.data.toList:=by
 unfold ByteArray.toList
 rw [GM]
 simp
theorem Bq (v:ByteArray) (h:0<v.size):(v.toList==[117])=decide (v.size=1∧bt v 0=117):=by
 rw [ko]
 have hl:v.data.toList.length=v.size:=by rw [Array.length_toList];rfl
 have hb:bt v 0=(v.data.toList[0]'(by omega)).toNat:=by
  rw [bq v 0 h]
  simp
  rfl
 by_cases hc:v.size=1∧bt v 0=117
 ·rw [decide_eq_true hc,beq_iff_eq]
  obtain ⟨h1,h2⟩:=hc
  apply List.ext_getElem (by rw [hl,h1];rfl)
  intro j hj1 TC
  have hj:j=0:=by simp at TC;omega
  subst hj
  rw [hb] at h2
  simp only [List.getElem_cons_zero]
  exact UInt8.toNat_inj.1 h2
 ·rw [decide_eq_false hc,beq_eq_false_iff_ne]
  intro he
  refine hc ⟨by rw [←hl,he];rfl,?_⟩
  rw [hb]
  simp only [he,List.getElem_cons_zero]
  rfl
theorem Tryz.sz234:(Tryz.prog.info? 234).map (·.size)=some 9:=by kernel_rfl
theorem Tryz.sz38:(Tryz.prog.info? 38).map (·.size)=some 9:=by kernel_rfl
noncomputable def iG (W:Nat→ByteArray) (C V:Nat→Int) (p:Nat):Int:=
 if (W p).size=0∨bt (W p) 0=117 then (if ii p=true then C p else dE p)
 else if bt (W p) 0=105 then C p
 else if bt (W p) 0=114 then dE p
 else if bt (W p) 0=36 then (if bx W p 9 p=true then C p else V ((eh (bt (W p) 1)).getD 0))
 else (i9 (W p) (W p).size:Int)
set_option maxRecDepth 100000 in
set_option maxHeartbeats 4000000 in
theorem tc (cs ci:List Value) (W:Nat→ByteArray) (C V:Nat→Int) (P:Nat→Prop) (h:NineL cs W) (hC:oo ci C)
  (ih:∀ (w:World) (q:Nat),q<9→P q→Calls Tryz.prog 170 #[.agg cs.toArray,.agg ci.toArray,.int .i64 q] w fun e w'=>JH w (V q) e w') (w:World) (p:Nat) (hp:p<9) (ht:d8 (W p)=none∨bx W p 9 p=true∨∃ q,d8 (W p)=some q∧P q) :
  Calls Tryz.prog 170 #[.agg cs.toArray,.agg ci.toArray,.int .i64 p] w fun e w'=>JH w (iG W C V p) e w':=by
 have HL:Hid (NineL cs W∧oo ci C):=⟨h,hC⟩
 have HT:Hid (d8 (W p)=none∨bx W p 9 p=true∨∃ q,d8 (W p)=some q∧P q):=ht
 have Sz:Hid (∀ (w:World) (q:Nat),q<9→P q→Calls Tryz.prog 170 #[.agg cs.toArray,.agg ci.toArray,.int .i64 q] w fun e w'=>JH w (V q) e w'):=ih
 have HB:Hid (Below w.heap.size w ((w.alloc (.cells cs.toArray 234)).alloc (.cells ci.toArray 38))):=((Below.refl _ _).alloc (Nat.le_refl _) _).alloc (by simp) _
 have JB:Hid (((w.alloc (.cells cs.toArray 234)).alloc (.cells ci.toArray 38)).rangeAt w.heap.size 0 cs∧((w.alloc (.cells cs.toArray 234)).alloc (.cells ci.toArray 38)).rangeAt (w.heap.size+1) 0 ci∧w.heap.size+2≤((w.alloc (.cells cs.toArray 234)).alloc (.cells ci.toArray 38)).heap.size):=by
  refine ⟨fun j v hv=>?_,?_,by simp⟩
  ·have h1:Below (w.heap.size+1) (w.alloc (.cells cs.toArray 234)) ((w.alloc (.cells cs.toArray 234)).alloc (.cells ci.toArray 38)):=(Below.refl _ _).alloc (by simp) _
   exact (h1.cell (p:=⟨w.heap.size,0+j,none⟩) (Nat.lt_succ_self _)).trans (tJ w cs _ j v hv)
  ·have:=tJ (w.alloc (.cells cs.toArray 234)) ci 38
   simpa using this
 clear h hC ht ih
 go_enter Tryz.func170,Tryz.ntmps170
 go_upto_region 1 with fail
 generalize (w.alloc (.cells cs.toArray 234)).alloc (.cells ci.toArray 38)=W1 at HB JB ⊢
 have q1:W1.cell? ⟨w.heap.size,p,none⟩=some (.string (W p)):=by have:=JB.out.1 p _ (HL.out.1.at' p hp);rw [Nat.zero_add] at this;exact this
 have q2:W1.cell? ⟨w.heap.size+1,p,none⟩=some (.int .i64 (C p)):=by have:=JB.out.2.1 p _ (HL.out.2.at' p hp);rw [Nat.zero_add] at this;exact this
 have kL:(p:Int)<9:=by omega
 have HV:Hid (ng (W p)∧oY (W p)):=⟨HL.out.1.ok p hp,HL.out.1.num p hp⟩
 have HW:Hid (iG W C V p=if (W p).size=0∨bt (W p) 0=117 then (if ii p=true then C p else dE p) else if bt (W p) 0=105 then C p else if bt (W p) 0=114 then dE p else if bt (W p) 0=36 then (if bx W p 9 p=true then C p else V ((eh (bt (W p) 1)).getD 0)) else (i9 (W p) (W p).size:Int)):=rfl
 generalize W p=s at q1 HV HW HT
 by_cases hU:s.size=0∨bt s 0=117
 ·have pU:Hid (iG W C V p=if ii p=true then C p else dE p):=by unfold Hid;rw [HW.out,if_pos hU]
  have WS:(s.toList.isEmpty||s.toList==[117])=true:=by
   by_cases h0:s.size=0
   ·obtain rfl:=dX h0
    rw [ko]
    rfl
   ·rw [fR s (by omega),Bq s (by omega),decide_eq_true ⟨HV.out.2.one (hU.resolve_left h0),hU.resolve_left h0⟩]
    rfl
  by_cases he:s.toList.isEmpty=true
  ·clear WS hU HW
   go_wp2_with fail
   refine (wM W1 p hp).mono ?_
   rintro e w2 ⟨rfl,rfl⟩
   obtain ⟨W1,rfl⟩:∃ W1,W1=w2:=⟨_,rfl⟩
   cases hfa:ii p with
   | true=>
    have HE:Hid (iG W C V p=C p):=by unfold Hid;rw [pU.out,if_pos hfa]
    clear hfa pU
    go_wp2
    go_ret
    exact ⟨by rw [HE.out];rfl,HB.out⟩
   | false=>
    have HE:Hid (iG W C V p=dE p):=by unfold Hid;rw [pU.out,if_neg (by rw [hfa];decide)]
    clear hfa pU
    go_wp2_with fail
    refine (km W1 p hp).mono ?_
    rintro e w2 ⟨rfl,rfl⟩
    go_wp2
    go_ret
    exact ⟨by rw [HE.out];rfl,HB.out⟩
  ·have xB:s.toList.isEmpty=false:=by simpa using he
   have G7:(s.toList==[117])=true:=by rw [xB] at WS;simpa using WS
   clear WS hU HW he
   go_wp2_with fail
   refine (wM W1 p hp).mono ?_
   rintro e w2 ⟨rfl,rfl⟩
   obtain ⟨W1,rfl⟩:∃ W1,W1=w2:=⟨_,rfl⟩
   cases hfa:ii p with
   | true=>
    have HE:Hid (iG W C V p=C p):=by unfold Hid;rw [pU.out,if_pos hfa]
    clear hfa pU
    go_wp2
    go_ret
    exact ⟨by rw [HE.out];rfl,HB.out⟩
   | false=>
    have HE:Hid (iG W C V p=dE p):=by unfold Hid;rw [pU.out,if_neg (by rw [hfa];decide)]
    clear hfa pU
    go_wp2_with fail
    refine (km W1 p hp).mono ?_
    rintro e w2 ⟨rfl,rfl⟩
    go_wp2
    go_ret
    exact ⟨by rw [HE.out];rfl,HB.out⟩
 ·have h0:0<s.size:=by omega
  have ye:bt s 0≠117:=fun e=>hU (Or.inr e)
  have xB:=fR s h0
  have G7:(s.toList==[117])=false:=by rw [Bq s h0];exact decide_eq_false (fun x=>ye x.2)
  have MR:Hid (iG W C V p=if bt s 0=105 then C p else if bt s 0=114 then dE p else if bt s 0=36 then (if bx W p 9 p=true then C p else V ((eh (bt s 1)).getD 0)) else (i9 s s.size:Int)):=by unfold Hid;rw [HW.out,if_neg hU]
  have mr:(s[0].toNat:Int)=(bt s 0:Int):=by rw [bq s 0 h0]
  have Rk:Hid (bt s 0≠117):=ye
  clear hU HW ye
  by_cases h105:bt s 0=105
  ·have QR:((bt s 0:Int)==105)=true:=by simp [h105]
   have HE:Hid (iG W C V p=C p):=by unfold Hid;rw [MR.out,if_pos h105]
   clear h105 MR
   go_wp2
   go_ret
   exact ⟨by rw [HE.out];rfl,HB.out⟩
  have QR:((bt s 0:Int)==105)=false:=by rw [beq_eq_false_iff_ne];omega
  by_cases h114:bt s 0=114
  ·have SF:((bt s 0:Int)==114)=true:=by simp [h114]
   have HE:Hid (iG W C V p=dE p):=by unfold Hid;rw [MR.out,if_neg h105,if_pos h114]
   clear h105 h114 MR
   go_wp2_with fail
   refine (km W1 p hp).mono ?_
   rintro e w2 ⟨rfl,rfl⟩
   go_wp2
   go_ret
   exact ⟨by rw [HE.out];rfl,HB.out⟩
  have SF:((bt s 0:Int)==114)=false:=by rw [beq_eq_false_iff_ne];omega
  by_cases sx:bt s 0=36
  ·have UY:((bt s 0:Int)==36)=true:=by simp [sx]
   obtain ⟨h1,qq,rH,C3,hq3⟩:=HV.out.1.var h0 sx
   have oF:(s[1].toNat:Int)=(bt s 1:Int):=by rw [bq s 1 h1]
   have jl:Hid (d8 s=some qq∧eh (bt s 1)=some qq):=by
    refine ⟨?_,rH⟩
    unfold d8
    rw [if_neg (by omega),if_pos sx,rH]
   have pU:Hid (iG W C V p=if bx W p 9 p=true then C p else V qq):=by unfold Hid;rw [MR.out,if_neg h105,if_neg h114,if_pos sx,rH];rfl
   have rZ:Hid ((Tryz.prog.info? 234).map (·.size)=some cs.length):=by unfold Hid;rw [HL.out.1.len];exact Tryz.sz234
   clear h105 h114 sx MR rH
   go_wp2_with (refine wpList_load_mid rfl 234 _ rfl w.heap.size 0 rfl cs _ JB.out.1 Tryz.underlying234 rfl rZ.out ?_)
   refine (Je W1 cs.toArray W p HL.out.1.nine hp).mono ?_
   rintro e w2 ⟨rfl,dp⟩
   have ea:Hid (Below w.heap.size w w2):=HB.out.trans (dp.mono HB.out.size)
   have q3:w2.cell? ⟨w.heap.size+1,p,none⟩=some (.int .i64 (C p)):=(dp.cell (p:=⟨w.heap.size+1,p,none⟩) (by show w.heap.size+1<W1.heap.size;have:=JB.out.2.2;omega)).trans q2
   have Th:Hid (w2.rangeAt w.heap.size 0 cs∧w2.rangeAt (w.heap.size+1) 0 ci∧w.heap.size+2≤w2.heap.size):=⟨kN dp (by have:=JB.out.2.2;omega) JB.out.1,kN dp (by have:=JB.out.2.2;omega) JB.out.2.1,by have:=dp.size;have:=JB.out.2.2;omega⟩
   clear dp q1 q2
   cases zv:bx W p 9 p with
   | true=>
    have HE:Hid (iG W C V p=C p):=by unfold Hid;rw [pU.out,if_pos zv]
    clear zv pU
    go_wp2
    go_ret
    exact ⟨by rw [HE.out];rfl,ea.out⟩
   | false=>
    have HE:Hid (iG W C V p=V qq):=by unfold Hid;rw [pU.out,if_neg (by rw [zv];decide)]
    have HP:Hid (P qq):=by
     rcases HT.out with h | h | ⟨q,h,hP⟩
     ·rw [jl.out.1] at h;cases h
     ·rw [zv] at h;cases h
     ·rw [jl.out.1] at h
      injection h with h
      rw [h]
      exact hP
    have wj:Hid (w2.drew.rangeAt w.heap.size 0 cs∧w2.drew.rangeAt (w.heap.size+1) 0 ci):=⟨Th.out.1,Th.out.2.1⟩
    have Xx:Hid (Below w.heap.size w w2.drew∧w.heap.size+2≤w2.drew.heap.size):=⟨ea.out.drew,Th.out.2.2⟩
    have Zg:=Tryz.underlying234
    have Zq:=Tryz.underlying38
    have hi1:(Tryz.prog.info? 234).map (·.size)=some cs.length:=rZ.out
    have WZ:(Tryz.prog.info? 38).map (·.size)=some ci.length:=by rw [HL.out.2.len];exact Tryz.sz38
    clear zv pU q3 JB HB
    go_upto_region 15 with fail
    have HBL:Hid (∀ w3,Below w2.drew.heap.size w2.drew w3→(w3.rangeAt w.heap.size 0 cs∧w3.rangeAt (w.heap.size+1) 0 ci)∧Below w.heap.size w w3):=fun w3 eS=>⟨⟨kN eS (by have:=Xx.out.2;omega) wj.out.1,kN eS (by have:=Xx.out.2;omega) wj.out.2⟩,Xx.out.1.trans (eS.mono Xx.out.1.size)⟩
    generalize w.heap.size+1=b2 at wj HBL ⊢
    have a0:w2.drew.cell? ⟨w.heap.size,0,none⟩=some (.string (W 0)):=wj.out.1 0 _ (HL.out.1.at' 0 (by omega))
    have b0:w2.drew.cell? ⟨b2,0,none⟩=some (.int .i64 (C 0)):=wj.out.2 0 _ (HL.out.2.at' 0 (by omega))
    have a1:w2.drew.cell? ⟨w.heap.size,1,none⟩=some (.string (W 1)):=wj.out.1 1 _ (HL.out.1.at' 1 (by omega))
    have b1:w2.drew.cell? ⟨b2,1,none⟩=some (.int .i64 (C 1)):=wj.out.2 1 _ (HL.out.2.at' 1 (by omega))
    have a2:w2.drew.cell? ⟨w.heap.size,2,none⟩=some (.string (W 2)):=wj.out.1 2 _ (HL.out.1.at' 2 (by omega))
    have b2x:w2.drew.cell? ⟨b2,2,none⟩=some (.int .i64 (C 2)):=wj.out.2 2 _ (HL.out.2.at' 2 (by omega))
    have a3:w2.drew.cell? ⟨w.heap.size,3,none⟩=some (.string (W 3)):=wj.out.1 3 _ (HL.out.1.at' 3 (by omega))
    have b3:w2.drew.cell? ⟨b2,3,none⟩=some (.int .i64 (C 3)):=wj.out.2 3 _ (HL.out.2.at' 3 (by omega))
    have a4:w2.drew.cell? ⟨w.heap.size,4,none⟩=some (.string (W 4)):=wj.out.1 4 _ (HL.out.1.at' 4 (by omega))
    have b4:w2.drew.cell? ⟨b2,4,none⟩=some (.int .i64 (C 4)):=wj.out.2 4 _ (HL.out.2.at' 4 (by omega))
    have a5:w2.drew.cell? ⟨w.heap.size,5,none⟩=some (.string (W 5)):=wj.out.1 5 _ (HL.out.1.at' 5 (by omega))
    have b5:w2.drew.cell? ⟨b2,5,none⟩=some (.int .i64 (C 5)):=wj.out.2 5 _ (HL.out.2.at' 5 (by omega))
    have a6:w2.drew.cell? ⟨w.heap.size,6,none⟩=some (.string (W 6)):=wj.out.1 6 _ (HL.out.1.at' 6 (by omega))
    have b6:w2.drew.cell? ⟨b2,6,none⟩=some (.int .i64 (C 6)):=wj.out.2 6 _ (HL.out.2.at' 6 (by omega))
    have a7:w2.drew.cell? ⟨w.heap.size,7,none⟩=some (.string (W 7)):=wj.out.1 7 _ (HL.out.1.at' 7 (by omega))
    have b7:w2.drew.cell? ⟨b2,7,none⟩=some (.int .i64 (C 7)):=wj.out.2 7 _ (HL.out.2.at' 7 (by omega))
    have a8:w2.drew.cell? ⟨w.heap.size,8,none⟩=some (.string (W 8)):=wj.out.1 8 _ (HL.out.1.at' 8 (by omega))
    have b8:w2.drew.cell? ⟨b2,8,none⟩=some (.int .i64 (C 8)):=wj.out.2 8 _ (HL.out.2.at' 8 (by omega))
    have Ug:Hid (cs.toArray=#[.string (W 0),.string (W 1),.string (W 2),.string (W 3),.string (W 4),.string (W 5),.string (W 6),.string (W 7),.string (W 8)]):=BD HL.out.1
    have YE:Hid (ci.toArray=#[.int .i64 (C 0),.int .i64 (C 1),.int .i64 (C 2),.int .i64 (C 3),.int .i64 (C 4),.int .i64 (C 5),.int .i64 (C 6),.int .i64 (C 7),.int .i64 (C 8)]):=zf HL.out.2
    have Yt:Hid (∀ (w:World) (q:Nat),q<9→P q→Calls Tryz.prog 170 #[.agg #[.string (W 0),.string (W 1),.string (W 2),.string (W 3),.string (W 4),.string (W 5),.string (W 6),.string (W 7),.string (W 8)],.agg #[.int .i64 (C 0),.int .i64 (C 1),.int .i64 (C 2),.int .i64 (C 3),.int .i64 (C 4),.int .i64 (C 5),.int .i64 (C 6),.int .i64 (C 7),.int .i64 (C 8)],.int .i64 q] w fun e w'=>JH w (V q) e w'):=by
     rw [←Ug.out,←YE.out]
     exact Sz.out
    clear Zg Zq hi1 WZ
    go_cut [6] (fun nv wx=>nv=.int .i64 (V qq)∧Below w.heap.size w wx)
    case first=>
     go_region_with (first | (go_at_call 131;refine (nL _ (bt s 1)).mono ?_;rintro e w3 ⟨r,rfl,rfl,XD⟩;obtain rfl:r=qq:=(by
       have h1:=jl.out.2
       rcases XD.out with ⟨_,h2⟩ | ⟨_,h2⟩
       ·rw [h1] at h2;injection h2 with h2;exact h2.symm
       ·rw [h1] at h2;cases h2)) | (go_at_call 170;refine (Yt.out _ _ (by omega) HP.out).mono ?_;rintro e w3 ⟨rfl,eS⟩;have ri:Hid (Below w.heap.size w w3):=(HBL.out w3 eS).2))
     all_goals
      go_wp2_with fail
      go_meet
      exact ⟨rfl,ri.out⟩
    case rest=>
     obtain ⟨rfl,ri⟩:=hcut
     go_wp2
     go_ret
     exact ⟨by rw [HE.out];rfl,ri⟩
  have UY:((bt s 0:Int)==36)=false:=by rw [beq_eq_false_iff_ne];omega
  obtain ⟨h3,hdg⟩:=HV.out.2.num h0 sx h105 h114 Rk.out
  have HE:Hid (iG W C V p=(i9 s s.size:Int)):=by unfold Hid;rw [MR.out,if_neg h105,if_neg h114,if_neg sx]
  have HDG:Hid (∀ k,k<s.size→48≤bt s k∧bt s k≤57):=hdg
  clear h105 h114 sx MR hdg
  go_wp2_with fail
  go_loop [9,10] (fun nv iv=>∃ i:Nat,iv=.int .i64 i∧i≤s.size∧nv=.int .i64 (i9 s i:Nat)) (fun _ iv=>s.size - (intOf iv).toNat)
  case atStart=>exact ⟨0,rfl,Nat.zero_le _,rfl⟩
  case round=>
   obtain ⟨i,rfl,jC,rfl⟩:=hrel
   by_cases aN:i<s.size
   ·have hd:decide ((i:Int)<(s.size:Int))=true:=by simp;omega
    have hbi:(s[i].toNat:Int)=(bt s i:Int):=by rw [bq s i aN]
    obtain ⟨PK,hhi⟩:=HDG.out i aN
    have Qy:=Lw s i (by omega) (fun k hk=>(HDG.out k (by omega)).2)
    have HDS:Hid (i9 s (i+1)=i9 s i*10+(bt s i - 48)):=rfl
    generalize i9 s i=n0 at Qy HDS ⊢
    go_wp2
    go_round
    case rel=>exact ⟨i+1,by go_num,by omega,by rw [HDS.out];go_num⟩
    case measure=>simp [intOf];omega
   ·have hd:decide ((i:Int)<(s.size:Int))=false:=by simp;omega
    obtain rfl:i=s.size:=by omega
    go_wp2
    go_ret
    exact ⟨by rw [HE.out];rfl,HB.out⟩
theorem xT (cs ci:List Value) (W:Nat→ByteArray) (C:Nat→Int) (h:NineL cs W) (hC:oo ci C):∀ (f:Nat) (w:World) (p:Nat),p<9→uW W f p→
  Calls Tryz.prog 170 #[.agg cs.toArray,.agg ci.toArray,.int .i64 p] w fun e w'=>JH w (ct W C (f+1) p) e w'
 | 0,w,p,hp,ht=>tc cs ci W C (ct W C 0) (fun _=>False) h hC (fun _ _ _ hF=>hF.elim) w p hp (ht.imp id Or.inl)
 | f+1,w,p,hp,ht=>tc cs ci W C (ct W C (f+1)) (uW W f) h hC (fun w q hq hP=>xT cs ci W C h hC f w q hq hP) w p hp ht
end Go.Proofs.YtblfffbmklkhmaaGreat
namespace Go.Proofs.YtblfffbmklkhmaaGreat
theorem kZ {s:ByteArray} (h:ng s) {q:Nat} (hn:d8 s=some q):6≤q∧q<9:=by
 unfold d8 at hn
 split at hn
 ·cases hn
 ·rename_i h0
  split at hn
  ·rename_i sx
   obtain ⟨_,q',h1,h2,h3⟩:=h.var (by omega) sx
   rw [hn] at h1
   injection h1 with h1
   omega
  ·cases hn
theorem sV {W:Nat→ByteArray} {v:Nat} (h:d8 (W v)=some v) (n:Nat):bx W v (n+1) v=true:=by
 unfold bx
 rw [h]
 simp
theorem z9 {W:Nat→ByteArray} {v a:Nat} (h:d8 (W v)=some a) (h2:d8 (W a)=some v) (n:Nat):bx W v (n+2) v=true:=by
 unfold bx
 rw [h]
 show (if a=v then true else bx W v (n+1) a)=true
 split
 ·rfl
 ·unfold bx
  rw [h2]
  simp
theorem CF {W:Nat→ByteArray} {v a b:Nat} (h:d8 (W v)=some a) (h2:d8 (W a)=some b) (h3:d8 (W b)=some v) (n:Nat):bx W v (n+3) v=true:=by
 unfold bx
 rw [h]
 show (if a=v then true else bx W v (n+2) a)=true
 split
 ·rfl
 ·unfold bx
  rw [h2]
  show (if b=v then true else bx W v (n+1) b)=true
  split
  ·rfl
  ·unfold bx
   rw [h3]
   simp
theorem FV {W:Nat→ByteArray} (hW:∀ i,i<9→ng (W i)) {p:Nat} (hp:p<9):uW W 3 p:=by
 cases ha:d8 (W p) with
 | none=>exact Or.inl ha
 | some a=>
  obtain ⟨a1,a2⟩:=kZ (hW p hp) ha
  refine Or.inr (Or.inr ⟨a,ha,?_⟩)
  cases hb:d8 (W a) with
  | none=>exact Or.inl hb
  | some b=>
   obtain ⟨b1,b2⟩:=kZ (hW a a2) hb
   by_cases IZ:b=a
   ·subst IZ
    exact Or.inr (Or.inl (sV hb 8))
   ·refine Or.inr (Or.inr ⟨b,hb,?_⟩)
    cases hc:d8 (W b) with
    | none=>exact Or.inl hc
    | some c=>
     obtain ⟨c1,c2⟩:=kZ (hW b b2) hc
     by_cases zo:c=b
     ·subst zo
      exact Or.inr (Or.inl (sV hc 8))
     ·by_cases hca:c=a
      ·subst hca
       exact Or.inr (Or.inl (z9 hc hb 7))
      ·refine Or.inr (Or.inr ⟨c,hc,?_⟩)
       cases hd:d8 (W c) with
       | none=>exact Or.inl hd
       | some d=>
        obtain ⟨d1,d2⟩:=kZ (hW c c2) hd
        right
        have:d=a∨d=b∨d=c:=by omega
        rcases this with rfl | rfl | rfl
        ·exact CF hd hb hc 6
        ·exact z9 hd hc 7
        ·exact sV hd 8
end Go.Proofs.YtblfffbmklkhmaaGreat
