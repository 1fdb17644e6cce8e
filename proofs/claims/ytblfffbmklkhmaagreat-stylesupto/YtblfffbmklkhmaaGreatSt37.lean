import Derived.Test.YtblfffbmklkhmaaGreatSt36
import Derived.Test.YtblfffbmklkhmaaGreatSt19
import Derived.Laws.IdiomStrings
import Derived.Laws.AppendOwnNone
import Derived.Test.YtblfffbmklkhmaaGreatSt22
import Derived.Test.YtblfffbmklkhmaaGreatSt15
import Derived.Test.YtblfffbmklkhmaaGreatSt35
namespace Go.Proofs.YtblfffbmklkhmaaGreat
open Go.RowKit
def aF (W:List Clm):List Value:=W.flatMap Clm.cells
theorem fP (W:List Clm):(aF W).length=W.length*7:=by
 induction W with
 | nil=>rfl
 | cons x l ih=>
  unfold aF at ih ⊢
  rw [List.flatMap_cons,List.length_append,ih,List.length_cons]
  show 7+_=_
  omega
theorem eG {W:List Clm} {i j:Nat} (hi:i<W.length) (hj:j<7):(aF W)[i*7+j]?=W[i].cells[j]?:=by
 induction W generalizing i with
 | nil=>simp at hi
 | cons x l ih=>
  have h1:x.cells.length=7:=rfl
  unfold aF
  rw [List.flatMap_cons]
  cases i with
  | zero=>
   rw [List.getElem?_append_left (by omega)]
   simp
  | succ i=>
   rw [List.getElem?_append_right (by omega),h1,show (i+1)*7+j - 7=i*7+j from by omega]
   have:=ih (i:=i) (by simpa using hi)
   unfold aF at this
   rw [this]
   simp
def fw (W:List Clm):Prop:=W.length=9∧∀ c∈W,0≤c.va∧c.va≤255
def sw (w:World) (r:Option Nat) (e:Ending) (w':World):Prop:=e=.returned (.tuple #[.int .i64 ((r.getD 0:Nat):Int),.bool r.isSome])∧Below w.heap.size w w'
theorem yh (w:World) (C:Array Value) (t:TypeId) {k:Nat} {v:Value} (h:C[k]?=some v):(w.alloc (.cells C t)).cell? ⟨w.heap.size,k,none⟩=some v:=by
 rw [cell_of_row _ _ k C t (0,0) (heap_alloc_new w _)]
 exact h
section
set_option maxRecDepth 100000
set_option maxHeartbeats 4000000
variable (w:World)
theorem kA (p:Int) (hp:0≤p∧p≤255):Calls Tryz.prog 154 #[.int .u8 p] w fun e w'=>sw w (bj p) e w':=by
 obtain ⟨FJ,Xq⟩:=hp
 by_cases h1:65≤p
 ·by_cases h2:p<71
  ·have HR:Hid (sw w (bj p) (.returned (.tuple #[.int .i64 (p - 65),.bool true])) w):=by
    unfold bj
    rw [if_pos ⟨h1,h2⟩]
    refine ⟨?_,Below.refl _ _⟩
    have:(((p - 65).toNat:Nat):Int)=p - 65:=by omega
    show _=Ending.returned (.tuple #[.int .i64 (((p - 65).toNat:Nat):Int),.bool true])
    rw [this]
   have d1:decide (65≤p)=true:=by simpa using h1
   have d2:decide (p<71)=true:=by simpa using h2
   go_enter Tryz.func154,Tryz.ntmps154
   go_wp2
   go_ret2
   exact HR.out
  ·have d1:decide (65≤p)=true:=by simpa using h1
   have d2:decide (p<71)=false:=by simpa using h2
   by_cases h3:88≤p
   ·have d3:decide (88≤p)=true:=by simpa using h3
    by_cases h4:p<91
    ·have d4:decide (p<91)=true:=by simpa using h4
     have HR:Hid (sw w (bj p) (.returned (.tuple #[.int .i64 (6+(p - 88)),.bool true])) w):=by
      unfold bj
      rw [if_neg (by omega),if_pos ⟨h3,h4⟩]
      refine ⟨?_,Below.refl _ _⟩
      have:((6+(p - 88).toNat:Nat):Int)=6+(p - 88):=by omega
      show _=Ending.returned (.tuple #[.int .i64 ((6+(p - 88).toNat:Nat):Int),.bool true])
      rw [this]
     go_enter Tryz.func154,Tryz.ntmps154
     go_wp2
     go_ret2
     exact HR.out
    ·have d4:decide (p<91)=false:=by simpa using h4
     have HR:Hid (sw w (bj p) (.returned (.tuple #[.int .i64 0,.bool false])) w):=by
      unfold bj
      rw [if_neg (by omega),if_neg (by omega)]
      exact ⟨rfl,Below.refl _ _⟩
     go_enter Tryz.func154,Tryz.ntmps154
     go_wp2
     go_ret2
     exact HR.out
   ·have d3:decide (88≤p)=false:=by simpa using h3
    have HR:Hid (sw w (bj p) (.returned (.tuple #[.int .i64 0,.bool false])) w):=by
     unfold bj
     rw [if_neg (by omega),if_neg (by omega)]
     exact ⟨rfl,Below.refl _ _⟩
    go_enter Tryz.func154,Tryz.ntmps154
    go_wp2
    go_ret2
    exact HR.out
 ·have d1:decide (65≤p)=false:=by simpa using h1
  have d3:decide (88≤p)=false:=by simp;omega
  have HR:Hid (sw w (bj p) (.returned (.tuple #[.int .i64 0,.bool false])) w):=by
   unfold bj
   rw [if_neg (by omega),if_neg (by omega)]
   exact ⟨rfl,Below.refl _ _⟩
  go_enter Tryz.func154,Tryz.ntmps154
  go_wp2
  go_ret2
  exact HR.out
def ir (s:ByteArray):Option Nat:=if s.size=1 then bj (bt s 0) else none
theorem vV (s:ByteArray):Calls Tryz.prog 114 #[.string s] w fun e w'=>sw w (ir s) e w':=by
 by_cases h1:s.size=1
 ·have HP:Hid (ir s=bj (bt s 0)):=by unfold Hid ir;rw [if_pos h1]
  have g1:((s.size:Int) != 1)=false:=by simp [h1]
  have hb:bt s 0<256:=xH s 0
  have h0:0<s.size:=by omega
  have hq:s[0].toNat=bt s 0:=by unfold bt;simp [h0]
  clear h1
  go_enter Tryz.func114,Tryz.ntmps114
  go_wp2_with fail
  refine (kA w (bt s 0) ⟨by omega,by omega⟩).mono ?_
  rintro e w1 ⟨rfl,hB⟩
  have HR:Hid (sw w (ir s) (.returned (.tuple #[.int .i64 (((bj (bt s 0)).getD 0:Nat):Int),.bool (bj (bt s 0)).isSome])) w1):=by unfold Hid;rw [HP.out];exact ⟨rfl,hB⟩
  clear hB HP hq
  generalize (bj (bt s 0)).getD 0=r at HR ⊢
  generalize (bj (bt s 0)).isSome=r2 at HR ⊢
  go_wp2
  go_ret2
  exact HR.out
 ·have HP:Hid (sw w (ir s) (.returned (.tuple #[.int .i64 0,.bool false])) w):=by unfold Hid ir;rw [if_neg h1];exact ⟨rfl,Below.refl _ _⟩
  have g1:((s.size:Int) != 1)=true:=by simp;omega
  clear h1
  go_enter Tryz.func114,Tryz.ntmps114
  go_wp2
  go_ret2
  exact HP.out
theorem Hk (p:Nat):Calls Tryz.prog 197 #[.int .i64 p] w fun e w'=>bh w (kW p) e w':=by
 by_cases h1:p<3
 ·have d1:decide ((p:Int)<3)=true:=by simp;omega
  have HR:Hid (bh w (kW p) (.returned (.bool true)) w):=⟨by unfold kW;rw [decide_eq_true (by omega)],Below.refl _ _⟩
  clear h1
  go_enter Tryz.func197,Tryz.ntmps197
  go_wp2
  go_ret
  exact HR.out
 ·have d1:decide ((p:Int)<3)=false:=by simp;omega
  by_cases h2:6≤p
  ·have d2:decide ((6:Int)≤p)=true:=by simp;omega
   have HR:Hid (bh w (kW p) (.returned (.bool true)) w):=⟨by unfold kW;rw [decide_eq_true (by omega)],Below.refl _ _⟩
   clear h1 h2
   go_enter Tryz.func197,Tryz.ntmps197
   go_wp2
   go_ret
   exact HR.out
  ·have d2:decide ((6:Int)≤p)=false:=by simp;omega
   have HR:Hid (bh w (kW p) (.returned (.bool false)) w):=⟨by unfold kW;rw [decide_eq_false (by omega)],Below.refl _ _⟩
   clear h1 h2
   go_enter Tryz.func197,Tryz.ntmps197
   go_wp2
   go_ret
   exact HR.out
theorem DW (th im:Bool) (ly wt kd nu va:Int) (MQ F9:Bool) (AY EF Gn FZ Hd:Int):Calls Tryz.prog 196 #[.agg #[.bool th,.bool im,.int .i64 ly,.int .i64 wt,.int .i64 kd,.int .i64 nu,.int .u8 va],.agg #[.bool MQ,.bool F9,.int .i64 AY,.int .i64 EF,.int .i64 Gn,.int .i64 FZ,.int .u8 Hd]] w fun e w'=>bh w (fX ⟨th,im,ly,wt,kd,nu,va⟩ ⟨MQ,F9,AY,EF,Gn,FZ,Hd⟩) e w':=by
 have HB:Hid (Below w.heap.size w ((w.alloc (.cells #[.bool th,.bool im,.int .i64 ly,.int .i64 wt,.int .i64 kd,.int .i64 nu,.int .u8 va] 221)).alloc (.cells #[.bool MQ,.bool F9,.int .i64 AY,.int .i64 EF,.int .i64 Gn,.int .i64 FZ,.int .u8 Hd] 221))):=((Below.refl _ _).alloc (Nat.le_refl _) _).alloc (by simp) _
 cases MQ with
 | false=>
  have HR:Hid (bh w (fX ⟨th,im,ly,wt,kd,nu,va⟩ ⟨false,F9,AY,EF,Gn,FZ,Hd⟩) (.returned (.bool true)) _):=⟨rfl,HB.out⟩
  go_enter Tryz.func196,Tryz.ntmps196
  go_wp2
  go_ret
  exact HR.out
 | true=>
  by_cases hi:im=F9
  ·subst hi
   by_cases hl:ly=AY
   ·have HR:Hid (bh w (fX ⟨th,im,ly,wt,kd,nu,va⟩ ⟨true,im,AY,EF,Gn,FZ,Hd⟩) (.returned (.bool (decide (EF≤wt)))) _):=⟨by unfold fX;simp [hl],HB.out⟩
    have gl:(ly != AY)=false:=by simp [hl]
    have gi:(im != im)=false:=by cases im<;>rfl
    clear hl
    go_enter Tryz.func196,Tryz.ntmps196
    go_wp2
    go_ret
    exact HR.out
   ·have HR:Hid (bh w (fX ⟨th,im,ly,wt,kd,nu,va⟩ ⟨true,im,AY,EF,Gn,FZ,Hd⟩) (.returned (.bool (decide (ly<AY)==im))) _):=⟨by unfold fX;simp [hl],HB.out⟩
    have gl:(ly != AY)=true:=by simp [hl]
    have gi:(im != im)=false:=by cases im<;>rfl
    clear hl
    go_enter Tryz.func196,Tryz.ntmps196
    go_wp2
    go_ret
    exact HR.out
  ·have HR:Hid (bh w (fX ⟨th,im,ly,wt,kd,nu,va⟩ ⟨true,F9,AY,EF,Gn,FZ,Hd⟩) (.returned (.bool im)) _):=⟨by unfold fX;simp [hi],HB.out⟩
   cases im<;>cases F9
   ·exact absurd rfl hi
   ·clear hi
    go_enter Tryz.func196,Tryz.ntmps196
    go_wp2
    go_ret
    exact HR.out
   ·clear hi
    go_enter Tryz.func196,Tryz.ntmps196
    go_wp2
    go_ret
    exact HR.out
   ·exact absurd rfl hi
theorem qw (W:List Clm) (hF:fw W) (p:Nat) (hp:p<9):Calls Tryz.prog 184 #[.agg (aF W).toArray,.int .i64 p] w fun e w'=>sw w (bA W p) e w':=by
 have hW:=hF.1
 have hv:=hF.2 (W[p]'(by omega)) (List.getElem_mem _)
 have HB:Hid (Below w.heap.size w (w.alloc (.cells (aF W).toArray 223))):=(Below.refl _ _).alloc (Nat.le_refl _) _
 have q0:(w.alloc (.cells (aF W).toArray 223)).cell? ⟨w.heap.size,p*7+4,none⟩=some (.int .i64 W[p].kd):=yh w _ _ (by rw [List.getElem?_toArray,eG (by omega) (by omega)];rfl)
 have q1:(w.alloc (.cells (aF W).toArray 223)).cell? ⟨w.heap.size,p*7+4+2,none⟩=some (.int .u8 W[p].va):=yh w _ _ (by rw [List.getElem?_toArray,show p*7+4+2=p*7+6 from rfl,eG (by omega) (by omega)];rfl)
 have HN:Hid (bA W p=if W[p].kd=5 then bj W[p].va else none):=by unfold Hid bA;rw [List.getD_eq_getElem?_getD,List.getElem?_eq_getElem (by omega)];rfl
 have kL:(p:Int)<9:=by omega
 clear hF
 generalize W[p].kd=kd at q0 HN
 generalize W[p].va=va at q1 HN hv
 generalize (aF W).toArray=C at q0 q1 HB ⊢
 by_cases hk:kd=5
 ·have eL:Hid (bA W p=bj va):=by unfold Hid;rw [HN.out,if_pos hk]
  have gk:(kd != 5)=false:=by simp [hk]
  clear hk HN
  go_enter Tryz.func184,Tryz.ntmps184
  go_wp2_with fail
  refine (kA _ va hv).mono ?_
  rintro e w1 ⟨rfl,hB⟩
  have HR:Hid (sw w (bA W p) (.returned (.tuple #[.int .i64 (((bj va).getD 0:Nat):Int),.bool (bj va).isSome])) w1):=by unfold Hid;rw [eL.out];exact ⟨rfl,HB.out.trans (hB.mono (by simp))⟩
  clear hB eL
  generalize (bj va).getD 0=r at HR ⊢
  generalize (bj va).isSome=r2 at HR ⊢
  go_wp2
  go_ret2
  exact HR.out
 ·have HR:Hid (sw w (bA W p) (.returned (.tuple #[.int .i64 0,.bool false])) (w.alloc (.cells C 223))):=by unfold Hid;rw [HN.out,if_neg hk];exact ⟨rfl,HB.out⟩
  have gk:(kd != 5)=true:=by simp [hk]
  clear hk HN
  go_enter Tryz.func184,Tryz.ntmps184
  go_wp2
  go_ret2
  exact HR.out
end
end Go.Proofs.YtblfffbmklkhmaaGreat
namespace Go.Proofs.YtblfffbmklkhmaaGreat
open Go.RowKit
def bP (T:aA) (n:Int) (s:ByteArray):Int:=match bn T n with | none=>5 | some _=>match ir s with | none=>4 | some _=>0
def jn (T:aA) (M:Nat→Mk) (rs:List cQ) (n:Int) (s:ByteArray):Int:=if bP T n s=0 then (dj (aY T M) rs n).getD ((ir s).getD 0) 0 else 0
structure UQ (DS:World→Value→aA→Nat→(Nat→Mk)→List cQ→(Nat→Prop)→Prop):Prop where
 ptr:∀ {w px T made M rs F},DS w px T made M rs F→∃ a,px=.pointer (some a)
 tw:∀ {w px T made M rs F},DS w px T made M rs F→TW T made
 mark:∀ {w px T made M M' rs F},DS w px T made M rs F→(∀ k l,(k,l)∈T→M k=M' k)→DS w px T made M' rs F
 keep:∀ {w w' px T made M rs F},DS w px T made M rs F→(∀ k,F k→k<w.heap.size→w'.heap[k]?=w.heap[k]?)→w.heap.size≤w'.heap.size→DS w' px T made M rs F
 here:∀ {w px T made M rs F},DS w px T made M rs F→DS w px T made M rs (fun k=>F k∧k<w.heap.size)
 new:∀ (w:World) (s root:ByteArray),s.size≤maxLen→Calls Tryz.prog 24 #[.string s,.string root] w fun e w'=>
  Below w.heap.size w w'∧((dH s root≠0∧e=.returned (.tuple #[.pointer none,.int .i64 (dH s root)]))∨(dH s root=0∧∃ px,e=.returned (.tuple #[px,.int .i64 0])∧DS w' px [(0,[])] 1 (fun _=>dK root) (dQ s) (fun k=>w.heap.size≤k)))
 ins:∀ (w:World) (px:Value) (T:aA) (made:Nat) (M:Nat→Mk) (rs:List cQ) (F:Nat→Prop) (par at':Int) (kind:ByteArray),DS w px T made M rs F→made≤4611686018427387904→Calls Tryz.prog 36 #[px,.int .i64 par,.int .i64 at',.string kind] w fun e w'=>
  ∃ y T' made' n,e=.returned (.tuple #[.int .i64 n,.int .i64 y])∧TIns T made par at' kind y T' made' n∧DS w' px T' made' (if y=0 then bQ M made (dK kind) else M) rs (bu F w)∧Fr w w' F
 rem:∀ (w:World) (px:Value) (T:aA) (made:Nat) (M:Nat→Mk) (rs:List cQ) (F:Nat→Prop) (n:Int),DS w px T made M rs F→Calls Tryz.prog 116 #[px,.int .i64 n] w fun e w'=>
  ∃ y T',e=.returned (.int .i64 y)∧TRem T n y T'∧DS w' px T' made M rs (bu F w)∧Fr w w' F
 mov:∀ (w:World) (px:Value) (T:aA) (made:Nat) (M:Nat→Mk) (rs:List cQ) (F:Nat→Prop) (n m at':Int),DS w px T made M rs F→Calls Tryz.prog 119 #[px,.int .i64 n,.int .i64 m,.int .i64 at'] w fun e w'=>
  ∃ y T',e=.returned (.int .i64 y)∧TMov T n m at' y T'∧DS w' px T' made M rs (bu F w)∧Fr w w' F
 cls:∀ (w:World) (px:Value) (T:aA) (made:Nat) (M:Nat→Mk) (rs:List cQ) (F:Nat→Prop) (n:Int) (s:ByteArray) (on:Bool),DS w px T made M rs F→Calls Tryz.prog 46 #[px,.int .i64 n,.string s,.bool on] w fun e w'=>
  ∃ y,e=.returned (.int .i64 y)∧y=bK T n s∧DS w' px T made (if y=0 then bQ M n.toNat (jz (M n.toNat) s on) else M) rs (bu F w)∧Fr w w' F
 nam:∀ (w:World) (px:Value) (T:aA) (made:Nat) (M:Nat→Mk) (rs:List cQ) (F:Nat→Prop) (n:Int) (s:ByteArray),DS w px T made M rs F→Calls Tryz.prog 21 #[px,.int .i64 n,.string s] w fun e w'=>
  ∃ y,e=.returned (.int .i64 y)∧y=bM T n s∧DS w' px T made (if y=0 then bQ M n.toNat (fy (M n.toNat) s) else M) rs (bu F w)∧Fr w w' F
 sht:∀ (w:World) (px:Value) (T:aA) (made:Nat) (M:Nat→Mk) (rs:List cQ) (F:Nat→Prop) (s:ByteArray),s.size≤maxLen→DS w px T made M rs F→Calls Tryz.prog 28 #[px,.string s] w fun e w'=>
  ∃ y,e=.returned (.int .i64 y)∧y=(fa s).1∧DS w' px T made M (if y=0 then dQ s else rs) (bu F w)∧Fr w w' F
 qry:∀ (w:World) (px:Value) (T:aA) (made:Nat) (M:Nat→Mk) (rs:List cQ) (F:Nat→Prop) (n:Int) (s:ByteArray),DS w px T made M rs F→Calls Tryz.prog 37 #[px,.int .i64 n,.string s] w fun e w'=>
  e=.returned (.tuple #[.int .i64 (jn T M rs n s),.int .i64 (bP T n s)])∧DS w' px T made M rs (bu F w)∧Fr w w' F
section
variable {made:Nat} {b:Nat}
end
end Go.Proofs.YtblfffbmklkhmaaGreat
namespace Go.Proofs.YtblfffbmklkhmaaGreat
open Go.RowKit
structure YS where
 T:aA
 made:Nat
 M:Nat→Mk
 shn:Nat→Bool
 rs:List cQ
theorem YS.same {X Y:YS} (h1:X.T=Y.T) (h2:X.made=Y.made) (h3:X.M=Y.M) (h4:X.shn=Y.shn) (h5:X.rs=Y.rs):X=Y:=by
 cases X;cases Y
 cases h1;cases h2;cases h3;cases h4;cases h5
 rfl
def YIns (X:YS) (par at':Int) (kind:ByteArray) (y:Int) (X':YS) (n:Int):Prop:=
 TIns X.T X.made par at' kind y X'.T X'.made n∧X'.M=(if y=0 then bQ X.M X.made (dK kind) else X.M)∧X'.shn=(if y=0 then BS X.shn X.made false else X.shn)∧X'.rs=X.rs
def YRem (X:YS) (n:Int) (y:Int) (X':YS):Prop:=TRem X.T n y X'.T∧X'.made=X.made∧X'.M=X.M∧X'.shn=X.shn∧X'.rs=X.rs
def YMov (X:YS) (n m at':Int) (y:Int) (X':YS):Prop:=TMov X.T n m at' y X'.T∧X'.made=X.made∧X'.M=X.M∧X'.shn=X.shn∧X'.rs=X.rs
def dN (X:YS) (n:Int) (s:ByteArray) (on:Bool):YS:=if bK X.T n s=0 then {X with M:=bQ X.M n.toNat (jz (X.M n.toNat) s on)} else X
def dM (X:YS) (n:Int) (s:ByteArray):YS:=if bM X.T n s=0 then {X with M:=bQ X.M n.toNat (fy (X.M n.toNat) s)} else X
def gE (X:YS) (s:ByteArray):YS:=if (fa s).1=0 then {X with rs:=dQ s} else X
theorem YIns.one {X:YS} {par at':Int} {kind:ByteArray} {y y':Int} {U U':YS} {n n':Int} (h:YIns X par at' kind y U n) (h':YIns X par at' kind y' U' n'):y=y'∧U=U'∧n=n':=by
 obtain ⟨e1,e2,e3,e4⟩:=h.1.one h'.1
 subst e1
 exact ⟨rfl,YS.same e2 e3 (h.2.1.trans h'.2.1.symm) (h.2.2.1.trans h'.2.2.1.symm) (h.2.2.2.trans h'.2.2.2.symm),e4⟩
theorem YRem.one {X:YS} {n:Int} {y y':Int} {U U':YS} (h:YRem X n y U) (h':YRem X n y' U'):y=y'∧U=U':=by
 obtain ⟨e1,e2⟩:=h.1.one h'.1
 exact ⟨e1,YS.same e2 (h.2.1.trans h'.2.1.symm) (h.2.2.1.trans h'.2.2.1.symm) (h.2.2.2.1.trans h'.2.2.2.1.symm) (h.2.2.2.2.trans h'.2.2.2.2.symm)⟩
theorem YMov.one {X:YS} {n m at':Int} {y y':Int} {U U':YS} (h:YMov X n m at' y U) (h':YMov X n m at' y' U'):y=y'∧U=U':=by
 obtain ⟨e1,e2⟩:=h.1.one h'.1
 exact ⟨e1,YS.same e2 (h.2.1.trans h'.2.1.symm) (h.2.2.1.trans h'.2.2.1.symm) (h.2.2.2.1.trans h'.2.2.2.1.symm) (h.2.2.2.2.trans h'.2.2.2.2.symm)⟩
inductive ft where
 | ins (par y:Int)
 | rem (n y:Int)
 | mov (n m y:Int)
 | cls (n:Int) (s:ByteArray) (on:Bool)
 | nam (n:Int) (s:ByteArray)
 | sht (s:ByteArray)
 | qry (n:Int) (s:ByteArray)
def A5 (w:World) (T:aA) (n:Int) (e:Ending) (w':World):Prop:=
 Below w.heap.size w w'∧((bn T n=none∧e=.returned (.tuple #[.slice none 0 0,.int .i64 5]))∨(∃ l a c,bn T n=some l∧e=.returned (.tuple #[.slice a l.length c,.int .i64 0])∧w'.ownsRow w.heap.size 3 1 (.slice a l.length c) l.length (aK l)))
structure bi (PS:World→Value→YS→List Nat→(Nat→Prop)→Prop) (Q:ft→YS→List Nat→YS→List Nat→Prop):Prop where
 ptr:∀ {w px X st F},PS w px X st F→∃ a,px=.pointer (some a)
 keep:∀ {w w' px X st F},PS w px X st F→(∀ k,F k→k<w.heap.size→w'.heap[k]?=w.heap[k]?)→w.heap.size≤w'.heap.size→PS w' px X st F
 here:∀ {w px X st F},PS w px X st F→PS w px X st (fun k=>F k∧k<w.heap.size)
 new:∀ (w:World) (s root:ByteArray),s.size≤maxLen→Calls Tryz.prog 24 #[.string s,.string root] w fun e w'=>
  Below w.heap.size w w'∧((dH s root≠0∧e=.returned (.tuple #[.pointer none,.int .i64 (dH s root)]))∨(dH s root=0∧∃ px,e=.returned (.tuple #[px,.int .i64 0])∧PS w' px ⟨[(0,[])],1,fun _=>dK root,fun _=>false,dQ s⟩ [0] (fun k=>w.heap.size≤k)))
 ins:∀ (w:World) (px:Value) (X:YS) (st:List Nat) (F:Nat→Prop) (par at':Int) (kind:ByteArray),PS w px X st F→X.made≤1099511627776→Calls Tryz.prog 36 #[px,.int .i64 par,.int .i64 at',.string kind] w fun e w'=>
  ∃ y X' fQ n,e=.returned (.tuple #[.int .i64 n,.int .i64 y])∧YIns X par at' kind y X' n∧Q (.ins par y) X st X' fQ∧PS w' px X' fQ (bu F w)∧Fr w w' F
 rem:∀ (w:World) (px:Value) (X:YS) (st:List Nat) (F:Nat→Prop) (n:Int),PS w px X st F→Calls Tryz.prog 116 #[px,.int .i64 n] w fun e w'=>
  ∃ y X' fQ,e=.returned (.int .i64 y)∧YRem X n y X'∧Q (.rem n y) X st X' fQ∧PS w' px X' fQ (bu F w)∧Fr w w' F
 mov:∀ (w:World) (px:Value) (X:YS) (st:List Nat) (F:Nat→Prop) (n m at':Int),PS w px X st F→Calls Tryz.prog 119 #[px,.int .i64 n,.int .i64 m,.int .i64 at'] w fun e w'=>
  ∃ y X' fQ,e=.returned (.int .i64 y)∧YMov X n m at' y X'∧Q (.mov n m y) X st X' fQ∧PS w' px X' fQ (bu F w)∧Fr w w' F
 chi:∀ (w:World) (px:Value) (X:YS) (st:List Nat) (F:Nat→Prop) (n:Int),PS w px X st F→Calls Tryz.prog 91 #[px,.int .i64 n] w fun e w'=>A5 w X.T n e w'
 cls:∀ (w:World) (px:Value) (X:YS) (st:List Nat) (F:Nat→Prop) (n:Int) (s:ByteArray) (on:Bool),PS w px X st F→Calls Tryz.prog 46 #[px,.int .i64 n,.string s,.bool on] w fun e w'=>
  ∃ fQ,e=.returned (.int .i64 (bK X.T n s))∧Q (.cls n s on) X st (dN X n s on) fQ∧PS w' px (dN X n s on) fQ (bu F w)∧Fr w w' F
 nam:∀ (w:World) (px:Value) (X:YS) (st:List Nat) (F:Nat→Prop) (n:Int) (s:ByteArray),PS w px X st F→Calls Tryz.prog 21 #[px,.int .i64 n,.string s] w fun e w'=>
  ∃ fQ,e=.returned (.int .i64 (bM X.T n s))∧Q (.nam n s) X st (dM X n s) fQ∧PS w' px (dM X n s) fQ (bu F w)∧Fr w w' F
 sht:∀ (w:World) (px:Value) (X:YS) (st:List Nat) (F:Nat→Prop) (s:ByteArray),s.size≤maxLen→PS w px X st F→Calls Tryz.prog 28 #[px,.string s] w fun e w'=>
  ∃ fQ,e=.returned (.int .i64 (fa s).1)∧Q (.sht s) X st (gE X s) fQ∧PS w' px (gE X s) fQ (bu F w)∧Fr w w' F
 qry:∀ (w:World) (px:Value) (X:YS) (st:List Nat) (F:Nat→Prop) (n:Int) (s:ByteArray),PS w px X st F→Calls Tryz.prog 37 #[px,.int .i64 n,.string s] w fun e w'=>
  ∃ fQ,e=.returned (.tuple #[.int .i64 (jn X.T X.M X.rs n s),.int .i64 (bP X.T n s)])∧Q (.qry n s) X st X fQ∧PS w' px X fQ (bu F w)∧Fr w w' F
structure fm where
 vm:Value
 vy:Value
 vs:Value
 cnt:Int
 held:Bool
 lm:List Nat
 ly:List Nat
 ls:List Nat
abbrev RY (w:World) (d:Nat) (Y:YS) (F:Nat→Prop):Prop:=RSd w d Y.T Y.made Y.M Y.shn Y.rs F
structure PJ2 (PS:World→Value→YS→List Nat→(Nat→Prop)→Prop) (w:World) (b:Nat) (X:YS) (st:List Nat) (Y:YS) (px:Value) (d:Nat) (K:fm) (Fp Fx Fy:Nat→Prop):Prop where
 pb:PB w b px d K.vm K.vy K.cnt K.vs K.held
 ps:PS w px X st Fx
 rs:RY w d Y Fy
 must:w.ownsRow 0 3 1 K.vm K.lm.length (aK K.lm)
 may:w.ownsRow 0 3 1 K.vy K.ly.length (aK K.ly)
 seen:w.ownsRow 0 3 1 K.vs K.ls.length (aK K.ls)
 inb:Fp b
 inm:∀ j,K.vm.ownBlock=some j→Fp j
 iny:∀ j,K.vy.ownBlock=some j→Fp j
 ins:∀ j,K.vs.ownBlock=some j→Fp j
 px:∀ k,Fp k→¬ Fx k
 py:∀ k,Fp k→¬ Fy k
 xy:∀ k,Fx k→¬ Fy k
 here:∀ k,Fp k∨Fx k∨Fy k→k<w.heap.size
section
variable {PS:World→Value→YS→List Nat→(Nat→Prop)→Prop} {Q:ft→YS→List Nat→YS→List Nat→Prop} {w:World} {b:Nat} {X Y:YS} {st:List Nat} {px:Value} {d:Nat} {K:fm} {Fp Fx Fy:Nat→Prop}
theorem PJ2.prog (hP:bi PS Q) (h:PJ2 PS w b X st Y px d K Fp Fx Fy) {w1:World} {X1:YS} {aP:List Nat} (hs:PS w1 px X1 aP (bu Fx w)) (hf:Fr w w1 Fx):PJ2 PS w1 b X1 aP Y px d K Fp (n6 Fx w w1) Fy:=by
 have kp:∀ k,Fp k→k<w.heap.size→w1.heap[k]?=w.heap[k]?:=fun k hk hl=>hf.block k hl (h.px k hk)
 refine ⟨(kp b h.inb (h.here b (Or.inl h.inb))).trans h.pb,hP.here hs,h.rs.keep (fun k hk hl=>hf.block k hl (fun x=>h.xy k x hk)) hf.size,bZ h.must (fun k hk hl=>kp k (h.inm k hk) hl),bZ h.may (fun k hk hl=>kp k (h.iny k hk) hl),bZ h.seen (fun k hk hl=>kp k (h.ins k hk) hl),h.inb,h.inm,h.iny,h.ins,fun k hk hx=>?_,h.py,fun k hx hk=>?_,fun k hk=>?_⟩
 ·rcases hx.1 with hx | hx
  ·exact h.px k hk hx
  ·have:=h.here k (Or.inl hk);omega
 ·rcases hx.1 with hx | hx
  ·exact h.xy k hx hk
  ·have:=h.here k (Or.inr (Or.inr hk));omega
 ·have:=hf.size
  rcases hk with hk | hk | hk
  ·have:=h.here k (Or.inl hk);omega
  ·exact hk.2
  ·have:=h.here k (Or.inr (Or.inr hk));omega
theorem PJ2.ref (hP:bi PS Q) (h:PJ2 PS w b X st Y px d K Fp Fx Fy) {w1:World} {Y1:YS} (hs:RY w1 d Y1 (bu Fy w)) (hf:Fr w w1 Fy):PJ2 PS w1 b X st Y1 px d K Fp Fx (n6 Fy w w1):=by
 have kp:∀ k,Fp k→k<w.heap.size→w1.heap[k]?=w.heap[k]?:=fun k hk hl=>hf.block k hl (h.py k hk)
 refine ⟨(kp b h.inb (h.here b (Or.inl h.inb))).trans h.pb,hP.keep h.ps (fun k hk hl=>hf.block k hl (h.xy k hk)) hf.size,hs.here,bZ h.must (fun k hk hl=>kp k (h.inm k hk) hl),bZ h.may (fun k hk hl=>kp k (h.iny k hk) hl),bZ h.seen (fun k hk hl=>kp k (h.ins k hk) hl),h.inb,h.inm,h.iny,h.ins,h.px,fun k hk hx=>?_,fun k hk hx=>?_,fun k hk=>?_⟩
 ·rcases hx.1 with hx | hx
  ·exact h.py k hk hx
  ·have:=h.here k (Or.inl hk);omega
 ·rcases hx.1 with hx | hx
  ·exact h.xy k hk hx
  ·have:=h.here k (Or.inr (Or.inl hk));omega
 ·have:=hf.size
  rcases hk with hk | hk | hk
  ·have:=h.here k (Or.inl hk);omega
  ·have:=h.here k (Or.inr (Or.inl hk));omega
  ·exact hk.2
theorem PJ2.pair (hP:bi PS Q) (h:PJ2 PS w b X st Y px d K Fp Fx Fy) {w1:World} (hf:Fr w w1 Fp) {K':fm} (hb:PB w1 b px d K'.vm K'.vy K'.cnt K'.vs K'.held)
  (hm:w1.ownsRow 0 3 1 K'.vm K'.lm.length (aK K'.lm)) (hy:w1.ownsRow 0 3 1 K'.vy K'.ly.length (aK K'.ly)) (hn:w1.ownsRow 0 3 1 K'.vs K'.ls.length (aK K'.ls)) (im:∀ j,K'.vm.ownBlock=some j→Fp j∨w.heap.size≤j) (iy:∀ j,K'.vy.ownBlock=some j→Fp j∨w.heap.size≤j) (is:∀ j,K'.vs.ownBlock=some j→Fp j∨w.heap.size≤j):PJ2 PS w1 b X st Y px d K' (n6 Fp w w1) Fx Fy:=by
 have fT:=hf.size
 refine ⟨hb,hP.keep h.ps (fun k hk hl=>hf.block k hl (fun x=>h.px k x hk)) hf.size,h.rs.keep (fun k hk hl=>hf.block k hl (fun x=>h.py k x hk)) hf.size,hm,hy,hn,⟨Or.inl h.inb,?_⟩,fun j hj=>⟨im j hj,(hm.lt j hj).2⟩,fun j hj=>⟨iy j hj,(hy.lt j hj).2⟩,fun j hj=>⟨is j hj,(hn.lt j hj).2⟩,fun k hk hx=>?_,fun k hk hx=>?_,h.xy,fun k hk=>?_⟩
 ·have:=h.here b (Or.inl h.inb);omega
 ·rcases hk.1 with hk | hk
  ·exact h.px k hk hx
  ·have:=h.here k (Or.inr (Or.inl hx));omega
 ·rcases hk.1 with hk | hk
  ·exact h.py k hk hx
  ·have:=h.here k (Or.inr (Or.inr hx));omega
 ·rcases hk with hk | hk | hk
  ·exact hk.2
  ·have:=h.here k (Or.inr (Or.inl hk));omega
  ·have:=h.here k (Or.inr (Or.inr hk));omega
theorem PJ2.keep (hP:bi PS Q) (h:PJ2 PS w b X st Y px d K Fp Fx Fy) {w1:World} (fT:w.heap.size≤w1.heap.size) (hk:∀ k,Fp k∨Fx k∨Fy k→w1.heap[k]?=w.heap[k]?):PJ2 PS w1 b X st Y px d K Fp Fx Fy:=
 ⟨(hk b (Or.inl h.inb)).trans h.pb,hP.keep h.ps (fun k hx _=>hk k (Or.inr (Or.inl hx))) fT,h.rs.keep (fun k hx _=>hk k (Or.inr (Or.inr hx))) fT,bZ h.must (fun k hx _=>hk k (Or.inl (h.inm k hx))),bZ h.may (fun k hx _=>hk k (Or.inl (h.iny k hx))),bZ h.seen (fun k hx _=>hk k (Or.inl (h.ins k hx))),h.inb,h.inm,h.iny,h.ins,h.px,h.py,h.xy,fun k hx=>Nat.lt_of_lt_of_le (h.here k hx) fT⟩
end
def PQ2 (PS:World→Value→YS→List Nat→(Nat→Prop)→Prop) (w0:World) (G:Nat→Prop) (w:World) (b:Nat) (X:YS) (st:List Nat) (Y:YS) (px:Value) (d:Nat) (K:fm):Prop:=
 ∃ Fp Fx Fy,PJ2 PS w b X st Y px d K Fp Fx Fy∧(∀ k,Fp k∨Fx k∨Fy k→G k∨w0.heap.size≤k)∧Fr w0 w G
section
variable {PS:World→Value→YS→List Nat→(Nat→Prop)→Prop} {Q:ft→YS→List Nat→YS→List Nat→Prop} {w0:World} {G:Nat→Prop} {w:World} {b:Nat} {X Y:YS} {st:List Nat} {px:Value} {d:Nat} {K:fm}
theorem PQ2.pb (h:PQ2 PS w0 G w b X st Y px d K):PB w b px d K.vm K.vy K.cnt K.vs K.held:=by
 obtain ⟨_,_,_,h,_⟩:=h
 exact h.pb
theorem PQ2.fr (h:PQ2 PS w0 G w b X st Y px d K):Fr w0 w G:=by
 obtain ⟨_,_,_,_,_,h⟩:=h
 exact h
theorem PQ2.must (h:PQ2 PS w0 G w b X st Y px d K):w.ownsRow 0 3 1 K.vm K.lm.length (aK K.lm):=by
 obtain ⟨_,_,_,h,_⟩:=h
 exact h.must
theorem PQ2.may (h:PQ2 PS w0 G w b X st Y px d K):w.ownsRow 0 3 1 K.vy K.ly.length (aK K.ly):=by
 obtain ⟨_,_,_,h,_⟩:=h
 exact h.may
theorem PQ2.seen (h:PQ2 PS w0 G w b X st Y px d K):w.ownsRow 0 3 1 K.vs K.ls.length (aK K.ls):=by
 obtain ⟨_,_,_,h,_⟩:=h
 exact h.seen
theorem PQ2.rs (h:PQ2 PS w0 G w b X st Y px d K):∃ F,RY w d Y F:=by
 obtain ⟨_,_,Fy,h,_⟩:=h
 exact ⟨Fy,h.rs⟩
theorem PQ2.tw (h:PQ2 PS w0 G w b X st Y px d K):TW Y.T Y.made:=by
 obtain ⟨_,h⟩:=h.rs
 exact h.tw
theorem PQ2.few (h:PQ2 PS w0 G w b X st Y px d K):Y.T.length≤24:=by
 obtain ⟨_,h⟩:=h.rs
 exact h.few
theorem PQ2.below (hP:bi PS Q) (h:PQ2 PS w0 G w b X st Y px d K) {w1:World} (hB:Below w.heap.size w w1):PQ2 PS w0 G w1 b X st Y px d K:=by
 obtain ⟨Fp,Fx,Fy,h1,h2,h3⟩:=h
 exact ⟨Fp,Fx,Fy,h1.keep hP hB.size (fun k hk=>hB.block k (h1.here k hk)),h2,h3.below hB⟩
theorem PQ2.drew (hP:bi PS Q) (h:PQ2 PS w0 G w b X st Y px d K):PQ2 PS w0 G w.drew b X st Y px d K:=h.below hP (Below.refl _ w).drew
theorem PQ2.drewN (hP:bi PS Q) (h:PQ2 PS w0 G w b X st Y px d K):∀ n,PQ2 PS w0 G (w.drewN n) b X st Y px d K
 | 0=>h
 | n+1=>(PQ2.drewN hP h n).drew hP
theorem PQ2.prog (hP:bi PS Q) (h:PQ2 PS w0 G w b X st Y px d K):∃ Fx,PS w px X st Fx∧∀ w1 X1 aP,PS w1 px X1 aP (bu Fx w)→Fr w w1 Fx→PQ2 PS w0 G w1 b X1 aP Y px d K:=by
 obtain ⟨Fp,Fx,Fy,h1,h2,h3⟩:=h
 refine ⟨Fx,h1.ps,fun w1 X1 aP hs hf=>⟨Fp,n6 Fx w w1,Fy,h1.prog hP hs hf,fun k hk=>?_,h3.comp hf (fun j hj=>h2 j (Or.inr (Or.inl hj)))⟩⟩
 rcases hk with hk | hk | hk
 ·exact h2 k (Or.inl hk)
 ·exact hk.1.elim (fun x=>h2 k (Or.inr (Or.inl x))) (fun x=>Or.inr (Nat.le_trans h3.size x))
 ·exact h2 k (Or.inr (Or.inr hk))
theorem PQ2.ref (hP:bi PS Q) (h:PQ2 PS w0 G w b X st Y px d K):∃ Fy,RY w d Y Fy∧∀ w1 Y1,RY w1 d Y1 (bu Fy w)→Fr w w1 Fy→PQ2 PS w0 G w1 b X st Y1 px d K:=by
 obtain ⟨Fp,Fx,Fy,h1,h2,h3⟩:=h
 refine ⟨Fy,h1.rs,fun w1 Y1 hs hf=>⟨Fp,Fx,n6 Fy w w1,h1.ref hP hs hf,fun k hk=>?_,h3.comp hf (fun j hj=>h2 j (Or.inr (Or.inr hj)))⟩⟩
 rcases hk with hk | hk | hk
 ·exact h2 k (Or.inl hk)
 ·exact h2 k (Or.inr (Or.inl hk))
 ·exact hk.1.elim (fun x=>h2 k (Or.inr (Or.inr x))) (fun x=>Or.inr (Nat.le_trans h3.size x))
theorem PQ2.pair (hP:bi PS Q) (h:PQ2 PS w0 G w b X st Y px d K) {w1:World} (hf:Fr w w1 (fun k=>k=b)) {K':fm} (hb:PB w1 b px d K'.vm K'.vy K'.cnt K'.vs K'.held)
  (hm:w1.ownsRow 0 3 1 K'.vm K'.lm.length (aK K'.lm)) (hy:w1.ownsRow 0 3 1 K'.vy K'.ly.length (aK K'.ly)) (hn:w1.ownsRow 0 3 1 K'.vs K'.ls.length (aK K'.ls)) (im:∀ j,K'.vm.ownBlock=some j→(K.vm.ownBlock=some j∨K.vy.ownBlock=some j∨K.vs.ownBlock=some j)∨w.heap.size≤j) (iy:∀ j,K'.vy.ownBlock=some j→(K.vm.ownBlock=some j∨K.vy.ownBlock=some j∨K.vs.ownBlock=some j)∨w.heap.size≤j) (is:∀ j,K'.vs.ownBlock=some j→(K.vm.ownBlock=some j∨K.vy.ownBlock=some j∨K.vs.ownBlock=some j)∨w.heap.size≤j):PQ2 PS w0 G w1 b X st Y px d K':=by
 obtain ⟨Fp,Fx,Fy,h1,h2,h3⟩:=h
 have N4:Fr w w1 Fp:=hf.mono (fun k hk=>by rw [hk];exact h1.inb)
 have own:∀ j,(K.vm.ownBlock=some j∨K.vy.ownBlock=some j∨K.vs.ownBlock=some j)→Fp j:=fun j hj=>hj.elim (h1.inm j) (fun hj=>hj.elim (h1.iny j) (h1.ins j))
 refine ⟨n6 Fp w w1,Fx,Fy,h1.pair hP N4 hb hm hy hn (fun j hj=>(im j hj).imp (own j) id) (fun j hj=>(iy j hj).imp (own j) id) (fun j hj=>(is j hj).imp (own j) id),fun k hk=>?_,h3.comp N4 (fun j hj=>h2 j (Or.inl hj))⟩
 rcases hk with hk | hk | hk
 ·exact hk.1.elim (fun x=>h2 k (Or.inl x)) (fun x=>Or.inr (Nat.le_trans h3.size x))
 ·exact h2 k (Or.inr (Or.inl hk))
 ·exact h2 k (Or.inr (Or.inr hk))
theorem PQ2.setB (hP:bi PS Q) (h:PQ2 PS w0 G w b X st Y px d K) {w1:World} (hB:Below w.heap.size w w1) {K':fm} {o:Nat} {u:Value} (hc:(#[px,Value.pointer (some ⟨d,0,none⟩),K.vm,K.vy,.int .i64 K.cnt,K.vs,.bool K.held]:Array Value).setIfInBounds o u=#[px,.pointer (some ⟨d,0,none⟩),K'.vm,K'.vy,.int .i64 K'.cnt,K'.vs,.bool K'.held])
  (hm:w1.ownsRow 0 3 1 K'.vm K'.lm.length (aK K'.lm)) (hy:w1.ownsRow 0 3 1 K'.vy K'.ly.length (aK K'.ly)) (hn:w1.ownsRow 0 3 1 K'.vs K'.ls.length (aK K'.ls)) (im:∀ j,K'.vm.ownBlock=some j→(K.vm.ownBlock=some j∨K.vy.ownBlock=some j∨K.vs.ownBlock=some j)∨w.heap.size≤j) (iy:∀ j,K'.vy.ownBlock=some j→(K.vm.ownBlock=some j∨K.vy.ownBlock=some j∨K.vs.ownBlock=some j)∨w.heap.size≤j) (is:∀ j,K'.vs.ownBlock=some j→(K.vm.ownBlock=some j∨K.vy.ownBlock=some j∨K.vs.ownBlock=some j)∨w.heap.size≤j):PQ2 PS w0 G (w1.setCell ⟨b,o,none⟩ u) b X st Y px d K':=by
 have oF:w1.heap[b]?=_:=(hB.block b (Array.getElem?_eq_some_iff.1 h.pb.blk).1).trans h.pb.blk
 refine h.pair hP (((Fr.refl w (fun k=>k=b)).below hB).set (p:=⟨b,o,none⟩) (Or.inl rfl) u) ?_ (aX hm (aj hm oF (by decide)) _) (aX hy (aj hy oF (by decide)) _) (aX hn (aj hn oF (by decide)) _) im iy is
 show (World.setCell _ _ _).heap[b]?=_
 rw [aq oF,hc]
theorem PQ2.setMust (hP:bi PS Q) (h:PQ2 PS w0 G w b X st Y px d K) {w1:World} (hB:Below w.heap.size w w1) {v':Value} {l':List Nat} (ho:w1.ownsRow 0 3 1 v' l'.length (aK l')) (hi:∀ j,v'.ownBlock=some j→K.vm.ownBlock=some j∨w.heap.size≤j):PQ2 PS w0 G (w1.setCell ⟨b,2,none⟩ v') b X st Y px d {K with vm:=v',lm:=l'}:=
 h.setB hP hB rfl ho (aQ h.may hB) (aQ h.seen hB) (fun j hj=>(hi j hj).imp Or.inl id) (fun _ hj=>Or.inl (Or.inr (Or.inl hj))) (fun _ hj=>Or.inl (Or.inr (Or.inr hj)))
theorem PQ2.setMay (hP:bi PS Q) (h:PQ2 PS w0 G w b X st Y px d K) {w1:World} (hB:Below w.heap.size w w1) {v':Value} {l':List Nat} (ho:w1.ownsRow 0 3 1 v' l'.length (aK l')) (hi:∀ j,v'.ownBlock=some j→K.vy.ownBlock=some j∨w.heap.size≤j):PQ2 PS w0 G (w1.setCell ⟨b,3,none⟩ v') b X st Y px d {K with vy:=v',ly:=l'}:=
 h.setB hP hB rfl (aQ h.must hB) ho (aQ h.seen hB) (fun _ hj=>Or.inl (Or.inl hj)) (fun j hj=>(hi j hj).imp (fun x=>Or.inr (Or.inl x)) id) (fun _ hj=>Or.inl (Or.inr (Or.inr hj)))
theorem PQ2.setCnt (hP:bi PS Q) (h:PQ2 PS w0 G w b X st Y px d K) (c:Int):PQ2 PS w0 G (w.setCell ⟨b,4,none⟩ (.int .i64 c)) b X st Y px d {K with cnt:=c}:=
 h.setB hP (Below.refl _ w) rfl h.must h.may h.seen (fun _ hj=>Or.inl (Or.inl hj)) (fun _ hj=>Or.inl (Or.inr (Or.inl hj))) (fun _ hj=>Or.inl (Or.inr (Or.inr hj)))
theorem PQ2.setHeld (hP:bi PS Q) (h:PQ2 PS w0 G w b X st Y px d K) (c:Bool):PQ2 PS w0 G (w.setCell ⟨b,6,none⟩ (.bool c)) b X st Y px d {K with held:=c}:=
 h.setB hP (Below.refl _ w) rfl h.must h.may h.seen (fun _ hj=>Or.inl (Or.inl hj)) (fun _ hj=>Or.inl (Or.inr (Or.inl hj))) (fun _ hj=>Or.inl (Or.inr (Or.inr hj)))
theorem PQ2.from {o:Obj} {w':World} (h:PQ2 PS (w.alloc o) G w' b X st Y px d K):PQ2 PS w G w' b X st Y px d K:=by
 obtain ⟨Fp,Fx,Fy,h1,h2,h3⟩:=h
 have fT:(w.alloc o).heap.size=w.heap.size+1:=by simp
 exact ⟨Fp,Fx,Fy,h1,fun k hk=>(h2 k hk).imp id (fun x=>by omega),⟨h3.os,h3.tape,h3.output,by have:=h3.size;omega,fun k hk hn=>(h3.block k (by omega) hn).trans (Below.heap_alloc w o k hk)⟩⟩
theorem PQ2.alloc {Fp Fx Fy:Nat→Prop} (hP:bi PS Q) (h:PJ2 PS w b X st Y px d K Fp Fx Fy) (hG:∀ k,Fp k∨Fx k∨Fy k→G k) (o:Obj):PQ2 PS (w.alloc o) G (w.alloc o) b X st Y px d K:=
 ⟨Fp,Fx,Fy,h.keep hP (by simp) (fun k hk=>Below.heap_alloc w o k (h.here k hk)),fun k hk=>Or.inl (hG k hk),Fr.refl _ _⟩
theorem PQ2.start {Fp Fx Fy:Nat→Prop} (h:PJ2 PS w b X st Y px d K Fp Fx Fy) (hG:∀ k,Fp k∨Fx k∨Fy k→G k):PQ2 PS w G w b X st Y px d K:=
 ⟨Fp,Fx,Fy,h,fun k hk=>Or.inl (hG k hk),Fr.refl _ _⟩
theorem PQ2.op {o:Obj} {w':World} (h:PQ2 PS (w.alloc o) G w' b X st Y px d K) (hG:∀ k,G k→k<w.heap.size):w'.heap[w.heap.size]?=some o:=
 (h.fr.block w.heap.size (by simp) (fun x=>by have:=hG _ x;omega)).trans (heap_alloc_new w o)
end
end Go.Proofs.YtblfffbmklkhmaaGreat
