import Derived.Test.YtblfffbmklkhmaaGreatRows
import Derived.WalkKit
import Derived.WalkSpells
import Derived.WalkLawsBesides
import Derived.Deep.QuietTactic
import Derived.BigQuiet
import Derived.Deep.LoopGhost
namespace Go.Proofs.YtblfffbmklkhmaaGreat
open Go.RowKit
structure Rd (w:World) (b:Nat) (s:ByteArray) (i:Nat) (m:Int):Prop where
 blk:w.heap[b]?=some (.cells #[.string s,.int .i64 i,.int .i64 m] 146 (0,0))
 le:i≤s.size
 top:s.size≤400
 lo:-1≤m
 hi:m≤400
theorem aa {w:World} {b k:Nat} {cs:Array Value} {t:TypeId} {z:Nat × Nat} {v:Value} (h:w.heap[b]?=some (.cells cs t z)) (hk:cs[k]?=some v):w.cell? ⟨b,k,none⟩=some v:=by
 rw [cell_of_row w b k cs t z h];exact hk
theorem ag {w:World} {b k:Nat} {cs:Array Value} {t:TypeId} (h:w.heap[b]?=some (.cells cs t (0,0))):w.frozen? ⟨b,k,none⟩=false:=by
 simp [World.frozen?,h]
theorem Rd.c0 {w:World} {b:Nat} {s:ByteArray} {i:Nat} {m:Int} (h:Rd w b s i m):w.cell? ⟨b,0,none⟩=some (.string s):=aa h.blk rfl
theorem Rd.c1 {w:World} {b:Nat} {s:ByteArray} {i:Nat} {m:Int} (h:Rd w b s i m):w.cell? ⟨b,1,none⟩=some (.int .i64 i):=aa h.blk rfl
theorem Rd.c2 {w:World} {b:Nat} {s:ByteArray} {i:Nat} {m:Int} (h:Rd w b s i m):w.cell? ⟨b,2,none⟩=some (.int .i64 m):=aa h.blk rfl
theorem Rd.fr {w:World} {b:Nat} {s:ByteArray} {i:Nat} {m:Int} (h:Rd w b s i m) (k:Nat):w.frozen? ⟨b,k,none⟩=false:=ag h.blk
end Go.Proofs.YtblfffbmklkhmaaGreat
namespace Go.Proofs.YtblfffbmklkhmaaGreat
def bt (s:ByteArray) (i:Nat):Nat:=if h:i<s.size then s[i].toNat else 0
theorem xH (s:ByteArray) (i:Nat):bt s i<256:=by
 unfold bt;split
 ·exact s[i].toNat_lt
 ·omega
theorem qt (s:ByteArray) (i:Nat) (h:s.size≤i):bt s i=0:=by
 unfold bt;rw [dif_neg (by omega)]
theorem bq (s:ByteArray) (i:Nat) (h:i<s.size):bt s i=s[i].toNat:=by
 unfold bt;rw [dif_pos h]
def fl (c:Nat):Bool:=decide (97≤c∧c≤122)
def fk (c:Nat):Bool:=decide (48≤c∧c≤57)
def qH (c:Nat):Bool:=decide (88≤c∧c≤90)
def ua (c:Nat):Bool:=decide (65≤c∧c≤70)||qH c
def fM (c:Nat):Bool:=decide (c=32∨c=62∨c=43∨c=126)
def lJ (c:Nat):Bool:=decide (c=46∨c=35∨c=58∨c=33)
def il (c:Nat):Int:=if c=46∨c=35 then 4 else if c=58 then 5 else -1
def ik (c:Nat):Int:=if c=59 then 10 else if c=125 then 0 else -1
def jA (c:Nat):Int:=if c=33 then 16 else ik c
def iM (c:Nat):Int:=if fl c=true∨c=42 then 3 else if c=33 then 8 else il c
def gH (c:Nat):Int:=if c=33 then 8 else if fM c=true∨c=44 then 2 else if c=123 then 9 else il c
def jS (c:Nat):Int:=if ua c=true then 11 else -1
def wh (b:Bool) (n:Int):Int:=if b=true then n else -1
def bC (m:Int) (c:Nat):Int:=
 if m=0 then (if c=64 then 1 else iM c)
 else if m=18 then (if c=64 then 1 else iM c)
 else if m=1 then wh (fk c) 2
 else if m=2 then iM c
 else if m=3 then gH c
 else if m=4 then wh (fl c) 3
 else if m=5 then (if c=110 then 6 else wh (decide (c=102∨c=108∨c=101)) 3)
 else if m=6 then wh (fk c) 7
 else if m=7 then wh (fk c) 3
 else if m=8 then (if fl c=true then 3 else il c)
 else if m=9 then (if c=125 then 0 else jS c)
 else if m=10 then jS c
 else if m=11 then wh (decide (c=58)) 12
 else if m=12 then (if fk c=true then 13 else if c=36 then 17 else wh (decide (c=105∨c=114∨c=117)) 15)
 else if m=13 then (if fk c=true then 14 else jA c)
 else if m=14 then (if fk c=true then 15 else jA c)
 else if m=15 then jA c
 else if m=16 then ik c
 else if m=17 then wh (qH c) 15
 else -1
structure Cn where
 nr:Nat
 nc:Nat
 mn:Int
def j9 (mn:Int) (i:Nat):Int:=if mn=-1 then i else mn
def bY (b:Bool) (mn:Int) (i:Nat):Int:=if b=true then j9 mn i else mn
def cnt (m:Int) (c i:Nat) (k:Cn):Cn:=
 if m=0 then ⟨k.nr+1,1,bY (decide (k.nr=20)) k.mn i⟩
 else if m=18∨m=1 then ⟨k.nr,1,k.mn⟩
 else if m=3 then (if fM c=true then ⟨k.nr,k.nc+1,bY (decide (k.nc=4)) k.mn (i+1)⟩ else if c=44 then ⟨k.nr,1,k.mn⟩ else k)
 else k
def Vf (s:ByteArray):Nat→Int→Cn→Nat→Int × Int
 | 0,m,k,i=>if m=0 then (-1,k.mn) else ((i:Int),-1)
 | f+1,m,k,i=>if bC m (bt s i)=-1 then ((i:Int),-1) else Vf s f (bC m (bt s i)) (cnt m (bt s i) i k) (i+1)
def V (s:ByteArray) (m:Int) (k:Cn) (i:Nat):Int × Int:=Vf s (s.size - i) m k i
theorem uy {s:ByteArray} {m m':Int} {k:Cn} {i:Nat} (hi:i<s.size) (h:bC m (bt s i)=m') (hm:m'≠-1):V s m k i=V s m' (cnt m (bt s i) i k) (i+1):=by
 unfold V
 obtain ⟨f,hf⟩:∃ f,s.size - i=f+1:=⟨s.size - i - 1,by omega⟩
 rw [hf,show s.size - (i+1)=f from by omega]
 show (if bC m (bt s i)=-1 then _ else _)=_
 rw [if_neg (by rw [h];exact hm),h]
theorem tU {s:ByteArray} {m:Int} {k:Cn} {i:Nat} (hi:i<s.size) (h:bC m (bt s i)=-1):V s m k i=((i:Int),-1):=by
 unfold V
 obtain ⟨f,hf⟩:∃ f,s.size - i=f+1:=⟨s.size - i - 1,by omega⟩
 rw [hf]
 show (if bC m (bt s i)=-1 then _ else _)=_
 rw [if_pos h]
theorem tK {s:ByteArray} {m:Int} {k:Cn} {i:Nat} (hi:s.size≤i):V s m k i=if m=0 then (-1,k.mn) else ((i:Int),-1):=by
 unfold V
 rw [show s.size - i=0 from by omega]
 rfl
theorem RQ {s:ByteArray} {m:Int} {k:Cn} {i:Nat} (hm:m≠0) (h:bC m (bt s i)=-1):V s m k i=((i:Int),-1):=by
 by_cases hi:i<s.size
 ·exact tU hi h
 ·rw [tK (by omega),if_neg hm]
theorem Jg (m:Int):bC m 0=-1:=by
 simp [bC,iM,gH,il,jS,jA,ik,wh,fk,fl,qH,ua,fM]
theorem LJ {s:ByteArray} {m m':Int} {k k':Cn} {i:Nat} (hm:m≠0) (o8:m'≠0) (h:bC m (bt s i)=bC m' (bt s i)) (hk:cnt m (bt s i) i k=cnt m' (bt s i) i k'):V s m k i=V s m' k' i:=by
 by_cases hn:bC m (bt s i)=-1
 ·rw [RQ hm hn,RQ o8 (by rw [←h];exact hn)]
 ·by_cases hi:i<s.size
  ·rw [uy hi rfl hn,uy (m:=m') hi h.symm hn,hk]
  ·exact absurd (by rw [qt s i (by omega)];exact Jg m) hn
theorem uO {s:ByteArray} {k:Cn} {i:Nat} (hi:i<s.size):V s 0 k i=V s 18 ⟨k.nr+1,1,bY (decide (k.nr=20)) k.mn i⟩ i:=by
 by_cases hn:bC 0 (bt s i)=-1
 ·rw [tU hi hn,tU (m:=18) hi (by simpa [bC] using hn)]
 ·rw [uy hi rfl hn,uy (m:=18) (m':=bC 0 (bt s i)) hi (by simp [bC]) hn]
  simp [cnt]
end Go.Proofs.YtblfffbmklkhmaaGreat
namespace Go.Proofs.YtblfffbmklkhmaaGreat
open Go.RowKit
set_option maxHeartbeats 400000 in
theorem ky (w:World) (c:Nat):Calls Tryz.prog 198 #[.int .u8 c,.int .u8 97,.int .u8 122] w fun e w'=>e=.returned (.bool (fl c))∧w'=w:=by
 by_cases h1:(97:Int)≤c
 ·by_cases h2:(c:Int)≤122
  ·have HR:Hid (fl c=true):=by simp only [Hid,fl,decide_eq_true_eq];omega
   go_enter Tryz.func198,Tryz.ntmps198
   go_wp2
   go_ret
   rw [HR.out]
   exact ⟨by simp,rfl⟩
  ·have HR:Hid (fl c=false):=by simp only [Hid,fl,decide_eq_false_iff_not];omega
   have hd:decide ((c:Int)≤122)=false:=by simpa using h2
   go_enter Tryz.func198,Tryz.ntmps198
   go_wp2
   go_ret
   rw [HR.out]
   exact ⟨by simp,rfl⟩
 ·have HR:Hid (fl c=false):=by simp only [Hid,fl,decide_eq_false_iff_not];omega
  have hd:decide ((97:Int)≤c)=false:=by simpa using h1
  go_enter Tryz.func198,Tryz.ntmps198
  go_wp2
  go_ret
  rw [HR.out]
  exact ⟨by simp,rfl⟩
set_option maxHeartbeats 400000 in
theorem et (w:World) (c:Nat):Calls Tryz.prog 198 #[.int .u8 c,.int .u8 48,.int .u8 57] w fun e w'=>e=.returned (.bool (fk c))∧w'=w:=by
 by_cases h1:(48:Int)≤c
 ·by_cases h2:(c:Int)≤57
  ·have HR:Hid (fk c=true):=by simp only [Hid,fk,decide_eq_true_eq];omega
   go_enter Tryz.func198,Tryz.ntmps198
   go_wp2
   go_ret
   rw [HR.out]
   exact ⟨by simp,rfl⟩
  ·have HR:Hid (fk c=false):=by simp only [Hid,fk,decide_eq_false_iff_not];omega
   have hd:decide ((c:Int)≤57)=false:=by simpa using h2
   go_enter Tryz.func198,Tryz.ntmps198
   go_wp2
   go_ret
   rw [HR.out]
   exact ⟨by simp,rfl⟩
 ·have HR:Hid (fk c=false):=by simp only [Hid,fk,decide_eq_false_iff_not];omega
  have hd:decide ((48:Int)≤c)=false:=by simpa using h1
  go_enter Tryz.func198,Tryz.ntmps198
  go_wp2
  go_ret
  rw [HR.out]
  exact ⟨by simp,rfl⟩
set_option maxHeartbeats 400000 in
theorem cH (w:World) (b:Bool) (n:Int):Calls Tryz.prog 199 #[.bool b,.int .i64 n] w fun e w'=>e=.returned (.int .i64 (wh b n))∧w'=w:=by
 cases b
 all_goals
  go_enter Tryz.func199,Tryz.ntmps199
  go_wp2
  go_ret
  exact ⟨by simp [wh],rfl⟩
set_option maxHeartbeats 400000 in
theorem nh (w:World) (c:Nat):Calls Tryz.prog 200 #[.int .u8 c] w fun e w'=>e=.returned (.int .i64 (il c))∧w'=w:=by
 go_enter Tryz.func200,Tryz.ntmps200
 go_wp2
 all_goals go_ret
 all_goals refine ⟨?_,rfl⟩
 ·have h:c=46:=by have:((c:Int)==46)=true:=‹_›;simp only [beq_iff_eq] at this;omega
  subst h;rfl
 ·have h:c=35:=by have:((c:Int)==35)=true:=‹_›;simp only [beq_iff_eq] at this;omega
  subst h;rfl
 ·have h:c=58:=by have:((c:Int)==58)=true:=‹_›;simp only [beq_iff_eq] at this;omega
  subst h;rfl
 ·have h1:¬ c=46:=by have:((c:Int)==46)=false:=‹_›;simp only [beq_eq_false_iff_ne] at this;omega
  have h2:¬ c=35:=by have:((c:Int)==35)=false:=‹_›;simp only [beq_eq_false_iff_ne] at this;omega
  have h3:¬ c=58:=by have:((c:Int)==58)=false:=‹_›;simp only [beq_eq_false_iff_ne] at this;omega
  simp [il,h1,h2,h3]
set_option maxHeartbeats 400000 in
theorem rT (w:World) (c:Nat):Calls Tryz.prog 201 #[.int .u8 c] w fun e w'=>e=.returned (.int .i64 (ik c))∧w'=w:=by
 go_enter Tryz.func201,Tryz.ntmps201
 go_wp2
 all_goals go_ret
 all_goals refine ⟨?_,rfl⟩
 ·have h:c=59:=by have:((c:Int)==59)=true:=‹_›;simp only [beq_iff_eq] at this;omega
  subst h;rfl
 ·have h:c=125:=by have:((c:Int)==125)=true:=‹_›;simp only [beq_iff_eq] at this;omega
  subst h;rfl
 ·have h1:¬ c=59:=by have:((c:Int)==59)=false:=‹_›;simp only [beq_eq_false_iff_ne] at this;omega
  have h2:¬ c=125:=by have:((c:Int)==125)=false:=‹_›;simp only [beq_eq_false_iff_ne] at this;omega
  simp [ik,h1,h2]
def qy (c:Nat) (s:ByteArray):Bool:=decide (∃ k,k<s.size∧bt s k=c)
set_option maxHeartbeats 400000 in
theorem bd (w:World) (c:Nat) (s:ByteArray) (hs:s.size≤maxLen):Calls Tryz.prog 165 #[.int .u8 c,.string s] w fun e w'=>e=.returned (.bool (qy c s))∧w'=w:=by
 unfold maxLen at hs
 go_enter Tryz.func165,Tryz.ntmps165
 go_wp2
 go_loop [5] (fun i=>∃ k:Nat,k≤s.size∧i=.int .i64 k∧Hid (∀ j,j<k→bt s j≠c)) (fun i=>s.size - (intOf i).toNat)
 case atStart=>exact ⟨0,Nat.zero_le _,rfl,fun j hj=>by omega⟩
 case round=>
  obtain ⟨k,hk,rfl,HN⟩:=hrel
  by_cases aN:k<s.size
  ·by_cases hc:bt s k=c
   ·have HC:Hid (qy c s=true):=by unfold Hid qy;simp only [decide_eq_true_eq];exact ⟨k,aN,hc⟩
    have he:((s[k].toNat:Int)==(c:Int))=true:=by rw [←bq s k aN,hc];simp
    clear hc
    go_wp2
    go_ret
    rw [HC.out]
    exact ⟨by simp,rfl⟩
   ·have eL:Hid (∀ j,j<k+1→bt s j≠c):=by
     intro j hj
     by_cases e:j=k
     ·rw [e];exact hc
     ·exact HN.out j (by omega)
    have he:((s[k].toNat:Int)==(c:Int))=false:=by rw [←bq s k aN];simp;omega
    clear hc
    go_wp2
    go_round
    case rel=>exact ⟨k+1,by omega,by go_num,eL⟩
    case measure=>simp [intOf];omega
  ·have HC:Hid (qy c s=false):=by
    unfold Hid qy
    simp only [decide_eq_false_iff_not]
    rintro ⟨j,h1,h2⟩
    exact HN.out j (by omega) h2
   go_wp2
   go_ret
   rw [HC.out]
   exact ⟨by simp,rfl⟩
end Go.Proofs.YtblfffbmklkhmaaGreat
namespace Go.Proofs.YtblfffbmklkhmaaGreat
open Go.RowKit
theorem Gg (c:Nat):qy c {data:=#[32,62,43,126,44]}=(fM c||decide (c=44)):=by
 rw [Bool.eq_iff_iff]
 simp only [qy,fM,Bool.or_eq_true,decide_eq_true_eq]
 constructor
 ·rintro ⟨k,h1,h2⟩
  have h1:k<5:=h1
  match k,h1,h2 with
  | 0,_,h2=>have:32=c:=h2;omega
  | 1,_,h2=>have:62=c:=h2;omega
  | 2,_,h2=>have:43=c:=h2;omega
  | 3,_,h2=>have:126=c:=h2;omega
  | 4,_,h2=>have:44=c:=h2;omega
 ·rintro ((h | h | h | h) | h)<;>subst h
  ·exact ⟨0,by decide,rfl⟩
  ·exact ⟨1,by decide,rfl⟩
  ·exact ⟨2,by decide,rfl⟩
  ·exact ⟨3,by decide,rfl⟩
  ·exact ⟨4,by decide,rfl⟩
theorem Hh (c:Nat):qy c {data:=#[32,62,43,126]}=fM c:=by
 rw [Bool.eq_iff_iff]
 simp only [qy,fM,decide_eq_true_eq]
 constructor
 ·rintro ⟨k,h1,h2⟩
  have h1:k<4:=h1
  match k,h1,h2 with
  | 0,_,h2=>have:32=c:=h2;omega
  | 1,_,h2=>have:62=c:=h2;omega
  | 2,_,h2=>have:43=c:=h2;omega
  | 3,_,h2=>have:126=c:=h2;omega
 ·rintro (h | h | h | h)<;>subst h
  ·exact ⟨0,by decide,rfl⟩
  ·exact ⟨1,by decide,rfl⟩
  ·exact ⟨2,by decide,rfl⟩
  ·exact ⟨3,by decide,rfl⟩
theorem bG (c:Nat):qy c {data:=#[65,66,67,68,69,70,88,89,90]}=ua c:=by
 rw [Bool.eq_iff_iff]
 simp only [qy,ua,qH,Bool.or_eq_true,decide_eq_true_eq]
 constructor
 ·rintro ⟨k,h1,h2⟩
  have h1:k<9:=h1
  match k,h1,h2 with
  | 0,_,h2=>have:65=c:=h2;omega
  | 1,_,h2=>have:66=c:=h2;omega
  | 2,_,h2=>have:67=c:=h2;omega
  | 3,_,h2=>have:68=c:=h2;omega
  | 4,_,h2=>have:69=c:=h2;omega
  | 5,_,h2=>have:70=c:=h2;omega
  | 6,_,h2=>have:88=c:=h2;omega
  | 7,_,h2=>have:89=c:=h2;omega
  | 8,_,h2=>have:90=c:=h2;omega
 ·intro h
  have:c=65∨c=66∨c=67∨c=68∨c=69∨c=70∨c=88∨c=89∨c=90:=by omega
  rcases this with h | h | h | h | h | h | h | h | h<;>subst h
  ·exact ⟨0,by decide,rfl⟩
  ·exact ⟨1,by decide,rfl⟩
  ·exact ⟨2,by decide,rfl⟩
  ·exact ⟨3,by decide,rfl⟩
  ·exact ⟨4,by decide,rfl⟩
  ·exact ⟨5,by decide,rfl⟩
  ·exact ⟨6,by decide,rfl⟩
  ·exact ⟨7,by decide,rfl⟩
  ·exact ⟨8,by decide,rfl⟩
theorem cf {a b:Int} (h:a=b):Ending.returned (.int .i64 a)=.returned (.int .i64 b):=by rw [h]
set_option maxHeartbeats 1000000 in
theorem BX (w:World) (c:Nat):Calls Tryz.prog 186 #[.int .i64 1,.int .u8 c] w fun e w'=>e=.returned (.int .i64 (bC 1 c))∧w'=w:=by
 go_enter Tryz.func186,Tryz.ntmps186
 go_wp2_with fail
 refine (ky _ c).mono ?_
 rintro e w1 ⟨rfl,rfl⟩
 go_wp2_with fail
 refine (et _ c).mono ?_
 rintro e w2 ⟨rfl,rfl⟩
 go_wp2_with fail
 refine (cH _ (fk c) 2).mono ?_
 rintro e w3 ⟨rfl,rfl⟩
 go_wp2_with fail
 go_ret
 exact ⟨cf (by simp [bC]),rfl⟩
set_option maxHeartbeats 1000000 in
theorem BR (w:World) (c:Nat):Calls Tryz.prog 186 #[.int .i64 6,.int .u8 c] w fun e w'=>e=.returned (.int .i64 (bC 6 c))∧w'=w:=by
 go_enter Tryz.func186,Tryz.ntmps186
 go_wp2_with fail
 refine (ky _ c).mono ?_
 rintro e w1 ⟨rfl,rfl⟩
 go_wp2_with fail
 refine (et _ c).mono ?_
 rintro e w2 ⟨rfl,rfl⟩
 go_wp2_with fail
 refine (cH _ (fk c) 7).mono ?_
 rintro e w3 ⟨rfl,rfl⟩
 go_wp2_with fail
 go_ret
 exact ⟨cf (by simp [bC]),rfl⟩
set_option maxHeartbeats 1000000 in
theorem AB (w:World) (c:Nat):Calls Tryz.prog 186 #[.int .i64 7,.int .u8 c] w fun e w'=>e=.returned (.int .i64 (bC 7 c))∧w'=w:=by
 go_enter Tryz.func186,Tryz.ntmps186
 go_wp2_with fail
 refine (ky _ c).mono ?_
 rintro e w1 ⟨rfl,rfl⟩
 go_wp2_with fail
 refine (et _ c).mono ?_
 rintro e w2 ⟨rfl,rfl⟩
 go_wp2_with fail
 refine (cH _ (fk c) 3).mono ?_
 rintro e w3 ⟨rfl,rfl⟩
 go_wp2_with fail
 go_ret
 exact ⟨cf (by simp [bC]),rfl⟩
set_option maxHeartbeats 1000000 in
theorem Aq (w:World) (c:Nat):Calls Tryz.prog 186 #[.int .i64 4,.int .u8 c] w fun e w'=>e=.returned (.int .i64 (bC 4 c))∧w'=w:=by
 go_enter Tryz.func186,Tryz.ntmps186
 go_wp2_with fail
 refine (ky _ c).mono ?_
 rintro e w1 ⟨rfl,rfl⟩
 go_wp2_with fail
 refine (et _ c).mono ?_
 rintro e w2 ⟨rfl,rfl⟩
 go_wp2_with fail
 refine (cH _ (fl c) 3).mono ?_
 rintro e w3 ⟨rfl,rfl⟩
 go_wp2_with fail
 go_ret
 exact ⟨cf (by simp [bC]),rfl⟩
set_option maxHeartbeats 1000000 in
theorem zO (w:World) (c:Nat):Calls Tryz.prog 186 #[.int .i64 8,.int .u8 c] w fun e w'=>e=.returned (.int .i64 (bC 8 c))∧w'=w:=by
 cases hL:fl c
 ·have HL:Hid (fl c=false):=hL
  go_enter Tryz.func186,Tryz.ntmps186
  go_wp2_with fail
  refine (ky _ c).mono ?_
  rw [hL]
  clear hL
  rintro e w1 ⟨rfl,rfl⟩
  go_wp2_with fail
  refine (et _ c).mono ?_
  rintro e w2 ⟨rfl,rfl⟩
  go_wp2_with fail
  refine (nh _ c).mono ?_
  rintro e w3 ⟨rfl,rfl⟩
  go_wp2_with fail
  go_ret
  exact ⟨cf (by simp [bC,HL.out]),rfl⟩
 ·have HL:Hid (fl c=true):=hL
  go_enter Tryz.func186,Tryz.ntmps186
  go_wp2_with fail
  refine (ky _ c).mono ?_
  rw [hL]
  clear hL
  rintro e w1 ⟨rfl,rfl⟩
  go_wp2_with fail
  refine (et _ c).mono ?_
  rintro e w2 ⟨rfl,rfl⟩
  go_wp2_with fail
  go_ret
  exact ⟨cf (by simp [bC,HL.out]),rfl⟩
set_option maxHeartbeats 1000000 in
theorem rn (w:World) (c:Nat):Calls Tryz.prog 186 #[.int .i64 2,.int .u8 c] w fun e w'=>e=.returned (.int .i64 (bC 2 c))∧w'=w:=by
 by_cases ql:c=42
 ·subst ql
  have ZG:((42:Int)==42)=true:=rfl
  go_enter Tryz.func186,Tryz.ntmps186
  go_wp2_with fail
  refine (ky _ 42).mono ?_
  rintro e w1 ⟨rfl,rfl⟩
  go_wp2_with fail
  refine (et _ 42).mono ?_
  rintro e w2 ⟨rfl,rfl⟩
  have hL:fl 42=false:=by decide
  rw [hL]
  go_wp2_with fail
  go_ret
  exact ⟨cf (by simp [bC,iM]),rfl⟩
 have ZG:((c:Int)==42)=false:=by simp;omega
 cases hL:fl c
 ·have HL:Hid (fl c=false):=hL
  by_cases gu:c=33
  ·have JY:((c:Int)==33)=true:=by simp [gu]
   have MP:Hid (c=33):=gu
   clear gu ql
   go_enter Tryz.func186,Tryz.ntmps186
   go_wp2_with fail
   refine (ky _ c).mono ?_
   rw [hL]
   clear hL
   rintro e w1 ⟨rfl,rfl⟩
   go_wp2_with fail
   refine (et _ c).mono ?_
   rintro e w2 ⟨rfl,rfl⟩
   go_wp2_with fail
   go_ret
   exact ⟨cf (by simp [bC,iM,MP.out,fl]),rfl⟩
  ·have JY:((c:Int)==33)=false:=by simp;omega
   have MP:Hid (¬ c=33):=gu
   have MS:Hid (¬ c=42):=ql
   clear gu ql
   go_enter Tryz.func186,Tryz.ntmps186
   go_wp2_with fail
   refine (ky _ c).mono ?_
   rw [hL]
   clear hL
   rintro e w1 ⟨rfl,rfl⟩
   go_wp2_with fail
   refine (et _ c).mono ?_
   rintro e w2 ⟨rfl,rfl⟩
   go_wp2_with fail
   refine (bd _ c _ (by decide)).mono ?_
   rintro e w3 ⟨rfl,rfl⟩
   go_wp2_with fail
   refine (nh _ c).mono ?_
   rintro e w4 ⟨rfl,rfl⟩
   go_wp2_with fail
   go_ret
   exact ⟨cf (by simp [bC,iM,HL.out,MP.out,MS.out]),rfl⟩
 ·have HL:Hid (fl c=true):=hL
  go_enter Tryz.func186,Tryz.ntmps186
  go_wp2_with fail
  refine (ky _ c).mono ?_
  rw [hL]
  clear hL
  rintro e w1 ⟨rfl,rfl⟩
  go_wp2_with fail
  refine (et _ c).mono ?_
  rintro e w2 ⟨rfl,rfl⟩
  go_wp2_with fail
  go_ret
  exact ⟨cf (by simp [bC,iM,HL.out]),rfl⟩
set_option maxHeartbeats 1000000 in
theorem zY (w:World) (c:Nat):Calls Tryz.prog 186 #[.int .i64 3,.int .u8 c] w fun e w'=>e=.returned (.int .i64 (bC 3 c))∧w'=w:=by
 by_cases gu:c=33
 ·have JY:((c:Int)==33)=true:=by simp [gu]
  have MP:Hid (c=33):=gu
  clear gu
  go_enter Tryz.func186,Tryz.ntmps186
  go_wp2_with fail
  refine (ky _ c).mono ?_
  rintro e w1 ⟨rfl,rfl⟩
  go_wp2_with fail
  refine (et _ c).mono ?_
  rintro e w2 ⟨rfl,rfl⟩
  go_wp2_with fail
  go_ret
  exact ⟨cf (by simp [bC,gH,MP.out]),rfl⟩
 have JY:((c:Int)==33)=false:=by simp;omega
 have MP:Hid (¬ c=33):=gu
 clear gu
 have HA:Hid (qy c {data:=#[32,62,43,126,44]}=(fM c||decide (c=44))):=Gg c
 cases hS:qy c {data:=#[32,62,43,126,44]}
 ·have HS:Hid ((fM c||decide (c=44))=false):=by rw [←HA.out];exact hS
  by_cases B5:c=123
  ·have Zd:((c:Int)==123)=true:=by simp [B5]
   have RF:Hid (c=123):=B5
   clear B5
   go_enter Tryz.func186,Tryz.ntmps186
   go_wp2_with fail
   refine (ky _ c).mono ?_
   rintro e w1 ⟨rfl,rfl⟩
   go_wp2_with fail
   refine (et _ c).mono ?_
   rintro e w2 ⟨rfl,rfl⟩
   go_wp2_with fail
   refine (bd _ c _ (by decide)).mono ?_
   rw [hS]
   clear hS
   rintro e w3 ⟨rfl,rfl⟩
   go_wp2_with fail
   go_ret
   exact ⟨cf (by simp [bC,gH,RF.out,fM]),rfl⟩
  ·have Zd:((c:Int)==123)=false:=by simp;omega
   have RF:Hid (¬ c=123):=B5
   clear B5
   go_enter Tryz.func186,Tryz.ntmps186
   go_wp2_with fail
   refine (ky _ c).mono ?_
   rintro e w1 ⟨rfl,rfl⟩
   go_wp2_with fail
   refine (et _ c).mono ?_
   rintro e w2 ⟨rfl,rfl⟩
   go_wp2_with fail
   refine (bd _ c _ (by decide)).mono ?_
   rw [hS]
   clear hS
   rintro e w3 ⟨rfl,rfl⟩
   go_wp2_with fail
   refine (nh _ c).mono ?_
   rintro e w4 ⟨rfl,rfl⟩
   go_wp2_with fail
   go_ret
   have hs:=HS.out
   simp only [Bool.or_eq_false_iff,decide_eq_false_iff_not] at hs
   exact ⟨cf (by simp [bC,gH,RF.out,MP.out,hs.1,hs.2]),rfl⟩
 ·have HS:Hid ((fM c||decide (c=44))=true):=by rw [←HA.out];exact hS
  go_enter Tryz.func186,Tryz.ntmps186
  go_wp2_with fail
  refine (ky _ c).mono ?_
  rintro e w1 ⟨rfl,rfl⟩
  go_wp2_with fail
  refine (et _ c).mono ?_
  rintro e w2 ⟨rfl,rfl⟩
  go_wp2_with fail
  refine (bd _ c _ (by decide)).mono ?_
  rw [hS]
  clear hS
  rintro e w3 ⟨rfl,rfl⟩
  go_wp2_with fail
  go_ret
  have hs:=HS.out
  simp only [Bool.or_eq_true,decide_eq_true_eq] at hs
  exact ⟨cf (by simp [bC,gH,MP.out,hs]),rfl⟩
set_option maxHeartbeats 1000000 in
theorem AV (w:World) (c:Nat):Calls Tryz.prog 186 #[.int .i64 5,.int .u8 c] w fun e w'=>e=.returned (.int .i64 (bC 5 c))∧w'=w:=by
 by_cases h1:c=110
 ·have g1:((c:Int)==110)=true:=by simp [h1]
  have H1:Hid (c=110):=h1
  clear h1
  go_enter Tryz.func186,Tryz.ntmps186
  go_wp2_with fail
  refine (ky _ c).mono ?_
  rintro e w1 ⟨rfl,rfl⟩
  go_wp2_with fail
  refine (et _ c).mono ?_
  rintro e w2 ⟨rfl,rfl⟩
  go_wp2_with fail
  go_ret
  exact ⟨cf (by simp [bC,H1.out]),rfl⟩
 have g1:((c:Int)==110)=false:=by simp;omega
 have H1:Hid (¬ c=110):=h1
 clear h1
 by_cases h102:c=102
 ·have Sw:((c:Int)==102)=true:=by simp [h102]
  have H:Hid (c=102):=h102
  clear h102
  go_enter Tryz.func186,Tryz.ntmps186
  go_wp2_with fail
  refine (ky _ c).mono ?_
  rintro e w1 ⟨rfl,rfl⟩
  go_wp2_with fail
  refine (et _ c).mono ?_
  rintro e w2 ⟨rfl,rfl⟩
  go_wp2_with fail
  refine (cH _ true 3).mono ?_
  rintro e w3 ⟨rfl,rfl⟩
  go_wp2_with fail
  go_ret
  exact ⟨cf (by simp [bC,H.out]),rfl⟩
 have Sw:((c:Int)==102)=false:=by simp;omega
 have Yw:Hid (¬ c=102):=h102
 clear h102
 by_cases h108:c=108
 ·have RA:((c:Int)==108)=true:=by simp [h108]
  have H:Hid (c=108):=h108
  clear h108
  go_enter Tryz.func186,Tryz.ntmps186
  go_wp2_with fail
  refine (ky _ c).mono ?_
  rintro e w1 ⟨rfl,rfl⟩
  go_wp2_with fail
  refine (et _ c).mono ?_
  rintro e w2 ⟨rfl,rfl⟩
  go_wp2_with fail
  refine (cH _ true 3).mono ?_
  rintro e w3 ⟨rfl,rfl⟩
  go_wp2_with fail
  go_ret
  exact ⟨cf (by simp [bC,H.out]),rfl⟩
 have RA:((c:Int)==108)=false:=by simp;omega
 have X4:Hid (¬ c=108):=h108
 clear h108
 by_cases h101:c=101
 ·have Se:((c:Int)==101)=true:=by simp [h101]
  have H:Hid (c=101):=h101
  clear h101
  go_enter Tryz.func186,Tryz.ntmps186
  go_wp2_with fail
  refine (ky _ c).mono ?_
  rintro e w1 ⟨rfl,rfl⟩
  go_wp2_with fail
  refine (et _ c).mono ?_
  rintro e w2 ⟨rfl,rfl⟩
  go_wp2_with fail
  refine (cH _ true 3).mono ?_
  rintro e w3 ⟨rfl,rfl⟩
  go_wp2_with fail
  go_ret
  exact ⟨cf (by simp [bC,H.out]),rfl⟩
 have Se:((c:Int)==101)=false:=by simp;omega
 have ZW:Hid (¬ c=101):=h101
 clear h101
 go_enter Tryz.func186,Tryz.ntmps186
 go_wp2_with fail
 refine (ky _ c).mono ?_
 rintro e w1 ⟨rfl,rfl⟩
 go_wp2_with fail
 refine (et _ c).mono ?_
 rintro e w2 ⟨rfl,rfl⟩
 go_wp2_with fail
 refine (cH _ false 3).mono ?_
 rintro e w3 ⟨rfl,rfl⟩
 go_wp2_with fail
 go_ret
 exact ⟨cf (by simp [bC,H1.out,Yw.out,X4.out,ZW.out]),rfl⟩
set_option maxHeartbeats 1000000 in
theorem Bt (w:World) (c:Nat):Calls Tryz.prog 186 #[.int .i64 0,.int .u8 c] w fun e w'=>e=.returned (.int .i64 (bC 0 c))∧w'=w:=by
 by_cases h1:c=64
 ·have g1:((c:Int)==64)=true:=by simp [h1]
  have H1:Hid (c=64):=h1
  clear h1
  go_enter Tryz.func186,Tryz.ntmps186
  go_wp2_with fail
  refine (ky _ c).mono ?_
  rintro e w1 ⟨rfl,rfl⟩
  go_wp2_with fail
  refine (et _ c).mono ?_
  rintro e w2 ⟨rfl,rfl⟩
  go_wp2_with fail
  go_ret
  exact ⟨cf (by simp [bC,H1.out]),rfl⟩
 ·have g1:((c:Int)==64)=false:=by simp;omega
  have H1:Hid (¬ c=64):=h1
  clear h1
  go_enter Tryz.func186,Tryz.ntmps186
  go_wp2_with fail
  refine (ky _ c).mono ?_
  rintro e w1 ⟨rfl,rfl⟩
  go_wp2_with fail
  refine (et _ c).mono ?_
  rintro e w2 ⟨rfl,rfl⟩
  go_wp2_with fail
  refine (rn _ c).mono ?_
  rintro e w3 ⟨rfl,rfl⟩
  go_wp2_with fail
  go_ret
  exact ⟨cf (by simp [bC,H1.out]),rfl⟩
end Go.Proofs.YtblfffbmklkhmaaGreat
