/- Own work. -/
import Derived.Test.YtblfffbmklkhmabGreatRows
import Derived.WalkKit
import Derived.WalkSpells
import Derived.WalkLawsBesides
import Derived.Deep.QuietTactic
import Derived.BigQuiet
import Derived.Deep.LoopGhost
set_option maxRecDepth 100000
set_option maxHeartbeats 40000000
namespace Go.Proofs.YtblfffbmklkhmabGreat
open Go.RowKit Go.Proofs.Tryz
theorem aw {p:Prop} (h:p):Hid p:=h
theorem bZ {p q:Prop} (a:p) (b:q):Hid (p/\q):=⟨a,b⟩
theorem kC {p q r:Prop} (a:p) (b:q) (c:r):Hid (p/\q/\r):=⟨a,b,c⟩
theorem uz {p q r s:Prop} (a:p) (b:q) (c:r) (d:s):Hid (p/\q/\r/\s):=⟨a,b,c,d⟩
theorem age {p q r s t:Prop} (a:p) (b:q) (c:r) (d:s) (e:t):Hid (p/\q/\r/\s/\t):=⟨a,b,c,d,e⟩
theorem agf {p q r s t u:Prop} (a:p) (b:q) (c:r) (d:s) (e:t) (f:u):Hid (p/\q/\r/\s/\t/\u):=⟨a,b,c,d,e,f⟩
theorem aF {n:Nat}:n<=n:=Nat.le_refl n
theorem bm {n:Nat}:0<=n:=Nat.zero_le n
theorem bo {n:Nat} {w:World}:Below n w w:=Below.refl n w
theorem bG {α:Type} {a:Array α} {i:Nat} {b:α}:a[i]?=some b↔∃ h:i<a.size,a[i]=b:=Array.getElem?_eq_some_iff
theorem ee {α:Type} {a:List α} {i:Nat} {b:α}:a[i]?=some b↔∃ h:i<a.length,a[i]=b:=List.getElem?_eq_some_iff
theorem bW {α:Type} {l:List α} {i:Nat} (h:i<l.length):l[i]?=some l[i]:=List.getElem?_eq_getElem h
theorem bO {p:Prop} [Decidable p]:(decide p=true)=p:=decide_eq_true_eq
theorem bN {α:Type} {l:List α} {n:Nat} (h:n<l.length):l[n]∈l:=List.getElem_mem h
theorem gj {α:Type} {l:List α} {i:Nat} (h:i<l.length):l.take (i+1)=l.take i++[l[i]]:=List.take_succ_eq_append_getElem h
theorem bx {α β:Type} {b:β} {f:α->β} {l:List α}:b∈l.map f↔∃ a,a∈l/\f a=b:=List.mem_map
theorem dJ {α:Type} {p:α->Bool} {a:α} {l:List α}:a∈l.filter p↔a∈l/\p a=true:=List.mem_filter
theorem fq {α:Type} [BEq α] [LawfulBEq α] {a b:α}:(a==b)=false↔a≠b:=beq_eq_false_iff_ne
theorem ii {p:Prop} [Decidable p]:decide p=false↔¬p:=decide_eq_false_iff_not
theorem ft {α:Type} {a b:α}:a∈[b]↔a=b:=List.mem_singleton
theorem eB {w:World} {b:Nat} {e:TypeId} {s:Nat}:w.ownsRow b e s (.slice none 0 0) 0 []:=World.ownsRow_nil _ _ _ _
theorem ax {a b:Prop} (h:a):a∨b:=Or.inl h
theorem az {a b:Prop} (h:b):a∨b:=Or.inr h
theorem aA {c:Prop} {h:Decidable c} (n:¬c) {α:Sort _} {t e:α}:(ite c t e)=e:=if_neg n
theorem aE {c:Prop} {h:Decidable c} (n:c) {α:Sort _} {t e:α}:(ite c t e)=t:=if_pos n
section
variable {b i k:Nat}{cs:Array Value}{m:Int}{s:ByteArray}{t:TypeId}{w:World}
structure Rd (w:World)(b:Nat)(s:ByteArray)(i:Nat)(m:Int):Prop where
 blk:w.heap[b]?=some (.cells #[.string s,.int .i64 i,.int .i64 m] 105 (0,0))
 le:i<=s.size
 top:s.size<=400
 lo:-1<=m
 hi:m<=400
theorem au {z:Nat × Nat}{v:Value}(h:w.heap[b]?=some (.cells cs t z))(hk:cs[k]?=some v):w.cell? ⟨b,k,none⟩=some v:=by
 rw[cell_of_row w b k cs t z h];exact hk
theorem aH (h:w.heap[b]?=some (.cells cs t (0,0))):w.frozen? ⟨b,k,none⟩=false:=by
 simp[World.frozen?,h]
theorem Rd.c0 (h:Rd w b s i m):w.cell? ⟨b,0,none⟩=some (.string s):=au h.blk rfl
theorem Rd.c1 (h:Rd w b s i m):w.cell? ⟨b,1,none⟩=some (.int .i64 i):=au h.blk rfl
theorem Rd.c2 (h:Rd w b s i m):w.cell? ⟨b,2,none⟩=some (.int .i64 m):=au h.blk rfl
theorem Rd.fr (h:Rd w b s i m)(k:Nat):w.frozen? ⟨b,k,none⟩=false:=aH h.blk
end
section
variable {i:Nat}{m m':Int}{s:ByteArray}
def bt (s:ByteArray)(i:Nat):Nat:=if h:i<s.size then s[i].toNat else 0
theorem zQ (s:ByteArray)(i:Nat):bt s i<256:=by
 unfold bt;split
 ·exact s[i].toNat_lt
 ·omega
theorem tB (s:ByteArray)(i:Nat)(h:s.size<=i):bt s i=0:=by
 unfold bt;rw[dif_neg (by omega)]
theorem bV (s:ByteArray)(i:Nat)(h:i<s.size):bt s i=s[i].toNat:=by
 unfold bt;rw[dif_pos h]
def gN (c:Nat):Bool:=decide (97<=c/\c<=122)
def iS (c:Nat):Bool:=decide (48<=c/\c<=57)
def tR (c:Nat):Bool:=decide (88<=c/\c<=90)
def xD (c:Nat):Bool:=decide (65<=c/\c<=70)||tR c
def jf (c:Nat):Bool:=decide (c=32∨c=62∨c=43∨c=126)
def oX (c:Nat):Bool:=decide (c=46∨c=35∨c=58∨c=33)
def jE (c:Nat):Int:=if c=46∨c=35 then 4 else if c=58 then 5 else -1
def jp (c:Nat):Int:=if c=59 then 10 else if c=125 then 0 else -1
def kX (c:Nat):Int:=if c=33 then 16 else jp c
def jY (c:Nat):Int:=if gN c=true∨c=42 then 3 else if c=33 then 8 else jE c
def jg (c:Nat):Int:=if c=33 then 8 else if jf c=true∨c=44 then 2 else if c=123 then 9 else jE c
def lO (c:Nat):Int:=if xD c=true then 11 else -1
def wh (b:Bool)(n:Int):Int:=if b=true then n else -1
def ct (m:Int)(c:Nat):Int:=
 if m=0 then(if c=64 then 1 else jY c)
 else if m=18 then(if c=64 then 1 else jY c)
 else if m=1 then wh (iS c) 2
 else if m=2 then jY c
 else if m=3 then jg c
 else if m=4 then wh (gN c) 3
 else if m=5 then(if c=110 then 6 else wh (decide (c=102∨c=108∨c=101)) 3)
 else if m=6 then wh (iS c) 7
 else if m=7 then wh (iS c) 3
 else if m=8 then(if gN c=true then 3 else jE c)
 else if m=9 then(if c=125 then 0 else lO c)
 else if m=10 then lO c
 else if m=11 then wh (decide (c=58)) 12
 else if m=12 then(if iS c=true then 13 else if c=36 then 17 else wh (decide (c=105∨c=114∨c=117)) 15)
 else if m=13 then(if iS c=true then 14 else kX c)
 else if m=14 then(if iS c=true then 15 else kX c)
 else if m=15 then kX c
 else if m=16 then jp c
 else if m=17 then wh (tR c) 15
 else -1
structure Cn where
 nr:Nat
 nc:Nat
 mn:Int
def mM (mn:Int)(i:Nat):Int:=if mn=-1 then i else mn
def dq (b:Bool)(mn:Int)(i:Nat):Int:=if b=true then mM mn i else mn
def cnt (m:Int)(c i:Nat)(k:Cn):Cn:=
 if m=0 then⟨k.nr+1,1,dq (decide (k.nr=20)) k.mn i⟩
 else if m=18∨m=1 then⟨k.nr,1,k.mn⟩
 else if m=3 then(if jf c=true then⟨k.nr,k.nc+1,dq (decide (k.nc=4)) k.mn (i+1)⟩ else if c=44 then⟨k.nr,1,k.mn⟩ else k)
 else k
def Vf (s:ByteArray):Nat->Int->Cn->Nat->Int × Int
 | 0,m,k,i=>if m=0 then(-1,k.mn) else((i:Int),-1)
 | f+1,m,k,i=>if ct m (bt s i)=-1 then((i:Int),-1) else Vf s f (ct m (bt s i)) (cnt m (bt s i) i k) (i+1)
def V (s:ByteArray)(m:Int)(k:Cn)(i:Nat):Int × Int:=Vf s (s.size - i) m k i
theorem wH {k:Cn}(hi:i<s.size)(h:ct m (bt s i)=m')(hm:m'≠-1):V s m k i=V s m' (cnt m (bt s i) i k) (i+1):=by
 unfold V;obtain⟨f,hf⟩:∃f,s.size - i=f+1:=⟨s.size - i - 1,by omega⟩;rw[hf,show s.size - (i+1)=f from by omega];show(if ct m (bt s i)=-1 then _ else _)=_;rw[aA (by rw[h];exact hm),h]
theorem wJ {k:Cn}(hi:i<s.size)(h:ct m (bt s i)=-1):V s m k i=((i:Int),-1):=by
 unfold V;obtain⟨f,hf⟩:∃f,s.size - i=f+1:=⟨s.size - i - 1,by omega⟩;rw[hf];show(if ct m (bt s i)=-1 then _ else _)=_;rw[aE h]
theorem wG {k:Cn}(hi:s.size<=i):V s m k i=if m=0 then(-1,k.mn) else((i:Int),-1):=by
 unfold V;rw[show s.size - i=0 from by omega];rfl
theorem VV {k:Cn}(hm:m≠0)(h:ct m (bt s i)=-1):V s m k i=((i:Int),-1):=by
 by_cases hi:i<s.size
 ·exact wJ hi h
 ·rw[wG (by omega),aA hm]
theorem PQ (m:Int):ct m 0=-1:=by
 simp[ct,jY,jg,jE,lO,kX,jp,wh,iS,gN,tR,xD,jf]
theorem Nk {k k':Cn}(hm:m≠0)(qv:m'≠0)(h:ct m (bt s i)=ct m' (bt s i))(hk:cnt m (bt s i) i k=cnt m' (bt s i) i k'):V s m k i=V s m' k' i:=by
 by_cases hn:ct m (bt s i)=-1
 ·rw[VV hm hn,VV qv (by rw[<-h];exact hn)]
 ·by_cases hi:i<s.size
  ·rw[wH hi rfl hn,wH (m:=m') hi h.symm hn,hk]
  ·exact absurd (by rw[tB s i (by omega)];exact PQ m) hn
theorem wI {k:Cn}(hi:i<s.size):V s 0 k i=V s 18 ⟨k.nr+1,1,dq (decide (k.nr=20)) k.mn i⟩ i:=by
 by_cases hn:ct 0 (bt s i)=-1
 ·rw[wJ hi hn,wJ (m:=18) hi (by simpa[ct] using hn)]
 ·rw[wH hi rfl hn,wH (m:=18) (m':=ct 0 (bt s i)) hi (by simp[ct]) hn];simp[cnt]
end
theorem mK (w:World)(c:Nat):Calls prog 145 #[.int .u8 c,.int .u8 97,.int .u8 122] w λe w'=>e=.returned (.bool (gN c))/\w'=w:=by
 by_cases h1:(97:Int)<=c
 ·by_cases h2:(c:Int)<=122
  ·have HR:Hid (gN c=true):=by simp only[Hid,gN,bO];omega
   go_enter func145,ntmps145;go_wp2;go_ret;rw[HR.out];exact⟨by simp,rfl⟩
  ·have HR:Hid (gN c=false):=by simp only[Hid,gN,ii];omega
   have hd:decide ((c:Int)<=122)=false:=by simpa using h2
   go_enter func145,ntmps145;go_wp2;go_ret;rw[HR.out];exact⟨by simp,rfl⟩
 ·have HR:Hid (gN c=false):=by simp only[Hid,gN,ii];omega
  have hd:decide ((97:Int)<=c)=false:=by simpa using h1
  go_enter func145,ntmps145;go_wp2;go_ret;rw[HR.out];exact⟨by simp,rfl⟩
theorem fD (w:World)(c:Nat):Calls prog 145 #[.int .u8 c,.int .u8 48,.int .u8 57] w λe w'=>e=.returned (.bool (iS c))/\w'=w:=by
 by_cases h1:(48:Int)<=c
 ·by_cases h2:(c:Int)<=57
  ·have HR:Hid (iS c=true):=by simp only[Hid,iS,bO];omega
   go_enter func145,ntmps145;go_wp2;go_ret;rw[HR.out];exact⟨by simp,rfl⟩
  ·have HR:Hid (iS c=false):=by simp only[Hid,iS,ii];omega
   have hd:decide ((c:Int)<=57)=false:=by simpa using h2
   go_enter func145,ntmps145;go_wp2;go_ret;rw[HR.out];exact⟨by simp,rfl⟩
 ·have HR:Hid (iS c=false):=by simp only[Hid,iS,ii];omega
  have hd:decide ((48:Int)<=c)=false:=by simpa using h1
  go_enter func145,ntmps145;go_wp2;go_ret;rw[HR.out];exact⟨by simp,rfl⟩
theorem dI (w:World)(b:Bool)(n:Int):Calls prog 146 #[.bool b,.int .i64 n] w λe w'=>e=.returned (.int .i64 (wh b n))/\w'=w:=by
 cases b
 all_goals
  go_enter func146,ntmps146;go_wp2;go_ret;exact⟨by simp[wh],rfl⟩
theorem pQ (w:World)(c:Nat):Calls prog 147 #[.int .u8 c] w λe w'=>e=.returned (.int .i64 (jE c))/\w'=w:=by
 go_enter func147,ntmps147;go_wp2
 all_goals go_ret
 all_goals refine⟨?_,rfl⟩
 ·have h:c=46:=by have:((c:Int)==46)=true:=‹_›;simp only[beq_iff_eq] at this;omega
  subst h;rfl
 ·have h:c=35:=by have:((c:Int)==35)=true:=‹_›;simp only[beq_iff_eq] at this;omega
  subst h;rfl
 ·have h:c=58:=by have:((c:Int)==58)=true:=‹_›;simp only[beq_iff_eq] at this;omega
  subst h;rfl
 ·have h1:¬c=46:=by have:((c:Int)==46)=false:=‹_›;simp only[fq] at this;omega
  have h2:¬c=35:=by have:((c:Int)==35)=false:=‹_›;simp only[fq] at this;omega
  have h3:¬c=58:=by have:((c:Int)==58)=false:=‹_›;simp only[fq] at this;omega
  simp[jE,h1,h2,h3]
theorem ut (w:World)(c:Nat):Calls prog 148 #[.int .u8 c] w λe w'=>e=.returned (.int .i64 (jp c))/\w'=w:=by
 go_enter func148,ntmps148;go_wp2
 all_goals go_ret
 all_goals refine⟨?_,rfl⟩
 ·have h:c=59:=by have:((c:Int)==59)=true:=‹_›;simp only[beq_iff_eq] at this;omega
  subst h;rfl
 ·have h:c=125:=by have:((c:Int)==125)=true:=‹_›;simp only[beq_iff_eq] at this;omega
  subst h;rfl
 ·have h1:¬c=59:=by have:((c:Int)==59)=false:=‹_›;simp only[fq] at this;omega
  have h2:¬c=125:=by have:((c:Int)==125)=false:=‹_›;simp only[fq] at this;omega
  simp[jp,h1,h2]
def ta (c:Nat)(s:ByteArray):Bool:=decide (∃k,k<s.size/\bt s k=c)
theorem bI (w:World)(c:Nat)(s:ByteArray)(hs:s.size<=maxLen):Calls prog 92 #[.int .u8 c,.string s] w λe w'=>e=.returned (.bool (ta c s))/\w'=w:=by
 unfold maxLen at hs;go_enter func92,ntmps92;go_wp2
 go_loop [5] (λi=>∃k:Nat,k<=s.size/\i=.int .i64 k/\Hid (∀j,j<k->bt s j≠c)) (λi=>s.size - (intOf i).toNat)
 case atStart=>exact⟨0,bm,rfl,λj hj=>by omega⟩
 case round=>
  obtain⟨k,hk,rfl,HN⟩:=hrel
  by_cases bc:k<s.size
  ·by_cases hc:bt s k=c
   ·have HC:Hid (ta c s=true):=by unfold Hid ta;simp only[bO];exact⟨k,bc,hc⟩
    have he:((s[k].toNat:Int)==(c:Int))=true:=by rw[<-bV s k bc,hc];simp
    clear hc;go_wp2;go_ret;rw[HC.out];exact⟨by simp,rfl⟩
   ·have fj:Hid (∀j,j<k+1->bt s j≠c):=by
     intro j hj
     by_cases e:j=k
     ·rw[e];exact hc
     ·exact HN.out j (by omega)
    have he:((s[k].toNat:Int)==(c:Int))=false:=by rw[<-bV s k bc];simp;omega
    clear hc;go_wp2
    go_round
    case rel=>exact⟨k+1,by omega,by go_num,fj⟩
    case measure=>simp[intOf];omega
  ·have HC:Hid (ta c s=false):=by
    unfold Hid ta;simp only[ii];rintro⟨j,h1,h2⟩;exact HN.out j (by omega) h2
   go_wp2;go_ret;rw[HC.out];exact⟨by simp,rfl⟩
theorem Kg (c:Nat):ta c {data:=#[32,62,43,126,44]}=(jf c||decide (c=44)):=by
 rw[Bool.eq_iff_iff];simp only[ta,jf,Bool.or_eq_true,bO];constructor
 ·rintro⟨k,h1,h2⟩;have h1:k<5:=h1
  match k,h1,h2 with
  | 0,_,h2=>have:32=c:=h2;omega
  | 1,_,h2=>have:62=c:=h2;omega
  | 2,_,h2=>have:43=c:=h2;omega
  | 3,_,h2=>have:126=c:=h2;omega
  | 4,_,h2=>have:44=c:=h2;omega
 ·rintro((h | h | h | h) | h)<;>subst h
  ·exact⟨0,by decide,rfl⟩
  ·exact⟨1,by decide,rfl⟩
  ·exact⟨2,by decide,rfl⟩
  ·exact⟨3,by decide,rfl⟩
  ·exact⟨4,by decide,rfl⟩
theorem Kf (c:Nat):ta c {data:=#[32,62,43,126]}=jf c:=by
 rw[Bool.eq_iff_iff];simp only[ta,jf,bO];constructor
 ·rintro⟨k,h1,h2⟩;have h1:k<4:=h1
  match k,h1,h2 with
  | 0,_,h2=>have:32=c:=h2;omega
  | 1,_,h2=>have:62=c:=h2;omega
  | 2,_,h2=>have:43=c:=h2;omega
  | 3,_,h2=>have:126=c:=h2;omega
 ·rintro(h | h | h | h)<;>subst h
  ·exact⟨0,by decide,rfl⟩
  ·exact⟨1,by decide,rfl⟩
  ·exact⟨2,by decide,rfl⟩
  ·exact⟨3,by decide,rfl⟩
theorem cE (c:Nat):ta c {data:=#[65,66,67,68,69,70,88,89,90]}=xD c:=by
 rw[Bool.eq_iff_iff];simp only[ta,xD,tR,Bool.or_eq_true,bO];constructor
 ·rintro⟨k,h1,h2⟩;have h1:k<9:=h1
  match k,h1,h2 with
  | 0,_,h2=>have:65=c:=h2;omega
  | 1,_,h2=>have:66=c:=h2;omega
  | 2,_,h2=>have:67=c:=h2;omega
  | 3,_,h2=>have:68=c:=h2;omega
  | 4,_,h2=>have:69=c:=h2;omega
  | 5,_,h2=>have:70=c:=h2;omega
  | 6,_,h2=>have:88=c:=h2;omega
  | 7,_,h2=>have:89=c:=h2;omega
  | 8,_,h2=>have:90=c:=h2;omega
 ·intro h;have:c=65∨c=66∨c=67∨c=68∨c=69∨c=70∨c=88∨c=89∨c=90:=by omega
  rcases this with h | h | h | h | h | h | h | h | h<;>subst h
  ·exact⟨0,by decide,rfl⟩
  ·exact⟨1,by decide,rfl⟩
  ·exact⟨2,by decide,rfl⟩
  ·exact⟨3,by decide,rfl⟩
  ·exact⟨4,by decide,rfl⟩
  ·exact⟨5,by decide,rfl⟩
  ·exact⟨6,by decide,rfl⟩
  ·exact⟨7,by decide,rfl⟩
  ·exact⟨8,by decide,rfl⟩
theorem dt {a b:Int}(h:a=b):Ending.returned (.int .i64 a)=.returned (.int .i64 b):=by rw[h]
theorem E2 (w:World)(c:Nat):Calls prog 125 #[.int .i64 1,.int .u8 c] w λe w'=>e=.returned (.int .i64 (ct 1 c))/\w'=w:=by
 go_enter func125,ntmps125;go_wp2_with fail;refine(mK _ c).mono ?_;rintro e w1 ⟨rfl,rfl⟩;go_wp2_with fail;refine(fD _ c).mono ?_;rintro e w2 ⟨rfl,rfl⟩;go_wp2_with fail;refine(dI _ (iS c) 2).mono ?_;rintro e w3 ⟨rfl,rfl⟩;go_wp2_with fail;go_ret;exact⟨dt (by simp[ct]),rfl⟩
theorem E6 (w:World)(c:Nat):Calls prog 125 #[.int .i64 6,.int .u8 c] w λe w'=>e=.returned (.int .i64 (ct 6 c))/\w'=w:=by
 go_enter func125,ntmps125;go_wp2_with fail;refine(mK _ c).mono ?_;rintro e w1 ⟨rfl,rfl⟩;go_wp2_with fail;refine(fD _ c).mono ?_;rintro e w2 ⟨rfl,rfl⟩;go_wp2_with fail;refine(dI _ (iS c) 7).mono ?_;rintro e w3 ⟨rfl,rfl⟩;go_wp2_with fail;go_ret;exact⟨dt (by simp[ct]),rfl⟩
theorem E7 (w:World)(c:Nat):Calls prog 125 #[.int .i64 7,.int .u8 c] w λe w'=>e=.returned (.int .i64 (ct 7 c))/\w'=w:=by
 go_enter func125,ntmps125;go_wp2_with fail;refine(mK _ c).mono ?_;rintro e w1 ⟨rfl,rfl⟩;go_wp2_with fail;refine(fD _ c).mono ?_;rintro e w2 ⟨rfl,rfl⟩;go_wp2_with fail;refine(dI _ (iS c) 3).mono ?_;rintro e w3 ⟨rfl,rfl⟩;go_wp2_with fail;go_ret;exact⟨dt (by simp[ct]),rfl⟩
theorem E4 (w:World)(c:Nat):Calls prog 125 #[.int .i64 4,.int .u8 c] w λe w'=>e=.returned (.int .i64 (ct 4 c))/\w'=w:=by
 go_enter func125,ntmps125;go_wp2_with fail;refine(mK _ c).mono ?_;rintro e w1 ⟨rfl,rfl⟩;go_wp2_with fail;refine(fD _ c).mono ?_;rintro e w2 ⟨rfl,rfl⟩;go_wp2_with fail;refine(dI _ (gN c) 3).mono ?_;rintro e w3 ⟨rfl,rfl⟩;go_wp2_with fail;go_ret;exact⟨dt (by simp[ct]),rfl⟩
theorem E8 (w:World)(c:Nat):Calls prog 125 #[.int .i64 8,.int .u8 c] w λe w'=>e=.returned (.int .i64 (ct 8 c))/\w'=w:=by
 cases hL:gN c
 ·have HL:=aw hL;go_enter func125,ntmps125;go_wp2_with fail;refine(mK _ c).mono ?_;rw[hL];clear hL;rintro e w1 ⟨rfl,rfl⟩;go_wp2_with fail;refine(fD _ c).mono ?_;rintro e w2 ⟨rfl,rfl⟩;go_wp2_with fail;refine(pQ _ c).mono ?_;rintro e w3 ⟨rfl,rfl⟩;go_wp2_with fail;go_ret;exact⟨dt (by simp[ct,HL.out]),rfl⟩
 ·have HL:=aw hL;go_enter func125,ntmps125;go_wp2_with fail;refine(mK _ c).mono ?_;rw[hL];clear hL;rintro e w1 ⟨rfl,rfl⟩;go_wp2_with fail;refine(fD _ c).mono ?_;rintro e w2 ⟨rfl,rfl⟩;go_wp2_with fail;go_ret;exact⟨dt (by simp[ct,HL.out]),rfl⟩
theorem uR (w:World)(c:Nat):Calls prog 125 #[.int .i64 2,.int .u8 c] w λe w'=>e=.returned (.int .i64 (ct 2 c))/\w'=w:=by
 by_cases td:c=42
 ·subst td;have g42:((42:Int)==42)=true:=rfl;go_enter func125,ntmps125;go_wp2_with fail;refine(mK _ 42).mono ?_;rintro e w1 ⟨rfl,rfl⟩;go_wp2_with fail;refine(fD _ 42).mono ?_;rintro e w2 ⟨rfl,rfl⟩;have hL:gN 42=false:=by decide
  rw[hL];go_wp2_with fail;go_ret;exact⟨dt (by simp[ct,jY]),rfl⟩
 have g42:((c:Int)==42)=false:=by simp;omega
 cases hL:gN c
 ·have HL:=aw hL
  by_cases i7:c=33
  ·have OO:((c:Int)==33)=true:=by simp[i7]
   have Q4:=aw i7;clear i7 td;go_enter func125,ntmps125;go_wp2_with fail;refine(mK _ c).mono ?_;rw[hL];clear hL;rintro e w1 ⟨rfl,rfl⟩;go_wp2_with fail;refine(fD _ c).mono ?_;rintro e w2 ⟨rfl,rfl⟩;go_wp2_with fail;go_ret;exact⟨dt (by simp[ct,jY,Q4.out,gN]),rfl⟩
  ·have OO:((c:Int)==33)=false:=by simp;omega
   have Q4:=aw i7;have Q5:=aw td;clear i7 td;go_enter func125,ntmps125;go_wp2_with fail;refine(mK _ c).mono ?_;rw[hL];clear hL;rintro e w1 ⟨rfl,rfl⟩;go_wp2_with fail;refine(fD _ c).mono ?_;rintro e w2 ⟨rfl,rfl⟩;go_wp2_with fail;refine(bI _ c _ (by decide)).mono ?_;rintro e w3 ⟨rfl,rfl⟩;go_wp2_with fail;refine(pQ _ c).mono ?_;rintro e w4 ⟨rfl,rfl⟩;go_wp2_with fail;go_ret;exact⟨dt (by simp[ct,jY,HL.out,Q4.out,Q5.out]),rfl⟩
 ·have HL:=aw hL;go_enter func125,ntmps125;go_wp2_with fail;refine(mK _ c).mono ?_;rw[hL];clear hL;rintro e w1 ⟨rfl,rfl⟩;go_wp2_with fail;refine(fD _ c).mono ?_;rintro e w2 ⟨rfl,rfl⟩;go_wp2_with fail;go_ret;exact⟨dt (by simp[ct,jY,HL.out]),rfl⟩
theorem E3 (w:World)(c:Nat):Calls prog 125 #[.int .i64 3,.int .u8 c] w λe w'=>e=.returned (.int .i64 (ct 3 c))/\w'=w:=by
 by_cases i7:c=33
 ·have OO:((c:Int)==33)=true:=by simp[i7]
  have Q4:=aw i7;clear i7;go_enter func125,ntmps125;go_wp2_with fail;refine(mK _ c).mono ?_;rintro e w1 ⟨rfl,rfl⟩;go_wp2_with fail;refine(fD _ c).mono ?_;rintro e w2 ⟨rfl,rfl⟩;go_wp2_with fail;go_ret;exact⟨dt (by simp[ct,jg,Q4.out]),rfl⟩
 have OO:((c:Int)==33)=false:=by simp;omega
 have Q4:=aw i7;clear i7;have HA:=aw (Kg c);cases hS:ta c {data:=#[32,62,43,126,44]}
 ·have HS:Hid ((jf c||decide (c=44))=false):=by rw[<-HA.out];exact hS
  by_cases DT:c=123
  ·have adp:((c:Int)==123)=true:=by simp[DT]
   have Vn:=aw DT;clear DT;go_enter func125,ntmps125;go_wp2_with fail;refine(mK _ c).mono ?_;rintro e w1 ⟨rfl,rfl⟩;go_wp2_with fail;refine(fD _ c).mono ?_;rintro e w2 ⟨rfl,rfl⟩;go_wp2_with fail;refine(bI _ c _ (by decide)).mono ?_;rw[hS];clear hS;rintro e w3 ⟨rfl,rfl⟩;go_wp2_with fail;go_ret;exact⟨dt (by simp[ct,jg,Vn.out,jf]),rfl⟩
  ·have adp:((c:Int)==123)=false:=by simp;omega
   have Vn:=aw DT;clear DT;go_enter func125,ntmps125;go_wp2_with fail;refine(mK _ c).mono ?_;rintro e w1 ⟨rfl,rfl⟩;go_wp2_with fail;refine(fD _ c).mono ?_;rintro e w2 ⟨rfl,rfl⟩;go_wp2_with fail;refine(bI _ c _ (by decide)).mono ?_;rw[hS];clear hS;rintro e w3 ⟨rfl,rfl⟩;go_wp2_with fail;refine(pQ _ c).mono ?_;rintro e w4 ⟨rfl,rfl⟩;go_wp2_with fail;go_ret;have hs:=HS.out;simp only[Bool.or_eq_false_iff,ii] at hs;exact⟨dt (by simp[ct,jg,Vn.out,Q4.out,hs.1,hs.2]),rfl⟩
 ·have HS:Hid ((jf c||decide (c=44))=true):=by rw[<-HA.out];exact hS
  go_enter func125,ntmps125;go_wp2_with fail;refine(mK _ c).mono ?_;rintro e w1 ⟨rfl,rfl⟩;go_wp2_with fail;refine(fD _ c).mono ?_;rintro e w2 ⟨rfl,rfl⟩;go_wp2_with fail;refine(bI _ c _ (by decide)).mono ?_;rw[hS];clear hS;rintro e w3 ⟨rfl,rfl⟩;go_wp2_with fail;go_ret;have hs:=HS.out;simp only[Bool.or_eq_true,bO] at hs;exact⟨dt (by simp[ct,jg,Q4.out,hs]),rfl⟩
theorem E5 (w:World)(c:Nat):Calls prog 125 #[.int .i64 5,.int .u8 c] w λe w'=>e=.returned (.int .i64 (ct 5 c))/\w'=w:=by
 by_cases h1:c=110
 ·have g1:((c:Int)==110)=true:=by simp[h1]
  have H1:=aw h1;clear h1;go_enter func125,ntmps125;go_wp2_with fail;refine(mK _ c).mono ?_;rintro e w1 ⟨rfl,rfl⟩;go_wp2_with fail;refine(fD _ c).mono ?_;rintro e w2 ⟨rfl,rfl⟩;go_wp2_with fail;go_ret;exact⟨dt (by simp[ct,H1.out]),rfl⟩
 have g1:((c:Int)==110)=false:=by simp;omega
 have H1:=aw h1;clear h1
 by_cases h102:c=102
 ·have V5:((c:Int)==102)=true:=by simp[h102]
  have H:=aw h102;clear h102;go_enter func125,ntmps125;go_wp2_with fail;refine(mK _ c).mono ?_;rintro e w1 ⟨rfl,rfl⟩;go_wp2_with fail;refine(fD _ c).mono ?_;rintro e w2 ⟨rfl,rfl⟩;go_wp2_with fail;refine(dI _ true 3).mono ?_;rintro e w3 ⟨rfl,rfl⟩;go_wp2_with fail;go_ret;exact⟨dt (by simp[ct,H.out]),rfl⟩
 have V5:((c:Int)==102)=false:=by simp;omega
 have aco:=aw h102;clear h102
 by_cases h108:c=108
 ·have V7:((c:Int)==108)=true:=by simp[h108]
  have H:=aw h108;clear h108;go_enter func125,ntmps125;go_wp2_with fail;refine(mK _ c).mono ?_;rintro e w1 ⟨rfl,rfl⟩;go_wp2_with fail;refine(fD _ c).mono ?_;rintro e w2 ⟨rfl,rfl⟩;go_wp2_with fail;refine(dI _ true 3).mono ?_;rintro e w3 ⟨rfl,rfl⟩;go_wp2_with fail;go_ret;exact⟨dt (by simp[ct,H.out]),rfl⟩
 have V7:((c:Int)==108)=false:=by simp;omega
 have acq:=aw h108;clear h108
 by_cases h101:c=101
 ·have V4:((c:Int)==101)=true:=by simp[h101]
  have H:=aw h101;clear h101;go_enter func125,ntmps125;go_wp2_with fail;refine(mK _ c).mono ?_;rintro e w1 ⟨rfl,rfl⟩;go_wp2_with fail;refine(fD _ c).mono ?_;rintro e w2 ⟨rfl,rfl⟩;go_wp2_with fail;refine(dI _ true 3).mono ?_;rintro e w3 ⟨rfl,rfl⟩;go_wp2_with fail;go_ret;exact⟨dt (by simp[ct,H.out]),rfl⟩
 have V4:((c:Int)==101)=false:=by simp;omega
 have acn:=aw h101;clear h101;go_enter func125,ntmps125;go_wp2_with fail;refine(mK _ c).mono ?_;rintro e w1 ⟨rfl,rfl⟩;go_wp2_with fail;refine(fD _ c).mono ?_;rintro e w2 ⟨rfl,rfl⟩;go_wp2_with fail;refine(dI _ false 3).mono ?_;rintro e w3 ⟨rfl,rfl⟩;go_wp2_with fail;go_ret;exact⟨dt (by simp[ct,H1.out,aco.out,acq.out,acn.out]),rfl⟩
theorem E1 (w:World)(c:Nat):Calls prog 125 #[.int .i64 0,.int .u8 c] w λe w'=>e=.returned (.int .i64 (ct 0 c))/\w'=w:=by
 by_cases h1:c=64
 ·have g1:((c:Int)==64)=true:=by simp[h1]
  have H1:=aw h1;clear h1;go_enter func125,ntmps125;go_wp2_with fail;refine(mK _ c).mono ?_;rintro e w1 ⟨rfl,rfl⟩;go_wp2_with fail;refine(fD _ c).mono ?_;rintro e w2 ⟨rfl,rfl⟩;go_wp2_with fail;go_ret;exact⟨dt (by simp[ct,H1.out]),rfl⟩
 ·have g1:((c:Int)==64)=false:=by simp;omega
  have H1:=aw h1;clear h1;go_enter func125,ntmps125;go_wp2_with fail;refine(mK _ c).mono ?_;rintro e w1 ⟨rfl,rfl⟩;go_wp2_with fail;refine(fD _ c).mono ?_;rintro e w2 ⟨rfl,rfl⟩;go_wp2_with fail;refine(uR _ c).mono ?_;rintro e w3 ⟨rfl,rfl⟩;go_wp2_with fail;go_ret;exact⟨dt (by simp[ct,H1.out]),rfl⟩
theorem BO (w:World)(c:Nat):Calls prog 126 #[.int .i64 16,.int .u8 c] w λe w'=>e=.returned (.int .i64 (ct 16 c))/\w'=w:=by
 go_enter func126,ntmps126;go_wp2_with fail;refine(fD _ c).mono ?_;rintro e w1 ⟨rfl,rfl⟩;go_wp2_with fail;refine(bI _ c _ (by decide)).mono ?_;rw[cE c];rintro e w2 ⟨rfl,rfl⟩;go_wp2_with fail;refine(ut _ c).mono ?_;rintro e w3 ⟨rfl,rfl⟩;go_wp2_with fail;go_ret;exact⟨dt (by simp[ct]),rfl⟩
theorem og (w:World)(c:Nat):Calls prog 126 #[.int .i64 15,.int .u8 c] w λe w'=>e=.returned (.int .i64 (ct 15 c))/\w'=w:=by
 by_cases i7:c=33
 ·have OO:((c:Int)==33)=true:=by simp[i7]
  have H:=aw i7;clear i7;go_enter func126,ntmps126;go_wp2_with fail;refine(fD _ c).mono ?_;rintro e w1 ⟨rfl,rfl⟩;go_wp2_with fail;refine(bI _ c _ (by decide)).mono ?_;rw[cE c];rintro e w2 ⟨rfl,rfl⟩;go_wp2_with fail;go_ret;exact⟨dt (by simp[ct,kX,H.out]),rfl⟩
 have OO:((c:Int)==33)=false:=by simp;omega
 have Q4:=aw i7;clear i7;go_enter func126,ntmps126;go_wp2_with fail;refine(fD _ c).mono ?_;rintro e w1 ⟨rfl,rfl⟩;go_wp2_with fail;refine(bI _ c _ (by decide)).mono ?_;rw[cE c];rintro e w2 ⟨rfl,rfl⟩;go_wp2_with fail;refine(ut _ c).mono ?_;rintro e w3 ⟨rfl,rfl⟩;go_wp2_with fail;go_ret;exact⟨dt (by simp[ct,kX,Q4.out]),rfl⟩
theorem BM (w:World)(c:Nat):Calls prog 126 #[.int .i64 13,.int .u8 c] w λe w'=>e=.returned (.int .i64 (ct 13 c))/\w'=w:=by
 cases hD:iS c
 ·have HD:=aw hD;go_enter func126,ntmps126;go_wp2_with fail;refine(fD _ c).mono ?_;rw[hD];clear hD;rintro e w1 ⟨rfl,rfl⟩;go_wp2_with fail;refine(bI _ c _ (by decide)).mono ?_;rw[cE c];rintro e w2 ⟨rfl,rfl⟩;go_wp2_with fail;refine(og _ c).mono ?_;rintro e w3 ⟨rfl,rfl⟩;go_wp2_with fail;go_ret;exact⟨dt (by simp[ct,HD.out]),rfl⟩
 ·have HD:=aw hD;go_enter func126,ntmps126;go_wp2_with fail;refine(fD _ c).mono ?_;rw[hD];clear hD;rintro e w1 ⟨rfl,rfl⟩;go_wp2_with fail;refine(bI _ c _ (by decide)).mono ?_;rw[cE c];rintro e w2 ⟨rfl,rfl⟩;go_wp2_with fail;go_ret;exact⟨dt (by simp[ct,HD.out]),rfl⟩
theorem BN (w:World)(c:Nat):Calls prog 126 #[.int .i64 14,.int .u8 c] w λe w'=>e=.returned (.int .i64 (ct 14 c))/\w'=w:=by
 cases hD:iS c
 ·have HD:=aw hD;go_enter func126,ntmps126;go_wp2_with fail;refine(fD _ c).mono ?_;rw[hD];clear hD;rintro e w1 ⟨rfl,rfl⟩;go_wp2_with fail;refine(bI _ c _ (by decide)).mono ?_;rw[cE c];rintro e w2 ⟨rfl,rfl⟩;go_wp2_with fail;refine(og _ c).mono ?_;rintro e w3 ⟨rfl,rfl⟩;go_wp2_with fail;go_ret;exact⟨dt (by simp[ct,HD.out]),rfl⟩
 ·have HD:=aw hD;go_enter func126,ntmps126;go_wp2_with fail;refine(fD _ c).mono ?_;rw[hD];clear hD;rintro e w1 ⟨rfl,rfl⟩;go_wp2_with fail;refine(bI _ c _ (by decide)).mono ?_;rw[cE c];rintro e w2 ⟨rfl,rfl⟩;go_wp2_with fail;go_ret;exact⟨dt (by simp[ct,HD.out]),rfl⟩
theorem BJ (w:World)(c:Nat):Calls prog 126 #[.int .i64 10,.int .u8 c] w λe w'=>e=.returned (.int .i64 (ct 10 c))/\w'=w:=by
 go_enter func126,ntmps126;go_wp2_with fail;refine(fD _ c).mono ?_;rintro e w1 ⟨rfl,rfl⟩;go_wp2_with fail;refine(bI _ c _ (by decide)).mono ?_;rw[cE c];rintro e w2 ⟨rfl,rfl⟩;go_wp2_with fail;refine(dI _ (xD c) 11).mono ?_;rintro e w3 ⟨rfl,rfl⟩;go_wp2_with fail;go_ret;exact⟨dt (by simp[ct,lO,wh]),rfl⟩
theorem Dz (w:World)(c:Nat):Calls prog 126 #[.int .i64 9,.int .u8 c] w λe w'=>e=.returned (.int .i64 (ct 9 c))/\w'=w:=by
 by_cases GI:c=125
 ·have adq:((c:Int)==125)=true:=by simp[GI]
  have H:=aw GI;clear GI;go_enter func126,ntmps126;go_wp2_with fail;refine(fD _ c).mono ?_;rintro e w1 ⟨rfl,rfl⟩;go_wp2_with fail;refine(bI _ c _ (by decide)).mono ?_;rw[cE c];rintro e w2 ⟨rfl,rfl⟩;go_wp2_with fail;go_ret;exact⟨dt (by simp[ct,H.out]),rfl⟩
 have adq:((c:Int)==125)=false:=by simp;omega
 have acs:=aw GI;clear GI;go_enter func126,ntmps126;go_wp2_with fail;refine(fD _ c).mono ?_;rintro e w1 ⟨rfl,rfl⟩;go_wp2_with fail;refine(bI _ c _ (by decide)).mono ?_;rw[cE c];rintro e w2 ⟨rfl,rfl⟩;go_wp2_with fail;refine(dI _ (xD c) 11).mono ?_;rintro e w3 ⟨rfl,rfl⟩;go_wp2_with fail;go_ret;exact⟨dt (by simp[ct,lO,wh,acs.out]),rfl⟩
theorem BK (w:World)(c:Nat):Calls prog 126 #[.int .i64 11,.int .u8 c] w λe w'=>e=.returned (.int .i64 (ct 11 c))/\w'=w:=by
 by_cases h58:c=58
 ·have Wa:((c:Int)==58)=true:=by simp[h58]
  have H:=aw h58;clear h58;go_enter func126,ntmps126;go_wp2_with fail;refine(fD _ c).mono ?_;rintro e w1 ⟨rfl,rfl⟩;go_wp2_with fail;refine(bI _ c _ (by decide)).mono ?_;rw[cE c];rintro e w2 ⟨rfl,rfl⟩;go_wp2_with fail;refine(dI _ true 12).mono ?_;rintro e w3 ⟨rfl,rfl⟩;go_wp2_with fail;go_ret;exact⟨dt (by simp[ct,H.out]),rfl⟩
 have Wa:((c:Int)==58)=false:=by simp;omega
 have H58:=aw h58;clear h58;go_enter func126,ntmps126;go_wp2_with fail;refine(fD _ c).mono ?_;rintro e w1 ⟨rfl,rfl⟩;go_wp2_with fail;refine(bI _ c _ (by decide)).mono ?_;rw[cE c];rintro e w2 ⟨rfl,rfl⟩;go_wp2_with fail;refine(dI _ false 12).mono ?_;rintro e w3 ⟨rfl,rfl⟩;go_wp2_with fail;go_ret;exact⟨dt (by simp[ct,H58.out]),rfl⟩
theorem BP (w:World)(c:Nat):Calls prog 126 #[.int .i64 17,.int .u8 c] w λe w'=>e=.returned (.int .i64 (ct 17 c))/\w'=w:=by
 by_cases h88:c=88
 ·have g88:((c:Int)==88)=true:=by simp[h88]
  have H:=aw h88;clear h88;go_enter func126,ntmps126;go_wp2_with fail;refine(fD _ c).mono ?_;rintro e w1 ⟨rfl,rfl⟩;go_wp2_with fail;refine(bI _ c _ (by decide)).mono ?_;rw[cE c];rintro e w2 ⟨rfl,rfl⟩;go_wp2_with fail;refine(dI _ true 15).mono ?_;rintro e w3 ⟨rfl,rfl⟩;go_wp2_with fail;go_ret;exact⟨dt (by simp[ct,tR,H.out]),rfl⟩
 have g88:((c:Int)==88)=false:=by simp;omega
 have H88:=aw h88;clear h88
 by_cases h89:c=89
 ·have g89:((c:Int)==89)=true:=by simp[h89]
  have H:=aw h89;clear h89;go_enter func126,ntmps126;go_wp2_with fail;refine(fD _ c).mono ?_;rintro e w1 ⟨rfl,rfl⟩;go_wp2_with fail;refine(bI _ c _ (by decide)).mono ?_;rw[cE c];rintro e w2 ⟨rfl,rfl⟩;go_wp2_with fail;refine(dI _ true 15).mono ?_;rintro e w3 ⟨rfl,rfl⟩;go_wp2_with fail;go_ret;exact⟨dt (by simp[ct,tR,H.out]),rfl⟩
 have g89:((c:Int)==89)=false:=by simp;omega
 have H89:=aw h89;clear h89
 by_cases h90:c=90
 ·have g90:((c:Int)==90)=true:=by simp[h90]
  have H:=aw h90;clear h90;go_enter func126,ntmps126;go_wp2_with fail;refine(fD _ c).mono ?_;rintro e w1 ⟨rfl,rfl⟩;go_wp2_with fail;refine(bI _ c _ (by decide)).mono ?_;rw[cE c];rintro e w2 ⟨rfl,rfl⟩;go_wp2_with fail;refine(dI _ true 15).mono ?_;rintro e w3 ⟨rfl,rfl⟩;go_wp2_with fail;go_ret;exact⟨dt (by simp[ct,tR,H.out]),rfl⟩
 have g90:((c:Int)==90)=false:=by simp;omega
 have H90:=aw h90;clear h90;go_enter func126,ntmps126;go_wp2_with fail;refine(fD _ c).mono ?_;rintro e w1 ⟨rfl,rfl⟩;go_wp2_with fail;refine(bI _ c _ (by decide)).mono ?_;rw[cE c];rintro e w2 ⟨rfl,rfl⟩;go_wp2_with fail;refine(dI _ false 15).mono ?_;rintro e w3 ⟨rfl,rfl⟩;go_wp2_with fail;go_ret;have hv:tR c=false:=by have:=H88.out;have:=H89.out;have:=H90.out;simp only[tR,ii];omega
 exact⟨dt (by simp[ct,hv]),rfl⟩
theorem BL (w:World)(c:Nat):Calls prog 126 #[.int .i64 12,.int .u8 c] w λe w'=>e=.returned (.int .i64 (ct 12 c))/\w'=w:=by
 cases hD:iS c
 ·have HD:=aw hD
  by_cases vi:c=36
  ·have g36:((c:Int)==36)=true:=by simp[vi]
   have H:=aw vi;clear vi;go_enter func126,ntmps126;go_wp2_with fail;refine(fD _ c).mono ?_;rw[hD];clear hD;rintro e w1 ⟨rfl,rfl⟩;go_wp2_with fail;refine(bI _ c _ (by decide)).mono ?_;rw[cE c];rintro e w2 ⟨rfl,rfl⟩;go_wp2_with fail;go_ret;exact⟨dt (by simp[ct,iS,H.out]),rfl⟩
  have g36:((c:Int)==36)=false:=by simp;omega
  have H36:=aw vi;clear vi
  by_cases h105:c=105
  ·have V6:((c:Int)==105)=true:=by simp[h105]
   have H:=aw h105;clear h105;go_enter func126,ntmps126;go_wp2_with fail;refine(fD _ c).mono ?_;rw[hD];clear hD;rintro e w1 ⟨rfl,rfl⟩;go_wp2_with fail;refine(bI _ c _ (by decide)).mono ?_;rw[cE c];rintro e w2 ⟨rfl,rfl⟩;go_wp2_with fail;refine(dI _ true 15).mono ?_;rintro e w3 ⟨rfl,rfl⟩;go_wp2_with fail;go_ret;exact⟨dt (by simp[ct,iS,H.out]),rfl⟩
  have V6:((c:Int)==105)=false:=by simp;omega
  have acp:=aw h105;clear h105
  by_cases h114:c=114
  ·have V9:((c:Int)==114)=true:=by simp[h114]
   have H:=aw h114;clear h114;go_enter func126,ntmps126;go_wp2_with fail;refine(fD _ c).mono ?_;rw[hD];clear hD;rintro e w1 ⟨rfl,rfl⟩;go_wp2_with fail;refine(bI _ c _ (by decide)).mono ?_;rw[cE c];rintro e w2 ⟨rfl,rfl⟩;go_wp2_with fail;refine(dI _ true 15).mono ?_;rintro e w3 ⟨rfl,rfl⟩;go_wp2_with fail;go_ret;exact⟨dt (by simp[ct,iS,H.out]),rfl⟩
  have V9:((c:Int)==114)=false:=by simp;omega
  have acr:=aw h114;clear h114
  by_cases BZ:c=117
  ·have ado:((c:Int)==117)=true:=by simp[BZ]
   have H:=aw BZ;clear BZ;go_enter func126,ntmps126;go_wp2_with fail;refine(fD _ c).mono ?_;rw[hD];clear hD;rintro e w1 ⟨rfl,rfl⟩;go_wp2_with fail;refine(bI _ c _ (by decide)).mono ?_;rw[cE c];rintro e w2 ⟨rfl,rfl⟩;go_wp2_with fail;refine(dI _ true 15).mono ?_;rintro e w3 ⟨rfl,rfl⟩;go_wp2_with fail;go_ret;exact⟨dt (by simp[ct,iS,H.out]),rfl⟩
  have ado:((c:Int)==117)=false:=by simp;omega
  have Vm:=aw BZ;clear BZ;go_enter func126,ntmps126;go_wp2_with fail;refine(fD _ c).mono ?_;rw[hD];clear hD;rintro e w1 ⟨rfl,rfl⟩;go_wp2_with fail;refine(bI _ c _ (by decide)).mono ?_;rw[cE c];rintro e w2 ⟨rfl,rfl⟩;go_wp2_with fail;refine(dI _ false 15).mono ?_;rintro e w3 ⟨rfl,rfl⟩;go_wp2_with fail;go_ret;exact⟨dt (by simp[ct,HD.out,H36.out,acp.out,acr.out,Vm.out]),rfl⟩
 ·have HD:=aw hD;go_enter func126,ntmps126;go_wp2_with fail;refine(fD _ c).mono ?_;rw[hD];clear hD;rintro e w1 ⟨rfl,rfl⟩;go_wp2_with fail;refine(bI _ c _ (by decide)).mono ?_;rw[cE c];rintro e w2 ⟨rfl,rfl⟩;go_wp2_with fail;go_ret;exact⟨dt (by simp[ct,HD.out]),rfl⟩
theorem PJ (w:World)(m:Int)(c:Nat)(h0:0<=m)(h1:m<=17):Calls prog 91 #[.int .i64 m,.int .u8 c] w λe w'=>e=.returned (.int .i64 (ct m c))/\w'=w:=by
 have hm:m=0∨m=1∨m=2∨m=3∨m=4∨m=5∨m=6∨m=7∨m=8∨m=9∨m=10∨m=11∨m=12∨m=13∨m=14∨m=15∨m=16∨m=17:=by omega
 clear h0 h1;rcases hm with rfl | rfl | rfl | rfl | rfl | rfl | rfl | rfl | rfl | rfl | rfl | rfl | rfl | rfl | rfl | rfl | rfl | rfl
 ·go_enter func91,ntmps91;go_wp2_with fail;refine(E1 _ c).mono ?_;rintro e w3 ⟨rfl,rfl⟩;go_wp2_with fail;go_ret;exact⟨rfl,rfl⟩
 ·go_enter func91,ntmps91;go_wp2_with fail;refine(E2 _ c).mono ?_;rintro e w3 ⟨rfl,rfl⟩;go_wp2_with fail;go_ret;exact⟨rfl,rfl⟩
 ·go_enter func91,ntmps91;go_wp2_with fail;refine(uR _ c).mono ?_;rintro e w3 ⟨rfl,rfl⟩;go_wp2_with fail;go_ret;exact⟨rfl,rfl⟩
 ·go_enter func91,ntmps91;go_wp2_with fail;refine(E3 _ c).mono ?_;rintro e w3 ⟨rfl,rfl⟩;go_wp2_with fail;go_ret;exact⟨rfl,rfl⟩
 ·go_enter func91,ntmps91;go_wp2_with fail;refine(E4 _ c).mono ?_;rintro e w3 ⟨rfl,rfl⟩;go_wp2_with fail;go_ret;exact⟨rfl,rfl⟩
 ·go_enter func91,ntmps91;go_wp2_with fail;refine(E5 _ c).mono ?_;rintro e w3 ⟨rfl,rfl⟩;go_wp2_with fail;go_ret;exact⟨rfl,rfl⟩
 ·go_enter func91,ntmps91;go_wp2_with fail;refine(E6 _ c).mono ?_;rintro e w3 ⟨rfl,rfl⟩;go_wp2_with fail;go_ret;exact⟨rfl,rfl⟩
 ·go_enter func91,ntmps91;go_wp2_with fail;refine(E7 _ c).mono ?_;rintro e w3 ⟨rfl,rfl⟩;go_wp2_with fail;go_ret;exact⟨rfl,rfl⟩
 ·go_enter func91,ntmps91;go_wp2_with fail;refine(E8 _ c).mono ?_;rintro e w3 ⟨rfl,rfl⟩;go_wp2_with fail;go_ret;exact⟨rfl,rfl⟩
 ·go_enter func91,ntmps91;go_wp2_with fail;refine(Dz _ c).mono ?_;rintro e w3 ⟨rfl,rfl⟩;go_wp2_with fail;go_ret;exact⟨rfl,rfl⟩
 ·go_enter func91,ntmps91;go_wp2_with fail;refine(BJ _ c).mono ?_;rintro e w3 ⟨rfl,rfl⟩;go_wp2_with fail;go_ret;exact⟨rfl,rfl⟩
 ·go_enter func91,ntmps91;go_wp2_with fail;refine(BK _ c).mono ?_;rintro e w3 ⟨rfl,rfl⟩;go_wp2_with fail;go_ret;exact⟨rfl,rfl⟩
 ·go_enter func91,ntmps91;go_wp2_with fail;refine(BL _ c).mono ?_;rintro e w3 ⟨rfl,rfl⟩;go_wp2_with fail;go_ret;exact⟨rfl,rfl⟩
 ·go_enter func91,ntmps91;go_wp2_with fail;refine(BM _ c).mono ?_;rintro e w3 ⟨rfl,rfl⟩;go_wp2_with fail;go_ret;exact⟨rfl,rfl⟩
 ·go_enter func91,ntmps91;go_wp2_with fail;refine(BN _ c).mono ?_;rintro e w3 ⟨rfl,rfl⟩;go_wp2_with fail;go_ret;exact⟨rfl,rfl⟩
 ·go_enter func91,ntmps91;go_wp2_with fail;refine(og _ c).mono ?_;rintro e w3 ⟨rfl,rfl⟩;go_wp2_with fail;go_ret;exact⟨rfl,rfl⟩
 ·go_enter func91,ntmps91;go_wp2_with fail;refine(BO _ c).mono ?_;rintro e w3 ⟨rfl,rfl⟩;go_wp2_with fail;go_ret;exact⟨rfl,rfl⟩
 ·go_enter func91,ntmps91;go_wp2_with fail;refine(BP _ c).mono ?_;rintro e w3 ⟨rfl,rfl⟩;go_wp2_with fail;go_ret;exact⟨rfl,rfl⟩
section
variable {M m:Int}{c i p:Nat}{k:Cn}{s:ByteArray}
theorem Th {p:Prop}[Decidable p]{a b:Int}(ha:-1<=a/\a<=17)(hb:-1<=b/\b<=17):-1<=(if p then a else b)/\(if p then a else b)<=17:=by
 split
 ·exact ha
 ·exact hb
theorem Lm (m:Int)(c:Nat):-1<=ct m c/\ct m c<=17:=by
 have hp:-1<=jE c/\jE c<=17:=by unfold jE;(repeat' split)<;>omega
 have hc:-1<=jp c/\jp c<=17:=by unfold jp;(repeat' split)<;>omega
 have hm:-1<=kX c/\kX c<=17:=by unfold kX;(repeat' split)<;>omega
 have hq:-1<=lO c/\lO c<=17:=by unfold lO;(repeat' split)<;>omega
 have ho:-1<=jY c/\jY c<=17:=by unfold jY;(repeat' split)<;>omega
 have hr:-1<=jg c/\jg c<=17:=by unfold jg;(repeat' split)<;>omega
 have hw:∀b n,-1<=n->n<=17->-1<=wh b n/\wh b n<=17:=by intro b n h1 h2;unfold wh;(repeat' split)<;>omega
 unfold ct
 repeat' (first | exact hp | exact hc | exact hm | exact hq | exact ho | exact hr | exact hw _ _ (by decide) (by decide) | refine Th ?_ ?_ | exact⟨by decide,by decide⟩)
def Acc (s:ByteArray)(m:Int)(k:Cn)(i:Nat)(M:Int):Prop:=V s m k i=(-1,M)
theorem Acc.lt (h:Acc s m k i M)(hm:m≠0):i<s.size:=by
 by_cases hi:i<s.size
 ·exact hi
 ·unfold Acc at h;rw[wG (by omega),aA hm] at h;injection h with h1 _
  omega
theorem Acc.ok (h:Acc s m k i M)(hi:i<s.size):ct m (bt s i)≠-1:=by
 intro e;unfold Acc at h;rw[wJ hi e] at h;injection h with h1 _
 omega
theorem Acc.step (h:Acc s m k i M)(hi:i<s.size):Acc s (ct m (bt s i)) (cnt m (bt s i) i k) (i+1) M:=by
 have:=h.ok hi;unfold Acc at h ⊢;rw[<-h,wH hi rfl this]
def iR (m:Int):Prop:=m=2∨m=3∨m=4∨m=5∨m=6∨m=7∨m=8
theorem Ey (c:Nat):jE c=-1∨jE c=4∨jE c=5:=by unfold jE;(repeat' split)<;>omega
theorem yn (hm:iR m)(hc:c≠123)(h:ct m c≠-1):iR (ct m c):=by
 have hp:=Ey c;unfold iR at *;have ho:jY c=3∨jY c=8∨jY c=jE c:=by unfold jY;(repeat' split)<;>omega
 have hr:jg c=8∨jg c=2∨jg c=jE c:=by unfold jg;rw[aA hc];(repeat' split)<;>omega
 have hw:∀b n,wh b n=-1∨wh b n=n:=by intro b n;unfold wh;(repeat' split)<;>omega
 have w2:=hw (gN c) 3;have w3:=hw (decide (c=102∨c=108∨c=101)) 3;have w4:=hw (iS c) 7;have w5:=hw (iS c) 3;rcases hm with rfl | rfl | rfl | rfl | rfl | rfl | rfl<;>simp only[ct] at h ⊢<;>simp only[Int.reduceEq,if_false,if_true] at h ⊢
 ·omega
 ·omega
 ·omega
 ·split at h<;>split<;>omega
 ·omega
 ·omega
 ·split at h<;>split<;>omega
theorem TQ (hm:iR m)(hs:jf c=false)(hc:c≠44):cnt m c i k=k:=by
 unfold iR at hm;rcases hm with rfl | rfl | rfl | rfl | rfl | rfl | rfl<;>simp[cnt,hs,hc]
theorem ym (hm:iR m)(hc:jf c=true∨c=44∨c=123)(h:ct m c≠-1):m=3:=by
 have h0:c=32∨c=62∨c=43∨c=126∨c=44∨c=123:=by simp only[jf,bO] at hc;omega
 unfold iR at hm;rcases hm with rfl | rfl | rfl | rfl | rfl | rfl | rfl<;>first | rfl | (exfalso;apply h;rcases h0 with rfl | rfl | rfl | rfl | rfl | rfl<;>decide)
theorem LU:∀(n:Nat) {m:Int} {k:Cn} {p:Nat},s.size - p<=n->iR m->Acc s m k p M->∃q,p<=q/\q<s.size/\bt s q=123:=by
 intro n
 induction n with
 | zero=>
  intro m k p hn hm h;have:=h.lt (by unfold iR at hm;omega);omega
 | succ n ih=>
  intro m k p hn hm h;have bc:=h.lt (by unfold iR at hm;omega)
  by_cases hc:bt s p=123
  ·exact⟨p,aF,bc,hc⟩
  ·obtain⟨q,h1,h2,h3⟩:=ih (by omega) (yn hm hc (h.ok bc)) (h.step bc);exact⟨q,by omega,h2,h3⟩
def lI (m:Int):Prop:=9<=m/\m<=17
theorem p8 (hm:lI m)(h:ct m c≠-1):(c=125->ct m c=0)/\(c=59->ct m c=10)/\(c≠125->lI (ct m c)):=by
 unfold lI at *;have hc:jp c=-1∨(jp c=10/\c=59)∨(jp c=0/\c=125):=by unfold jp;(repeat' split)<;>omega
 have hk:kX c=-1∨(kX c=10/\c=59)∨(kX c=0/\c=125)∨(kX c=16/\c=33):=by unfold kX;(repeat' split)<;>omega
 have hq:lO c=-1∨(lO c=11/\c≠125/\c≠59):=by
  unfold lO;split
  ·rename_i hp;simp only[xD,tR,Bool.or_eq_true,bO] at hp;omega
  ·omega
 have hd:iS c=true->c≠125/\c≠59:=by intro hp;simp only[iS,bO] at hp;omega
 have hv:wh (tR c) 15=-1∨(wh (tR c) 15=15/\c≠125/\c≠59):=by
  unfold wh;split
  ·rename_i hp;simp only[tR,bO] at hp;omega
  ·omega
 have h1:wh (decide (c=58)) 12=-1∨(wh (decide (c=58)) 12=12/\c=58):=by unfold wh;split<;>simp_all
 have h2:wh (decide (c=105∨c=114∨c=117)) 15=-1∨(wh (decide (c=105∨c=114∨c=117)) 15=15/\(c=105∨c=114∨c=117)):=by
  unfold wh;split
  ·rename_i hp;simp only[bO] at hp;omega
  ·omega
 have qv:m=9∨m=10∨m=11∨m=12∨m=13∨m=14∨m=15∨m=16∨m=17:=by omega
 clear hm;rcases qv with rfl | rfl | rfl | rfl | rfl | rfl | rfl | rfl | rfl<;>simp only[ct] at h ⊢<;>simp only[Int.reduceEq,if_false,if_true] at h ⊢
 ·by_cases hx:c=125
  ·rw[aE hx] at h ⊢;omega
  ·rw[aA hx] at h ⊢;omega
 ·omega
 ·omega
 ·cases hD:iS c with
  | true=>have:=hd hD;simp;omega
  | false=>
   simp only[hD,Bool.false_eq_true,if_false] at h ⊢
   by_cases hx:c=36
   ·rw[aE hx] at h ⊢;omega
   ·rw[aA hx] at h ⊢;omega
 ·cases hD:iS c with
  | true=>have:=hd hD;simp;omega
  | false=>simp only[hD,Bool.false_eq_true,if_false] at h ⊢;omega
 ·cases hD:iS c with
  | true=>have:=hd hD;simp;omega
  | false=>simp only[hD,Bool.false_eq_true,if_false] at h ⊢;omega
 ·omega
 ·omega
 ·omega
theorem pe (hm:lI m):cnt m c i k=k:=by
 unfold lI at hm;unfold cnt;rw[aA (by omega),aA (by omega),aA (by omega)]
theorem Gr:∀(n:Nat) {m:Int} {k:Cn} {p:Nat},s.size - p<=n->lI m->Acc s m k p M->∃q,p<=q/\q<s.size/\bt s q=125:=by
 intro n
 induction n with
 | zero=>
  intro m k p hn hm h;have:=h.lt (by unfold lI at hm;omega);omega
 | succ n ih=>
  intro m k p hn hm h;have bc:=h.lt (by unfold lI at hm;omega)
  by_cases hc:bt s p=125
  ·exact⟨p,aF,bc,hc⟩
  ·obtain⟨q,h1,h2,h3⟩:=ih (by omega) ((p8 hm (h.ok bc)).2.2 hc) (h.step bc);exact⟨q,by omega,h2,h3⟩
theorem wX {r:Nat}(h:Acc s 9 k p M)(ol:∀j,p<=j->j<r->bt s j≠125)(hr:r<=s.size):
  ∀(d:Nat),p+d<=r->∃m,lI m/\Acc s m k (p+d) M/\(d=0->m=9)/\(0<d->bt s (p+d - 1)=59->m=10):=by
 intro d
 induction d with
 | zero=>intro _;exact⟨9,⟨by omega,by omega⟩,h,λ_=>rfl,λe=>by omega⟩
 | succ d ih=>
  intro hd;obtain⟨m,h1,h2,_,_⟩:=ih (by omega);have bc:p+d<s.size:=by omega
  have hn:=p8 h1 (h2.ok bc);refine⟨ct m (bt s (p+d)),hn.2.2 (ol _ (by omega) (by omega)),?_,λe=>by omega,λ_ e=>hn.2.1 e⟩;have:=h2.step bc;rw[pe h1] at this;exact this
theorem Gt (hm:m=9∨m=10)(h:Acc s m k p M)(fG:bt s p≠125):
  bt s p≠59/\bt s (p+1)≠59/\bt s (p+1)≠125/\bt s (p+2)≠59/\bt s (p+2)≠125/\p+2<s.size:=by
 have jZ:lI m:=by unfold lI;omega
 have l0:=h.lt (by omega);have o0:=h.ok l0
 have hp:xD (bt s p)=true/\ct m (bt s p)=11:=by
  cases hp:xD (bt s p) with
  | true=>refine⟨rfl,?_⟩;rcases hm with rfl | rfl<;>simp[ct,lO,hp,fG]
  | false=>exfalso;apply o0;rcases hm with rfl | rfl<;>simp[ct,lO,hp,fG]
 have h1:=h.step l0;rw[hp.2,pe jZ] at h1;have l1:=h1.lt (by omega);have o1:=h1.ok l1
 have hq:bt s (p+1)=58:=by
  by_cases e:bt s (p+1)=58
  ·exact e
  ·exfalso;apply o1;simp[ct,wh,e]
 have h2:=h1.step l1;rw[show ct 11 (bt s (p+1))=12 from by simp[ct,wh,hq],pe ⟨by omega,by omega⟩] at h2;have l2:=h2.lt (by omega);have o2:=h2.ok l2
 have h3:bt s (p+2)≠59/\bt s (p+2)≠125:=by
  constructor
  ·intro e;apply o2;rw[e];decide
  ·intro e;apply o2;rw[e];decide
 have uF:=hp.1;simp only[xD,tR,Bool.or_eq_true,bO] at uF;exact⟨by omega,by omega,by omega,h3.1,h3.2,l2⟩
end
section
variable {a w:World}{b i:Nat}{m:Int}{r:Option Nat}{s:ByteArray}
theorem jm (w:World)(r:Option Nat):w.grownBy w r:=⟨rfl,rfl,rfl,aF,λ_ _ _=>rfl⟩
theorem ix (h:a.grownBy w r)(n:Nat):a.grownBy (w.drewN n) r:=⟨h.os,h.tape,h.output,h.size,h.block⟩
theorem ns {b c:World}(h:a.grownBy b r)(k:b.grownBy c r):a.grownBy c r:=
 ⟨k.os.trans h.os,k.tape.trans h.tape,k.output.trans h.output,Nat.le_trans h.size k.size,λi hi hn=>(k.block i (Nat.lt_of_lt_of_le hi h.size) hn).trans (h.block i hi hn)⟩
theorem BT (h:a.grownBy w (some b))(o:Nat)(u:Value):a.grownBy (w.setCell ⟨b,o,none⟩ u) (some b):=
 ns h ⟨rfl,rfl,rfl,by simp[World.setCell],λk _ hk=>Below.heap_setCell _ _ _ _ (λe=>hk (by rw[e]))⟩
theorem xo (h:a.grownBy w r)(o:Obj):a.grownBy (w.alloc o) r:=ns h (World.grownBy_alloc w o r)
theorem Rd.drewN (h:Rd w b s i m)(n:Nat):Rd (w.drewN n) b s i m:=⟨by simpa using h.blk,h.le,h.top,h.lo,h.hi⟩
theorem Rd.lt (h:Rd w b s i m):b<w.heap.size:=(bG.1 h.blk).1
theorem aP {o:Nat}{cs:Array Value}{t:TypeId}{z:Nat × Nat}(h:w.heap[b]?=some (.cells cs t z))(u:Value):
  (w.setCell ⟨b,o,none⟩ u).heap[b]?=some (.cells (cs.setIfInBounds o u) t z):=by
 simp only[World.setCell,Array.getElem?_modify,if_true,h];rfl
theorem Rd.setAt (h:Rd w b s i m){j:Nat}(hj:j<=s.size){v:Int}(hv:v=j):Rd (w.setCell ⟨b,1,none⟩ (.int .i64 v)) b s j m:=by
 subst hv;refine⟨?_,hj,h.top,h.lo,h.hi⟩;rw[aP h.blk];rfl
theorem Rd.setMany (h:Rd w b s i m):Rd (w.setCell ⟨b,2,none⟩ (.int .i64 i)) b s i i:=by
 refine⟨?_,h.le,h.top,by omega,by have:=h.le;have:=h.top;omega⟩;rw[aP h.blk];rfl
structure At (w w':World)(b:Nat)(s:ByteArray)(j:Nat)(m:Int):Prop where
 rd:Rd w' b s j m
 gb:w.grownBy w' (some b)
theorem ng (w:World)(b:Nat)(s:ByteArray)(i:Nat)(m:Int)(h:Rd w b s i m):
  Calls prog 88 #[.pointer (some ⟨b,0,none⟩)] w λe w'=>e=.returned (.bool (decide (s.size<=i)))/\∃n,w'=w.drewN n:=by
 have c0:=h.c0;have c1:=h.c1;have qU:=h.le;have xC:=h.top;go_enter func88,ntmps88;go_wp2;go_quiet (fail);go_wp2;go_ret;exact⟨by simp,⟨_,rfl⟩⟩
theorem kG (w:World)(b:Nat)(s:ByteArray)(i:Nat)(m:Int)(h:Rd w b s i m):
  Calls prog 164 #[.pointer (some ⟨b,0,none⟩)] w λe w'=>e=.returned (.int .u8 (bt s i))/\∃n,w'=w.drewN n:=by
 have c0:=h.c0;have c1:=h.c1;have qU:=h.le;have xC:=h.top;have h0:decide ((i:Int)<0)=false:=by simp
 by_cases bc:i<s.size
 ·have hd:decide (s.size<=i)=false:=by simpa using bc
  rw[bV s i bc];go_enter func164,ntmps164;go_wp2;go_quiet (fail);go_wp2;go_quiet (fail);go_wp2;go_ret;exact⟨by simp,⟨_,World.drewN_drewN _ _ _⟩⟩
 ·rw[tB s i (by omega)];have hd:s.size<=i:=by omega
  go_enter func164,ntmps164;go_wp2;go_quiet (fail);go_wp2;go_ret;exact⟨by simp,⟨_,rfl⟩⟩
end
theorem sC (w:World)(b:Nat)(s:ByteArray)(i:Nat)(m:Int)(h:Rd w b s i m):
  Calls prog 89 #[.pointer (some ⟨b,0,none⟩)] w λe w'=>e=.returned (.tuple #[])/\At w w' b s i (mM m i):=by
 have c1:=h.c1;have c2:=h.c2;have f2:=h.fr 2
 by_cases hm:m=-1
 ·subst hm;have hd:((-1:Int)==-1)=true:=rfl;go_enter func89,ntmps89;go_wp2;go_end0;exact⟨rfl,by simpa[mM] using h.setMany,BT (jm _ _) _ _⟩
 ·have hd:(m==-1)=false:=by simp[hm]
  go_enter func89,ntmps89;go_wp2;go_end0;exact⟨rfl,by simpa[mM,hm] using h,jm _ _⟩
theorem gX (w:World)(b:Nat)(s:ByteArray)(i:Nat)(m:Int)(lo hi:Int)(h:Rd w b s i m)(KR:1<=lo):
  Calls prog 153 #[.pointer (some ⟨b,0,none⟩),.int .u8 lo,.int .u8 hi] w λe w'=>
   (e=.returned (.tuple #[.int .u8 (bt s i),.bool true])/\At w w' b s (i+1) m/\Hid (lo<=(bt s i:Int)/\(bt s i:Int)<=hi/\i<s.size))∨
    (e=.returned (.tuple #[.int .u8 0,.bool false])/\At w w' b s i m/\Hid (¬(lo<=(bt s i:Int)/\(bt s i:Int)<=hi))):=by
 have c1:=h.c1;have f1:=h.fr 1;have qU:=h.le;have xC:=h.top;have hb:=zQ s i
 by_cases bc:i<s.size
 ·have hd:decide (s.size<=i)=false:=by simpa using bc
  by_cases h1:lo<=(bt s i:Int)
  ·by_cases h2:(bt s i:Int)<=hi
   ·go_enter func153,ntmps153;go_wp2_with fail;refine(ng _ b s i m (by exact h)).mono ?_;rintro e w1 ⟨rfl,n1,rfl⟩;go_wp2_with fail;refine(kG _ b s i m (by exact h.drewN _)).mono ?_;rintro e w2 ⟨rfl,n2,rfl⟩;go_wp2_with fail;go_ret2;exact ax ⟨rfl,⟨(by first | exact((h.drewN _).drewN _).setAt (by omega) (by omega) | exact(h.drewN _).setAt (by omega) (by omega)),BT (by first | exact ix (ix (jm _ _) _) _ | exact ix (jm _ _) _) _ _⟩,⟨h1,h2,bc⟩⟩
   ·go_enter func153,ntmps153;go_wp2_with fail;refine(ng _ b s i m (by exact h)).mono ?_;rintro e w1 ⟨rfl,n1,rfl⟩;go_wp2_with fail;refine(kG _ b s i m (by exact h.drewN _)).mono ?_;rintro e w2 ⟨rfl,n2,rfl⟩;go_wp2_with fail;go_ret2;exact az ⟨rfl,⟨(by first | exact((h.drewN _).drewN _) | exact(h.drewN _)),(by first | exact ix (ix (jm _ _) _) _ | exact ix (jm _ _) _)⟩,(by unfold Hid;omega)⟩
  ·go_enter func153,ntmps153;go_wp2_with fail;refine(ng _ b s i m (by exact h)).mono ?_;rintro e w1 ⟨rfl,n1,rfl⟩;go_wp2_with fail;refine(kG _ b s i m (by exact h.drewN _)).mono ?_;rintro e w2 ⟨rfl,n2,rfl⟩;go_wp2_with fail;go_ret2;exact az ⟨rfl,⟨(by first | exact((h.drewN _).drewN _) | exact(h.drewN _)),(by first | exact ix (ix (jm _ _) _) _ | exact ix (jm _ _) _)⟩,(by unfold Hid;omega)⟩
 ·have hd:s.size<=i:=by omega
  have h0:=tB s i hd;have h0':¬(lo<=(bt s i:Int)/\(bt s i:Int)<=hi):=by omega
  clear h0;go_enter func153,ntmps153;go_wp2_with fail;refine(ng _ b s i m (by exact h)).mono ?_;rintro e w1 ⟨rfl,n1,rfl⟩;go_wp2_with fail;go_ret2;exact az ⟨rfl,⟨h.drewN _,ix (jm _ _) _⟩,h0'⟩
section
variable {b c i j:Nat}{m:Int}{s:ByteArray}{w w1:World}
theorem At.trans {w2:World}{k:Nat}{n:Int}(h:At w w1 b s j m)(h2:At w1 w2 b s k n):At w w2 b s k n:=⟨h2.rd,ns h.gb h2.gb⟩
theorem At.drewN (h:At w w1 b s j m)(n:Nat):At w (w1.drewN n) b s j m:=⟨h.rd.drewN n,ix h.gb n⟩
theorem Rd.at0 (h:Rd w b s j m):At w w b s j m:=⟨h,jm _ _⟩
theorem At.setAt (h:At w w1 b s i m)(hj:j<=s.size){v:Int}(hv:v=j):At w (w1.setCell ⟨b,1,none⟩ (.int .i64 v)) b s j m:=⟨h.rd.setAt hj hv,BT h.gb _ _⟩
theorem Rd.alloc (h:Rd w b s i m)(o:Obj):Rd (w.alloc o) b s i m:=⟨(Below.heap_alloc w o b h.lt).trans h.blk,h.le,h.top,h.lo,h.hi⟩
theorem At.alloc (h:At w w1 b s j m)(o:Obj):At w (w1.alloc o) b s j m:=⟨h.rd.alloc o,xo h.gb o⟩
theorem jk (w:World)(b:Nat)(s:ByteArray)(i:Nat)(m:Int)(lo:Int)(h:Rd w b s i m)(KR:1<=lo):
  Calls prog 141 #[.pointer (some ⟨b,0,none⟩),.int .u8 lo] w λe w'=>
   (e=.returned (.bool true)/\At w w' b s (i+1) m/\Hid ((bt s i:Int)=lo/\i<s.size))∨(e=.returned (.bool false)/\At w w' b s i m/\Hid ((bt s i:Int)≠lo)):=by
 go_enter func141,ntmps141;go_wp2_with fail;refine(gX _ b s i m lo lo (by exact h) KR).mono ?_;rintro e w1 (⟨rfl,ha,hf⟩ | ⟨rfl,ha,hf⟩)
 ·go_wp2_with fail;go_ret;exact ax ⟨rfl,ha,(by unfold Hid at *;omega)⟩
 ·go_wp2_with fail;go_ret;exact az ⟨rfl,ha,(by unfold Hid at *;omega)⟩
theorem qZ (w:World)(b:Nat)(s:ByteArray)(i:Nat)(m:Int)(h:Rd w b s i m):
  Calls prog 165 #[.pointer (some ⟨b,0,none⟩)] w λe w'=>
   (e=.returned (.tuple #[.int .u8 (bt s i),.bool true])/\At w w' b s (i+1) m/\Hid (gN (bt s i)=true/\i<s.size))∨
   (e=.returned (.tuple #[.int .u8 0,.bool false])/\At w w' b s i m/\Hid (gN (bt s i)=false)):=by
 go_enter func165,ntmps165;go_wp2_with fail;refine(gX _ b s i m 97 122 (by exact h) (by decide)).mono ?_;rintro e w1 (⟨rfl,ha,hf⟩ | ⟨rfl,ha,hf⟩)
 ·go_wp2_with fail;go_ret2;exact ax ⟨rfl,ha,(by unfold Hid at *;simp only[gN,bO];omega)⟩
 ·go_wp2_with fail;go_ret2;exact az ⟨rfl,ha,(by unfold Hid at *;simp only[gN,ii];omega)⟩
theorem sY (w:World)(b:Nat)(s:ByteArray)(i:Nat)(m:Int)(h:Rd w b s i m):
  Calls prog 175 #[.pointer (some ⟨b,0,none⟩)] w λe w'=>
   (e=.returned (.tuple #[.int .u8 (bt s i),.bool true])/\At w w' b s (i+1) m/\Hid (tR (bt s i)=true/\i<s.size))∨
   (e=.returned (.tuple #[.int .u8 0,.bool false])/\At w w' b s i m/\Hid (tR (bt s i)=false)):=by
 go_enter func175,ntmps175;go_wp2_with fail;refine(gX _ b s i m 88 90 (by exact h) (by decide)).mono ?_;rintro e w1 (⟨rfl,ha,hf⟩ | ⟨rfl,ha,hf⟩)
 ·go_wp2_with fail;go_ret2;exact ax ⟨rfl,ha,(by unfold Hid at *;simp only[tR,bO];omega)⟩
 ·go_wp2_with fail;go_ret2;exact az ⟨rfl,ha,(by unfold Hid at *;simp only[tR,ii];omega)⟩
theorem Cq (w:World)(b:Nat)(s:ByteArray)(i:Nat)(m:Int)(h:Rd w b s i m):
  Calls prog 167 #[.pointer (some ⟨b,0,none⟩)] w λe w'=>
   (e=.returned (.tuple #[.int .u8 (bt s i),.bool true])/\At w w' b s (i+1) m/\Hid (xD (bt s i)=true/\i<s.size))∨
   (e=.returned (.tuple #[.int .u8 0,.bool false])/\At w w' b s i m/\Hid (xD (bt s i)=false)):=by
 go_enter func167,ntmps167;go_wp2_with fail;refine(gX _ b s i m 65 70 (by exact h) (by decide)).mono ?_;rintro e w1 (⟨rfl,ha,hf⟩ | ⟨rfl,ha,hf⟩)
 ·go_wp2_with fail;go_ret2;exact ax ⟨rfl,ha,(by unfold Hid at *;simp only[xD,tR,Bool.or_eq_true,bO];omega)⟩
 ·go_wp2_with fail;refine(sY _ b s i m (by exact ha.rd)).mono ?_;rintro e w2 (⟨rfl,Wm,SV⟩ | ⟨rfl,Wm,SV⟩)
  ·go_wp2_with fail;go_ret2;exact ax ⟨rfl,ha.trans Wm,(by unfold Hid at *;simp only[xD,SV.1,Bool.or_true];exact⟨trivial,SV.2⟩)⟩
  ·go_wp2_with fail;go_ret2;exact az ⟨rfl,ha.trans Wm,(by unfold Hid at *;simp only[xD,SV,Bool.or_false,ii];omega)⟩
theorem m7 (w:World)(b:Nat)(s:ByteArray)(i:Nat)(m:Int)(h:Rd w b s i m):
  Calls prog 142 #[.pointer (some ⟨b,0,none⟩)] w λe w'=>
   (e=.returned (.tuple #[.int .i64 ((bt s i:Int) - 48),.bool true])/\At w w' b s (i+1) m/\Hid (iS (bt s i)=true/\i<s.size))∨
   (e=.returned (.tuple #[.int .i64 0,.bool false])/\At w w' b s i m/\Hid (iS (bt s i)=false)):=by
 go_enter func142,ntmps142;go_wp2_with fail;refine(gX _ b s i m 48 57 (by exact h) (by decide)).mono ?_;rintro e w1 (⟨rfl,ha,hf⟩ | ⟨rfl,ha,hf⟩)
 ·have KR:48<=(bt s i:Int):=hf.out.1;have hhi:(bt s i:Int)<=57:=hf.out.2.1;go_wp2_with fail;go_ret2;exact ax ⟨rfl,ha,(by unfold Hid at *;simp only[iS,bO];omega)⟩
 ·go_wp2_with fail;go_ret2;exact az ⟨rfl,ha,(by unfold Hid at *;simp only[iS,ii];omega)⟩
theorem kQ (h:((c:Int)==32)=true∨((c:Int)==62)=true∨((c:Int)==43)=true∨((c:Int)==126)=true):jf c=true:=by
 simp only[beq_iff_eq] at h;simp only[jf,bO];omega
theorem TT (h1:((c:Int)==32)=false)(h2:((c:Int)==62)=false)(h3:((c:Int)==43)=false)(h4:((c:Int)==126)=false):jf c=false:=by
 simp only[fq] at h1 h2 h3 h4;simp only[jf,ii];omega
theorem Fj (w:World)(b:Nat)(s:ByteArray)(i:Nat)(m:Int)(h:Rd w b s i m):
  Calls prog 155 #[.pointer (some ⟨b,0,none⟩)] w λe w'=>
   (e=.returned (.tuple #[.int .u8 (bt s i),.bool true])/\At w w' b s (i+1) m/\Hid (jf (bt s i)=true/\i<s.size))∨
   (e=.returned (.tuple #[.int .u8 0,.bool false])/\At w w' b s i m/\Hid (jf (bt s i)=false)):=by
 have c1:=h.c1;have f1:=h.fr 1;have qU:=h.le;have xC:=h.top
 have il:jf (bt s i)=true->i<s.size:=by
  intro e
  by_cases hi:i<s.size
  ·exact hi
  ·rw[tB s i (by omega)] at e;simp[jf] at e
 have HZ:=aw il;clear il;go_enter func155,ntmps155;go_wp2_with fail;refine(kG _ b s i m (by exact h)).mono ?_;rintro e w1 ⟨rfl,n1,rfl⟩;go_wp2_with fail
 all_goals go_ret2
 ·exact ax ⟨rfl,At.setAt (h.at0.drewN _) (by have:=HZ.out (kQ (ax ‹_›));omega) (by omega),⟨kQ (ax ‹_›),HZ.out (kQ (ax ‹_›))⟩⟩
 ·exact ax ⟨rfl,At.setAt (h.at0.drewN _) (by have:=HZ.out (kQ (az (ax ‹_›)));omega) (by omega),⟨kQ (az (ax ‹_›)),HZ.out (kQ (az (ax ‹_›)))⟩⟩
 ·exact ax ⟨rfl,At.setAt (h.at0.drewN _) (by have:=HZ.out (kQ (az (az (ax ‹_›))));omega) (by omega),⟨kQ (az (az (ax ‹_›))),HZ.out (kQ (az (az (ax ‹_›))))⟩⟩
 ·exact ax ⟨rfl,At.setAt (h.at0.drewN _) (by have:=HZ.out (kQ (az (az (az ‹_›))));omega) (by omega),⟨kQ (az (az (az ‹_›))),HZ.out (kQ (az (az (az ‹_›))))⟩⟩
 ·exact az ⟨rfl,h.at0.drewN _,TT ‹_› ‹_› ‹_› ‹_›⟩
theorem BD (h:((c:Int)==46)=true∨((c:Int)==35)=true∨((c:Int)==58)=true∨((c:Int)==33)=true):oX c=true:=by
 simp only[beq_iff_eq] at h;simp only[oX,bO];omega
theorem Si (h1:((c:Int)==46)=false)(h2:((c:Int)==35)=false)(h3:((c:Int)==58)=false)(h4:((c:Int)==33)=false):oX c=false:=by
 simp only[fq] at h1 h2 h3 h4;simp only[oX,ii];omega
theorem zr (w:World)(b:Nat)(s:ByteArray)(i:Nat)(m:Int)(h:Rd w b s i m):
  Calls prog 173 #[.pointer (some ⟨b,0,none⟩)] w λe w'=>
   e=.returned (.bool (oX (bt s i)))/\At w w' b s i m:=by
 go_enter func173,ntmps173;go_wp2_with fail;refine(kG _ b s i m (by exact h)).mono ?_;rintro e w1 ⟨rfl,n1,rfl⟩;go_wp2_with fail
 all_goals go_ret
 ·exact⟨by rw[BD (ax ‹_›)];rfl,h.at0.drewN _⟩
 ·exact⟨by rw[BD (az (ax ‹_›))];rfl,h.at0.drewN _⟩
 ·exact⟨by rw[BD (az (az (ax ‹_›)))];rfl,h.at0.drewN _⟩
 ·exact⟨by rw[BD (az (az (az ‹_›)))];rfl,h.at0.drewN _⟩
 ·exact⟨by rw[Si ‹_› ‹_› ‹_› ‹_›];rfl,h.at0.drewN _⟩
end
section
variable {b j:Nat}{m:Int}{p:Addr}{s:ByteArray}{w w1:World}
theorem nl {a:World}{r:Option Nat}(h:a.grownBy w r)(hp:a.heap.size<=p.block)(u:Value):a.grownBy (w.setCell p u) r:=
 ⟨h.os,h.tape,h.output,by simpa[World.setCell] using h.size,λk hk hn=>(Below.heap_setCell _ _ _ _ (by omega)).trans (h.block k hk hn)⟩
theorem Rd.setOther {i:Nat}(h:Rd w b s i m)(hp:b≠p.block)(u:Value):Rd (w.setCell p u) b s i m:=
 ⟨(Below.heap_setCell _ _ _ _ hp).trans h.blk,h.le,h.top,h.lo,h.hi⟩
theorem At.setNew (h:At w w1 b s j m)(hb:b<w.heap.size)(hp:w.heap.size<=p.block)(u:Value):At w (w1.setCell p u) b s j m:=
 ⟨h.rd.setOther (by omega) u,nl h.gb hp u⟩
theorem At.ofAlloc {o:Obj}(h:At (w.alloc o) w1 b s j m):At w w1 b s j m:=
 ⟨h.rd,ns (World.grownBy_alloc w o _) h.gb⟩
theorem At.cells (h:At w w1 b s j m)(B:Nat)(hB:B<w.heap.size)(hn:B≠b):
  (∀o,w1.cell? ⟨B,o,none⟩=w.cell? ⟨B,o,none⟩)/\(∀o,w1.frozen? ⟨B,o,none⟩=w.frozen? ⟨B,o,none⟩):=
 ⟨λo=>World.cell?_of_block (a:=⟨B,o,none⟩) (h.gb.block B hB (by simp;omega)),λo=>World.frozen?_of_block (a:=⟨B,o,none⟩) (h.gb.block B hB (by simp;omega))⟩
theorem At.size (h:At w w1 b s j m):w.heap.size<=w1.heap.size:=h.gb.size
theorem pH (w:World)(b:Nat)(s:ByteArray)(i:Nat)(m kd:Int)(h:Rd w b s i m):
  Calls prog 181 #[.pointer (some ⟨b,0,none⟩),.int .i64 kd] w λe w'=>
   (e=.returned (.tuple #[.agg #[.bool false,.int .i64 kd,.int .u8 (bt s i),.int .i64 0,.int .i64 0],.bool true])/\At w w' b s (i+1) m/\Hid (gN (bt s i)=true/\i<s.size))∨
   (e=.returned (.tuple #[.agg #[.bool false,.int .i64 kd,.int .u8 0,.int .i64 0,.int .i64 0],.bool false])/\At w w' b s i m/\Hid (gN (bt s i)=false)):=by
 have hb:=h.lt;go_enter func181,ntmps181;go_wp2_with fail;refine(qZ _ b s i m (by exact h.alloc _)).mono ?_;rintro e w1 (⟨rfl,ha,hf⟩ | ⟨rfl,ha,hf⟩)
 ·obtain⟨hc,hz⟩:=ha.cells w.heap.size (by simp) (by omega);go_wp2_with fail
  exact bodyPost_ret (v:=.tuple #[.agg #[.bool false,.int .i64 kd,.int .u8 (bt s i),.int .i64 0,.int .i64 0],.bool true]) (by simp[results,Tryz.results181,go_sem,hc]) rfl
   (ax ⟨rfl,(((((ha.ofAlloc.setNew hb aF _).setNew hb aF _).setNew hb aF _).setNew hb aF _).setNew hb aF _),hf⟩)
 ·obtain⟨hc,hz⟩:=ha.cells w.heap.size (by simp) (by omega);go_wp2_with fail
  exact bodyPost_ret (v:=.tuple #[.agg #[.bool false,.int .i64 kd,.int .u8 0,.int .i64 0,.int .i64 0],.bool false]) (by simp[results,Tryz.results181,go_sem,hc]) rfl
   (az ⟨rfl,(((((ha.ofAlloc.setNew hb aF _).setNew hb aF _).setNew hb aF _).setNew hb aF _).setNew hb aF _),hf⟩)
end
section
variable {b:Nat}{mn:Int}{v:Value}{w:World}
abbrev K0:Cn:=⟨0,0,-1⟩
theorem AR (w:World)(s:ByteArray)(hs:s.size<=400):Calls prog 51 #[.string s] w λe w'=>e=.returned (.int .i64 (V s 0 K0 0).1)/\w'=w:=by
 go_enter func51,ntmps51;go_wp2
 go_loop [3,4] (λmv i=>∃(k:Nat) (m:Int),k<=s.size/\i=.int .i64 k/\mv=.int .i64 m/\0<=m/\m<=17/\Hid (∃kk,V s 0 K0 0=V s m kk k)) (λ_ i=>s.size - (intOf i).toNat)
 case atStart=>exact⟨0,0,bm,rfl,rfl,by decide,by decide,⟨_,rfl⟩⟩
 case round=>
  obtain⟨k,m,hk,rfl,rfl,CM,yT,HV⟩:=hrel
  by_cases bc:k<s.size
  ·go_wp2_with fail;have GL:=bV s k bc;rw[<-GL];refine(PJ _ m (bt s k) CM yT).mono ?_;rintro e w1 ⟨rfl,rfl⟩;clear GL;have hr:=Lm m (bt s k)
   by_cases hn:ct m (bt s k)=-1
   ·have HR:Hid ((V s 0 K0 0).1=k):=by
     obtain⟨kk,h⟩:=HV.out;unfold Hid;rw[h,wJ bc hn]
    rw[hn];clear hn hr;go_wp2;go_ret;exact⟨by rw[HR.out];rfl,rfl⟩
   ·have HR:Hid (∃kk,V s 0 K0 0=V s (ct m (bt s k)) kk (k+1)):=by
     obtain⟨kk,h⟩:=HV.out;exact⟨_,by rw[h,wH bc rfl hn]⟩
    generalize ct m (bt s k)=m' at hr hn HR;have hg:(m'==-1)=false:=by simp[hn]
    clear hn;go_wp2
    go_round
    case rel=>exact⟨k+1,m',by omega,by go_num,rfl,by simp only[fq] at hg;omega,hr.2,HR⟩
    case measure=>simp[intOf];omega
  ·obtain rfl:k=s.size:=by omega
   by_cases hm:m=0
   ·subst hm
    have HR:Hid ((V s 0 K0 0).1=-1):=by
     obtain⟨kk,h⟩:=HV.out;unfold Hid;rw[h,wG aF];rfl
    have hg:((0:Int) != 0)=false:=rfl;go_wp2;go_ret;exact⟨by rw[HR.out];rfl,rfl⟩
   ·have HR:Hid ((V s 0 K0 0).1=s.size):=by
     obtain⟨kk,h⟩:=HV.out;unfold Hid;rw[h,wG aF,aA hm]
    have hg:(m != 0)=true:=by simp[hm]
    clear hm;go_wp2;go_ret;exact⟨by rw[HR.out];rfl,rfl⟩
def VS (s:ByteArray)(f:Nat)(c:Nat)(r:Nat):Prop:=f<=r/\r<=s.size/\(∀j,f<=j->j<r->bt s j≠c)/\(r<s.size->bt s r=c)
theorem nS (w:World)(s:ByteArray)(f c:Nat)(hs:s.size<=400)(hf:f<=s.size):Calls prog 53 #[.string s,.int .i64 f,.int .u8 c] w λe w'=>∃r:Nat,e=.returned (.int .i64 r)/\w'=w/\Hid (VS s f c r):=by
 go_enter func53,ntmps53;go_wp2
 go_loop [7] (λi=>∃k:Nat,f<=k/\k<=s.size/\i=.int .i64 k/\Hid (∀j,f<=j->j<k->bt s j≠c)) (λi=>s.size - (intOf i).toNat)
 case atStart=>exact⟨f,aF,hf,rfl,λj h1 h2=>by omega⟩
 case round=>
  obtain⟨k,hfk,hk,rfl,HN⟩:=hrel
  by_cases bc:k<s.size
  ·by_cases hc:bt s k=c
   ·have HC:Hid (VS s f c k):=⟨hfk,hk,HN.out,λ_=>hc⟩;have he:((s[k].toNat:Int)==(c:Int))=true:=by rw[<-bV s k bc,hc];simp
    clear hc;go_wp2;go_ret;exact⟨k,rfl,rfl,HC⟩
   ·have fj:Hid (∀j,f<=j->j<k+1->bt s j≠c):=by
     intro j h1 h2
     by_cases e:j=k
     ·rw[e];exact hc
     ·exact HN.out j h1 (by omega)
    have he:((s[k].toNat:Int)==(c:Int))=false:=by rw[<-bV s k bc];simp;omega
    clear hc;go_wp2
    go_round
    case rel=>exact⟨k+1,by omega,by omega,by go_num,fj⟩
    case measure=>simp[intOf];omega
  ·obtain rfl:k=s.size:=by omega
   have HC:Hid (VS s f c s.size):=⟨hf,aF,HN.out,λh=>by omega⟩;go_wp2;go_ret;exact⟨s.size,rfl,rfl,HC⟩
def Sh (w:World)(b:Nat)(v:Value)(mn:Int):Prop:=w.heap[b]?=some (.cells #[v,.int .i64 mn] 75 (0,0))
theorem Sh.c0 (h:Sh w b v mn):w.cell? ⟨b,0,none⟩=some v:=au h rfl
theorem Sh.c1 (h:Sh w b v mn):w.cell? ⟨b,1,none⟩=some (.int .i64 mn):=au h rfl
theorem Sh.fr (h:Sh w b v mn)(k:Nat):w.frozen? ⟨b,k,none⟩=false:=aH h
theorem Sh.lt (h:Sh w b v mn):b<w.heap.size:=(bG.1 h).1
theorem Sh.set1 (h:Sh w b v mn)(x:Int):Sh (w.setCell ⟨b,1,none⟩ (.int .i64 x)) b v x:=by
 unfold Sh;rw[aP h];rfl
theorem Sh.set0 (h:Sh w b v mn)(x:Value):Sh (w.setCell ⟨b,0,none⟩ x) b x mn:=by
 unfold Sh;rw[aP h];rfl
def i9 (mn:Int)(i:Nat):Prop:=mn=-1∨(0<=mn/\mn<=i)
theorem tW (w:World)(b:Nat)(v:Value)(mn:Int)(i:Nat)(h:Sh w b v mn)(hn:Hid (i9 mn i)):
  Calls prog 52 #[.pointer (some ⟨b,0,none⟩),.int .i64 i] w λe w'=>e=.returned (.tuple #[])/\Sh w' b v (mM mn i)/\w.grownBy w' (some b):=by
 have c1:=h.c1;have f1:=h.fr 1
 by_cases hm:mn=-1
 ·subst hm;have hd:decide ((-1:Int)<0)=true:=by decide
  go_enter func52,ntmps52;go_wp2;go_end0;exact⟨rfl,by simpa[mM] using h.set1 i,BT (jm _ _) _ _⟩
 ·have h2:0<=mn/\mn<=i:=by rcases hn.out with h | h<;>omega
  have hd:decide (mn<0)=false:=by simp;omega
  have iC:decide ((i:Int)<mn)=false:=by simp;omega
  have HM:=aw hm;clear hm;go_enter func52,ntmps52;go_wp2;go_end0;exact⟨rfl,by simpa[mM,HM.out] using h,jm _ _⟩
end
section
variable {a b m m':Int}{c i j l:Nat}{s:ByteArray}
theorem At.set5 {w w1:World}{b:Nat}(h:At w w1 b s j m)(hb:b<w.heap.size){B:Nat}(hB:w.heap.size<=B)(v0 v1 v2 v3 v4:Value):
  At w (((((w1.setCell ⟨B,0,none⟩ v0).setCell ⟨B,1,none⟩ v1).setCell ⟨B,2,none⟩ v2).setCell ⟨B,3,none⟩ v3).setCell ⟨B,4,none⟩ v4) b s j m:=
 ((((h.setNew hb hB _).setNew hb hB _).setNew hb hB _).setNew hb hB _).setNew hb hB _
def Sim (s:ByteArray)(m:Int)(i:Nat)(m':Int)(j:Nat):Prop:=∀k,V s m k i=V s m' k j
def vU (s:ByteArray)(m:Int)(i:Nat)(j:Nat):Prop:=∀k,V s m k i=((j:Int),-1)
theorem Sim.trans {c:Int}(h:Sim s a i b j)(k:Sim s b j c l):Sim s a i c l:=λn=>(h n).trans (k n)
theorem Sim.bad (h:Sim s a i b j)(k:vU s b j l):vU s a i l:=λn=>(h n).trans (k n)
theorem eR (hi:i<s.size)(h:ct m (bt s i)=m')(hm:m'≠-1)(hc:∀k,cnt m (bt s i) i k=k):Sim s m i m' (i+1):=λk=>by
 rw[wH hi h hm,hc]
theorem j5 (hm:m≠0)(h:ct m (bt s i)=-1):vU s m i i:=λ_=>VV hm h
theorem nP (hm:m≠0)(qv:m'≠0)(h:ct m (bt s i)=ct m' (bt s i))(hk:∀k,cnt m (bt s i) i k=cnt m' (bt s i) i k):Sim s m i m' i:=λk=>Nk hm qv h (hk k)
theorem nE (h:bt s i≠0):i<s.size:=by
 by_cases hi:i<s.size
 ·exact hi
 ·exact absurd (tB s i (by omega)) h
def plain (c:Nat):Bool:=decide (jf c=false/\c≠44/\c≠123)
def Plain (s:ByteArray)(i j:Nat):Prop:=∀k,i<=k->k<j->plain (bt s k)=true
theorem vJ (h:gN c=true):plain c=true:=by
 simp only[gN,bO] at h;simp only[plain,jf,bO,ii];omega
theorem Jm (h:iS c=true):plain c=true:=by
 simp only[iS,bO] at h;simp only[plain,jf,bO,ii];omega
theorem kH (h:c=46∨c=35∨c=58∨c=33∨c=42∨c=102∨c=108∨c=101∨c=110):plain c=true:=by
 simp only[plain,jf,bO,ii];omega
theorem Plain.one (h:plain (bt s i)=true):Plain s i (i+1):=λk k1 k2=>by
 obtain rfl:k=i:=by omega
 exact h
theorem Plain.cat (h:Plain s i j)(h2:Plain s j l):Plain s i l:=λk k1 k2=>by
 by_cases e:k<j
 ·exact h k k1 e
 ·exact h2 k (by omega) k2
structure PPt where
 nt:Bool
 kd:Int
 lt:Int
 st:Int
 sr:Int
def fL (s:ByteArray)(i:Nat):PPt:=if bt s i=102 then⟨false,4,0,0,0⟩ else if bt s i=108 then⟨false,5,0,0,0⟩ else if bt s i=101 then⟨false,6,0,0,0⟩ else⟨false,7,0,(bt s (i+1):Int) - 48,(bt s (i+2):Int) - 48⟩
def iH (s:ByteArray)(i:Nat):PPt:=if bt s i=46 then⟨false,2,bt s (i+1),0,0⟩ else if bt s i=35 then⟨false,3,bt s (i+1),0,0⟩ else fL s (i+1)
def PPt.no (p:PPt):PPt:=⟨true,p.kd,p.lt,p.st,p.sr⟩
def mN (s:ByteArray)(i:Nat):PPt:=if bt s i=33 then(if gN (bt s (i+1))=true then⟨true,1,bt s (i+1),0,0⟩ else(iH s (i+1)).no) else iH s i
def XA (s:ByteArray)(i:Nat):Prop:=bt s i=102∨bt s i=108∨bt s i=101∨(bt s i=110/\iS (bt s (i+1))=true/\iS (bt s (i+2))=true)
def SOK (s:ByteArray)(i:Nat):Prop:=((bt s i=46∨bt s i=35)/\gN (bt s (i+1))=true)∨(bt s i=58/\XA s (i+1))
def sl (s:ByteArray)(i:Nat):Nat:=if bt s i=58/\bt s (i+1)=110 then 4 else 2
def pw (kd:Int):Nat:=if kd=3 then 1000000 else if kd=1 then 1 else 1000
theorem Eu (w:World)(b:Nat)(s:ByteArray)(i:Nat)(m:Int)(h:Rd w b s i m):
  Calls prog 187 #[.pointer (some ⟨b,0,none⟩)] w λe w'=>
   (∃st sr:Int,e=.returned (.tuple #[.agg #[.bool false,.int .i64 7,.int .u8 0,.int .i64 st,.int .i64 sr],.bool true])/\At w w' b s (i+2) m/\Hid (Sim s 6 i 3 (i+2)/\i+2<=s.size/\Plain s i (i+2)/\st=(bt s i:Int) - 48/\sr=(bt s (i+1):Int) - 48/\iS (bt s i)=true/\iS (bt s (i+1))=true))∨
   (∃(kd st sr:Int) (j:Nat),e=.returned (.tuple #[.agg #[.bool false,.int .i64 kd,.int .u8 0,.int .i64 st,.int .i64 sr],.bool false])/\At w w' b s j m/\Hid (vU s 6 i j)):=by
 have hb:=h.lt;go_enter func187,ntmps187;go_wp2_with fail;refine(m7 _ b s i m (by exact h.alloc _)).mono ?_;rintro e w1 (⟨rfl,ha,hf⟩ | ⟨rfl,ha,hf⟩)
 ·have gA:=ha.size;simp only[World.size_alloc] at gA;go_wp2_with fail;refine(m7 _ b s (i+1) m (by exact ha.rd)).mono ?_;rintro e w2 (⟨rfl,dK,bM⟩ | ⟨rfl,dK,bM⟩)
  ·have dY:=ha.trans dK;obtain⟨hc,hz⟩:=dY.cells w.heap.size (by simp) (by omega);go_wp2_with fail;refine bodyPost_ret (v:=.tuple #[.agg #[.bool false,.int .i64 7,.int .u8 0,.int .i64 ((bt s i:Int) - 48),.int .i64 ((bt s (i+1):Int) - 48)],.bool true]) (by simp[results,Tryz.results187,go_sem,hc]) rfl (ax ⟨_,_,rfl,dY.ofAlloc.set5 hb aF _ _ _ _ _,?_⟩);exact⟨(eR hf.out.2 (m':=7) (by simp[ct,hf.out.1,wh]) (by decide) (λk=>by simp[cnt])).trans (eR bM.out.2 (by simp[ct,bM.out.1,wh]) (by decide) (λk=>by simp[cnt])),bM.out.2,(Plain.one (Jm hf.out.1)).cat (Plain.one (Jm bM.out.1)),rfl,rfl,hf.out.1,bM.out.1⟩
  ·have dY:=ha.trans dK;obtain⟨hc,hz⟩:=dY.cells w.heap.size (by simp) (by omega);go_wp2_with fail;refine bodyPost_ret (v:=.tuple #[.agg #[.bool false,.int .i64 7,.int .u8 0,.int .i64 ((bt s i:Int) - 48),.int .i64 0],.bool false]) (by simp[results,Tryz.results187,go_sem,hc]) rfl (az ⟨_,_,_,i+1,rfl,dY.ofAlloc.set5 hb aF _ _ _ _ _,?_⟩);exact(eR hf.out.2 (m':=7) (by simp[ct,hf.out.1,wh]) (by decide) (λk=>by simp[cnt])).bad (j5 (by decide) (by simp[ct,bM.out,wh]))
 ·obtain⟨hc,hz⟩:=ha.cells w.heap.size (by simp) (by omega);go_wp2_with fail;refine bodyPost_ret (v:=.tuple #[.agg #[.bool false,.int .i64 0,.int .u8 0,.int .i64 0,.int .i64 0],.bool false]) (by simp[results,Tryz.results187,go_sem,hc]) rfl (az ⟨_,_,_,i,rfl,ha.ofAlloc.set5 hb aF _ _ _ _ _,?_⟩);exact j5 (by decide) (by simp[ct,hf.out,wh])
end
section
variable {i:Nat}{s:ByteArray}
theorem t7 (h:bt s i=102∨bt s i=108∨bt s i=101):Sim s 5 i 3 (i+1)/\i+1<=s.size/\bt s i≠110/\Plain s i (i+1):=by
 have hi:i<s.size:=nE (by omega);refine⟨eR hi ?_ (by decide) (λk=>by simp[cnt]),hi,by omega,Plain.one (kH (by omega))⟩;have h1:¬bt s i=110:=by omega
 simp[ct,h1,wh,h]
theorem Tw (h:bt s i=110):Sim s 5 i 6 (i+1)/\i<s.size:=by
 have hi:i<s.size:=nE (by omega);exact⟨eR hi (by simp[ct,h]) (by decide) (λk=>by simp[cnt]),hi⟩
theorem Qh (h1:bt s i≠102)(h2:bt s i≠108)(h3:bt s i≠101)(h4:bt s i≠110):vU s 5 i i:=
 j5 (by decide) (by simp[ct,h1,h2,h3,h4,wh])
def wB (md:Int)(w:World)(b:Nat)(s:ByteArray)(i:Nat)(m:Int)(adu:ByteArray->Nat->PPt->Nat->Prop)(e:Ending)(w':World):Prop:=
 (∃(nt:Bool) (kd lt st sr:Int) (j:Nat),e=.returned (.tuple #[.agg #[.bool nt,.int .i64 kd,.int .u8 lt,.int .i64 st,.int .i64 sr],.bool true])/\At w w' b s j m/\Hid (Sim s md i 3 j/\j<=s.size/\adu s i ⟨nt,kd,lt,st,sr⟩ j))∨
 (∃(nt:Bool) (kd lt st sr:Int) (j:Nat),e=.returned (.tuple #[.agg #[.bool nt,.int .i64 kd,.int .u8 lt,.int .i64 st,.int .i64 sr],.bool false])/\At w w' b s j m/\Hid (vU s md i j))
def KD (s:ByteArray)(i:Nat)(p:PPt)(j:Nat):Prop:=p=fL s i/\4<=p.kd/\p.kd<=7/\j=i+(if bt s i=110 then 3 else 1)/\Plain s i j/\XA s i
theorem zu (w:World)(b:Nat)(s:ByteArray)(i:Nat)(m:Int)(h:Rd w b s i m):
  Calls prog 182 #[.pointer (some ⟨b,0,none⟩)] w λe w'=>wB 5 w b s i m KD e w':=by
 have hb:=h.lt;have c1:=h.c1;have f1:=h.fr 1;have qU:=h.le;have xC:=h.top;go_enter func182,ntmps182;go_wp2_with fail;refine(kG _ b s i m (by exact h.alloc _)).mono ?_;rintro e w1 ⟨rfl,n1,rfl⟩
 by_cases k1:bt s i=102
 ·have g1:((bt s i:Int)==102)=true:=by simp[k1]
  have K1:=aw k1;clear k1;go_wp2_with fail;have hp:=t7 (ax K1.out);refine bodyPost_ret (v:=.tuple #[.agg #[.bool false,.int .i64 4,.int .u8 0,.int .i64 0,.int .i64 0],.bool true]) (by simp[results,Tryz.results182,go_sem]) rfl (ax ⟨false,4,0,0,0,i+1,rfl,((((h.at0.alloc _).drewN _).setAt hp.2.1 (by omega)).set5 hb aF _ _ _ _ _),?_⟩);exact⟨hp.1,hp.2.1,by unfold fL;rw[K1.out];rfl,by decide,by decide,by rw[aA hp.2.2.1],hp.2.2.2,by have:=K1.out;unfold XA;omega⟩
 by_cases k2:bt s i=108
 ·have g1:((bt s i:Int)==102)=false:=by simp[k2]
  have g2:((bt s i:Int)==108)=true:=by simp[k2]
  have K1:=aw k2;clear k1 k2;go_wp2_with fail;have hp:=t7 (az (ax K1.out));refine bodyPost_ret (v:=.tuple #[.agg #[.bool false,.int .i64 5,.int .u8 0,.int .i64 0,.int .i64 0],.bool true]) (by simp[results,Tryz.results182,go_sem]) rfl (ax ⟨false,5,0,0,0,i+1,rfl,((((h.at0.alloc _).drewN _).setAt hp.2.1 (by omega)).set5 hb aF _ _ _ _ _),?_⟩);exact⟨hp.1,hp.2.1,by unfold fL;rw[K1.out];rfl,by decide,by decide,by rw[aA hp.2.2.1],hp.2.2.2,by have:=K1.out;unfold XA;omega⟩
 by_cases k3:bt s i=101
 ·have g1:((bt s i:Int)==102)=false:=by simp[k3]
  have g2:((bt s i:Int)==108)=false:=by simp[k3]
  have g3:((bt s i:Int)==101)=true:=by simp[k3]
  have K1:=aw k3;clear k1 k2 k3;go_wp2_with fail;have hp:=t7 (az (az K1.out));refine bodyPost_ret (v:=.tuple #[.agg #[.bool false,.int .i64 6,.int .u8 0,.int .i64 0,.int .i64 0],.bool true]) (by simp[results,Tryz.results182,go_sem]) rfl (ax ⟨false,6,0,0,0,i+1,rfl,((((h.at0.alloc _).drewN _).setAt hp.2.1 (by omega)).set5 hb aF _ _ _ _ _),?_⟩);exact⟨hp.1,hp.2.1,by unfold fL;rw[K1.out];rfl,by decide,by decide,by rw[aA hp.2.2.1],hp.2.2.2,by have:=K1.out;unfold XA;omega⟩
 have g1:((bt s i:Int)==102)=false:=by simp;omega
 have g2:((bt s i:Int)==108)=false:=by simp;omega
 have g3:((bt s i:Int)==101)=false:=by simp;omega
 by_cases k4:bt s i=110
 ·have g4:((bt s i:Int)==110)=true:=by simp[k4]
  have K1:=aw k4;clear k1 k2 k3 k4;have hp:=Tw K1.out;have HP:=aw hp.1;have bc:=hp.2;clear hp;go_wp2_with fail;have ha:=((h.at0.alloc (Obj.cells #[Value.bool false,Value.int IntKind.i64 0,Value.int IntKind.u8 0,Value.int IntKind.i64 0,Value.int IntKind.i64 0] 151)).drewN n1).setAt (j:=i+1) (v:=(i:Int)+1) (by omega) (by omega);refine(Eu _ b s (i+1) m (by exact ha.rd)).mono ?_;rintro e w2 (⟨st,sr,rfl,dK,bM⟩ | ⟨kd,st,sr,j,rfl,dK,bM⟩)
  ·have dY:=ha.trans dK;obtain⟨hc,hz⟩:=dK.cells w.heap.size (by simp[World.setCell]) (by omega);go_wp2_with fail;refine bodyPost_ret (v:=.tuple #[.agg #[.bool false,.int .i64 7,.int .u8 0,.int .i64 st,.int .i64 sr],.bool true]) (by simp[results,Tryz.results182,go_sem,hc]) rfl (ax ⟨false,7,0,st,sr,i+3,rfl,dY.set5 hb aF _ _ _ _ _,?_⟩);exact⟨HP.out.trans bM.out.1,bM.out.2.1,by unfold fL;rw[K1.out,bM.out.2.2.2.1,bM.out.2.2.2.2.1];rfl,by show(4:Int)<=7;decide,by show(7:Int)<=7;decide,by rw[aE K1.out],(Plain.one (kH (by have:=K1.out;omega))).cat bM.out.2.2.1,az (az (az ⟨K1.out,bM.out.2.2.2.2.2⟩))⟩
  ·have dY:=ha.trans dK;obtain⟨hc,hz⟩:=dK.cells w.heap.size (by simp[World.setCell]) (by omega);go_wp2_with fail;refine bodyPost_ret (v:=.tuple #[.agg #[.bool false,.int .i64 kd,.int .u8 0,.int .i64 st,.int .i64 sr],.bool false]) (by simp[results,Tryz.results182,go_sem,hc]) rfl (az ⟨false,kd,0,st,sr,j,rfl,dY.set5 hb aF _ _ _ _ _,?_⟩);exact HP.out.bad bM.out
 ·have g4:((bt s i:Int)==110)=false:=by simp;omega
  have HB:=aw (Qh k1 k2 k3 k4);clear k1 k2 k3 k4;go_wp2_with fail;refine bodyPost_ret (v:=.tuple #[.agg #[.bool false,.int .i64 0,.int .u8 0,.int .i64 0,.int .i64 0],.bool false]) (by simp[results,Tryz.results182,go_sem]) rfl (az ⟨false,0,0,0,0,i,rfl,(((h.at0.alloc _).drewN _).set5 hb aF _ _ _ _ _),HB.out⟩)
end
end Go.Proofs.YtblfffbmklkhmabGreat
