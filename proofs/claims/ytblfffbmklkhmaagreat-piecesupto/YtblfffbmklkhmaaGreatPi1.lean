/- Own work. -/
import Derived.Test.YtblfffbmklkhmaaGreatRows
import Derived.WalkKit
import Derived.WalkSpells
import Derived.WalkLawsBesides
import Derived.Deep.QuietTactic
import Derived.BigQuiet
import Derived.Deep.LoopGhost
set_option maxRecDepth 100000
set_option maxHeartbeats 40000000
namespace Go.Proofs.YtblfffbmklkhmaaGreat
open Go.RowKit Go.Proofs.Tryz
theorem ae {p:Prop} (h:p):Hid p:=h
theorem bT {p q:Prop} (a:p) (b:q):Hid (p/\q):=⟨a,b⟩
theorem kK {p q r:Prop} (a:p) (b:q) (c:r):Hid (p/\q/\r):=⟨a,b,c⟩
theorem zM {p q r s:Prop} (a:p) (b:q) (c:r) (d:s):Hid (p/\q/\r/\s):=⟨a,b,c,d⟩
theorem afp {p q r s t:Prop} (a:p) (b:q) (c:r) (d:s) (e:t):Hid (p/\q/\r/\s/\t):=⟨a,b,c,d,e⟩
theorem afq {p q r s t u:Prop} (a:p) (b:q) (c:r) (d:s) (e:t) (f:u):Hid (p/\q/\r/\s/\t/\u):=⟨a,b,c,d,e,f⟩
theorem au {n:Nat}:n<=n:=Nat.le_refl n
theorem aZ {n:Nat}:0<=n:=Nat.zero_le n
theorem bd {n:Nat} {w:World}:Below n w w:=Below.refl n w
theorem bx {α:Type} {a:Array α} {i:Nat} {b:α}:a[i]?=some b↔∃ h:i<a.size,a[i]=b:=Array.getElem?_eq_some_iff
theorem dY {α:Type} {a:List α} {i:Nat} {b:α}:a[i]?=some b↔∃ h:i<a.length,a[i]=b:=List.getElem?_eq_some_iff
theorem bO {α:Type} {l:List α} {i:Nat} (h:i<l.length):l[i]?=some l[i]:=List.getElem?_eq_getElem h
theorem bF {p:Prop} [Decidable p]:(decide p=true)=p:=decide_eq_true_eq
theorem bK {α:Type} {l:List α} {n:Nat} (h:n<l.length):l[n]∈l:=List.getElem_mem h
theorem fU {α:Type} {l:List α} {i:Nat} (h:i<l.length):l.take (i+1)=l.take i++[l[i]]:=List.take_succ_eq_append_getElem h
theorem bm {α β:Type} {b:β} {f:α->β} {l:List α}:b∈l.map f↔∃ a,a∈l/\f a=b:=List.mem_map
theorem dA {α:Type} {p:α->Bool} {a:α} {l:List α}:a∈l.filter p↔a∈l/\p a=true:=List.mem_filter
theorem ff {α:Type} [BEq α] [LawfulBEq α] {a b:α}:(a==b)=false↔a≠b:=beq_eq_false_iff_ne
theorem gU {p:Prop} [Decidable p]:decide p=false↔¬p:=decide_eq_false_iff_not
theorem fg {α:Type} {a b:α}:a∈[b]↔a=b:=List.mem_singleton
theorem er {w:World} {b:Nat} {e:TypeId} {s:Nat}:w.ownsRow b e s (.slice none 0 0) 0 []:=World.ownsRow_nil _ _ _ _
theorem af {a b:Prop} (h:a):a∨b:=Or.inl h
theorem ai {a b:Prop} (h:b):a∨b:=Or.inr h
theorem aj {c:Prop} {h:Decidable c} (n:¬c) {α:Sort _} {t e:α}:(ite c t e)=e:=if_neg n
theorem aq {c:Prop} {h:Decidable c} (n:c) {α:Sort _} {t e:α}:(ite c t e)=t:=if_pos n
section
variable {b i k:Nat}{cs:Array Value}{m:Int}{s:ByteArray}{t:TypeId}{w:World}
structure Rd (w:World)(b:Nat)(s:ByteArray)(i:Nat)(m:Int):Prop where
 blk:w.heap[b]?=some (.cells #[.string s,.int .i64 i,.int .i64 m] 146 (0,0))
 le:i<=s.size
 top:s.size<=400
 lo:-1<=m
 hi:m<=400
theorem aa {z:Nat × Nat}{v:Value}(h:w.heap[b]?=some (.cells cs t z))(hk:cs[k]?=some v):w.cell? ⟨b,k,none⟩=some v:=by
 rw[cell_of_row w b k cs t z h];exact hk
theorem ax (h:w.heap[b]?=some (.cells cs t (0,0))):w.frozen? ⟨b,k,none⟩=false:=by
 simp[World.frozen?,h]
theorem Rd.c0 (h:Rd w b s i m):w.cell? ⟨b,0,none⟩=some (.string s):=aa h.blk rfl
theorem Rd.c1 (h:Rd w b s i m):w.cell? ⟨b,1,none⟩=some (.int .i64 i):=aa h.blk rfl
theorem Rd.c2 (h:Rd w b s i m):w.cell? ⟨b,2,none⟩=some (.int .i64 m):=aa h.blk rfl
theorem Rd.fr (h:Rd w b s i m)(k:Nat):w.frozen? ⟨b,k,none⟩=false:=ax h.blk
end
section
variable {i:Nat}{m m':Int}{s:ByteArray}
def bt (s:ByteArray)(i:Nat):Nat:=if h:i<s.size then s[i].toNat else 0
theorem zq (s:ByteArray)(i:Nat):bt s i<256:=by
 unfold bt;split
 ·exact s[i].toNat_lt
 ·omega
theorem sY (s:ByteArray)(i:Nat)(h:s.size<=i):bt s i=0:=by
 unfold bt;rw[dif_neg (by omega)]
theorem bN (s:ByteArray)(i:Nat)(h:i<s.size):bt s i=s[i].toNat:=by
 unfold bt;rw[dif_pos h]
def gw (c:Nat):Bool:=decide (97<=c/\c<=122)
def iJ (c:Nat):Bool:=decide (48<=c/\c<=57)
def ts (c:Nat):Bool:=decide (88<=c/\c<=90)
def wW (c:Nat):Bool:=decide (65<=c/\c<=70)||ts c
def i6 (c:Nat):Bool:=decide (c=32∨c=62∨c=43∨c=126)
def oB (c:Nat):Bool:=decide (c=46∨c=35∨c=58∨c=33)
def jx (c:Nat):Int:=if c=46∨c=35 then 4 else if c=58 then 5 else -1
def jh (c:Nat):Int:=if c=59 then 10 else if c=125 then 0 else -1
def kL (c:Nat):Int:=if c=33 then 16 else jh c
def jR (c:Nat):Int:=if gw c=true∨c=42 then 3 else if c=33 then 8 else jx c
def i7 (c:Nat):Int:=if c=33 then 8 else if i6 c=true∨c=44 then 2 else if c=123 then 9 else jx c
def lC (c:Nat):Int:=if wW c=true then 11 else -1
def wh (b:Bool)(n:Int):Int:=if b=true then n else -1
def bY (m:Int)(c:Nat):Int:=
 if m=0 then(if c=64 then 1 else jR c)
 else if m=18 then(if c=64 then 1 else jR c)
 else if m=1 then wh (iJ c) 2
 else if m=2 then jR c
 else if m=3 then i7 c
 else if m=4 then wh (gw c) 3
 else if m=5 then(if c=110 then 6 else wh (decide (c=102∨c=108∨c=101)) 3)
 else if m=6 then wh (iJ c) 7
 else if m=7 then wh (iJ c) 3
 else if m=8 then(if gw c=true then 3 else jx c)
 else if m=9 then(if c=125 then 0 else lC c)
 else if m=10 then lC c
 else if m=11 then wh (decide (c=58)) 12
 else if m=12 then(if iJ c=true then 13 else if c=36 then 17 else wh (decide (c=105∨c=114∨c=117)) 15)
 else if m=13 then(if iJ c=true then 14 else kL c)
 else if m=14 then(if iJ c=true then 15 else kL c)
 else if m=15 then kL c
 else if m=16 then jh c
 else if m=17 then wh (ts c) 15
 else -1
structure Cn where
 nr:Nat
 nc:Nat
 mn:Int
def ms (mn:Int)(i:Nat):Int:=if mn=-1 then i else mn
def cZ (b:Bool)(mn:Int)(i:Nat):Int:=if b=true then ms mn i else mn
def cnt (m:Int)(c i:Nat)(k:Cn):Cn:=
 if m=0 then⟨k.nr+1,1,cZ (decide (k.nr=20)) k.mn i⟩
 else if m=18∨m=1 then⟨k.nr,1,k.mn⟩
 else if m=3 then(if i6 c=true then⟨k.nr,k.nc+1,cZ (decide (k.nc=4)) k.mn (i+1)⟩ else if c=44 then⟨k.nr,1,k.mn⟩ else k)
 else k
def Vf (s:ByteArray):Nat->Int->Cn->Nat->Int × Int
 | 0,m,k,i=>if m=0 then(-1,k.mn) else((i:Int),-1)
 | f+1,m,k,i=>if bY m (bt s i)=-1 then((i:Int),-1) else Vf s f (bY m (bt s i)) (cnt m (bt s i) i k) (i+1)
def V (s:ByteArray)(m:Int)(k:Cn)(i:Nat):Int × Int:=Vf s (s.size - i) m k i
theorem vV {k:Cn}(hi:i<s.size)(h:bY m (bt s i)=m')(hm:m'≠-1):V s m k i=V s m' (cnt m (bt s i) i k) (i+1):=by
 unfold V;obtain⟨f,hf⟩:∃f,s.size - i=f+1:=⟨s.size - i - 1,by omega⟩;rw[hf,show s.size - (i+1)=f from by omega];show(if bY m (bt s i)=-1 then _ else _)=_;rw[aj (by rw[h];exact hm),h]
theorem vX {k:Cn}(hi:i<s.size)(h:bY m (bt s i)=-1):V s m k i=((i:Int),-1):=by
 unfold V;obtain⟨f,hf⟩:∃f,s.size - i=f+1:=⟨s.size - i - 1,by omega⟩;rw[hf];show(if bY m (bt s i)=-1 then _ else _)=_;rw[aq h]
theorem vU {k:Cn}(hi:s.size<=i):V s m k i=if m=0 then(-1,k.mn) else((i:Int),-1):=by
 unfold V;rw[show s.size - i=0 from by omega];rfl
theorem U6 {k:Cn}(hm:m≠0)(h:bY m (bt s i)=-1):V s m k i=((i:Int),-1):=by
 by_cases hi:i<s.size
 ·exact vX hi h
 ·rw[vU (by omega),aj hm]
theorem O8 (m:Int):bY m 0=-1:=by
 simp[bY,jR,i7,jx,lC,kL,jh,wh,iJ,gw,ts,wW,i6]
theorem MF {k k':Cn}(hm:m≠0)(qZ:m'≠0)(h:bY m (bt s i)=bY m' (bt s i))(hk:cnt m (bt s i) i k=cnt m' (bt s i) i k'):V s m k i=V s m' k' i:=by
 by_cases hn:bY m (bt s i)=-1
 ·rw[U6 hm hn,U6 qZ (by rw[<-h];exact hn)]
 ·by_cases hi:i<s.size
  ·rw[vV hi rfl hn,vV (m:=m') hi h.symm hn,hk]
  ·exact absurd (by rw[sY s i (by omega)];exact O8 m) hn
theorem vW {k:Cn}(hi:i<s.size):V s 0 k i=V s 18 ⟨k.nr+1,1,cZ (decide (k.nr=20)) k.mn i⟩ i:=by
 by_cases hn:bY 0 (bt s i)=-1
 ·rw[vX hi hn,vX (m:=18) hi (by simpa[bY] using hn)]
 ·rw[vV hi rfl hn,vV (m:=18) (m':=bY 0 (bt s i)) hi (by simp[bY]) hn];simp[cnt]
end
theorem mq (w:World)(c:Nat):Calls prog 198 #[.int .u8 c,.int .u8 97,.int .u8 122] w λe w'=>e=.returned (.bool (gw c))/\w'=w:=by
 by_cases h1:(97:Int)<=c
 ·by_cases h2:(c:Int)<=122
  ·have HR:Hid (gw c=true):=by simp only[Hid,gw,bF];omega
   go_enter func198,ntmps198;go_wp2;go_ret;rw[HR.out];exact⟨by simp,rfl⟩
  ·have HR:Hid (gw c=false):=by simp only[Hid,gw,gU];omega
   have hd:decide ((c:Int)<=122)=false:=by simpa using h2
   go_enter func198,ntmps198;go_wp2;go_ret;rw[HR.out];exact⟨by simp,rfl⟩
 ·have HR:Hid (gw c=false):=by simp only[Hid,gw,gU];omega
  have hd:decide ((97:Int)<=c)=false:=by simpa using h1
  go_enter func198,ntmps198;go_wp2;go_ret;rw[HR.out];exact⟨by simp,rfl⟩
theorem fp (w:World)(c:Nat):Calls prog 198 #[.int .u8 c,.int .u8 48,.int .u8 57] w λe w'=>e=.returned (.bool (iJ c))/\w'=w:=by
 by_cases h1:(48:Int)<=c
 ·by_cases h2:(c:Int)<=57
  ·have HR:Hid (iJ c=true):=by simp only[Hid,iJ,bF];omega
   go_enter func198,ntmps198;go_wp2;go_ret;rw[HR.out];exact⟨by simp,rfl⟩
  ·have HR:Hid (iJ c=false):=by simp only[Hid,iJ,gU];omega
   have hd:decide ((c:Int)<=57)=false:=by simpa using h2
   go_enter func198,ntmps198;go_wp2;go_ret;rw[HR.out];exact⟨by simp,rfl⟩
 ·have HR:Hid (iJ c=false):=by simp only[Hid,iJ,gU];omega
  have hd:decide ((48:Int)<=c)=false:=by simpa using h1
  go_enter func198,ntmps198;go_wp2;go_ret;rw[HR.out];exact⟨by simp,rfl⟩
theorem dy (w:World)(b:Bool)(n:Int):Calls prog 199 #[.bool b,.int .i64 n] w λe w'=>e=.returned (.int .i64 (wh b n))/\w'=w:=by
 cases b
 all_goals
  go_enter func199,ntmps199;go_wp2;go_ret;exact⟨by simp[wh],rfl⟩
theorem pp (w:World)(c:Nat):Calls prog 200 #[.int .u8 c] w λe w'=>e=.returned (.int .i64 (jx c))/\w'=w:=by
 go_enter func200,ntmps200;go_wp2
 all_goals go_ret
 all_goals refine⟨?_,rfl⟩
 ·have h:c=46:=by have:((c:Int)==46)=true:=‹_›;simp only[beq_iff_eq] at this;omega
  subst h;rfl
 ·have h:c=35:=by have:((c:Int)==35)=true:=‹_›;simp only[beq_iff_eq] at this;omega
  subst h;rfl
 ·have h:c=58:=by have:((c:Int)==58)=true:=‹_›;simp only[beq_iff_eq] at this;omega
  subst h;rfl
 ·have h1:¬c=46:=by have:((c:Int)==46)=false:=‹_›;simp only[ff] at this;omega
  have h2:¬c=35:=by have:((c:Int)==35)=false:=‹_›;simp only[ff] at this;omega
  have h3:¬c=58:=by have:((c:Int)==58)=false:=‹_›;simp only[ff] at this;omega
  simp[jx,h1,h2,h3]
theorem t8 (w:World)(c:Nat):Calls prog 201 #[.int .u8 c] w λe w'=>e=.returned (.int .i64 (jh c))/\w'=w:=by
 go_enter func201,ntmps201;go_wp2
 all_goals go_ret
 all_goals refine⟨?_,rfl⟩
 ·have h:c=59:=by have:((c:Int)==59)=true:=‹_›;simp only[beq_iff_eq] at this;omega
  subst h;rfl
 ·have h:c=125:=by have:((c:Int)==125)=true:=‹_›;simp only[beq_iff_eq] at this;omega
  subst h;rfl
 ·have h1:¬c=59:=by have:((c:Int)==59)=false:=‹_›;simp only[ff] at this;omega
  have h2:¬c=125:=by have:((c:Int)==125)=false:=‹_›;simp only[ff] at this;omega
  simp[jh,h1,h2]
def sI (c:Nat)(s:ByteArray):Bool:=decide (∃k,k<s.size/\bt s k=c)
theorem bB (w:World)(c:Nat)(s:ByteArray)(hs:s.size<=maxLen):Calls prog 165 #[.int .u8 c,.string s] w λe w'=>e=.returned (.bool (sI c s))/\w'=w:=by
 unfold maxLen at hs;go_enter func165,ntmps165;go_wp2
 go_loop [5] (λi=>∃k:Nat,k<=s.size/\i=.int .i64 k/\Hid (∀j,j<k->bt s j≠c)) (λi=>s.size - (intOf i).toNat)
 case atStart=>exact⟨0,aZ,rfl,λj hj=>by omega⟩
 case round=>
  obtain⟨k,hk,rfl,HN⟩:=hrel
  by_cases aU:k<s.size
  ·by_cases hc:bt s k=c
   ·have HC:Hid (sI c s=true):=by unfold Hid sI;simp only[bF];exact⟨k,aU,hc⟩
    have he:((s[k].toNat:Int)==(c:Int))=true:=by rw[<-bN s k aU,hc];simp
    clear hc;go_wp2;go_ret;rw[HC.out];exact⟨by simp,rfl⟩
   ·have e9:Hid (∀j,j<k+1->bt s j≠c):=by
     intro j hj
     by_cases e:j=k
     ·rw[e];exact hc
     ·exact HN.out j (by omega)
    have he:((s[k].toNat:Int)==(c:Int))=false:=by rw[<-bN s k aU];simp;omega
    clear hc;go_wp2
    go_round
    case rel=>exact⟨k+1,by omega,by go_num,e9⟩
    case measure=>simp[intOf];omega
  ·have HC:Hid (sI c s=false):=by
    unfold Hid sI;simp only[gU];rintro⟨j,h1,h2⟩;exact HN.out j (by omega) h2
   go_wp2;go_ret;rw[HC.out];exact⟨by simp,rfl⟩
theorem JC (c:Nat):sI c {data:=#[32,62,43,126,44]}=(i6 c||decide (c=44)):=by
 rw[Bool.eq_iff_iff];simp only[sI,i6,Bool.or_eq_true,bF];constructor
 ·rintro⟨k,h1,h2⟩;have h1:k<5:=h1
  match k,h1,h2 with
  | 0,_,h2=>have:32=c:=h2;omega
  | 1,_,h2=>have:62=c:=h2;omega
  | 2,_,h2=>have:43=c:=h2;omega
  | 3,_,h2=>have:126=c:=h2;omega
  | 4,_,h2=>have:44=c:=h2;omega
 ·rintro((h | h | h | h) | h)<;>subst h
  ·exact⟨0,by decide,rfl⟩
  ·exact⟨1,by decide,rfl⟩
  ·exact⟨2,by decide,rfl⟩
  ·exact⟨3,by decide,rfl⟩
  ·exact⟨4,by decide,rfl⟩
theorem JB (c:Nat):sI c {data:=#[32,62,43,126]}=i6 c:=by
 rw[Bool.eq_iff_iff];simp only[sI,i6,bF];constructor
 ·rintro⟨k,h1,h2⟩;have h1:k<4:=h1
  match k,h1,h2 with
  | 0,_,h2=>have:32=c:=h2;omega
  | 1,_,h2=>have:62=c:=h2;omega
  | 2,_,h2=>have:43=c:=h2;omega
  | 3,_,h2=>have:126=c:=h2;omega
 ·rintro(h | h | h | h)<;>subst h
  ·exact⟨0,by decide,rfl⟩
  ·exact⟨1,by decide,rfl⟩
  ·exact⟨2,by decide,rfl⟩
  ·exact⟨3,by decide,rfl⟩
theorem cg (c:Nat):sI c {data:=#[65,66,67,68,69,70,88,89,90]}=wW c:=by
 rw[Bool.eq_iff_iff];simp only[sI,wW,ts,Bool.or_eq_true,bF];constructor
 ·rintro⟨k,h1,h2⟩;have h1:k<9:=h1
  match k,h1,h2 with
  | 0,_,h2=>have:65=c:=h2;omega
  | 1,_,h2=>have:66=c:=h2;omega
  | 2,_,h2=>have:67=c:=h2;omega
  | 3,_,h2=>have:68=c:=h2;omega
  | 4,_,h2=>have:69=c:=h2;omega
  | 5,_,h2=>have:70=c:=h2;omega
  | 6,_,h2=>have:88=c:=h2;omega
  | 7,_,h2=>have:89=c:=h2;omega
  | 8,_,h2=>have:90=c:=h2;omega
 ·intro h;have:c=65∨c=66∨c=67∨c=68∨c=69∨c=70∨c=88∨c=89∨c=90:=by omega
  rcases this with h | h | h | h | h | h | h | h | h<;>subst h
  ·exact⟨0,by decide,rfl⟩
  ·exact⟨1,by decide,rfl⟩
  ·exact⟨2,by decide,rfl⟩
  ·exact⟨3,by decide,rfl⟩
  ·exact⟨4,by decide,rfl⟩
  ·exact⟨5,by decide,rfl⟩
  ·exact⟨6,by decide,rfl⟩
  ·exact⟨7,by decide,rfl⟩
  ·exact⟨8,by decide,rfl⟩
theorem db {a b:Int}(h:a=b):Ending.returned (.int .i64 a)=.returned (.int .i64 b):=by rw[h]
theorem Ez (w:World)(c:Nat):Calls prog 186 #[.int .i64 1,.int .u8 c] w λe w'=>e=.returned (.int .i64 (bY 1 c))/\w'=w:=by
 go_enter func186,ntmps186;go_wp2_with fail;refine(mq _ c).mono ?_;rintro e w1 ⟨rfl,rfl⟩;go_wp2_with fail;refine(fp _ c).mono ?_;rintro e w2 ⟨rfl,rfl⟩;go_wp2_with fail;refine(dy _ (iJ c) 2).mono ?_;rintro e w3 ⟨rfl,rfl⟩;go_wp2_with fail;go_ret;exact⟨db (by simp[bY]),rfl⟩
theorem ED (w:World)(c:Nat):Calls prog 186 #[.int .i64 6,.int .u8 c] w λe w'=>e=.returned (.int .i64 (bY 6 c))/\w'=w:=by
 go_enter func186,ntmps186;go_wp2_with fail;refine(mq _ c).mono ?_;rintro e w1 ⟨rfl,rfl⟩;go_wp2_with fail;refine(fp _ c).mono ?_;rintro e w2 ⟨rfl,rfl⟩;go_wp2_with fail;refine(dy _ (iJ c) 7).mono ?_;rintro e w3 ⟨rfl,rfl⟩;go_wp2_with fail;go_ret;exact⟨db (by simp[bY]),rfl⟩
theorem EE (w:World)(c:Nat):Calls prog 186 #[.int .i64 7,.int .u8 c] w λe w'=>e=.returned (.int .i64 (bY 7 c))/\w'=w:=by
 go_enter func186,ntmps186;go_wp2_with fail;refine(mq _ c).mono ?_;rintro e w1 ⟨rfl,rfl⟩;go_wp2_with fail;refine(fp _ c).mono ?_;rintro e w2 ⟨rfl,rfl⟩;go_wp2_with fail;refine(dy _ (iJ c) 3).mono ?_;rintro e w3 ⟨rfl,rfl⟩;go_wp2_with fail;go_ret;exact⟨db (by simp[bY]),rfl⟩
theorem EB (w:World)(c:Nat):Calls prog 186 #[.int .i64 4,.int .u8 c] w λe w'=>e=.returned (.int .i64 (bY 4 c))/\w'=w:=by
 go_enter func186,ntmps186;go_wp2_with fail;refine(mq _ c).mono ?_;rintro e w1 ⟨rfl,rfl⟩;go_wp2_with fail;refine(fp _ c).mono ?_;rintro e w2 ⟨rfl,rfl⟩;go_wp2_with fail;refine(dy _ (gw c) 3).mono ?_;rintro e w3 ⟨rfl,rfl⟩;go_wp2_with fail;go_ret;exact⟨db (by simp[bY]),rfl⟩
theorem EF (w:World)(c:Nat):Calls prog 186 #[.int .i64 8,.int .u8 c] w λe w'=>e=.returned (.int .i64 (bY 8 c))/\w'=w:=by
 cases hL:gw c
 ·have HL:=ae hL;go_enter func186,ntmps186;go_wp2_with fail;refine(mq _ c).mono ?_;rw[hL];clear hL;rintro e w1 ⟨rfl,rfl⟩;go_wp2_with fail;refine(fp _ c).mono ?_;rintro e w2 ⟨rfl,rfl⟩;go_wp2_with fail;refine(pp _ c).mono ?_;rintro e w3 ⟨rfl,rfl⟩;go_wp2_with fail;go_ret;exact⟨db (by simp[bY,HL.out]),rfl⟩
 ·have HL:=ae hL;go_enter func186,ntmps186;go_wp2_with fail;refine(mq _ c).mono ?_;rw[hL];clear hL;rintro e w1 ⟨rfl,rfl⟩;go_wp2_with fail;refine(fp _ c).mono ?_;rintro e w2 ⟨rfl,rfl⟩;go_wp2_with fail;go_ret;exact⟨db (by simp[bY,HL.out]),rfl⟩
theorem uy (w:World)(c:Nat):Calls prog 186 #[.int .i64 2,.int .u8 c] w λe w'=>e=.returned (.int .i64 (bY 2 c))/\w'=w:=by
 by_cases sK:c=42
 ·subst sK;have g42:((42:Int)==42)=true:=rfl;go_enter func186,ntmps186;go_wp2_with fail;refine(mq _ 42).mono ?_;rintro e w1 ⟨rfl,rfl⟩;go_wp2_with fail;refine(fp _ 42).mono ?_;rintro e w2 ⟨rfl,rfl⟩;have hL:gw 42=false:=by decide
  rw[hL];go_wp2_with fail;go_ret;exact⟨db (by simp[bY,jR]),rfl⟩
 have g42:((c:Int)==42)=false:=by simp;omega
 cases hL:gw c
 ·have HL:=ae hL
  by_cases iV:c=33
  ·have N8:((c:Int)==33)=true:=by simp[iV]
   have Qn:=ae iV;clear iV sK;go_enter func186,ntmps186;go_wp2_with fail;refine(mq _ c).mono ?_;rw[hL];clear hL;rintro e w1 ⟨rfl,rfl⟩;go_wp2_with fail;refine(fp _ c).mono ?_;rintro e w2 ⟨rfl,rfl⟩;go_wp2_with fail;go_ret;exact⟨db (by simp[bY,jR,Qn.out,gw]),rfl⟩
  ·have N8:((c:Int)==33)=false:=by simp;omega
   have Qn:=ae iV;have Qo:=ae sK;clear iV sK;go_enter func186,ntmps186;go_wp2_with fail;refine(mq _ c).mono ?_;rw[hL];clear hL;rintro e w1 ⟨rfl,rfl⟩;go_wp2_with fail;refine(fp _ c).mono ?_;rintro e w2 ⟨rfl,rfl⟩;go_wp2_with fail;refine(bB _ c _ (by decide)).mono ?_;rintro e w3 ⟨rfl,rfl⟩;go_wp2_with fail;refine(pp _ c).mono ?_;rintro e w4 ⟨rfl,rfl⟩;go_wp2_with fail;go_ret;exact⟨db (by simp[bY,jR,HL.out,Qn.out,Qo.out]),rfl⟩
 ·have HL:=ae hL;go_enter func186,ntmps186;go_wp2_with fail;refine(mq _ c).mono ?_;rw[hL];clear hL;rintro e w1 ⟨rfl,rfl⟩;go_wp2_with fail;refine(fp _ c).mono ?_;rintro e w2 ⟨rfl,rfl⟩;go_wp2_with fail;go_ret;exact⟨db (by simp[bY,jR,HL.out]),rfl⟩
theorem EA (w:World)(c:Nat):Calls prog 186 #[.int .i64 3,.int .u8 c] w λe w'=>e=.returned (.int .i64 (bY 3 c))/\w'=w:=by
 by_cases iV:c=33
 ·have N8:((c:Int)==33)=true:=by simp[iV]
  have Qn:=ae iV;clear iV;go_enter func186,ntmps186;go_wp2_with fail;refine(mq _ c).mono ?_;rintro e w1 ⟨rfl,rfl⟩;go_wp2_with fail;refine(fp _ c).mono ?_;rintro e w2 ⟨rfl,rfl⟩;go_wp2_with fail;go_ret;exact⟨db (by simp[bY,i7,Qn.out]),rfl⟩
 have N8:((c:Int)==33)=false:=by simp;omega
 have Qn:=ae iV;clear iV;have HA:=ae (JC c);cases hS:sI c {data:=#[32,62,43,126,44]}
 ·have HS:Hid ((i6 c||decide (c=44))=false):=by rw[<-HA.out];exact hS
  by_cases Dp:c=123
  ·have acA:((c:Int)==123)=true:=by simp[Dp]
   have Uz:=ae Dp;clear Dp;go_enter func186,ntmps186;go_wp2_with fail;refine(mq _ c).mono ?_;rintro e w1 ⟨rfl,rfl⟩;go_wp2_with fail;refine(fp _ c).mono ?_;rintro e w2 ⟨rfl,rfl⟩;go_wp2_with fail;refine(bB _ c _ (by decide)).mono ?_;rw[hS];clear hS;rintro e w3 ⟨rfl,rfl⟩;go_wp2_with fail;go_ret;exact⟨db (by simp[bY,i7,Uz.out,i6]),rfl⟩
  ·have acA:((c:Int)==123)=false:=by simp;omega
   have Uz:=ae Dp;clear Dp;go_enter func186,ntmps186;go_wp2_with fail;refine(mq _ c).mono ?_;rintro e w1 ⟨rfl,rfl⟩;go_wp2_with fail;refine(fp _ c).mono ?_;rintro e w2 ⟨rfl,rfl⟩;go_wp2_with fail;refine(bB _ c _ (by decide)).mono ?_;rw[hS];clear hS;rintro e w3 ⟨rfl,rfl⟩;go_wp2_with fail;refine(pp _ c).mono ?_;rintro e w4 ⟨rfl,rfl⟩;go_wp2_with fail;go_ret;have hs:=HS.out;simp only[Bool.or_eq_false_iff,gU] at hs;exact⟨db (by simp[bY,i7,Uz.out,Qn.out,hs.1,hs.2]),rfl⟩
 ·have HS:Hid ((i6 c||decide (c=44))=true):=by rw[<-HA.out];exact hS
  go_enter func186,ntmps186;go_wp2_with fail;refine(mq _ c).mono ?_;rintro e w1 ⟨rfl,rfl⟩;go_wp2_with fail;refine(fp _ c).mono ?_;rintro e w2 ⟨rfl,rfl⟩;go_wp2_with fail;refine(bB _ c _ (by decide)).mono ?_;rw[hS];clear hS;rintro e w3 ⟨rfl,rfl⟩;go_wp2_with fail;go_ret;have hs:=HS.out;simp only[Bool.or_eq_true,bF] at hs;exact⟨db (by simp[bY,i7,Qn.out,hs]),rfl⟩
theorem EC (w:World)(c:Nat):Calls prog 186 #[.int .i64 5,.int .u8 c] w λe w'=>e=.returned (.int .i64 (bY 5 c))/\w'=w:=by
 by_cases h1:c=110
 ·have g1:((c:Int)==110)=true:=by simp[h1]
  have H1:=ae h1;clear h1;go_enter func186,ntmps186;go_wp2_with fail;refine(mq _ c).mono ?_;rintro e w1 ⟨rfl,rfl⟩;go_wp2_with fail;refine(fp _ c).mono ?_;rintro e w2 ⟨rfl,rfl⟩;go_wp2_with fail;go_ret;exact⟨db (by simp[bY,H1.out]),rfl⟩
 have g1:((c:Int)==110)=false:=by simp;omega
 have H1:=ae h1;clear h1
 by_cases h102:c=102
 ·have Vg:((c:Int)==102)=true:=by simp[h102]
  have H:=ae h102;clear h102;go_enter func186,ntmps186;go_wp2_with fail;refine(mq _ c).mono ?_;rintro e w1 ⟨rfl,rfl⟩;go_wp2_with fail;refine(fp _ c).mono ?_;rintro e w2 ⟨rfl,rfl⟩;go_wp2_with fail;refine(dy _ true 3).mono ?_;rintro e w3 ⟨rfl,rfl⟩;go_wp2_with fail;go_ret;exact⟨db (by simp[bY,H.out]),rfl⟩
 have Vg:((c:Int)==102)=false:=by simp;omega
 have abz:=ae h102;clear h102
 by_cases h108:c=108
 ·have Vi:((c:Int)==108)=true:=by simp[h108]
  have H:=ae h108;clear h108;go_enter func186,ntmps186;go_wp2_with fail;refine(mq _ c).mono ?_;rintro e w1 ⟨rfl,rfl⟩;go_wp2_with fail;refine(fp _ c).mono ?_;rintro e w2 ⟨rfl,rfl⟩;go_wp2_with fail;refine(dy _ true 3).mono ?_;rintro e w3 ⟨rfl,rfl⟩;go_wp2_with fail;go_ret;exact⟨db (by simp[bY,H.out]),rfl⟩
 have Vi:((c:Int)==108)=false:=by simp;omega
 have abB:=ae h108;clear h108
 by_cases h101:c=101
 ·have Ve:((c:Int)==101)=true:=by simp[h101]
  have H:=ae h101;clear h101;go_enter func186,ntmps186;go_wp2_with fail;refine(mq _ c).mono ?_;rintro e w1 ⟨rfl,rfl⟩;go_wp2_with fail;refine(fp _ c).mono ?_;rintro e w2 ⟨rfl,rfl⟩;go_wp2_with fail;refine(dy _ true 3).mono ?_;rintro e w3 ⟨rfl,rfl⟩;go_wp2_with fail;go_ret;exact⟨db (by simp[bY,H.out]),rfl⟩
 have Ve:((c:Int)==101)=false:=by simp;omega
 have aby:=ae h101;clear h101;go_enter func186,ntmps186;go_wp2_with fail;refine(mq _ c).mono ?_;rintro e w1 ⟨rfl,rfl⟩;go_wp2_with fail;refine(fp _ c).mono ?_;rintro e w2 ⟨rfl,rfl⟩;go_wp2_with fail;refine(dy _ false 3).mono ?_;rintro e w3 ⟨rfl,rfl⟩;go_wp2_with fail;go_ret;exact⟨db (by simp[bY,H1.out,abz.out,abB.out,aby.out]),rfl⟩
theorem Ey (w:World)(c:Nat):Calls prog 186 #[.int .i64 0,.int .u8 c] w λe w'=>e=.returned (.int .i64 (bY 0 c))/\w'=w:=by
 by_cases h1:c=64
 ·have g1:((c:Int)==64)=true:=by simp[h1]
  have H1:=ae h1;clear h1;go_enter func186,ntmps186;go_wp2_with fail;refine(mq _ c).mono ?_;rintro e w1 ⟨rfl,rfl⟩;go_wp2_with fail;refine(fp _ c).mono ?_;rintro e w2 ⟨rfl,rfl⟩;go_wp2_with fail;go_ret;exact⟨db (by simp[bY,H1.out]),rfl⟩
 ·have g1:((c:Int)==64)=false:=by simp;omega
  have H1:=ae h1;clear h1;go_enter func186,ntmps186;go_wp2_with fail;refine(mq _ c).mono ?_;rintro e w1 ⟨rfl,rfl⟩;go_wp2_with fail;refine(fp _ c).mono ?_;rintro e w2 ⟨rfl,rfl⟩;go_wp2_with fail;refine(uy _ c).mono ?_;rintro e w3 ⟨rfl,rfl⟩;go_wp2_with fail;go_ret;exact⟨db (by simp[bY,H1.out]),rfl⟩
theorem Bq (w:World)(c:Nat):Calls prog 187 #[.int .i64 16,.int .u8 c] w λe w'=>e=.returned (.int .i64 (bY 16 c))/\w'=w:=by
 go_enter func187,ntmps187;go_wp2_with fail;refine(fp _ c).mono ?_;rintro e w1 ⟨rfl,rfl⟩;go_wp2_with fail;refine(bB _ c _ (by decide)).mono ?_;rw[cg c];rintro e w2 ⟨rfl,rfl⟩;go_wp2_with fail;refine(t8 _ c).mono ?_;rintro e w3 ⟨rfl,rfl⟩;go_wp2_with fail;go_ret;exact⟨db (by simp[bY]),rfl⟩
theorem nQ (w:World)(c:Nat):Calls prog 187 #[.int .i64 15,.int .u8 c] w λe w'=>e=.returned (.int .i64 (bY 15 c))/\w'=w:=by
 by_cases iV:c=33
 ·have N8:((c:Int)==33)=true:=by simp[iV]
  have H:=ae iV;clear iV;go_enter func187,ntmps187;go_wp2_with fail;refine(fp _ c).mono ?_;rintro e w1 ⟨rfl,rfl⟩;go_wp2_with fail;refine(bB _ c _ (by decide)).mono ?_;rw[cg c];rintro e w2 ⟨rfl,rfl⟩;go_wp2_with fail;go_ret;exact⟨db (by simp[bY,kL,H.out]),rfl⟩
 have N8:((c:Int)==33)=false:=by simp;omega
 have Qn:=ae iV;clear iV;go_enter func187,ntmps187;go_wp2_with fail;refine(fp _ c).mono ?_;rintro e w1 ⟨rfl,rfl⟩;go_wp2_with fail;refine(bB _ c _ (by decide)).mono ?_;rw[cg c];rintro e w2 ⟨rfl,rfl⟩;go_wp2_with fail;refine(t8 _ c).mono ?_;rintro e w3 ⟨rfl,rfl⟩;go_wp2_with fail;go_ret;exact⟨db (by simp[bY,kL,Qn.out]),rfl⟩
theorem Bo (w:World)(c:Nat):Calls prog 187 #[.int .i64 13,.int .u8 c] w λe w'=>e=.returned (.int .i64 (bY 13 c))/\w'=w:=by
 cases hD:iJ c
 ·have HD:=ae hD;go_enter func187,ntmps187;go_wp2_with fail;refine(fp _ c).mono ?_;rw[hD];clear hD;rintro e w1 ⟨rfl,rfl⟩;go_wp2_with fail;refine(bB _ c _ (by decide)).mono ?_;rw[cg c];rintro e w2 ⟨rfl,rfl⟩;go_wp2_with fail;refine(nQ _ c).mono ?_;rintro e w3 ⟨rfl,rfl⟩;go_wp2_with fail;go_ret;exact⟨db (by simp[bY,HD.out]),rfl⟩
 ·have HD:=ae hD;go_enter func187,ntmps187;go_wp2_with fail;refine(fp _ c).mono ?_;rw[hD];clear hD;rintro e w1 ⟨rfl,rfl⟩;go_wp2_with fail;refine(bB _ c _ (by decide)).mono ?_;rw[cg c];rintro e w2 ⟨rfl,rfl⟩;go_wp2_with fail;go_ret;exact⟨db (by simp[bY,HD.out]),rfl⟩
theorem Bp (w:World)(c:Nat):Calls prog 187 #[.int .i64 14,.int .u8 c] w λe w'=>e=.returned (.int .i64 (bY 14 c))/\w'=w:=by
 cases hD:iJ c
 ·have HD:=ae hD;go_enter func187,ntmps187;go_wp2_with fail;refine(fp _ c).mono ?_;rw[hD];clear hD;rintro e w1 ⟨rfl,rfl⟩;go_wp2_with fail;refine(bB _ c _ (by decide)).mono ?_;rw[cg c];rintro e w2 ⟨rfl,rfl⟩;go_wp2_with fail;refine(nQ _ c).mono ?_;rintro e w3 ⟨rfl,rfl⟩;go_wp2_with fail;go_ret;exact⟨db (by simp[bY,HD.out]),rfl⟩
 ·have HD:=ae hD;go_enter func187,ntmps187;go_wp2_with fail;refine(fp _ c).mono ?_;rw[hD];clear hD;rintro e w1 ⟨rfl,rfl⟩;go_wp2_with fail;refine(bB _ c _ (by decide)).mono ?_;rw[cg c];rintro e w2 ⟨rfl,rfl⟩;go_wp2_with fail;go_ret;exact⟨db (by simp[bY,HD.out]),rfl⟩
theorem Bl (w:World)(c:Nat):Calls prog 187 #[.int .i64 10,.int .u8 c] w λe w'=>e=.returned (.int .i64 (bY 10 c))/\w'=w:=by
 go_enter func187,ntmps187;go_wp2_with fail;refine(fp _ c).mono ?_;rintro e w1 ⟨rfl,rfl⟩;go_wp2_with fail;refine(bB _ c _ (by decide)).mono ?_;rw[cg c];rintro e w2 ⟨rfl,rfl⟩;go_wp2_with fail;refine(dy _ (wW c) 11).mono ?_;rintro e w3 ⟨rfl,rfl⟩;go_wp2_with fail;go_ret;exact⟨db (by simp[bY,lC,wh]),rfl⟩
theorem C7 (w:World)(c:Nat):Calls prog 187 #[.int .i64 9,.int .u8 c] w λe w'=>e=.returned (.int .i64 (bY 9 c))/\w'=w:=by
 by_cases F7:c=125
 ·have acB:((c:Int)==125)=true:=by simp[F7]
  have H:=ae F7;clear F7;go_enter func187,ntmps187;go_wp2_with fail;refine(fp _ c).mono ?_;rintro e w1 ⟨rfl,rfl⟩;go_wp2_with fail;refine(bB _ c _ (by decide)).mono ?_;rw[cg c];rintro e w2 ⟨rfl,rfl⟩;go_wp2_with fail;go_ret;exact⟨db (by simp[bY,H.out]),rfl⟩
 have acB:((c:Int)==125)=false:=by simp;omega
 have abD:=ae F7;clear F7;go_enter func187,ntmps187;go_wp2_with fail;refine(fp _ c).mono ?_;rintro e w1 ⟨rfl,rfl⟩;go_wp2_with fail;refine(bB _ c _ (by decide)).mono ?_;rw[cg c];rintro e w2 ⟨rfl,rfl⟩;go_wp2_with fail;refine(dy _ (wW c) 11).mono ?_;rintro e w3 ⟨rfl,rfl⟩;go_wp2_with fail;go_ret;exact⟨db (by simp[bY,lC,wh,abD.out]),rfl⟩
theorem Bm (w:World)(c:Nat):Calls prog 187 #[.int .i64 11,.int .u8 c] w λe w'=>e=.returned (.int .i64 (bY 11 c))/\w'=w:=by
 by_cases h58:c=58
 ·have Vl:((c:Int)==58)=true:=by simp[h58]
  have H:=ae h58;clear h58;go_enter func187,ntmps187;go_wp2_with fail;refine(fp _ c).mono ?_;rintro e w1 ⟨rfl,rfl⟩;go_wp2_with fail;refine(bB _ c _ (by decide)).mono ?_;rw[cg c];rintro e w2 ⟨rfl,rfl⟩;go_wp2_with fail;refine(dy _ true 12).mono ?_;rintro e w3 ⟨rfl,rfl⟩;go_wp2_with fail;go_ret;exact⟨db (by simp[bY,H.out]),rfl⟩
 have Vl:((c:Int)==58)=false:=by simp;omega
 have H58:=ae h58;clear h58;go_enter func187,ntmps187;go_wp2_with fail;refine(fp _ c).mono ?_;rintro e w1 ⟨rfl,rfl⟩;go_wp2_with fail;refine(bB _ c _ (by decide)).mono ?_;rw[cg c];rintro e w2 ⟨rfl,rfl⟩;go_wp2_with fail;refine(dy _ false 12).mono ?_;rintro e w3 ⟨rfl,rfl⟩;go_wp2_with fail;go_ret;exact⟨db (by simp[bY,H58.out]),rfl⟩
theorem Br (w:World)(c:Nat):Calls prog 187 #[.int .i64 17,.int .u8 c] w λe w'=>e=.returned (.int .i64 (bY 17 c))/\w'=w:=by
 by_cases h88:c=88
 ·have g88:((c:Int)==88)=true:=by simp[h88]
  have H:=ae h88;clear h88;go_enter func187,ntmps187;go_wp2_with fail;refine(fp _ c).mono ?_;rintro e w1 ⟨rfl,rfl⟩;go_wp2_with fail;refine(bB _ c _ (by decide)).mono ?_;rw[cg c];rintro e w2 ⟨rfl,rfl⟩;go_wp2_with fail;refine(dy _ true 15).mono ?_;rintro e w3 ⟨rfl,rfl⟩;go_wp2_with fail;go_ret;exact⟨db (by simp[bY,ts,H.out]),rfl⟩
 have g88:((c:Int)==88)=false:=by simp;omega
 have H88:=ae h88;clear h88
 by_cases h89:c=89
 ·have g89:((c:Int)==89)=true:=by simp[h89]
  have H:=ae h89;clear h89;go_enter func187,ntmps187;go_wp2_with fail;refine(fp _ c).mono ?_;rintro e w1 ⟨rfl,rfl⟩;go_wp2_with fail;refine(bB _ c _ (by decide)).mono ?_;rw[cg c];rintro e w2 ⟨rfl,rfl⟩;go_wp2_with fail;refine(dy _ true 15).mono ?_;rintro e w3 ⟨rfl,rfl⟩;go_wp2_with fail;go_ret;exact⟨db (by simp[bY,ts,H.out]),rfl⟩
 have g89:((c:Int)==89)=false:=by simp;omega
 have H89:=ae h89;clear h89
 by_cases h90:c=90
 ·have g90:((c:Int)==90)=true:=by simp[h90]
  have H:=ae h90;clear h90;go_enter func187,ntmps187;go_wp2_with fail;refine(fp _ c).mono ?_;rintro e w1 ⟨rfl,rfl⟩;go_wp2_with fail;refine(bB _ c _ (by decide)).mono ?_;rw[cg c];rintro e w2 ⟨rfl,rfl⟩;go_wp2_with fail;refine(dy _ true 15).mono ?_;rintro e w3 ⟨rfl,rfl⟩;go_wp2_with fail;go_ret;exact⟨db (by simp[bY,ts,H.out]),rfl⟩
 have g90:((c:Int)==90)=false:=by simp;omega
 have H90:=ae h90;clear h90;go_enter func187,ntmps187;go_wp2_with fail;refine(fp _ c).mono ?_;rintro e w1 ⟨rfl,rfl⟩;go_wp2_with fail;refine(bB _ c _ (by decide)).mono ?_;rw[cg c];rintro e w2 ⟨rfl,rfl⟩;go_wp2_with fail;refine(dy _ false 15).mono ?_;rintro e w3 ⟨rfl,rfl⟩;go_wp2_with fail;go_ret;have hv:ts c=false:=by have:=H88.out;have:=H89.out;have:=H90.out;simp only[ts,gU];omega
 exact⟨db (by simp[bY,hv]),rfl⟩
theorem Bn (w:World)(c:Nat):Calls prog 187 #[.int .i64 12,.int .u8 c] w λe w'=>e=.returned (.int .i64 (bY 12 c))/\w'=w:=by
 cases hD:iJ c
 ·have HD:=ae hD
  by_cases uN:c=36
  ·have Zw:((c:Int)==36)=true:=by simp[uN]
   have H:=ae uN;clear uN;go_enter func187,ntmps187;go_wp2_with fail;refine(fp _ c).mono ?_;rw[hD];clear hD;rintro e w1 ⟨rfl,rfl⟩;go_wp2_with fail;refine(bB _ c _ (by decide)).mono ?_;rw[cg c];rintro e w2 ⟨rfl,rfl⟩;go_wp2_with fail;go_ret;exact⟨db (by simp[bY,iJ,H.out]),rfl⟩
  have Zw:((c:Int)==36)=false:=by simp;omega
  have H36:=ae uN;clear uN
  by_cases h105:c=105
  ·have Vh:((c:Int)==105)=true:=by simp[h105]
   have H:=ae h105;clear h105;go_enter func187,ntmps187;go_wp2_with fail;refine(fp _ c).mono ?_;rw[hD];clear hD;rintro e w1 ⟨rfl,rfl⟩;go_wp2_with fail;refine(bB _ c _ (by decide)).mono ?_;rw[cg c];rintro e w2 ⟨rfl,rfl⟩;go_wp2_with fail;refine(dy _ true 15).mono ?_;rintro e w3 ⟨rfl,rfl⟩;go_wp2_with fail;go_ret;exact⟨db (by simp[bY,iJ,H.out]),rfl⟩
  have Vh:((c:Int)==105)=false:=by simp;omega
  have abA:=ae h105;clear h105
  by_cases h114:c=114
  ·have Vk:((c:Int)==114)=true:=by simp[h114]
   have H:=ae h114;clear h114;go_enter func187,ntmps187;go_wp2_with fail;refine(fp _ c).mono ?_;rw[hD];clear hD;rintro e w1 ⟨rfl,rfl⟩;go_wp2_with fail;refine(bB _ c _ (by decide)).mono ?_;rw[cg c];rintro e w2 ⟨rfl,rfl⟩;go_wp2_with fail;refine(dy _ true 15).mono ?_;rintro e w3 ⟨rfl,rfl⟩;go_wp2_with fail;go_ret;exact⟨db (by simp[bY,iJ,H.out]),rfl⟩
  have Vk:((c:Int)==114)=false:=by simp;omega
  have abC:=ae h114;clear h114
  by_cases BA:c=117
  ·have acz:((c:Int)==117)=true:=by simp[BA]
   have H:=ae BA;clear BA;go_enter func187,ntmps187;go_wp2_with fail;refine(fp _ c).mono ?_;rw[hD];clear hD;rintro e w1 ⟨rfl,rfl⟩;go_wp2_with fail;refine(bB _ c _ (by decide)).mono ?_;rw[cg c];rintro e w2 ⟨rfl,rfl⟩;go_wp2_with fail;refine(dy _ true 15).mono ?_;rintro e w3 ⟨rfl,rfl⟩;go_wp2_with fail;go_ret;exact⟨db (by simp[bY,iJ,H.out]),rfl⟩
  have acz:((c:Int)==117)=false:=by simp;omega
  have Uy:=ae BA;clear BA;go_enter func187,ntmps187;go_wp2_with fail;refine(fp _ c).mono ?_;rw[hD];clear hD;rintro e w1 ⟨rfl,rfl⟩;go_wp2_with fail;refine(bB _ c _ (by decide)).mono ?_;rw[cg c];rintro e w2 ⟨rfl,rfl⟩;go_wp2_with fail;refine(dy _ false 15).mono ?_;rintro e w3 ⟨rfl,rfl⟩;go_wp2_with fail;go_ret;exact⟨db (by simp[bY,HD.out,H36.out,abA.out,abC.out,Uy.out]),rfl⟩
 ·have HD:=ae hD;go_enter func187,ntmps187;go_wp2_with fail;refine(fp _ c).mono ?_;rw[hD];clear hD;rintro e w1 ⟨rfl,rfl⟩;go_wp2_with fail;refine(bB _ c _ (by decide)).mono ?_;rw[cg c];rintro e w2 ⟨rfl,rfl⟩;go_wp2_with fail;go_ret;exact⟨db (by simp[bY,HD.out]),rfl⟩
theorem OZ (w:World)(m:Int)(c:Nat)(h0:0<=m)(h1:m<=17):Calls prog 164 #[.int .i64 m,.int .u8 c] w λe w'=>e=.returned (.int .i64 (bY m c))/\w'=w:=by
 have hm:m=0∨m=1∨m=2∨m=3∨m=4∨m=5∨m=6∨m=7∨m=8∨m=9∨m=10∨m=11∨m=12∨m=13∨m=14∨m=15∨m=16∨m=17:=by omega
 clear h0 h1;rcases hm with rfl | rfl | rfl | rfl | rfl | rfl | rfl | rfl | rfl | rfl | rfl | rfl | rfl | rfl | rfl | rfl | rfl | rfl
 ·go_enter func164,ntmps164;go_wp2_with fail;refine(Ey _ c).mono ?_;rintro e w3 ⟨rfl,rfl⟩;go_wp2_with fail;go_ret;exact⟨rfl,rfl⟩
 ·go_enter func164,ntmps164;go_wp2_with fail;refine(Ez _ c).mono ?_;rintro e w3 ⟨rfl,rfl⟩;go_wp2_with fail;go_ret;exact⟨rfl,rfl⟩
 ·go_enter func164,ntmps164;go_wp2_with fail;refine(uy _ c).mono ?_;rintro e w3 ⟨rfl,rfl⟩;go_wp2_with fail;go_ret;exact⟨rfl,rfl⟩
 ·go_enter func164,ntmps164;go_wp2_with fail;refine(EA _ c).mono ?_;rintro e w3 ⟨rfl,rfl⟩;go_wp2_with fail;go_ret;exact⟨rfl,rfl⟩
 ·go_enter func164,ntmps164;go_wp2_with fail;refine(EB _ c).mono ?_;rintro e w3 ⟨rfl,rfl⟩;go_wp2_with fail;go_ret;exact⟨rfl,rfl⟩
 ·go_enter func164,ntmps164;go_wp2_with fail;refine(EC _ c).mono ?_;rintro e w3 ⟨rfl,rfl⟩;go_wp2_with fail;go_ret;exact⟨rfl,rfl⟩
 ·go_enter func164,ntmps164;go_wp2_with fail;refine(ED _ c).mono ?_;rintro e w3 ⟨rfl,rfl⟩;go_wp2_with fail;go_ret;exact⟨rfl,rfl⟩
 ·go_enter func164,ntmps164;go_wp2_with fail;refine(EE _ c).mono ?_;rintro e w3 ⟨rfl,rfl⟩;go_wp2_with fail;go_ret;exact⟨rfl,rfl⟩
 ·go_enter func164,ntmps164;go_wp2_with fail;refine(EF _ c).mono ?_;rintro e w3 ⟨rfl,rfl⟩;go_wp2_with fail;go_ret;exact⟨rfl,rfl⟩
 ·go_enter func164,ntmps164;go_wp2_with fail;refine(C7 _ c).mono ?_;rintro e w3 ⟨rfl,rfl⟩;go_wp2_with fail;go_ret;exact⟨rfl,rfl⟩
 ·go_enter func164,ntmps164;go_wp2_with fail;refine(Bl _ c).mono ?_;rintro e w3 ⟨rfl,rfl⟩;go_wp2_with fail;go_ret;exact⟨rfl,rfl⟩
 ·go_enter func164,ntmps164;go_wp2_with fail;refine(Bm _ c).mono ?_;rintro e w3 ⟨rfl,rfl⟩;go_wp2_with fail;go_ret;exact⟨rfl,rfl⟩
 ·go_enter func164,ntmps164;go_wp2_with fail;refine(Bn _ c).mono ?_;rintro e w3 ⟨rfl,rfl⟩;go_wp2_with fail;go_ret;exact⟨rfl,rfl⟩
 ·go_enter func164,ntmps164;go_wp2_with fail;refine(Bo _ c).mono ?_;rintro e w3 ⟨rfl,rfl⟩;go_wp2_with fail;go_ret;exact⟨rfl,rfl⟩
 ·go_enter func164,ntmps164;go_wp2_with fail;refine(Bp _ c).mono ?_;rintro e w3 ⟨rfl,rfl⟩;go_wp2_with fail;go_ret;exact⟨rfl,rfl⟩
 ·go_enter func164,ntmps164;go_wp2_with fail;refine(nQ _ c).mono ?_;rintro e w3 ⟨rfl,rfl⟩;go_wp2_with fail;go_ret;exact⟨rfl,rfl⟩
 ·go_enter func164,ntmps164;go_wp2_with fail;refine(Bq _ c).mono ?_;rintro e w3 ⟨rfl,rfl⟩;go_wp2_with fail;go_ret;exact⟨rfl,rfl⟩
 ·go_enter func164,ntmps164;go_wp2_with fail;refine(Br _ c).mono ?_;rintro e w3 ⟨rfl,rfl⟩;go_wp2_with fail;go_ret;exact⟨rfl,rfl⟩
section
variable {M m:Int}{c i p:Nat}{k:Cn}{s:ByteArray}
theorem Su {p:Prop}[Decidable p]{a b:Int}(ha:-1<=a/\a<=17)(hb:-1<=b/\b<=17):-1<=(if p then a else b)/\(if p then a else b)<=17:=by
 split
 ·exact ha
 ·exact hb
theorem KD (m:Int)(c:Nat):-1<=bY m c/\bY m c<=17:=by
 have hp:-1<=jx c/\jx c<=17:=by unfold jx;(repeat' split)<;>omega
 have hc:-1<=jh c/\jh c<=17:=by unfold jh;(repeat' split)<;>omega
 have hm:-1<=kL c/\kL c<=17:=by unfold kL;(repeat' split)<;>omega
 have hq:-1<=lC c/\lC c<=17:=by unfold lC;(repeat' split)<;>omega
 have ho:-1<=jR c/\jR c<=17:=by unfold jR;(repeat' split)<;>omega
 have hr:-1<=i7 c/\i7 c<=17:=by unfold i7;(repeat' split)<;>omega
 have hw:∀b n,-1<=n->n<=17->-1<=wh b n/\wh b n<=17:=by intro b n h1 h2;unfold wh;(repeat' split)<;>omega
 unfold bY
 repeat' (first | exact hp | exact hc | exact hm | exact hq | exact ho | exact hr | exact hw _ _ (by decide) (by decide) | refine Su ?_ ?_ | exact⟨by decide,by decide⟩)
def Acc (s:ByteArray)(m:Int)(k:Cn)(i:Nat)(M:Int):Prop:=V s m k i=(-1,M)
theorem Acc.lt (h:Acc s m k i M)(hm:m≠0):i<s.size:=by
 by_cases hi:i<s.size
 ·exact hi
 ·unfold Acc at h;rw[vU (by omega),aj hm] at h;injection h with h1 _
  omega
theorem Acc.ok (h:Acc s m k i M)(hi:i<s.size):bY m (bt s i)≠-1:=by
 intro e;unfold Acc at h;rw[vX hi e] at h;injection h with h1 _
 omega
theorem Acc.step (h:Acc s m k i M)(hi:i<s.size):Acc s (bY m (bt s i)) (cnt m (bt s i) i k) (i+1) M:=by
 have:=h.ok hi;unfold Acc at h ⊢;rw[<-h,vV hi rfl this]
def iI (m:Int):Prop:=m=2∨m=3∨m=4∨m=5∨m=6∨m=7∨m=8
theorem D6 (c:Nat):jx c=-1∨jx c=4∨jx c=5:=by unfold jx;(repeat' split)<;>omega
theorem xX (hm:iI m)(hc:c≠123)(h:bY m c≠-1):iI (bY m c):=by
 have hp:=D6 c;unfold iI at *;have ho:jR c=3∨jR c=8∨jR c=jx c:=by unfold jR;(repeat' split)<;>omega
 have hr:i7 c=8∨i7 c=2∨i7 c=jx c:=by unfold i7;rw[aj hc];(repeat' split)<;>omega
 have hw:∀b n,wh b n=-1∨wh b n=n:=by intro b n;unfold wh;(repeat' split)<;>omega
 have w2:=hw (gw c) 3;have w3:=hw (decide (c=102∨c=108∨c=101)) 3;have w4:=hw (iJ c) 7;have w5:=hw (iJ c) 3;rcases hm with rfl | rfl | rfl | rfl | rfl | rfl | rfl<;>simp only[bY] at h ⊢<;>simp only[Int.reduceEq,if_false,if_true] at h ⊢
 ·omega
 ·omega
 ·omega
 ·split at h<;>split<;>omega
 ·omega
 ·omega
 ·split at h<;>split<;>omega
theorem SY (hm:iI m)(hs:i6 c=false)(hc:c≠44):cnt m c i k=k:=by
 unfold iI at hm;rcases hm with rfl | rfl | rfl | rfl | rfl | rfl | rfl<;>simp[cnt,hs,hc]
theorem xW (hm:iI m)(hc:i6 c=true∨c=44∨c=123)(h:bY m c≠-1):m=3:=by
 have h0:c=32∨c=62∨c=43∨c=126∨c=44∨c=123:=by simp only[i6,bF] at hc;omega
 unfold iI at hm;rcases hm with rfl | rfl | rfl | rfl | rfl | rfl | rfl<;>first | rfl | (exfalso;apply h;rcases h0 with rfl | rfl | rfl | rfl | rfl | rfl<;>decide)
theorem Ld:∀(n:Nat) {m:Int} {k:Cn} {p:Nat},s.size - p<=n->iI m->Acc s m k p M->∃q,p<=q/\q<s.size/\bt s q=123:=by
 intro n
 induction n with
 | zero=>
  intro m k p hn hm h;have:=h.lt (by unfold iI at hm;omega);omega
 | succ n ih=>
  intro m k p hn hm h;have aU:=h.lt (by unfold iI at hm;omega)
  by_cases hc:bt s p=123
  ·exact⟨p,au,aU,hc⟩
  ·obtain⟨q,h1,h2,h3⟩:=ih (by omega) (xX hm hc (h.ok aU)) (h.step aU);exact⟨q,by omega,h2,h3⟩
def lr (m:Int):Prop:=9<=m/\m<=17
theorem pH (hm:lr m)(h:bY m c≠-1):(c=125->bY m c=0)/\(c=59->bY m c=10)/\(c≠125->lr (bY m c)):=by
 unfold lr at *;have hc:jh c=-1∨(jh c=10/\c=59)∨(jh c=0/\c=125):=by unfold jh;(repeat' split)<;>omega
 have hk:kL c=-1∨(kL c=10/\c=59)∨(kL c=0/\c=125)∨(kL c=16/\c=33):=by unfold kL;(repeat' split)<;>omega
 have hq:lC c=-1∨(lC c=11/\c≠125/\c≠59):=by
  unfold lC;split
  ·rename_i hp;simp only[wW,ts,Bool.or_eq_true,bF] at hp;omega
  ·omega
 have hd:iJ c=true->c≠125/\c≠59:=by intro hp;simp only[iJ,bF] at hp;omega
 have hv:wh (ts c) 15=-1∨(wh (ts c) 15=15/\c≠125/\c≠59):=by
  unfold wh;split
  ·rename_i hp;simp only[ts,bF] at hp;omega
  ·omega
 have h1:wh (decide (c=58)) 12=-1∨(wh (decide (c=58)) 12=12/\c=58):=by unfold wh;split<;>simp_all
 have h2:wh (decide (c=105∨c=114∨c=117)) 15=-1∨(wh (decide (c=105∨c=114∨c=117)) 15=15/\(c=105∨c=114∨c=117)):=by
  unfold wh;split
  ·rename_i hp;simp only[bF] at hp;omega
  ·omega
 have qZ:m=9∨m=10∨m=11∨m=12∨m=13∨m=14∨m=15∨m=16∨m=17:=by omega
 clear hm;rcases qZ with rfl | rfl | rfl | rfl | rfl | rfl | rfl | rfl | rfl<;>simp only[bY] at h ⊢<;>simp only[Int.reduceEq,if_false,if_true] at h ⊢
 ·by_cases hx:c=125
  ·rw[aq hx] at h ⊢;omega
  ·rw[aj hx] at h ⊢;omega
 ·omega
 ·omega
 ·cases hD:iJ c with
  | true=>have:=hd hD;simp;omega
  | false=>
   simp only[hD,Bool.false_eq_true,if_false] at h ⊢
   by_cases hx:c=36
   ·rw[aq hx] at h ⊢;omega
   ·rw[aj hx] at h ⊢;omega
 ·cases hD:iJ c with
  | true=>have:=hd hD;simp;omega
  | false=>simp only[hD,Bool.false_eq_true,if_false] at h ⊢;omega
 ·cases hD:iJ c with
  | true=>have:=hd hD;simp;omega
  | false=>simp only[hD,Bool.false_eq_true,if_false] at h ⊢;omega
 ·omega
 ·omega
 ·omega
theorem oL (hm:lr m):cnt m c i k=k:=by
 unfold lr at hm;unfold cnt;rw[aj (by omega),aj (by omega),aj (by omega)]
theorem FK:∀(n:Nat) {m:Int} {k:Cn} {p:Nat},s.size - p<=n->lr m->Acc s m k p M->∃q,p<=q/\q<s.size/\bt s q=125:=by
 intro n
 induction n with
 | zero=>
  intro m k p hn hm h;have:=h.lt (by unfold lr at hm;omega);omega
 | succ n ih=>
  intro m k p hn hm h;have aU:=h.lt (by unfold lr at hm;omega)
  by_cases hc:bt s p=125
  ·exact⟨p,au,aU,hc⟩
  ·obtain⟨q,h1,h2,h3⟩:=ih (by omega) ((pH hm (h.ok aU)).2.2 hc) (h.step aU);exact⟨q,by omega,h2,h3⟩
theorem wB {r:Nat}(h:Acc s 9 k p M)(nU:∀j,p<=j->j<r->bt s j≠125)(hr:r<=s.size):
  ∀(d:Nat),p+d<=r->∃m,lr m/\Acc s m k (p+d) M/\(d=0->m=9)/\(0<d->bt s (p+d - 1)=59->m=10):=by
 intro d
 induction d with
 | zero=>intro _;exact⟨9,⟨by omega,by omega⟩,h,λ_=>rfl,λe=>by omega⟩
 | succ d ih=>
  intro hd;obtain⟨m,h1,h2,_,_⟩:=ih (by omega);have aU:p+d<s.size:=by omega
  have hn:=pH h1 (h2.ok aU);refine⟨bY m (bt s (p+d)),hn.2.2 (nU _ (by omega) (by omega)),?_,λe=>by omega,λ_ e=>hn.2.1 e⟩;have:=h2.step aU;rw[oL h1] at this;exact this
theorem FL (hm:m=9∨m=10)(h:Acc s m k p M)(fY:bt s p≠125):
  bt s p≠59/\bt s (p+1)≠59/\bt s (p+1)≠125/\bt s (p+2)≠59/\bt s (p+2)≠125/\p+2<s.size:=by
 have jS:lr m:=by unfold lr;omega
 have l0:=h.lt (by omega);have o0:=h.ok l0
 have hp:wW (bt s p)=true/\bY m (bt s p)=11:=by
  cases hp:wW (bt s p) with
  | true=>refine⟨rfl,?_⟩;rcases hm with rfl | rfl<;>simp[bY,lC,hp,fY]
  | false=>exfalso;apply o0;rcases hm with rfl | rfl<;>simp[bY,lC,hp,fY]
 have h1:=h.step l0;rw[hp.2,oL jS] at h1;have l1:=h1.lt (by omega);have o1:=h1.ok l1
 have hq:bt s (p+1)=58:=by
  by_cases e:bt s (p+1)=58
  ·exact e
  ·exfalso;apply o1;simp[bY,wh,e]
 have h2:=h1.step l1;rw[show bY 11 (bt s (p+1))=12 from by simp[bY,wh,hq],oL ⟨by omega,by omega⟩] at h2;have l2:=h2.lt (by omega);have o2:=h2.ok l2
 have h3:bt s (p+2)≠59/\bt s (p+2)≠125:=by
  constructor
  ·intro e;apply o2;rw[e];decide
  ·intro e;apply o2;rw[e];decide
 have ui:=hp.1;simp only[wW,ts,Bool.or_eq_true,bF] at ui;exact⟨by omega,by omega,by omega,h3.1,h3.2,l2⟩
end
section
variable {a w:World}{b i:Nat}{m:Int}{r:Option Nat}{s:ByteArray}
theorem je (w:World)(r:Option Nat):w.grownBy w r:=⟨rfl,rfl,rfl,au,λ_ _ _=>rfl⟩
theorem ic (h:a.grownBy w r)(n:Nat):a.grownBy (w.drewN n) r:=⟨h.os,h.tape,h.output,h.size,h.block⟩
theorem mT {b c:World}(h:a.grownBy b r)(k:b.grownBy c r):a.grownBy c r:=
 ⟨k.os.trans h.os,k.tape.trans h.tape,k.output.trans h.output,Nat.le_trans h.size k.size,λi hi hn=>(k.block i (Nat.lt_of_lt_of_le hi h.size) hn).trans (h.block i hi hn)⟩
theorem Bu (h:a.grownBy w (some b))(o:Nat)(u:Value):a.grownBy (w.setCell ⟨b,o,none⟩ u) (some b):=
 mT h ⟨rfl,rfl,rfl,by simp[World.setCell],λk _ hk=>Below.heap_setCell _ _ _ _ (λe=>hk (by rw[e]))⟩
theorem wM (h:a.grownBy w r)(o:Obj):a.grownBy (w.alloc o) r:=mT h (World.grownBy_alloc w o r)
theorem Rd.drewN (h:Rd w b s i m)(n:Nat):Rd (w.drewN n) b s i m:=⟨by simpa using h.blk,h.le,h.top,h.lo,h.hi⟩
theorem Rd.lt (h:Rd w b s i m):b<w.heap.size:=(bx.1 h.blk).1
theorem aF {o:Nat}{cs:Array Value}{t:TypeId}{z:Nat × Nat}(h:w.heap[b]?=some (.cells cs t z))(u:Value):
  (w.setCell ⟨b,o,none⟩ u).heap[b]?=some (.cells (cs.setIfInBounds o u) t z):=by
 simp only[World.setCell,Array.getElem?_modify,if_true,h];rfl
theorem Rd.setAt (h:Rd w b s i m){j:Nat}(hj:j<=s.size){v:Int}(hv:v=j):Rd (w.setCell ⟨b,1,none⟩ (.int .i64 v)) b s j m:=by
 subst hv;refine⟨?_,hj,h.top,h.lo,h.hi⟩;rw[aF h.blk];rfl
theorem Rd.setMany (h:Rd w b s i m):Rd (w.setCell ⟨b,2,none⟩ (.int .i64 i)) b s i i:=by
 refine⟨?_,h.le,h.top,by omega,by have:=h.le;have:=h.top;omega⟩;rw[aF h.blk];rfl
structure At (w w':World)(b:Nat)(s:ByteArray)(j:Nat)(m:Int):Prop where
 rd:Rd w' b s j m
 gb:w.grownBy w' (some b)
theorem mO (w:World)(b:Nat)(s:ByteArray)(i:Nat)(m:Int)(h:Rd w b s i m):
  Calls prog 122 #[.pointer (some ⟨b,0,none⟩)] w λe w'=>e=.returned (.bool (decide (s.size<=i)))/\∃n,w'=w.drewN n:=by
 have c0:=h.c0;have c1:=h.c1;have qw:=h.le;have wV:=h.top;go_enter func122,ntmps122;go_wp2;go_quiet (fail);go_wp2;go_ret;exact⟨by simp,⟨_,rfl⟩⟩
theorem kt (w:World)(b:Nat)(s:ByteArray)(i:Nat)(m:Int)(h:Rd w b s i m):
  Calls prog 204 #[.pointer (some ⟨b,0,none⟩)] w λe w'=>e=.returned (.int .u8 (bt s i))/\∃n,w'=w.drewN n:=by
 have c0:=h.c0;have c1:=h.c1;have qw:=h.le;have wV:=h.top;have h0:decide ((i:Int)<0)=false:=by simp
 by_cases aU:i<s.size
 ·have hd:decide (s.size<=i)=false:=by simpa using aU
  rw[bN s i aU];go_enter func204,ntmps204;go_wp2;go_quiet (fail);go_wp2;go_quiet (fail);go_wp2;go_ret;exact⟨by simp,⟨_,World.drewN_drewN _ _ _⟩⟩
 ·rw[sY s i (by omega)];have hd:s.size<=i:=by omega
  go_enter func204,ntmps204;go_wp2;go_quiet (fail);go_wp2;go_ret;exact⟨by simp,⟨_,rfl⟩⟩
end
theorem rW (w:World)(b:Nat)(s:ByteArray)(i:Nat)(m:Int)(h:Rd w b s i m):
  Calls prog 123 #[.pointer (some ⟨b,0,none⟩)] w λe w'=>e=.returned (.tuple #[])/\At w w' b s i (ms m i):=by
 have c1:=h.c1;have c2:=h.c2;have f2:=h.fr 2
 by_cases hm:m=-1
 ·subst hm;have hd:((-1:Int)==-1)=true:=rfl;go_enter func123,ntmps123;go_wp2;go_end0;exact⟨rfl,by simpa[ms] using h.setMany,Bu (je _ _) _ _⟩
 ·have hd:(m==-1)=false:=by simp[hm]
  go_enter func123,ntmps123;go_wp2;go_end0;exact⟨rfl,by simpa[ms,hm] using h,je _ _⟩
theorem gI (w:World)(b:Nat)(s:ByteArray)(i:Nat)(m:Int)(lo hi:Int)(h:Rd w b s i m)(Ka:1<=lo):
  Calls prog 191 #[.pointer (some ⟨b,0,none⟩),.int .u8 lo,.int .u8 hi] w λe w'=>
   (e=.returned (.tuple #[.int .u8 (bt s i),.bool true])/\At w w' b s (i+1) m/\Hid (lo<=(bt s i:Int)/\(bt s i:Int)<=hi/\i<s.size))∨
    (e=.returned (.tuple #[.int .u8 0,.bool false])/\At w w' b s i m/\Hid (¬(lo<=(bt s i:Int)/\(bt s i:Int)<=hi))):=by
 have c1:=h.c1;have f1:=h.fr 1;have qw:=h.le;have wV:=h.top;have hb:=zq s i
 by_cases aU:i<s.size
 ·have hd:decide (s.size<=i)=false:=by simpa using aU
  by_cases h1:lo<=(bt s i:Int)
  ·by_cases h2:(bt s i:Int)<=hi
   ·go_enter func191,ntmps191;go_wp2_with fail;refine(mO _ b s i m (by exact h)).mono ?_;rintro e w1 ⟨rfl,n1,rfl⟩;go_wp2_with fail;refine(kt _ b s i m (by exact h.drewN _)).mono ?_;rintro e w2 ⟨rfl,n2,rfl⟩;go_wp2_with fail;go_ret2;exact af ⟨rfl,⟨(by first | exact((h.drewN _).drewN _).setAt (by omega) (by omega) | exact(h.drewN _).setAt (by omega) (by omega)),Bu (by first | exact ic (ic (je _ _) _) _ | exact ic (je _ _) _) _ _⟩,⟨h1,h2,aU⟩⟩
   ·go_enter func191,ntmps191;go_wp2_with fail;refine(mO _ b s i m (by exact h)).mono ?_;rintro e w1 ⟨rfl,n1,rfl⟩;go_wp2_with fail;refine(kt _ b s i m (by exact h.drewN _)).mono ?_;rintro e w2 ⟨rfl,n2,rfl⟩;go_wp2_with fail;go_ret2;exact ai ⟨rfl,⟨(by first | exact((h.drewN _).drewN _) | exact(h.drewN _)),(by first | exact ic (ic (je _ _) _) _ | exact ic (je _ _) _)⟩,(by unfold Hid;omega)⟩
  ·go_enter func191,ntmps191;go_wp2_with fail;refine(mO _ b s i m (by exact h)).mono ?_;rintro e w1 ⟨rfl,n1,rfl⟩;go_wp2_with fail;refine(kt _ b s i m (by exact h.drewN _)).mono ?_;rintro e w2 ⟨rfl,n2,rfl⟩;go_wp2_with fail;go_ret2;exact ai ⟨rfl,⟨(by first | exact((h.drewN _).drewN _) | exact(h.drewN _)),(by first | exact ic (ic (je _ _) _) _ | exact ic (je _ _) _)⟩,(by unfold Hid;omega)⟩
 ·have hd:s.size<=i:=by omega
  have h0:=sY s i hd;have h0':¬(lo<=(bt s i:Int)/\(bt s i:Int)<=hi):=by omega
  clear h0;go_enter func191,ntmps191;go_wp2_with fail;refine(mO _ b s i m (by exact h)).mono ?_;rintro e w1 ⟨rfl,n1,rfl⟩;go_wp2_with fail;go_ret2;exact ai ⟨rfl,⟨h.drewN _,ic (je _ _) _⟩,h0'⟩
section
variable {b c i j:Nat}{m:Int}{s:ByteArray}{w w1:World}
theorem At.trans {w2:World}{k:Nat}{n:Int}(h:At w w1 b s j m)(h2:At w1 w2 b s k n):At w w2 b s k n:=⟨h2.rd,mT h.gb h2.gb⟩
theorem At.drewN (h:At w w1 b s j m)(n:Nat):At w (w1.drewN n) b s j m:=⟨h.rd.drewN n,ic h.gb n⟩
theorem Rd.at0 (h:Rd w b s j m):At w w b s j m:=⟨h,je _ _⟩
theorem At.setAt (h:At w w1 b s i m)(hj:j<=s.size){v:Int}(hv:v=j):At w (w1.setCell ⟨b,1,none⟩ (.int .i64 v)) b s j m:=⟨h.rd.setAt hj hv,Bu h.gb _ _⟩
theorem Rd.alloc (h:Rd w b s i m)(o:Obj):Rd (w.alloc o) b s i m:=⟨(Below.heap_alloc w o b h.lt).trans h.blk,h.le,h.top,h.lo,h.hi⟩
theorem At.alloc (h:At w w1 b s j m)(o:Obj):At w (w1.alloc o) b s j m:=⟨h.rd.alloc o,wM h.gb o⟩
theorem jc (w:World)(b:Nat)(s:ByteArray)(i:Nat)(m:Int)(lo:Int)(h:Rd w b s i m)(Ka:1<=lo):
  Calls prog 177 #[.pointer (some ⟨b,0,none⟩),.int .u8 lo] w λe w'=>
   (e=.returned (.bool true)/\At w w' b s (i+1) m/\Hid ((bt s i:Int)=lo/\i<s.size))∨(e=.returned (.bool false)/\At w w' b s i m/\Hid ((bt s i:Int)≠lo)):=by
 go_enter func177,ntmps177;go_wp2_with fail;refine(gI _ b s i m lo lo (by exact h) Ka).mono ?_;rintro e w1 (⟨rfl,ha,hf⟩ | ⟨rfl,ha,hf⟩)
 ·go_wp2_with fail;go_ret;exact af ⟨rfl,ha,(by unfold Hid at *;omega)⟩
 ·go_wp2_with fail;go_ret;exact ai ⟨rfl,ha,(by unfold Hid at *;omega)⟩
theorem qE (w:World)(b:Nat)(s:ByteArray)(i:Nat)(m:Int)(h:Rd w b s i m):
  Calls prog 205 #[.pointer (some ⟨b,0,none⟩)] w λe w'=>
   (e=.returned (.tuple #[.int .u8 (bt s i),.bool true])/\At w w' b s (i+1) m/\Hid (gw (bt s i)=true/\i<s.size))∨
   (e=.returned (.tuple #[.int .u8 0,.bool false])/\At w w' b s i m/\Hid (gw (bt s i)=false)):=by
 go_enter func205,ntmps205;go_wp2_with fail;refine(gI _ b s i m 97 122 (by exact h) (by decide)).mono ?_;rintro e w1 (⟨rfl,ha,hf⟩ | ⟨rfl,ha,hf⟩)
 ·go_wp2_with fail;go_ret2;exact af ⟨rfl,ha,(by unfold Hid at *;simp only[gw,bF];omega)⟩
 ·go_wp2_with fail;go_ret2;exact ai ⟨rfl,ha,(by unfold Hid at *;simp only[gw,gU];omega)⟩
theorem sD (w:World)(b:Nat)(s:ByteArray)(i:Nat)(m:Int)(h:Rd w b s i m):
  Calls prog 214 #[.pointer (some ⟨b,0,none⟩)] w λe w'=>
   (e=.returned (.tuple #[.int .u8 (bt s i),.bool true])/\At w w' b s (i+1) m/\Hid (ts (bt s i)=true/\i<s.size))∨
   (e=.returned (.tuple #[.int .u8 0,.bool false])/\At w w' b s i m/\Hid (ts (bt s i)=false)):=by
 go_enter func214,ntmps214;go_wp2_with fail;refine(gI _ b s i m 88 90 (by exact h) (by decide)).mono ?_;rintro e w1 (⟨rfl,ha,hf⟩ | ⟨rfl,ha,hf⟩)
 ·go_wp2_with fail;go_ret2;exact af ⟨rfl,ha,(by unfold Hid at *;simp only[ts,bF];omega)⟩
 ·go_wp2_with fail;go_ret2;exact ai ⟨rfl,ha,(by unfold Hid at *;simp only[ts,gU];omega)⟩
theorem BX (w:World)(b:Nat)(s:ByteArray)(i:Nat)(m:Int)(h:Rd w b s i m):
  Calls prog 207 #[.pointer (some ⟨b,0,none⟩)] w λe w'=>
   (e=.returned (.tuple #[.int .u8 (bt s i),.bool true])/\At w w' b s (i+1) m/\Hid (wW (bt s i)=true/\i<s.size))∨
   (e=.returned (.tuple #[.int .u8 0,.bool false])/\At w w' b s i m/\Hid (wW (bt s i)=false)):=by
 go_enter func207,ntmps207;go_wp2_with fail;refine(gI _ b s i m 65 70 (by exact h) (by decide)).mono ?_;rintro e w1 (⟨rfl,ha,hf⟩ | ⟨rfl,ha,hf⟩)
 ·go_wp2_with fail;go_ret2;exact af ⟨rfl,ha,(by unfold Hid at *;simp only[wW,ts,Bool.or_eq_true,bF];omega)⟩
 ·go_wp2_with fail;refine(sD _ b s i m (by exact ha.rd)).mono ?_;rintro e w2 (⟨rfl,Vt,Sb⟩ | ⟨rfl,Vt,Sb⟩)
  ·go_wp2_with fail;go_ret2;exact af ⟨rfl,ha.trans Vt,(by unfold Hid at *;simp only[wW,Sb.1,Bool.or_true];exact⟨trivial,Sb.2⟩)⟩
  ·go_wp2_with fail;go_ret2;exact ai ⟨rfl,ha.trans Vt,(by unfold Hid at *;simp only[wW,Sb,Bool.or_false,gU];omega)⟩
theorem mJ (w:World)(b:Nat)(s:ByteArray)(i:Nat)(m:Int)(h:Rd w b s i m):
  Calls prog 178 #[.pointer (some ⟨b,0,none⟩)] w λe w'=>
   (e=.returned (.tuple #[.int .i64 ((bt s i:Int) - 48),.bool true])/\At w w' b s (i+1) m/\Hid (iJ (bt s i)=true/\i<s.size))∨
   (e=.returned (.tuple #[.int .i64 0,.bool false])/\At w w' b s i m/\Hid (iJ (bt s i)=false)):=by
 go_enter func178,ntmps178;go_wp2_with fail;refine(gI _ b s i m 48 57 (by exact h) (by decide)).mono ?_;rintro e w1 (⟨rfl,ha,hf⟩ | ⟨rfl,ha,hf⟩)
 ·have Ka:48<=(bt s i:Int):=hf.out.1;have hhi:(bt s i:Int)<=57:=hf.out.2.1;go_wp2_with fail;go_ret2;exact af ⟨rfl,ha,(by unfold Hid at *;simp only[iJ,bF];omega)⟩
 ·go_wp2_with fail;go_ret2;exact ai ⟨rfl,ha,(by unfold Hid at *;simp only[iJ,gU];omega)⟩
theorem kF (h:((c:Int)==32)=true∨((c:Int)==62)=true∨((c:Int)==43)=true∨((c:Int)==126)=true):i6 c=true:=by
 simp only[beq_iff_eq] at h;simp only[i6,bF];omega
theorem S4 (h1:((c:Int)==32)=false)(h2:((c:Int)==62)=false)(h3:((c:Int)==43)=false)(h4:((c:Int)==126)=false):i6 c=false:=by
 simp only[ff] at h1 h2 h3 h4;simp only[i6,gU];omega
theorem EP (w:World)(b:Nat)(s:ByteArray)(i:Nat)(m:Int)(h:Rd w b s i m):
  Calls prog 193 #[.pointer (some ⟨b,0,none⟩)] w λe w'=>
   (e=.returned (.tuple #[.int .u8 (bt s i),.bool true])/\At w w' b s (i+1) m/\Hid (i6 (bt s i)=true/\i<s.size))∨
   (e=.returned (.tuple #[.int .u8 0,.bool false])/\At w w' b s i m/\Hid (i6 (bt s i)=false)):=by
 have c1:=h.c1;have f1:=h.fr 1;have qw:=h.le;have wV:=h.top
 have iA:i6 (bt s i)=true->i<s.size:=by
  intro e
  by_cases hi:i<s.size
  ·exact hi
  ·rw[sY s i (by omega)] at e;simp[i6] at e
 have HZ:=ae iA;clear iA;go_enter func193,ntmps193;go_wp2_with fail;refine(kt _ b s i m (by exact h)).mono ?_;rintro e w1 ⟨rfl,n1,rfl⟩;go_wp2_with fail
 all_goals go_ret2
 ·exact af ⟨rfl,At.setAt (h.at0.drewN _) (by have:=HZ.out (kF (af ‹_›));omega) (by omega),⟨kF (af ‹_›),HZ.out (kF (af ‹_›))⟩⟩
 ·exact af ⟨rfl,At.setAt (h.at0.drewN _) (by have:=HZ.out (kF (ai (af ‹_›)));omega) (by omega),⟨kF (ai (af ‹_›)),HZ.out (kF (ai (af ‹_›)))⟩⟩
 ·exact af ⟨rfl,At.setAt (h.at0.drewN _) (by have:=HZ.out (kF (ai (ai (af ‹_›))));omega) (by omega),⟨kF (ai (ai (af ‹_›))),HZ.out (kF (ai (ai (af ‹_›))))⟩⟩
 ·exact af ⟨rfl,At.setAt (h.at0.drewN _) (by have:=HZ.out (kF (ai (ai (ai ‹_›))));omega) (by omega),⟨kF (ai (ai (ai ‹_›))),HZ.out (kF (ai (ai (ai ‹_›))))⟩⟩
 ·exact ai ⟨rfl,h.at0.drewN _,S4 ‹_› ‹_› ‹_› ‹_›⟩
theorem Bh (h:((c:Int)==46)=true∨((c:Int)==35)=true∨((c:Int)==58)=true∨((c:Int)==33)=true):oB c=true:=by
 simp only[beq_iff_eq] at h;simp only[oB,bF];omega
theorem Rj (h1:((c:Int)==46)=false)(h2:((c:Int)==35)=false)(h3:((c:Int)==58)=false)(h4:((c:Int)==33)=false):oB c=false:=by
 simp only[ff] at h1 h2 h3 h4;simp only[oB,gU];omega
theorem yX (w:World)(b:Nat)(s:ByteArray)(i:Nat)(m:Int)(h:Rd w b s i m):
  Calls prog 212 #[.pointer (some ⟨b,0,none⟩)] w λe w'=>
   e=.returned (.bool (oB (bt s i)))/\At w w' b s i m:=by
 go_enter func212,ntmps212;go_wp2_with fail;refine(kt _ b s i m (by exact h)).mono ?_;rintro e w1 ⟨rfl,n1,rfl⟩;go_wp2_with fail
 all_goals go_ret
 ·exact⟨by rw[Bh (af ‹_›)];rfl,h.at0.drewN _⟩
 ·exact⟨by rw[Bh (ai (af ‹_›))];rfl,h.at0.drewN _⟩
 ·exact⟨by rw[Bh (ai (ai (af ‹_›)))];rfl,h.at0.drewN _⟩
 ·exact⟨by rw[Bh (ai (ai (ai ‹_›)))];rfl,h.at0.drewN _⟩
 ·exact⟨by rw[Rj ‹_› ‹_› ‹_› ‹_›];rfl,h.at0.drewN _⟩
end
section
variable {b j:Nat}{m:Int}{p:Addr}{s:ByteArray}{w w1:World}
theorem mS {a:World}{r:Option Nat}(h:a.grownBy w r)(hp:a.heap.size<=p.block)(u:Value):a.grownBy (w.setCell p u) r:=
 ⟨h.os,h.tape,h.output,by simpa[World.setCell] using h.size,λk hk hn=>(Below.heap_setCell _ _ _ _ (by omega)).trans (h.block k hk hn)⟩
theorem Rd.setOther {i:Nat}(h:Rd w b s i m)(hp:b≠p.block)(u:Value):Rd (w.setCell p u) b s i m:=
 ⟨(Below.heap_setCell _ _ _ _ hp).trans h.blk,h.le,h.top,h.lo,h.hi⟩
theorem At.setNew (h:At w w1 b s j m)(hb:b<w.heap.size)(hp:w.heap.size<=p.block)(u:Value):At w (w1.setCell p u) b s j m:=
 ⟨h.rd.setOther (by omega) u,mS h.gb hp u⟩
theorem At.ofAlloc {o:Obj}(h:At (w.alloc o) w1 b s j m):At w w1 b s j m:=
 ⟨h.rd,mT (World.grownBy_alloc w o _) h.gb⟩
theorem At.cells (h:At w w1 b s j m)(B:Nat)(hB:B<w.heap.size)(hn:B≠b):
  (∀o,w1.cell? ⟨B,o,none⟩=w.cell? ⟨B,o,none⟩)/\(∀o,w1.frozen? ⟨B,o,none⟩=w.frozen? ⟨B,o,none⟩):=
 ⟨λo=>World.cell?_of_block (a:=⟨B,o,none⟩) (h.gb.block B hB (by simp;omega)),λo=>World.frozen?_of_block (a:=⟨B,o,none⟩) (h.gb.block B hB (by simp;omega))⟩
theorem At.size (h:At w w1 b s j m):w.heap.size<=w1.heap.size:=h.gb.size
theorem o8 (w:World)(b:Nat)(s:ByteArray)(i:Nat)(m kd:Int)(h:Rd w b s i m):
  Calls prog 224 #[.pointer (some ⟨b,0,none⟩),.int .i64 kd] w λe w'=>
   (e=.returned (.tuple #[.agg #[.bool false,.int .i64 kd,.int .u8 (bt s i),.int .i64 0,.int .i64 0],.bool true])/\At w w' b s (i+1) m/\Hid (gw (bt s i)=true/\i<s.size))∨
   (e=.returned (.tuple #[.agg #[.bool false,.int .i64 kd,.int .u8 0,.int .i64 0,.int .i64 0],.bool false])/\At w w' b s i m/\Hid (gw (bt s i)=false)):=by
 have hb:=h.lt;go_enter func224,ntmps224;go_wp2_with fail;refine(qE _ b s i m (by exact h.alloc _)).mono ?_;rintro e w1 (⟨rfl,ha,hf⟩ | ⟨rfl,ha,hf⟩)
 ·obtain⟨hc,hz⟩:=ha.cells w.heap.size (by simp) (by omega);go_wp2_with fail
  exact bodyPost_ret (v:=.tuple #[.agg #[.bool false,.int .i64 kd,.int .u8 (bt s i),.int .i64 0,.int .i64 0],.bool true]) (by simp[results,Tryz.results224,go_sem,hc]) rfl
   (af ⟨rfl,(((((ha.ofAlloc.setNew hb au _).setNew hb au _).setNew hb au _).setNew hb au _).setNew hb au _),hf⟩)
 ·obtain⟨hc,hz⟩:=ha.cells w.heap.size (by simp) (by omega);go_wp2_with fail
  exact bodyPost_ret (v:=.tuple #[.agg #[.bool false,.int .i64 kd,.int .u8 0,.int .i64 0,.int .i64 0],.bool false]) (by simp[results,Tryz.results224,go_sem,hc]) rfl
   (ai ⟨rfl,(((((ha.ofAlloc.setNew hb au _).setNew hb au _).setNew hb au _).setNew hb au _).setNew hb au _),hf⟩)
end
section
variable {b:Nat}{mn:Int}{v:Value}{w:World}
abbrev K0:Cn:=⟨0,0,-1⟩
theorem Au (w:World)(s:ByteArray)(hs:s.size<=400):Calls prog 129 #[.string s] w λe w'=>e=.returned (.int .i64 (V s 0 K0 0).1)/\w'=w:=by
 go_enter func129,ntmps129;go_wp2
 go_loop [3,4] (λmv i=>∃(k:Nat) (m:Int),k<=s.size/\i=.int .i64 k/\mv=.int .i64 m/\0<=m/\m<=17/\Hid (∃kk,V s 0 K0 0=V s m kk k)) (λ_ i=>s.size - (intOf i).toNat)
 case atStart=>exact⟨0,0,aZ,rfl,rfl,by decide,by decide,⟨_,rfl⟩⟩
 case round=>
  obtain⟨k,m,hk,rfl,rfl,Co,yx,HV⟩:=hrel
  by_cases aU:k<s.size
  ·go_wp2_with fail;have Ga:=bN s k aU;rw[<-Ga];refine(OZ _ m (bt s k) Co yx).mono ?_;rintro e w1 ⟨rfl,rfl⟩;clear Ga;have hr:=KD m (bt s k)
   by_cases hn:bY m (bt s k)=-1
   ·have HR:Hid ((V s 0 K0 0).1=k):=by
     obtain⟨kk,h⟩:=HV.out;unfold Hid;rw[h,vX aU hn]
    rw[hn];clear hn hr;go_wp2;go_ret;exact⟨by rw[HR.out];rfl,rfl⟩
   ·have HR:Hid (∃kk,V s 0 K0 0=V s (bY m (bt s k)) kk (k+1)):=by
     obtain⟨kk,h⟩:=HV.out;exact⟨_,by rw[h,vV aU rfl hn]⟩
    generalize bY m (bt s k)=m' at hr hn HR;have hg:(m'==-1)=false:=by simp[hn]
    clear hn;go_wp2
    go_round
    case rel=>exact⟨k+1,m',by omega,by go_num,rfl,by simp only[ff] at hg;omega,hr.2,HR⟩
    case measure=>simp[intOf];omega
  ·obtain rfl:k=s.size:=by omega
   by_cases hm:m=0
   ·subst hm
    have HR:Hid ((V s 0 K0 0).1=-1):=by
     obtain⟨kk,h⟩:=HV.out;unfold Hid;rw[h,vU au];rfl
    have hg:((0:Int) != 0)=false:=rfl;go_wp2;go_ret;exact⟨by rw[HR.out];rfl,rfl⟩
   ·have HR:Hid ((V s 0 K0 0).1=s.size):=by
     obtain⟨kk,h⟩:=HV.out;unfold Hid;rw[h,vU au,aj hm]
    have hg:(m != 0)=true:=by simp[hm]
    clear hm;go_wp2;go_ret;exact⟨by rw[HR.out];rfl,rfl⟩
def U3 (s:ByteArray)(f:Nat)(c:Nat)(r:Nat):Prop:=f<=r/\r<=s.size/\(∀j,f<=j->j<r->bt s j≠c)/\(r<s.size->bt s r=c)
theorem nz (w:World)(s:ByteArray)(f c:Nat)(hs:s.size<=400)(hf:f<=s.size):Calls prog 131 #[.string s,.int .i64 f,.int .u8 c] w λe w'=>∃r:Nat,e=.returned (.int .i64 r)/\w'=w/\Hid (U3 s f c r):=by
 go_enter func131,ntmps131;go_wp2
 go_loop [7] (λi=>∃k:Nat,f<=k/\k<=s.size/\i=.int .i64 k/\Hid (∀j,f<=j->j<k->bt s j≠c)) (λi=>s.size - (intOf i).toNat)
 case atStart=>exact⟨f,au,hf,rfl,λj h1 h2=>by omega⟩
 case round=>
  obtain⟨k,hfk,hk,rfl,HN⟩:=hrel
  by_cases aU:k<s.size
  ·by_cases hc:bt s k=c
   ·have HC:Hid (U3 s f c k):=⟨hfk,hk,HN.out,λ_=>hc⟩;have he:((s[k].toNat:Int)==(c:Int))=true:=by rw[<-bN s k aU,hc];simp
    clear hc;go_wp2;go_ret;exact⟨k,rfl,rfl,HC⟩
   ·have e9:Hid (∀j,f<=j->j<k+1->bt s j≠c):=by
     intro j h1 h2
     by_cases e:j=k
     ·rw[e];exact hc
     ·exact HN.out j h1 (by omega)
    have he:((s[k].toNat:Int)==(c:Int))=false:=by rw[<-bN s k aU];simp;omega
    clear hc;go_wp2
    go_round
    case rel=>exact⟨k+1,by omega,by omega,by go_num,e9⟩
    case measure=>simp[intOf];omega
  ·obtain rfl:k=s.size:=by omega
   have HC:Hid (U3 s f c s.size):=⟨hf,au,HN.out,λh=>by omega⟩;go_wp2;go_ret;exact⟨s.size,rfl,rfl,HC⟩
def Sh (w:World)(b:Nat)(v:Value)(mn:Int):Prop:=w.heap[b]?=some (.cells #[v,.int .i64 mn] 160 (0,0))
theorem Sh.c0 (h:Sh w b v mn):w.cell? ⟨b,0,none⟩=some v:=aa h rfl
theorem Sh.c1 (h:Sh w b v mn):w.cell? ⟨b,1,none⟩=some (.int .i64 mn):=aa h rfl
theorem Sh.fr (h:Sh w b v mn)(k:Nat):w.frozen? ⟨b,k,none⟩=false:=ax h
theorem Sh.lt (h:Sh w b v mn):b<w.heap.size:=(bx.1 h).1
theorem Sh.set1 (h:Sh w b v mn)(x:Int):Sh (w.setCell ⟨b,1,none⟩ (.int .i64 x)) b v x:=by
 unfold Sh;rw[aF h];rfl
theorem Sh.set0 (h:Sh w b v mn)(x:Value):Sh (w.setCell ⟨b,0,none⟩ x) b x mn:=by
 unfold Sh;rw[aF h];rfl
def iX (mn:Int)(i:Nat):Prop:=mn=-1∨(0<=mn/\mn<=i)
theorem tD (w:World)(b:Nat)(v:Value)(mn:Int)(i:Nat)(h:Sh w b v mn)(hn:Hid (iX mn i)):
  Calls prog 130 #[.pointer (some ⟨b,0,none⟩),.int .i64 i] w λe w'=>e=.returned (.tuple #[])/\Sh w' b v (ms mn i)/\w.grownBy w' (some b):=by
 have c1:=h.c1;have f1:=h.fr 1
 by_cases hm:mn=-1
 ·subst hm;have hd:decide ((-1:Int)<0)=true:=by decide
  go_enter func130,ntmps130;go_wp2;go_end0;exact⟨rfl,by simpa[ms] using h.set1 i,Bu (je _ _) _ _⟩
 ·have h2:0<=mn/\mn<=i:=by rcases hn.out with h | h<;>omega
  have hd:decide (mn<0)=false:=by simp;omega
  have iR:decide ((i:Int)<mn)=false:=by simp;omega
  have HM:=ae hm;clear hm;go_enter func130,ntmps130;go_wp2;go_end0;exact⟨rfl,by simpa[ms,HM.out] using h,je _ _⟩
end
section
variable {a b m m':Int}{c i j l:Nat}{s:ByteArray}
theorem At.set5 {w w1:World}{b:Nat}(h:At w w1 b s j m)(hb:b<w.heap.size){B:Nat}(hB:w.heap.size<=B)(v0 v1 v2 v3 v4:Value):
  At w (((((w1.setCell ⟨B,0,none⟩ v0).setCell ⟨B,1,none⟩ v1).setCell ⟨B,2,none⟩ v2).setCell ⟨B,3,none⟩ v3).setCell ⟨B,4,none⟩ v4) b s j m:=
 ((((h.setNew hb hB _).setNew hb hB _).setNew hb hB _).setNew hb hB _).setNew hb hB _
def Sim (s:ByteArray)(m:Int)(i:Nat)(m':Int)(j:Nat):Prop:=∀k,V s m k i=V s m' k j
def vj (s:ByteArray)(m:Int)(i:Nat)(j:Nat):Prop:=∀k,V s m k i=((j:Int),-1)
theorem Sim.trans {c:Int}(h:Sim s a i b j)(k:Sim s b j c l):Sim s a i c l:=λn=>(h n).trans (k n)
theorem Sim.bad (h:Sim s a i b j)(k:vj s b j l):vj s a i l:=λn=>(h n).trans (k n)
theorem eI (hi:i<s.size)(h:bY m (bt s i)=m')(hm:m'≠-1)(hc:∀k,cnt m (bt s i) i k=k):Sim s m i m' (i+1):=λk=>by
 rw[vV hi h hm,hc]
theorem jV (hm:m≠0)(h:bY m (bt s i)=-1):vj s m i i:=λ_=>U6 hm h
theorem nl (hm:m≠0)(qZ:m'≠0)(h:bY m (bt s i)=bY m' (bt s i))(hk:∀k,cnt m (bt s i) i k=cnt m' (bt s i) i k):Sim s m i m' i:=λk=>MF hm qZ h (hk k)
theorem m6 (h:bt s i≠0):i<s.size:=by
 by_cases hi:i<s.size
 ·exact hi
 ·exact absurd (sY s i (by omega)) h
def plain (c:Nat):Bool:=decide (i6 c=false/\c≠44/\c≠123)
def Plain (s:ByteArray)(i j:Nat):Prop:=∀k,i<=k->k<j->plain (bt s k)=true
theorem vg (h:gw c=true):plain c=true:=by
 simp only[gw,bF] at h;simp only[plain,i6,bF,gU];omega
theorem IL (h:iJ c=true):plain c=true:=by
 simp only[iJ,bF] at h;simp only[plain,i6,bF,gU];omega
theorem kw (h:c=46∨c=35∨c=58∨c=33∨c=42∨c=102∨c=108∨c=101∨c=110):plain c=true:=by
 simp only[plain,i6,bF,gU];omega
theorem Plain.one (h:plain (bt s i)=true):Plain s i (i+1):=λk k1 k2=>by
 obtain rfl:k=i:=by omega
 exact h
theorem Plain.cat (h:Plain s i j)(h2:Plain s j l):Plain s i l:=λk k1 k2=>by
 by_cases e:k<j
 ·exact h k k1 e
 ·exact h2 k (by omega) k2
structure PPt where
 nt:Bool
 kd:Int
 lt:Int
 st:Int
 sr:Int
def fC (s:ByteArray)(i:Nat):PPt:=if bt s i=102 then⟨false,4,0,0,0⟩ else if bt s i=108 then⟨false,5,0,0,0⟩ else if bt s i=101 then⟨false,6,0,0,0⟩ else⟨false,7,0,(bt s (i+1):Int) - 48,(bt s (i+2):Int) - 48⟩
def ir (s:ByteArray)(i:Nat):PPt:=if bt s i=46 then⟨false,2,bt s (i+1),0,0⟩ else if bt s i=35 then⟨false,3,bt s (i+1),0,0⟩ else fC s (i+1)
def PPt.no (p:PPt):PPt:=⟨true,p.kd,p.lt,p.st,p.sr⟩
def mu (s:ByteArray)(i:Nat):PPt:=if bt s i=33 then(if gw (bt s (i+1))=true then⟨true,1,bt s (i+1),0,0⟩ else(ir s (i+1)).no) else ir s i
def WD (s:ByteArray)(i:Nat):Prop:=bt s i=102∨bt s i=108∨bt s i=101∨(bt s i=110/\iJ (bt s (i+1))=true/\iJ (bt s (i+2))=true)
def SOK (s:ByteArray)(i:Nat):Prop:=((bt s i=46∨bt s i=35)/\gw (bt s (i+1))=true)∨(bt s i=58/\WD s (i+1))
def sl (s:ByteArray)(i:Nat):Nat:=if bt s i=58/\bt s (i+1)=110 then 4 else 2
def pw (kd:Int):Nat:=if kd=3 then 1000000 else if kd=1 then 1 else 1000
theorem D2 (w:World)(b:Nat)(s:ByteArray)(i:Nat)(m:Int)(h:Rd w b s i m):
  Calls prog 232 #[.pointer (some ⟨b,0,none⟩)] w λe w'=>
   (∃st sr:Int,e=.returned (.tuple #[.agg #[.bool false,.int .i64 7,.int .u8 0,.int .i64 st,.int .i64 sr],.bool true])/\At w w' b s (i+2) m/\Hid (Sim s 6 i 3 (i+2)/\i+2<=s.size/\Plain s i (i+2)/\st=(bt s i:Int) - 48/\sr=(bt s (i+1):Int) - 48/\iJ (bt s i)=true/\iJ (bt s (i+1))=true))∨
   (∃(kd st sr:Int) (j:Nat),e=.returned (.tuple #[.agg #[.bool false,.int .i64 kd,.int .u8 0,.int .i64 st,.int .i64 sr],.bool false])/\At w w' b s j m/\Hid (vj s 6 i j)):=by
 have hb:=h.lt;go_enter func232,ntmps232;go_wp2_with fail;refine(mJ _ b s i m (by exact h.alloc _)).mono ?_;rintro e w1 (⟨rfl,ha,hf⟩ | ⟨rfl,ha,hf⟩)
 ·have gK:=ha.size;simp only[World.size_alloc] at gK;go_wp2_with fail;refine(mJ _ b s (i+1) m (by exact ha.rd)).mono ?_;rintro e w2 (⟨rfl,dB,bG⟩ | ⟨rfl,dB,bG⟩)
  ·have dQ:=ha.trans dB;obtain⟨hc,hz⟩:=dQ.cells w.heap.size (by simp) (by omega);go_wp2_with fail;refine bodyPost_ret (v:=.tuple #[.agg #[.bool false,.int .i64 7,.int .u8 0,.int .i64 ((bt s i:Int) - 48),.int .i64 ((bt s (i+1):Int) - 48)],.bool true]) (by simp[results,Tryz.results232,go_sem,hc]) rfl (af ⟨_,_,rfl,dQ.ofAlloc.set5 hb au _ _ _ _ _,?_⟩);exact⟨(eI hf.out.2 (m':=7) (by simp[bY,hf.out.1,wh]) (by decide) (λk=>by simp[cnt])).trans (eI bG.out.2 (by simp[bY,bG.out.1,wh]) (by decide) (λk=>by simp[cnt])),bG.out.2,(Plain.one (IL hf.out.1)).cat (Plain.one (IL bG.out.1)),rfl,rfl,hf.out.1,bG.out.1⟩
  ·have dQ:=ha.trans dB;obtain⟨hc,hz⟩:=dQ.cells w.heap.size (by simp) (by omega);go_wp2_with fail;refine bodyPost_ret (v:=.tuple #[.agg #[.bool false,.int .i64 7,.int .u8 0,.int .i64 ((bt s i:Int) - 48),.int .i64 0],.bool false]) (by simp[results,Tryz.results232,go_sem,hc]) rfl (ai ⟨_,_,_,i+1,rfl,dQ.ofAlloc.set5 hb au _ _ _ _ _,?_⟩);exact(eI hf.out.2 (m':=7) (by simp[bY,hf.out.1,wh]) (by decide) (λk=>by simp[cnt])).bad (jV (by decide) (by simp[bY,bG.out,wh]))
 ·obtain⟨hc,hz⟩:=ha.cells w.heap.size (by simp) (by omega);go_wp2_with fail;refine bodyPost_ret (v:=.tuple #[.agg #[.bool false,.int .i64 0,.int .u8 0,.int .i64 0,.int .i64 0],.bool false]) (by simp[results,Tryz.results232,go_sem,hc]) rfl (ai ⟨_,_,_,i,rfl,ha.ofAlloc.set5 hb au _ _ _ _ _,?_⟩);exact jV (by decide) (by simp[bY,hf.out,wh])
end
section
variable {i:Nat}{s:ByteArray}
theorem tH (h:bt s i=102∨bt s i=108∨bt s i=101):Sim s 5 i 3 (i+1)/\i+1<=s.size/\bt s i≠110/\Plain s i (i+1):=by
 have hi:i<s.size:=m6 (by omega);refine⟨eI hi ?_ (by decide) (λk=>by simp[cnt]),hi,by omega,Plain.one (kw (by omega))⟩;have h1:¬bt s i=110:=by omega
 simp[bY,h1,wh,h]
theorem SK (h:bt s i=110):Sim s 5 i 6 (i+1)/\i<s.size:=by
 have hi:i<s.size:=m6 (by omega);exact⟨eI hi (by simp[bY,h]) (by decide) (λk=>by simp[cnt]),hi⟩
theorem Py (h1:bt s i≠102)(h2:bt s i≠108)(h3:bt s i≠101)(h4:bt s i≠110):vj s 5 i i:=
 jV (by decide) (by simp[bY,h1,h2,h3,h4,wh])
def vN (md:Int)(w:World)(b:Nat)(s:ByteArray)(i:Nat)(m:Int)(acF:ByteArray->Nat->PPt->Nat->Prop)(e:Ending)(w':World):Prop:=
 (∃(nt:Bool) (kd lt st sr:Int) (j:Nat),e=.returned (.tuple #[.agg #[.bool nt,.int .i64 kd,.int .u8 lt,.int .i64 st,.int .i64 sr],.bool true])/\At w w' b s j m/\Hid (Sim s md i 3 j/\j<=s.size/\acF s i ⟨nt,kd,lt,st,sr⟩ j))∨
 (∃(nt:Bool) (kd lt st sr:Int) (j:Nat),e=.returned (.tuple #[.agg #[.bool nt,.int .i64 kd,.int .u8 lt,.int .i64 st,.int .i64 sr],.bool false])/\At w w' b s j m/\Hid (vj s md i j))
def JZ (s:ByteArray)(i:Nat)(p:PPt)(j:Nat):Prop:=p=fC s i/\4<=p.kd/\p.kd<=7/\j=i+(if bt s i=110 then 3 else 1)/\Plain s i j/\WD s i
theorem y9 (w:World)(b:Nat)(s:ByteArray)(i:Nat)(m:Int)(h:Rd w b s i m):
  Calls prog 225 #[.pointer (some ⟨b,0,none⟩)] w λe w'=>vN 5 w b s i m JZ e w':=by
 have hb:=h.lt;have c1:=h.c1;have f1:=h.fr 1;have qw:=h.le;have wV:=h.top;go_enter func225,ntmps225;go_wp2_with fail;refine(kt _ b s i m (by exact h.alloc _)).mono ?_;rintro e w1 ⟨rfl,n1,rfl⟩
 by_cases k1:bt s i=102
 ·have g1:((bt s i:Int)==102)=true:=by simp[k1]
  have K1:=ae k1;clear k1;go_wp2_with fail;have hp:=tH (af K1.out);refine bodyPost_ret (v:=.tuple #[.agg #[.bool false,.int .i64 4,.int .u8 0,.int .i64 0,.int .i64 0],.bool true]) (by simp[results,Tryz.results225,go_sem]) rfl (af ⟨false,4,0,0,0,i+1,rfl,((((h.at0.alloc _).drewN _).setAt hp.2.1 (by omega)).set5 hb au _ _ _ _ _),?_⟩);exact⟨hp.1,hp.2.1,by unfold fC;rw[K1.out];rfl,by decide,by decide,by rw[aj hp.2.2.1],hp.2.2.2,by have:=K1.out;unfold WD;omega⟩
 by_cases k2:bt s i=108
 ·have g1:((bt s i:Int)==102)=false:=by simp[k2]
  have g2:((bt s i:Int)==108)=true:=by simp[k2]
  have K1:=ae k2;clear k1 k2;go_wp2_with fail;have hp:=tH (ai (af K1.out));refine bodyPost_ret (v:=.tuple #[.agg #[.bool false,.int .i64 5,.int .u8 0,.int .i64 0,.int .i64 0],.bool true]) (by simp[results,Tryz.results225,go_sem]) rfl (af ⟨false,5,0,0,0,i+1,rfl,((((h.at0.alloc _).drewN _).setAt hp.2.1 (by omega)).set5 hb au _ _ _ _ _),?_⟩);exact⟨hp.1,hp.2.1,by unfold fC;rw[K1.out];rfl,by decide,by decide,by rw[aj hp.2.2.1],hp.2.2.2,by have:=K1.out;unfold WD;omega⟩
 by_cases k3:bt s i=101
 ·have g1:((bt s i:Int)==102)=false:=by simp[k3]
  have g2:((bt s i:Int)==108)=false:=by simp[k3]
  have g3:((bt s i:Int)==101)=true:=by simp[k3]
  have K1:=ae k3;clear k1 k2 k3;go_wp2_with fail;have hp:=tH (ai (ai K1.out));refine bodyPost_ret (v:=.tuple #[.agg #[.bool false,.int .i64 6,.int .u8 0,.int .i64 0,.int .i64 0],.bool true]) (by simp[results,Tryz.results225,go_sem]) rfl (af ⟨false,6,0,0,0,i+1,rfl,((((h.at0.alloc _).drewN _).setAt hp.2.1 (by omega)).set5 hb au _ _ _ _ _),?_⟩);exact⟨hp.1,hp.2.1,by unfold fC;rw[K1.out];rfl,by decide,by decide,by rw[aj hp.2.2.1],hp.2.2.2,by have:=K1.out;unfold WD;omega⟩
 have g1:((bt s i:Int)==102)=false:=by simp;omega
 have g2:((bt s i:Int)==108)=false:=by simp;omega
 have g3:((bt s i:Int)==101)=false:=by simp;omega
 by_cases k4:bt s i=110
 ·have g4:((bt s i:Int)==110)=true:=by simp[k4]
  have K1:=ae k4;clear k1 k2 k3 k4;have hp:=SK K1.out;have HP:=ae hp.1;have aU:=hp.2;clear hp;go_wp2_with fail;have ha:=((h.at0.alloc (Obj.cells #[Value.bool false,Value.int IntKind.i64 0,Value.int IntKind.u8 0,Value.int IntKind.i64 0,Value.int IntKind.i64 0] 192)).drewN n1).setAt (j:=i+1) (v:=(i:Int)+1) (by omega) (by omega);refine(D2 _ b s (i+1) m (by exact ha.rd)).mono ?_;rintro e w2 (⟨st,sr,rfl,dB,bG⟩ | ⟨kd,st,sr,j,rfl,dB,bG⟩)
  ·have dQ:=ha.trans dB;obtain⟨hc,hz⟩:=dB.cells w.heap.size (by simp[World.setCell]) (by omega);go_wp2_with fail;refine bodyPost_ret (v:=.tuple #[.agg #[.bool false,.int .i64 7,.int .u8 0,.int .i64 st,.int .i64 sr],.bool true]) (by simp[results,Tryz.results225,go_sem,hc]) rfl (af ⟨false,7,0,st,sr,i+3,rfl,dQ.set5 hb au _ _ _ _ _,?_⟩);exact⟨HP.out.trans bG.out.1,bG.out.2.1,by unfold fC;rw[K1.out,bG.out.2.2.2.1,bG.out.2.2.2.2.1];rfl,by show(4:Int)<=7;decide,by show(7:Int)<=7;decide,by rw[aq K1.out],(Plain.one (kw (by have:=K1.out;omega))).cat bG.out.2.2.1,ai (ai (ai ⟨K1.out,bG.out.2.2.2.2.2⟩))⟩
  ·have dQ:=ha.trans dB;obtain⟨hc,hz⟩:=dB.cells w.heap.size (by simp[World.setCell]) (by omega);go_wp2_with fail;refine bodyPost_ret (v:=.tuple #[.agg #[.bool false,.int .i64 kd,.int .u8 0,.int .i64 st,.int .i64 sr],.bool false]) (by simp[results,Tryz.results225,go_sem,hc]) rfl (ai ⟨false,kd,0,st,sr,j,rfl,dQ.set5 hb au _ _ _ _ _,?_⟩);exact HP.out.bad bG.out
 ·have g4:((bt s i:Int)==110)=false:=by simp;omega
  have HB:=ae (Py k1 k2 k3 k4);clear k1 k2 k3 k4;go_wp2_with fail;refine bodyPost_ret (v:=.tuple #[.agg #[.bool false,.int .i64 0,.int .u8 0,.int .i64 0,.int .i64 0],.bool false]) (by simp[results,Tryz.results225,go_sem]) rfl (ai ⟨false,0,0,0,0,i,rfl,(((h.at0.alloc _).drewN _).set5 hb au _ _ _ _ _),HB.out⟩)
end
section
variable {i:Nat}{s:ByteArray}
def ig (s:ByteArray)(i:Nat)(p:PPt)(j:Nat):Prop:=p=ir s i/\p.kd≠1/\(p.kd=3↔bt s i=35)/\j=i+sl s i/\(bt s i=46∨bt s i=35∨bt s i=58)/\Plain s i j/\SOK s i
def jI (s:ByteArray)(i:Nat)(p:PPt)(j:Nat):Prop:=
 p=mu s i/\if bt s i=33 then(if gw (bt s (i+1))=true then p.kd=1/\j=i+2 else ig s (i+1) ⟨false,p.kd,p.lt,p.st,p.sr⟩ j) else ig s i p j
theorem Pz (s:ByteArray)(i:Nat):(fC s i).nt=false:=by unfold fC;(repeat' split)<;>rfl
theorem I1 (s:ByteArray)(i:Nat):(ir s i).nt=false:=by unfold ir;split;rfl;split;rfl;exact Pz _ _
theorem Ln {j:Nat}{nt:Bool}{kd lt st sr:Int}(h:ig s i ⟨nt,kd,lt,st,sr⟩ j):ig s i ⟨false,kd,lt,st,sr⟩ j:=by
 have h1:=I1 s i;rw[<-h.1] at h1;replace h1:nt=false:=h1;subst h1;exact h
theorem AL (h:bt s i=46∨bt s i=35):Sim s 8 i 4 (i+1)/\i<s.size:=by
 have hi:i<s.size:=m6 (by omega);refine⟨eI hi ?_ (by decide) (λk=>by simp[cnt]),hi⟩;have hl:gw (bt s i)=false:=by simp only[gw,gU];omega
 simp[bY,hl,jx,h]
theorem Lo (h:bt s i=58):Sim s 8 i 5 (i+1)/\i<s.size:=by
 have hi:i<s.size:=m6 (by omega);refine⟨eI hi ?_ (by decide) (λk=>by simp[cnt]),hi⟩;simp[bY,gw,jx,h]
theorem Lm (hl:gw (bt s i)=false)(h1:bt s i≠46)(h2:bt s i≠35)(h3:bt s i≠58):vj s 8 i i:=
 jV (by decide) (by simp[bY,hl,jx,h1,h2,h3])
theorem xe (h:gw (bt s i)=true/\i<s.size):Sim s 4 i 3 (i+1):=eI h.2 (by simp[bY,h.1,wh]) (by decide) (λk=>by simp[cnt])
theorem Ag (h:gw (bt s i)=false):vj s 4 i i:=jV (by decide) (by simp[bY,h,wh])
abbrev xu:Obj:=Obj.cells #[Value.bool false,Value.int IntKind.i64 0,Value.int IntKind.u8 0,Value.int IntKind.i64 0,Value.int IntKind.i64 0] 192
theorem pD (w:World)(b:Nat)(s:ByteArray)(i:Nat)(m:Int)(h:Rd w b s i m)(hL:gw (bt s i)=false):
  Calls prog 219 #[.pointer (some ⟨b,0,none⟩)] w λe w'=>vN 8 w b s i m ig e w':=by
 have hb:=h.lt;have c1:=h.c1;have f1:=h.fr 1;have qw:=h.le;have wV:=h.top;have HL:=ae hL;clear hL;go_enter func219,ntmps219;go_wp2_with fail;refine(kt _ b s i m (by exact h.alloc _)).mono ?_;rintro e w1 ⟨rfl,n1,rfl⟩
 by_cases k1:bt s i=46
 ·have g1:((bt s i:Int)==46)=true:=by simp[k1]
  have K1:=ae k1;clear k1;have hp:=AL (af K1.out);have HP:=ae hp.1;have aU:=hp.2;clear hp;go_wp2_with fail;have ha:=((h.at0.alloc xu).drewN n1).setAt (j:=i+1) (v:=(i:Int)+1) (by omega) (by omega);refine(o8 _ b s (i+1) m 2 (by exact ha.rd)).mono ?_;rintro e w2 (⟨rfl,dB,bG⟩ | ⟨rfl,dB,bG⟩)
  ·have dQ:=ha.trans dB;obtain⟨hc,hz⟩:=dB.cells w.heap.size (by simp[World.setCell]) (by omega);go_wp2_with fail;refine bodyPost_ret (v:=.tuple #[.agg #[.bool false,.int .i64 2,.int .u8 (bt s (i+1)),.int .i64 0,.int .i64 0],.bool true]) (by simp[results,Tryz.results219,go_sem,hc]) rfl (af ⟨false,2,_,0,0,i+2,rfl,dQ.set5 hb au _ _ _ _ _,?_⟩);refine⟨HP.out.trans (xe bG.out),bG.out.2,by unfold ir;rw[K1.out];rfl,(by show(2:Int)≠1;decide),?_,?_,?_,(Plain.one (kw (by have:=K1.out;omega))).cat (Plain.one (vg bG.out.1)),af ⟨by have:=K1.out;omega,bG.out.1⟩⟩
   ·have h0:=K1.out;simp[h0]
   ·have:=K1.out;simp only[sl];rw[aj (by omega)]
   ·have:=K1.out;omega
  ·have dQ:=ha.trans dB;obtain⟨hc,hz⟩:=dB.cells w.heap.size (by simp[World.setCell]) (by omega);go_wp2_with fail;refine bodyPost_ret (v:=.tuple #[.agg #[.bool false,.int .i64 2,.int .u8 0,.int .i64 0,.int .i64 0],.bool false]) (by simp[results,Tryz.results219,go_sem,hc]) rfl (ai ⟨false,2,0,0,0,i+1,rfl,dQ.set5 hb au _ _ _ _ _,HP.out.bad (Ag bG.out)⟩)
 have g1:((bt s i:Int)==46)=false:=by simp;omega
 by_cases k2:bt s i=35
 ·have g2:((bt s i:Int)==35)=true:=by simp[k2]
  have K1:=ae k2;clear k1 k2;have hp:=AL (ai K1.out);have HP:=ae hp.1;have aU:=hp.2;clear hp;go_wp2_with fail;have ha:=((h.at0.alloc xu).drewN n1).setAt (j:=i+1) (v:=(i:Int)+1) (by omega) (by omega);refine(o8 _ b s (i+1) m 3 (by exact ha.rd)).mono ?_;rintro e w2 (⟨rfl,dB,bG⟩ | ⟨rfl,dB,bG⟩)
  ·have dQ:=ha.trans dB;obtain⟨hc,hz⟩:=dB.cells w.heap.size (by simp[World.setCell]) (by omega);go_wp2_with fail;refine bodyPost_ret (v:=.tuple #[.agg #[.bool false,.int .i64 3,.int .u8 (bt s (i+1)),.int .i64 0,.int .i64 0],.bool true]) (by simp[results,Tryz.results219,go_sem,hc]) rfl (af ⟨false,3,_,0,0,i+2,rfl,dQ.set5 hb au _ _ _ _ _,?_⟩);refine⟨HP.out.trans (xe bG.out),bG.out.2,by unfold ir;rw[K1.out];rfl,(by show(3:Int)≠1;decide),?_,?_,?_,(Plain.one (kw (by have:=K1.out;omega))).cat (Plain.one (vg bG.out.1)),af ⟨by have:=K1.out;omega,bG.out.1⟩⟩
   ·have h0:=K1.out;simp[h0]
   ·have:=K1.out;simp only[sl];rw[aj (by omega)]
   ·have:=K1.out;omega
  ·have dQ:=ha.trans dB;obtain⟨hc,hz⟩:=dB.cells w.heap.size (by simp[World.setCell]) (by omega);go_wp2_with fail;refine bodyPost_ret (v:=.tuple #[.agg #[.bool false,.int .i64 3,.int .u8 0,.int .i64 0,.int .i64 0],.bool false]) (by simp[results,Tryz.results219,go_sem,hc]) rfl (ai ⟨false,3,0,0,0,i+1,rfl,dQ.set5 hb au _ _ _ _ _,HP.out.bad (Ag bG.out)⟩)
 have g2:((bt s i:Int)==35)=false:=by simp;omega
 by_cases k3:bt s i=58
 ·have g3:((bt s i:Int)==58)=true:=by simp[k3]
  have K1:=ae k3;clear k1 k2 k3;have hp:=Lo K1.out;have HP:=ae hp.1;have aU:=hp.2;clear hp;go_wp2_with fail;have ha:=((h.at0.alloc xu).drewN n1).setAt (j:=i+1) (v:=(i:Int)+1) (by omega) (by omega);refine(y9 _ b s (i+1) m (by exact ha.rd)).mono ?_;rintro e w2 (⟨nt,kd,lt,st,sr,j,rfl,dB,bG⟩ | ⟨nt,kd,lt,st,sr,j,rfl,dB,bG⟩)
  ·have dQ:=ha.trans dB;obtain⟨hc,hz⟩:=dB.cells w.heap.size (by simp[World.setCell]) (by omega);go_wp2_with fail;refine bodyPost_ret (v:=.tuple #[.agg #[.bool nt,.int .i64 kd,.int .u8 lt,.int .i64 st,.int .i64 sr],.bool true]) (by simp[results,Tryz.results219,go_sem,hc]) rfl (af ⟨nt,kd,lt,st,sr,j,rfl,dQ.set5 hb au _ _ _ _ _,?_⟩);obtain⟨q1,q2,q0,q3,q4,q5,q6,q7⟩:=bG.out;replace q3:(4:Int)<=kd:=q3;refine⟨HP.out.trans q1,q2,by rw[q0];unfold ir;rw[K1.out];rfl,by show kd≠1;omega,?_,?_,?_,(Plain.one (kw (by have:=K1.out;omega))).cat q6,ai ⟨K1.out,q7⟩⟩
   ·have:=K1.out;show kd=3↔_;omega
   ·have:=K1.out;simp only[sl,this,true_and];rw[q5];split<;>omega
   ·have:=K1.out;omega
  ·have dQ:=ha.trans dB;obtain⟨hc,hz⟩:=dB.cells w.heap.size (by simp[World.setCell]) (by omega);go_wp2_with fail;refine bodyPost_ret (v:=.tuple #[.agg #[.bool nt,.int .i64 kd,.int .u8 lt,.int .i64 st,.int .i64 sr],.bool false]) (by simp[results,Tryz.results219,go_sem,hc]) rfl (ai ⟨nt,kd,lt,st,sr,j,rfl,dQ.set5 hb au _ _ _ _ _,HP.out.bad bG.out⟩)
 ·have g3:((bt s i:Int)==58)=false:=by simp;omega
  have HB:=ae (Lm HL.out k1 k2 k3);clear k1 k2 k3;go_wp2_with fail;refine bodyPost_ret (v:=.tuple #[.agg #[.bool false,.int .i64 0,.int .u8 0,.int .i64 0,.int .i64 0],.bool false]) (by simp[results,Tryz.results219,go_sem]) rfl (ai ⟨false,0,0,0,0,i,rfl,(((h.at0.alloc _).drewN _).set5 hb au _ _ _ _ _),HB.out⟩)
theorem xv (h:bt s i=33)(hi:i<s.size):Sim s 3 i 8 (i+1):=
 eI hi (by simp[bY,i7,h]) (by decide) (λk=>by simp[cnt,i6,h])
theorem SH (hA:oB (bt s i)=true)(h:bt s i≠33):Sim s 3 i 8 i/\gw (bt s i)=false:=by
 simp only[oB,bF] at hA;have hl:gw (bt s i)=false:=by simp only[gw,gU];omega
 have hs:i6 (bt s i)=false:=by simp only[i6,gU];omega
 have h1:¬bt s i=44:=by omega
 have h2:¬bt s i=123:=by omega
 exact⟨nl (by decide) (by decide) (by simp[bY,i7,hl,hs,h,h1,h2]) (λk=>by simp[cnt,hs,h1]),hl⟩
theorem O1 (h:gw (bt s i)=true/\i<s.size):Sim s 8 i 3 (i+1):=eI h.2 (by simp[bY,h.1]) (by decide) (λk=>by simp[cnt])
theorem Pq (w:World)(b:Nat)(s:ByteArray)(i:Nat)(m:Int)(h:Rd w b s i m)(hA:oB (bt s i)=true):
  Calls prog 213 #[.pointer (some ⟨b,0,none⟩)] w λe w'=>vN 3 w b s i m jI e w':=by
 have hb:=h.lt;have HA:=ae hA;clear hA;go_enter func213,ntmps213;go_wp2_with fail;refine(jc _ b s i m 33 (by exact h.alloc _) (by decide)).mono ?_;rintro e w1 (⟨rfl,ha,hf⟩ | ⟨rfl,ha,hf⟩)
 ·have gK:=ha.size;simp only[World.size_alloc] at gK;go_wp2_with fail;refine(qE _ b s (i+1) m (by exact ha.rd)).mono ?_;rintro e w2 (⟨rfl,dB,bG⟩ | ⟨rfl,dB,bG⟩)
  ·have dQ:=ha.trans dB;obtain⟨hc,hz⟩:=dQ.cells w.heap.size (by simp) (by omega);go_wp2_with fail;refine bodyPost_ret (v:=.tuple #[.agg #[.bool true,.int .i64 1,.int .u8 (bt s (i+1)),.int .i64 0,.int .i64 0],.bool true]) (by simp[results,Tryz.results213,go_sem,hc]) rfl (af ⟨true,1,_,0,0,i+2,rfl,dQ.ofAlloc.set5 hb au _ _ _ _ _,?_⟩);have hq:bt s i=33:=by have:=hf.out.1;omega
   refine⟨(xv hq hf.out.2).trans (O1 bG.out),bG.out.2,?_⟩;exact⟨by unfold mu;rw[aq hq,aq bG.out.1],by rw[aq hq,aq bG.out.1];exact⟨rfl,rfl⟩⟩
  ·have dQ:=ha.trans dB;have nE:=dQ.size;simp only[World.size_alloc] at nE;go_wp2_with fail;refine(pD _ b s (i+1) m (by exact dB.rd) bG.out).mono ?_;have hq:bt s i=33:=by have:=hf.out.1;omega
   have HQ:=ae hq;clear hq;rintro e w3 (⟨nt,kd,lt,st,sr,j,rfl,jE,jn⟩ | ⟨nt,kd,lt,st,sr,j,rfl,jE,jn⟩)
   ·have oQ:=dQ.trans jE;have Gu:w.heap.size<w3.heap.size:=by have:=oQ.size;simp only[World.size_alloc] at this;omega
    obtain⟨hc,hz⟩:=oQ.cells w.heap.size (by simp) (by omega);go_wp2_with fail;refine bodyPost_ret (v:=.tuple #[.agg #[.bool true,.int .i64 kd,.int .u8 lt,.int .i64 st,.int .i64 sr],.bool true]) (by simp[results,Tryz.results213,go_sem,hc,Gu]) rfl (af ⟨true,kd,lt,st,sr,j,rfl,(oQ.ofAlloc.set5 hb au _ _ _ _ _).alloc _,?_⟩);exact⟨(xv HQ.out hf.out.2).trans jn.out.1,jn.out.2.1,⟨by unfold mu;rw[aq HQ.out,aj (by rw[bG.out];simp),<-jn.out.2.2.1];rfl,by rw[aq HQ.out,aj (by rw[bG.out];simp)];exact Ln jn.out.2.2⟩⟩
   ·have oQ:=dQ.trans jE;have Gu:w.heap.size<w3.heap.size:=by have:=oQ.size;simp only[World.size_alloc] at this;omega
    obtain⟨hc,hz⟩:=oQ.cells w.heap.size (by simp) (by omega);go_wp2_with fail;exact bodyPost_ret (v:=.tuple #[.agg #[.bool true,.int .i64 kd,.int .u8 lt,.int .i64 st,.int .i64 sr],.bool false]) (by simp[results,Tryz.results213,go_sem,hc,Gu]) rfl (ai ⟨true,kd,lt,st,sr,j,rfl,(oQ.ofAlloc.set5 hb au _ _ _ _ _).alloc _,(xv HQ.out hf.out.2).bad jn.out⟩)
 ·have hn:bt s i≠33:=by have:=hf.out;omega
  obtain⟨q1,q2⟩:=SH HA.out hn;have HQ:=bT q1 hn;clear q1 hn;go_wp2_with fail;refine(pD _ b s i m (by exact ha.rd) q2).mono ?_;rintro e w2 (⟨nt,kd,lt,st,sr,j,rfl,dB,bG⟩ | ⟨nt,kd,lt,st,sr,j,rfl,dB,bG⟩)
  ·have dQ:=ha.trans dB;obtain⟨hc,hz⟩:=dQ.cells w.heap.size (by simp) (by omega);go_wp2_with fail;refine bodyPost_ret (v:=.tuple #[.agg #[.bool nt,.int .i64 kd,.int .u8 lt,.int .i64 st,.int .i64 sr],.bool true]) (by simp[results,Tryz.results213,go_sem,hc]) rfl (af ⟨nt,kd,lt,st,sr,j,rfl,dQ.ofAlloc.set5 hb au _ _ _ _ _,?_⟩);exact⟨HQ.out.1.trans bG.out.1,bG.out.2.1,⟨by unfold mu;rw[aj HQ.out.2];exact bG.out.2.2.1,by rw[aj HQ.out.2];exact bG.out.2.2⟩⟩
  ·have dQ:=ha.trans dB;obtain⟨hc,hz⟩:=dQ.cells w.heap.size (by simp) (by omega);go_wp2_with fail;refine bodyPost_ret (v:=.tuple #[.agg #[.bool nt,.int .i64 kd,.int .u8 lt,.int .i64 st,.int .i64 sr],.bool false]) (by simp[results,Tryz.results213,go_sem,hc]) rfl (ai ⟨nt,kd,lt,st,sr,j,rfl,dQ.ofAlloc.set5 hb au _ _ _ _ _,HQ.out.1.bad bG.out⟩)
end
section
variable {b an i j n size:Nat}{e:TypeId}{kd:PPt}{ks:List PPt}{m:Int}{s:ByteArray}{v:Value}{w:World}{xs:List Value}
theorem Tryz.info192:(Tryz.prog.info? 192).map (λi=>(i.zero,i.size,i.bytes))=some (some (.agg #[.bool false,.int .i64 0,.int .u8 0,.int .i64 0,.int .i64 0]),5,40):=by kernel_rfl
def Kinds:List Value->List PPt->Prop
 | xs,[]=>xs=[]
 | xs,p :: ks=>∃ys,xs=.bool p.nt :: .int .i64 p.kd :: .int .u8 p.lt :: .int .i64 p.st :: .int .i64 p.sr :: ys/\Kinds ys ks
theorem Kinds.snoc (h:Kinds xs ks)(nt:Bool)(kd lt st sr:Int):Kinds (xs++[.bool nt,.int .i64 kd,.int .u8 lt,.int .i64 st,.int .i64 sr]) (ks++[⟨nt,kd,lt,st,sr⟩]):=by
 induction ks generalizing xs with
 | nil=>simp only[Kinds] at h;subst h;exact⟨[],rfl,rfl⟩
 | cons k ks ih=>
  obtain⟨ys,rfl,hy⟩:=h;exact⟨_,rfl,ih hy⟩
def PartsAt (s:ByteArray):Nat->Nat->List PPt->Prop
 | i,j,[]=>i=j
 | i,j,kd :: ks=>oB (bt s i)=true/\∃l,jI s i kd l/\PartsAt s l j ks
theorem PartsAt.snoc {l:Nat}(h:PartsAt s i j ks)(ha:oB (bt s j)=true)(hg:jI s j kd l):PartsAt s i l (ks++[kd]):=by
 induction ks generalizing i with
 | nil=>simp only[PartsAt] at h;subst h;exact⟨ha,l,hg,rfl⟩
 | cons k ks ih=>
  obtain⟨h1,l',h2,h3⟩:=h;exact⟨h1,l',h2,ih h3⟩
theorem kP (h0:jI s i kd j):i<j:=by
 have h:=h0.2;have h1:∀n,2<=sl s n:=by intro n;unfold sl;split<;>omega
 unfold ig at h;have:=h1 i;have:=h1 (i+1);split at h
 ·split at h<;>omega
 ·omega
structure CL (w:World)(b:Nat)(s:ByteArray)(i:Nat)(m:Int)(gk:Nat)(v:Value)(wr:World)(j:Nat)(ks:List PPt)(xs:List Value):Prop where
 at':At w wr b s j m
 own:wr.ownsRow w.heap.size 192 5 v ks.length xs
 kinds:Kinds xs ks
 sim:Sim s 3 i 3 j
 le:i<=j
 few:ks.length<=j - i
 parts:PartsAt s i j ks
 gk:s.size - j<=gk
def Jv (w:World)(b:Nat)(s:ByteArray)(i:Nat)(m:Int)(e:Ending)(w':World):Prop:=
 (∃(a:Option Addr) (c:Nat) (ks:List PPt) (xs:List Value) (j:Nat),e=.returned (.tuple #[.slice a ks.length c,.bool true])/\At w w' b s j m/\w'.ownsRow w.heap.size 192 5 (.slice a ks.length c) ks.length xs/\
  Hid (Kinds xs ks/\Sim s 3 i 3 j/\i<=j/\oB (bt s j)=false/\PartsAt s i j ks))∨
 (∃j,e=.returned (.tuple #[.slice none 0 0,.bool false])/\At w w' b s j m/\Hid (vj s 3 i j/\oB (bt s i)=true))
theorem aA (h:w.ownsRow an e size v n xs):∃a c,v=.slice a n c:=by
 rcases h.2 with⟨rfl,rfl⟩ | ⟨g,gV,fV,rfl,_⟩
 ·exact⟨none,0,rfl⟩
 ·exact⟨_,_,rfl⟩
theorem At.owns {w1:World}(h:At w w1 b s j m)(ho:w.ownsRow an e size v n xs)(hb:b<an):w1.ownsRow an e size v n xs:=by
 refine ho.kept h.gb ?_;cases hv:v.ownBlock with
 | none=>exact af rfl
 | some g=>right;intro e;injection e with e;have:=(ho.lt g hv).1;omega
theorem aW (w:World)(B:Nat)(hB:B=w.heap.size)(cs:Array Value)(t:TypeId)(l:List Value)(hl:cs.toList=l):
  ∀j u,l[j]?=some u->(w.alloc (.cells cs t)).cell? ((⟨B,0,none⟩:Addr).add j)=some u:=by
 intro j u hu;subst hB hl;have acS:(⟨w.heap.size,0,none⟩:Addr).add j=⟨w.heap.size,j,none⟩:=by unfold Addr.add;split<;>simp_all
 rw[acS,cell_of_row _ _ _ cs t (0,0) (heap_alloc_new w _)];simpa using hu
theorem ad1 (a:Bool)(b c d e:Int):∀u∈[Value.bool a,Value.int .i64 b,Value.int .u8 c,Value.int .i64 d,Value.int .i64 e],u.oneCell'=true:=by
 intro u hu;simp only[List.mem_cons,List.not_mem_nil,or_false] at hu;rcases hu with rfl | rfl | rfl | rfl | rfl<;>rfl
theorem At.app {w2 w3:World}(h:At w w2 b s j m)(hb:b<w.heap.size)
  (ho:w2.ownsRow w.heap.size e size v n xs) (hg:w2.grownBy w3 v.ownBlock):At w w3 b s j m:=by
 have fY:∀k,k<w.heap.size->some k≠v.ownBlock:=by
  intro k hk e;have:=(ho.lt k e.symm).1;omega
 refine⟨⟨(hg.block b h.rd.lt (fY b hb)).trans h.rd.blk,h.rd.le,h.rd.top,h.rd.lo,h.rd.hi⟩,?_⟩
 exact⟨hg.os.trans h.gb.os,hg.tape.trans h.gb.tape,hg.output.trans h.gb.output,Nat.le_trans h.gb.size hg.size,
  λk hk hn=>(hg.block k (Nat.lt_of_lt_of_le hk h.gb.size) (fY k hk)).trans (h.gb.block k hk hn)⟩
theorem D8 (h:PartsAt s i j ks)(hA:oB (bt s j)=true):oB (bt s i)=true:=by
 cases ks with
 | nil=>simp only[PartsAt] at h;subst h;exact hA
 | cons k ks=>exact h.1
theorem tG (w:World)(b:Nat)(s:ByteArray)(i:Nat)(m:Int)(h:Rd w b s i m):
  Calls prog 206 #[.pointer (some ⟨b,0,none⟩)] w λe w'=>Jv w b s i m e w':=by
 have hb:=h.lt;have wV:=h.top;obtain⟨i0,hi,Ud,gK,nE⟩:=info_parts Tryz.info192;go_enter func206,ntmps206;go_wp2_with fail
 go_loopg [4] (s.size - i) (λgk v wr=>∃j ks xs,CL w b s i m gk v wr j ks xs)
 case atStart=>exact⟨i,[],[],h.at0,er,rfl,λ_=>rfl,au,by simp,rfl,au⟩
 case round=>
  obtain⟨j,ks,xs,R⟩:=hrel;have qw:=R.at'.rd.le;go_wp2_with fail;refine(yX _ b s j m (by exact R.at'.rd)).mono ?_;rintro e w1 ⟨rfl,ha⟩
  by_cases hA:oB (bt s j)=true
  ·have HA:=ae hA;rw[hA];clear hA;go_wp2_with fail;refine(Pq _ b s j m (by exact ha.rd) HA.out).mono ?_;rintro e w2 (⟨nt,kd,lt,st,sr,l,rfl,dB,bG⟩ | ⟨nt,kd,lt,st,sr,l,rfl,dB,bG⟩)
   ·have di:=(ha.trans dB).owns R.own (by omega);have yR:=((R.at'.trans ha).trans dB).size;have bX:=R.few;go_wp2_with (at_builtin;refine wpList_append_own _ rfl (.tmp 16) (.tmp 18) 188 rfl w.heap.size 192 i0 (.agg #[.bool false,.int .i64 0,.int .u8 0,.int .i64 0,.int .i64 0]) 5 40 underlying188 hi Ud gK nE rfl (by decide) _ _ _ rfl ((di.alloc _).alloc _) ⟨w2.heap.size+1,0,none⟩ 1 1 [.bool nt,.int .i64 kd,.int .u8 lt,.int .i64 st,.int .i64 sr] rfl rfl ?c1 ?c2 ?c3 ?c4 ?c5 ?_)
    case c1=>exact aW (w2.alloc _) _ (by simp) _ _ _ rfl
    case c2=>exact ad1 _ _ _ _ _
    case c3=>unfold maxLen;omega
    case c4=>omega
    case c5=>simp;omega
    ·intro v' w3 bU fk _
     have R3:CL w b s i m (s.size - l) v' w3 l (ks++[⟨nt,kd,lt,st,sr⟩]) (xs++[.bool nt,.int .i64 kd,.int .u8 lt,.int .i64 st,.int .i64 sr]):=by
      obtain⟨q1,q2,q3⟩:=bG.out;have:=kP q3;exact⟨((((R.at'.trans ha).trans dB).alloc _).alloc _).app hb ((di.alloc _).alloc _) fk,by simpa using bU,R.kinds.snoc _ _ _ _ _,R.sim.trans q1,by have:=R.le;omega,by have:=R.few;have:=R.le;simp;omega,R.parts.snoc HA.out q3,au⟩
     have fS:=R.gk;have Fh:=kP bG.out.2.2;have BF:=bG.out.2.1;clear bU fk di R;go_wp2;go_roundg (s.size - l)
     case measure=>omega
     case rel=>exact⟨l,_,_,R3⟩
   ·go_wp2_with fail;go_ret2;exact ai ⟨l,rfl,((R.at'.trans ha).trans dB).alloc _,R.sim.bad bG.out,D8 R.parts HA.out⟩
  ·have hAf:oB (bt s j)=false:=by simpa using hA
   rw[hAf];have HA:=ae hAf;clear hA hAf;obtain⟨a,c,hv⟩:=aA R.own;have R2:=R;rw[hv] at R2;rw[hv];go_wp2;go_ret2;exact af ⟨a,c,ks,xs,j,rfl,R2.at'.trans ha,ha.owns R2.own hb,R2.kinds,R2.sim,R2.le,HA.out,R2.parts⟩
end
section
variable {B b an i j n size:Nat}{e:TypeId}{ks:List PPt}{m:Int}{s:ByteArray}{v:Value}{w w1:World}{xs:List Value}
def fl (s:ByteArray)(i j:Nat)(ty:Nat)(ks:List PPt):Prop:=
 (gw (bt s i)=true/\ty=bt s i/\PartsAt s (i+1) j ks)∨(gw (bt s i)=false/\bt s i=42/\ty=0/\PartsAt s (i+1) j ks)∨
 (gw (bt s i)=false/\bt s i≠42/\ty=0/\PartsAt s i j ks/\ks≠[])
def Cw (w:World)(b:Nat)(s:ByteArray)(i:Nat)(m:Int)(e:Ending)(w':World):Prop:=
 (∃(ty:Nat) (a:Option Addr) (c:Nat) (ks:List PPt) (xs:List Value) (j:Nat),e=.returned (.tuple #[.agg #[.int .u8 0,.int .u8 ty,.slice a ks.length c],.bool true])/\At w w' b s j m/\w'.ownsRow w.heap.size 192 5 (.slice a ks.length c) ks.length xs/\
  Hid (Kinds xs ks/\Sim s 2 i 3 j/\i<j/\oB (bt s j)=false/\fl s i j ty ks))∨
 (∃j,e=.returned (.tuple #[.agg #[.int .u8 0,.int .u8 0,.slice none 0 0],.bool false])/\At w w' b s j m/\Hid (vj s 2 i j))
theorem aP {iZ:Nat}(h:w.ownsRow an e size v n xs)(hb:iZ<=an):w.ownsRow iZ e size v n xs:=by
 refine⟨h.1,?_⟩;rcases h.2 with hn | ⟨g,gV,fV,hv,hg,rest⟩
 ·exact af hn
 ·exact ai ⟨g,gV,fV,hv,by omega,rest⟩
theorem At.set3 (h:At w w1 b s j m)(hb:b<w.heap.size)(hB:w.heap.size<=B)(v0 v1 v2:Value):
  At w (((w1.setCell ⟨B,0,none⟩ v0).setCell ⟨B,1,none⟩ v1).setCell ⟨B,2,none⟩ v2) b s j m:=
 ((h.setNew hb hB _).setNew hb hB _).setNew hb hB _
theorem xo (h:w.ownsRow an e size v n xs)(hB:B<an)(v0 v1 v2:Value):
  (((w.setCell ⟨B,0,none⟩ v0).setCell ⟨B,1,none⟩ v1).setCell ⟨B,2,none⟩ v2).ownsRow an e size v n xs:=
 ownsRow_setCell_below (ownsRow_setCell_below (ownsRow_setCell_below h (by exact hB) _) (by exact hB) _) (by exact hB) _
theorem pG (h:gw (bt s i)=true∨bt s i=42)(hi:i<s.size):Sim s 2 i 3 (i+1):=
 eI hi (by simp[bY,jR,h]) (by decide) (λk=>by simp[cnt])
theorem zA (hl:gw (bt s i)=false)(sK:bt s i≠42)(hA:oB (bt s i)=true):Sim s 2 i 3 i:=by
 simp only[oB,bF] at hA;have hs:i6 (bt s i)=false:=by simp only[i6,gU];omega
 have h1:¬bt s i=44:=by omega
 have h2:¬bt s i=123:=by omega
 exact nl (by decide) (by decide) (by simp[bY,jR,i7,hl,hs,sK,h1,h2]) (λk=>by simp[cnt,hs,h1])
theorem RR (hl:gw (bt s i)=false)(sK:bt s i≠42)(hA:oB (bt s i)=false):vj s 2 i i:=by
 simp only[oB,gU] at hA;have h1:¬bt s i=33:=by omega
 have h2:¬bt s i=46:=by omega
 have h3:¬bt s i=35:=by omega
 have h4:¬bt s i=58:=by omega
 exact jV (by decide) (by simp[bY,jR,jx,hl,sK,h1,h2,h3,h4])
theorem pe (h:PartsAt s i j ks):i<=j/\(ks≠[]->i<j):=by
 induction ks generalizing i with
 | nil=>simp only[PartsAt] at h;exact⟨by omega,λe=>absurd rfl e⟩
 | cons k ks ih=>
  obtain⟨_,l,h2,h3⟩:=h;have:=kP h2;have:=(ih h3).1;exact⟨by omega,λ_=>by omega⟩
theorem qu {w2:World}{i':Nat}{ty:Nat}{a:Option Addr}{c:Nat}
  (hb:b<w.heap.size) (gK:w.heap.size<w1.heap.size) (ha:At w w1 b s i' m) (dB:At w1 w2 b s j m) (ho:w2.ownsRow w1.heap.size 192 5 (.slice a ks.length c) ks.length xs)
  (hf:Kinds xs ks/\Sim s 2 i 3 j/\i<j/\oB (bt s j)=false/\fl s i j ty ks) :
  Cw w b s i m (.returned (.tuple #[.agg #[.int .u8 0,.int .u8 ty,.slice a ks.length c],.bool true])) (((w2.setCell ⟨w.heap.size,0,none⟩ (.int .u8 0)).setCell ⟨w.heap.size,1,none⟩ (.int .u8 ty)).setCell ⟨w.heap.size,2,none⟩ (.slice a ks.length c)):=
 af ⟨ty,a,c,ks,xs,j,rfl,(ha.trans dB).set3 hb au _ _ _,aP (xo ho gK _ _ _) (by omega),hf⟩
theorem ry (w:World)(b:Nat)(s:ByteArray)(i:Nat)(m:Int)(h:Rd w b s i m):
  Calls prog 192 #[.pointer (some ⟨b,0,none⟩)] w λe w'=>Cw w b s i m e w':=by
 have hb:=h.lt;go_enter func192,ntmps192;go_wp2_with fail;refine(qE _ b s i m (by exact h.alloc _)).mono ?_;rintro e w1 (⟨rfl,ha,hf⟩ | ⟨rfl,ha,hf⟩)
 ·have gK:w.heap.size<w1.heap.size:=by have:=ha.size;simp only[World.size_alloc] at this;omega
  go_wp2_with fail;refine(tG _ b s (i+1) m (by exact ha.rd)).mono ?_;rintro e w2 (⟨a,c,ks,xs,j,rfl,dB,ho,bG⟩ | ⟨j,rfl,dB,bG⟩)
  ·have dQ:=ha.trans dB;obtain⟨hc,hz⟩:=dQ.cells w.heap.size (by simp) (by omega);go_wp2_with fail;refine bodyPost_ret (v:=.tuple #[.agg #[.int .u8 0,.int .u8 (bt s i),.slice a ks.length c],.bool true]) (by simp[results,Tryz.results192,go_sem,hc]) rfl (qu hb gK ha.ofAlloc dB ho ?_);obtain⟨q1,q2,q3,q4,q5⟩:=bG.out;exact⟨q1,(pG (af hf.out.1) hf.out.2).trans q2,by omega,q4,af ⟨hf.out.1,rfl,q5⟩⟩
  ·have dQ:=ha.trans dB;obtain⟨hc,hz⟩:=dQ.cells w.heap.size (by simp) (by omega);go_wp2_with fail;exact bodyPost_ret (v:=.tuple #[.agg #[.int .u8 0,.int .u8 0,.slice none 0 0],.bool false]) (by simp[results,Tryz.results192,go_sem,hc]) rfl (ai ⟨j,rfl,dQ.ofAlloc.set3 hb au _ _ _,(pG (af hf.out.1) hf.out.2).bad bG.out.1⟩)
 ·have gK:w.heap.size<w1.heap.size:=by have:=ha.size;simp only[World.size_alloc] at this;omega
  go_wp2_with fail;refine(jc _ b s i m 42 (by exact ha.rd) (by decide)).mono ?_;rintro e w2 (⟨rfl,dB,bG⟩ | ⟨rfl,dB,bG⟩)
  ·have dQ:=ha.trans dB;have nE:w.heap.size<w2.heap.size:=by have:=dQ.size;simp only[World.size_alloc] at this;omega
   go_wp2_with fail;refine(tG _ b s (i+1) m (by exact dQ.rd)).mono ?_;have sK:bt s i=42:=by have:=bG.out.1;omega
   have Qo:=ae sK;clear sK;rintro e w3 (⟨a,c,ks,xs,j,rfl,jE,ho,jn⟩ | ⟨j,rfl,jE,jn⟩)
   ·have oQ:=dQ.trans jE;obtain⟨hc,hz⟩:=oQ.cells w.heap.size (by simp) (by omega);go_wp2_with fail;refine bodyPost_ret (v:=.tuple #[.agg #[.int .u8 0,.int .u8 0,.slice a ks.length c],.bool true]) (by simp[results,Tryz.results192,go_sem,hc]) rfl (qu (ty:=0) hb nE dQ.ofAlloc jE ho ?_);obtain⟨q1,q2,q3,q4,q5⟩:=jn.out;exact⟨q1,(pG (ai Qo.out) bG.out.2).trans q2,by omega,q4,ai (af ⟨hf.out,Qo.out,rfl,q5⟩)⟩
   ·have oQ:=dQ.trans jE;obtain⟨hc,hz⟩:=oQ.cells w.heap.size (by simp) (by omega);go_wp2_with fail;exact bodyPost_ret (v:=.tuple #[.agg #[.int .u8 0,.int .u8 0,.slice none 0 0],.bool false]) (by simp[results,Tryz.results192,go_sem,hc]) rfl (ai ⟨j,rfl,oQ.ofAlloc.set3 hb au _ _ _,(pG (ai Qo.out) bG.out.2).bad jn.out.1⟩)
  ·have dQ:=ha.trans dB;have nE:w.heap.size<w2.heap.size:=by have:=dQ.size;simp only[World.size_alloc] at this;omega
   go_wp2_with fail;refine(tG _ b s i m (by exact dQ.rd)).mono ?_;have sK:bt s i≠42:=by have:=bG.out;omega
   have Qo:=ae sK;clear sK;rintro e w3 (⟨a,c,ks,xs,j,rfl,jE,ho,jn⟩ | ⟨j,rfl,jE,jn⟩)
   ·have oQ:=dQ.trans jE;obtain⟨hc,hz⟩:=oQ.cells w.heap.size (by simp) (by omega);cases ks with
    | nil=>
     go_wp2_with fail;refine bodyPost_ret (v:=.tuple #[.agg #[.int .u8 0,.int .u8 0,.slice none 0 0],.bool false]) (by simp[results,Tryz.results192,go_sem,hc]) rfl (ai ⟨j,rfl,oQ.ofAlloc.set3 hb au _ _ _,?_⟩);obtain⟨q1,q2,q3,q4,q5⟩:=jn.out;simp only[PartsAt] at q5;subst q5;exact RR hf.out Qo.out q4
    | cons k ks=>
     have hk:((((k :: ks).length:Nat):Int)==0)=false:=by simp;omega
     simp only[List.length_cons] at hk;go_wp2_with fail;refine bodyPost_ret (v:=.tuple #[.agg #[.int .u8 0,.int .u8 0,.slice a (k :: ks).length c],.bool true]) (by simp[results,Tryz.results192,go_sem,hc]) rfl (qu (ty:=0) hb nE dQ.ofAlloc jE ho ?_);obtain⟨q1,q2,q3,q4,q5⟩:=jn.out;exact⟨q1,(zA hf.out Qo.out q5.1).trans q2,(pe q5).2 (by simp),q4,ai (ai ⟨hf.out,Qo.out,rfl,q5,by simp⟩)⟩
   ·have oQ:=dQ.trans jE;obtain⟨hc,hz⟩:=oQ.cells w.heap.size (by simp) (by omega);go_wp2_with fail;exact bodyPost_ret (v:=.tuple #[.agg #[.int .u8 0,.int .u8 0,.slice none 0 0],.bool false]) (by simp[results,Tryz.results192,go_sem,hc]) rfl (ai ⟨j,rfl,oQ.ofAlloc.set3 hb au _ _ _,(zA hf.out Qo.out jn.out.2).bad jn.out.1⟩)
end
end Go.Proofs.YtblfffbmklkhmaaGreat
