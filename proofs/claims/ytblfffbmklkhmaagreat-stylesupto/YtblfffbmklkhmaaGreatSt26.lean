import Derived.Test.YtblfffbmklkhmaaGreatSt25
import Derived.Test.YtblfffbmklkhmaaGreatSt23
import Derived.Test.YtblfffbmklkhmaaGreatSt10
namespace Go.Proofs.YtblfffbmklkhmaaGreat
open Go.RowKit
def gj (l:List Nat) (n:Int):Nat→Nat
 | 0=>0
 | i+1=>if (l[i]?.map fun k:Nat=>(k:Int))=some n then i+1 else gj l n i
theorem xo (l:List Nat) (n:Int):∀ i,gj l n i≤i
 | 0=>Nat.le_refl _
 | i+1=>by
  unfold gj
  split
  ·exact Nat.le_refl _
  ·exact Nat.le_succ_of_le (xo l n i)
def bV (els:List REl) (n:Int):Nat × Nat:=if aJ els n<0 then (1,1) else match aZ els (aJ els n) with | some p=>(gj p.kids n p.kids.length,p.kids.length) | none=>(0,0)
theorem yz {w:World} {d:Nat} {els:List REl} {made:Nat} {hp:Option Addr} {vT:Value} {aR:Bool} {vL:Value} (h:RD w d els made hp vT aR vL) (n:Int):(bV els n).1≤24∧(bV els n).2≤24:=by
 unfold bV
 split
 ·exact ⟨by decide,by decide⟩
 ·cases hf:aZ els (aJ els n) with
  | none=>exact ⟨Nat.zero_le _,Nat.zero_le _⟩
  | some p=>
   have h1:=h.kfew p (cg hf).1
   have h2:=xo p.kids n p.kids.length
   exact ⟨by show gj _ _ _≤24;omega,h1⟩
set_option maxRecDepth 100000 in
set_option maxHeartbeats 2000000 in
theorem sZ (w:World) (d:Nat) (els:List REl) (made:Nat) (hp:Option Addr) (vT:Value) (aR:Bool) (vL:Value) (n:Int) (h:RD w d els made hp vT aR vL) :
  Calls Tryz.prog 211 #[.pointer (some ⟨d,0,none⟩),.int .i64 n] w fun e w'=>e=.returned (.tuple #[.int .i64 (bV els n).1,.int .i64 (bV els n).2])∧w'=w:=by
 have HR:Hid (RD w d els made hp vT aR vL):=h
 clear h
 go_enter Tryz.func211,Tryz.ntmps211
 go_wp2_with fail
 refine (eQ _ d els made hp vT aR _ n HR.out).mono ?_
 rintro e w1 ⟨rfl,rfl⟩
 obtain ⟨w,rfl⟩:∃ w,w=w1:=⟨_,rfl⟩
 by_cases FJ:aJ els n<0
 ·have HE:Hid (bV els n=(1,1)):=by unfold Hid bV;rw [if_pos FJ]
  have gp:decide (aJ els n<0)=true:=by simpa using FJ
  clear FJ
  generalize aJ els n=q at gp ⊢
  go_wp2
  go_ret2
  rw [HE.out]
  exact ⟨rfl,rfl⟩
 ·obtain ⟨p,zK⟩:=tP FJ
  have HE:Hid (bV els n=(gj p.kids n p.kids.length,p.kids.length)):=by unfold Hid bV;rw [if_neg FJ,zK]
  have gp:decide (aJ els n<0)=false:=by simpa using FJ
  have HF:Hid (aZ els (aJ els n)=some p):=zK
  have fp:=(cg zK).1
  have e4:w.cell? ⟨p.blk,4,none⟩=some p.ks:=(ep (HR.out.el p fp)).2
  have pA:=HR.out.kid p fp
  have NG:=HR.out.kfew p fp
  obtain ⟨ak,ck,qj⟩:=au pA
  rw [qj] at e4 pA
  have HK:Hid (w.ownsRow 0 3 1 (.slice ak p.kids.length ck) p.kids.length (aK p.kids)):=pA
  clear FJ zK fp pA qj
  generalize aJ els n=q at gp HF ⊢
  go_wp2_with fail
  refine (eb _ d els made hp vT aR vL q HR.out).mono ?_
  rintro e w1 ⟨rfl,rfl⟩
  obtain ⟨w,rfl⟩:∃ w,w=w1:=⟨_,rfl⟩
  rw [HF.out]
  have he:ey (some p)=.pointer (some ⟨p.blk,0,none⟩):=rfl
  rw [he]
  clear he
  go_wp2_with fail
  go_loop [8,9] (fun av iv=>∃ i:Nat,iv=.int .i64 i∧i≤p.kids.length∧av=.int .i64 (gj p.kids n i)) (fun _ iv=>p.kids.length - (intOf iv).toNat)
  case atStart=>exact ⟨0,rfl,Nat.zero_le _,rfl⟩
  case round=>
   obtain ⟨i,rfl,hi,rfl⟩:=hrel
   by_cases aN:i<p.kids.length
   ·have hd:decide ((i:Int)<(p.kids.length:Int))=true:=by simp;omega
    obtain ⟨g,hg,_,hc⟩:=aH HK.out (by omega)
    subst hg
    have q1:=hc i (.int .i64 ((p.kids[i]:Nat):Int)) (by simp [aN])
    have HL:Hid (gj p.kids n (i+1)=if ((p.kids[i]:Nat):Int)=n then i+1 else gj p.kids n i):=by
     unfold Hid
     show (if _ then _ else _)=_
     rw [List.getElem?_eq_getElem aN]
     simp
    clear hc
    generalize p.kids[i]=k at q1 HL
    by_cases hn:((k:Nat):Int)=n
    ·have gn:((k:Int)==n)=true:=by simp [hn]
     have Vm:Hid (gj p.kids n (i+1)=i+1):=by unfold Hid;rw [HL.out,if_pos hn]
     clear hn HL
     go_wp2
     go_round
     case rel=>exact ⟨i+1,by go_num,by omega,by rw [Vm.out];go_num⟩
     case measure=>simp [intOf];omega
    ·have gn:((k:Int)==n)=false:=by simp [hn]
     have Vm:Hid (gj p.kids n (i+1)=gj p.kids n i):=by unfold Hid;rw [HL.out,if_neg hn]
     clear hn HL
     go_wp2
     go_round
     case rel=>exact ⟨i+1,by go_num,by omega,by rw [Vm.out]⟩
     case measure=>simp [intOf];omega
   ·have hd:decide ((i:Int)<(p.kids.length:Int))=false:=by simp;omega
    obtain rfl:i=p.kids.length:=by omega
    go_wp2
    go_ret2
    rw [HE.out]
    exact ⟨rfl,rfl⟩
noncomputable def cA (els:List REl) (a:Int) (sg:Nat) (b:Int):Bool:=
 if sg=62 then decide (aJ els b=a)
 else if sg=32 then decide (0≤aJ els b)&&fB els a (aJ els b)
 else if aJ els b<0∨aJ els b≠aJ els a then false
 else decide ((bV els a).1+1=(bV els b).1)||(decide (sg=126)&&decide ((bV els a).1<(bV els b).1))
set_option maxRecDepth 100000 in
set_option maxHeartbeats 2000000 in
theorem Dz (w:World) (d:Nat) (els:List REl) (made:Nat) (hp:Option Addr) (vT:Value) (aR:Bool) (vL:Value) (a:Int) (sg:Nat) (b:Int) (h:RD w d els made hp vT aR vL) (rk:Nat→Nat) (hr:lM els rk) :
  Calls Tryz.prog 203 #[.pointer (some ⟨d,0,none⟩),.int .i64 a,.int .u8 sg,.int .i64 b] w fun e w'=>e=.returned (.bool (cA els a sg b))∧w'=w:=by
 have HR:Hid (RD w d els made hp vT aR vL):=h
 have HK:Hid (lM els rk):=hr
 have hsa:=(yz h a).1
 have hsb:=(yz h b).1
 clear h hr
 go_enter Tryz.func203,Tryz.ntmps203
 go_wp2_with fail
 refine (eQ _ d els made hp vT aR _ b HR.out).mono ?_
 rintro e w1 ⟨rfl,rfl⟩
 obtain ⟨w,rfl⟩:∃ w,w=w1:=⟨_,rfl⟩
 by_cases h62:sg=62
 ·have HE:Hid (cA els a sg b=(aJ els b==a)):=by unfold Hid cA;rw [if_pos h62];by_cases e:aJ els b=a<;>simp [e]
  have g62:((sg:Int)==62)=true:=by simp [h62]
  clear h62
  generalize aJ els b=q at HE ⊢
  go_wp2
  go_ret
  rw [HE.out]
  exact ⟨rfl,rfl⟩
 have g62:((sg:Int)==62)=false:=by rw [beq_eq_false_iff_ne];omega
 by_cases h32:sg=32
 ·have g32:((sg:Int)==32)=true:=by simp [h32]
  by_cases h0:0≤aJ els b
  ·have HE:Hid (cA els a sg b=fB els a (aJ els b)):=by unfold Hid cA;rw [if_neg h62,if_pos h32];simp [h0]
   have g0:decide (0≤aJ els b)=true:=by simpa using h0
   clear h62 h32 h0
   generalize aJ els b=q at HE g0 ⊢
   go_wp2_with fail
   refine (nQ _ d els made hp vT aR vL a q HR.out rk HK.out).mono ?_
   rintro e w2 ⟨r,rfl,rfl,HU⟩
   obtain ⟨w,rfl⟩:∃ w,w=w2:=⟨_,rfl⟩
   have HB:Hid (fB els a q=r):=by
    unfold Hid
    have h1:=HU.out
    rw [←jV] at h1
    cases r<;>cases hu:fB els a q<;>simp_all
   clear HU
   go_wp2
   go_ret
   rw [HE.out,HB.out]
   exact ⟨by simp,rfl⟩
  ·have HE:Hid (cA els a sg b=false):=by unfold Hid cA;rw [if_neg h62,if_pos h32];simp [h0]
   have g0:decide (0≤aJ els b)=false:=by simpa using h0
   clear h62 h32 h0
   generalize aJ els b=q at g0 ⊢
   go_wp2
   go_ret
   rw [HE.out]
   exact ⟨by simp,rfl⟩
 have g32:((sg:Int)==32)=false:=by rw [beq_eq_false_iff_ne];omega
 go_wp2_with fail
 refine (eQ _ d els made hp vT aR _ a HR.out).mono ?_
 rintro e w1 ⟨rfl,rfl⟩
 obtain ⟨w,rfl⟩:∃ w,w=w1:=⟨_,rfl⟩
 by_cases jE:aJ els b<0∨aJ els b≠aJ els a
 ·have HE:Hid (cA els a sg b=false):=by unfold Hid cA;rw [if_neg h62,if_neg h32,if_pos jE]
  clear h62 h32
  by_cases h0:aJ els b<0
  ·have g0:decide (aJ els b<0)=true:=by simpa using h0
   clear jE h0
   generalize aJ els b=q at g0 ⊢
   generalize aJ els a=q2
   go_wp2
   go_ret
   rw [HE.out]
   exact ⟨rfl,rfl⟩
  ·have g0:decide (aJ els b<0)=false:=by simpa using h0
   have g1:(aJ els b != aJ els a)=true:=by rw [bne_iff_ne];exact jE.resolve_left h0
   clear jE h0
   generalize aJ els b=q at g0 g1 ⊢
   generalize aJ els a=q2 at g1 ⊢
   go_wp2
   go_ret
   rw [HE.out]
   exact ⟨rfl,rfl⟩
 ·have HE:Hid (cA els a sg b=(decide ((bV els a).1+1=(bV els b).1)||(decide (sg=126)&&decide ((bV els a).1<(bV els b).1)))):=by unfold Hid cA;rw [if_neg h62,if_neg h32,if_neg jE]
  have h0:¬ aJ els b<0:=fun h=>jE (Or.inl h)
  have h1:aJ els b=aJ els a:=Classical.byContradiction fun h=>jE (Or.inr h)
  have g0:decide (aJ els b<0)=false:=by simpa using h0
  have g1:(aJ els b != aJ els a)=false:=by simp [h1]
  clear h62 h32 jE h0 h1
  generalize aJ els b=q at g0 g1 ⊢
  generalize aJ els a=q2 at g1 ⊢
  go_wp2_with fail
  refine (sZ _ d els made hp vT aR _ a HR.out).mono ?_
  rintro e w1 ⟨rfl,rfl⟩
  obtain ⟨w,rfl⟩:∃ w,w=w1:=⟨_,rfl⟩
  go_wp2_with fail
  refine (sZ _ d els made hp vT aR _ b HR.out).mono ?_
  rintro e w1 ⟨rfl,rfl⟩
  obtain ⟨w,rfl⟩:∃ w,w=w1:=⟨_,rfl⟩
  generalize (bV els a).1=i at HE hsa ⊢
  generalize (bV els b).1=k at HE hsb ⊢
  generalize (bV els a).2=i2
  generalize (bV els b).2=k2
  by_cases hik:i+1=k
  ·have gik:((i:Int)+1==(k:Int))=true:=by rw [beq_iff_eq];omega
   have JD:Hid (cA els a sg b=true):=by unfold Hid;rw [HE.out,decide_eq_true hik];rfl
   clear hik HE
   go_wp2
   go_ret
   rw [JD.out]
   exact ⟨rfl,rfl⟩
  ·have gik:((i:Int)+1==(k:Int))=false:=by rw [beq_eq_false_iff_ne];omega
   by_cases h126:sg=126
   ·have YR:((sg:Int)==126)=true:=by simp [h126]
    have JD:Hid (cA els a sg b=decide ((i:Int)<(k:Int))):=by unfold Hid;rw [HE.out,decide_eq_false hik,decide_eq_true h126];by_cases e:i<k<;>simp [e]
    clear hik HE h126
    go_wp2
    go_ret
    rw [JD.out]
    exact ⟨by simp,rfl⟩
   ·have YR:((sg:Int)==126)=false:=by rw [beq_eq_false_iff_ne];omega
    have JD:Hid (cA els a sg b=false):=by unfold Hid;rw [HE.out,decide_eq_false hik,decide_eq_false h126];rfl
    clear hik HE h126
    go_wp2
    go_ret
    rw [JD.out]
    exact ⟨by simp,rfl⟩
end Go.Proofs.YtblfffbmklkhmaaGreat
namespace Go.Proofs.YtblfffbmklkhmaaGreat
open Go.RowKit
def fo (s:ByteArray) (i:Nat):Nat:=if bt s i=33 then 1 else 0
def kX (a b k:Nat):Nat:=if a=46∨a=35 then k+2 else if a=58 then (if b=110 then k+4 else k+2) else k+1
def bS (s:ByteArray) (i:Nat):Nat:=kX (bt s (i+fo s i)) (bt s (i+fo s i+1)) (fo s i)
def oU (a:Nat):Nat:=if a=35 then 1000000 else if a=46∨a=58 then 1000 else if a=42 then 0 else 1
def lf (s:ByteArray) (i:Nat):Nat:=oU (bt s (i+fo s i))
def De (s:ByteArray):Nat→Nat→List Nat→Prop
 | i,q,[]=>i=q
 | i,q,x :: xs=>i+bS s i≤q∧x=lf s i∧De s (i+bS s i) q xs
theorem N1 (a b k:Nat):k+1≤kX a b k:=by unfold kX;(repeat' split)<;>omega
theorem sS (s:ByteArray) (i:Nat):fo s i+1≤bS s i:=N1 _ _ _
theorem yN {b k:Nat}:k+2≤kX 58 b k:=by unfold kX;(repeat' split)<;>omega
theorem E2 {s:ByteArray} {i q:Nat} (h:i+bS s i≤q) (hq:q≤s.size):bS (s.extract i q) 0=bS s i∧lf (s.extract i q) 0=lf s i:=by
 have hk:=sS s i
 have e0:bt (s.extract i q) 0=bt s i:=by rw [aV hq (by omega)];rfl
 have eK:fo (s.extract i q) 0=fo s i:=by unfold fo;rw [e0]
 have e1:bt (s.extract i q) (0+fo s i)=bt s (i+fo s i):=by rw [Nat.zero_add,aV hq (by omega)]
 refine ⟨?_,by unfold lf;rw [eK,e1]⟩
 unfold bS at h ⊢
 rw [eK,e1]
 by_cases h58:bt s (i+fo s i)=58
 ·rw [h58] at h ⊢
  have:=@yN (bt s (i+fo s i+1)) (fo s i)
  rw [Nat.zero_add,aV hq (by omega)]
  rfl
 ·unfold kX
  simp only [h58,if_false]
theorem A4 {s:ByteArray} {i j:Nat} {p:PPt} (h':jc s i p j):i+bS s i=j∧lf s i=pw p.kd:=by
 have h:=h'.2
 obtain ⟨nt,kd,lt,st,sr⟩:=p
 by_cases gu:bt s i=33
 ·rw [if_pos gu] at h
  have hk:fo s i=1:=by unfold fo;rw [if_pos gu]
  unfold bS lf
  rw [hk]
  by_cases hl:fl (bt s (i+1))=true
  ·rw [if_pos hl] at h
   obtain ⟨h1,rfl⟩:=h
   replace h1:kd=1:=h1
   subst h1
   simp only [fl,decide_eq_true_eq] at hl
   constructor
   ·unfold kX;rw [if_neg (by omega),if_neg (by omega)]
   ·unfold oU pw;rw [if_neg (by omega),if_neg (by omega),if_neg (by omega)];rfl
  ·rw [if_neg hl] at h
   obtain ⟨_,g1,g2,rfl,g4,_⟩:=h
   replace g1:kd≠1:=g1
   replace g2:kd=3↔_:=g2
   constructor
   ·unfold kX sl
    rcases g4 with g | g | g<;>rw [g]<;>simp<;>(try omega)
    split<;>omega
   ·unfold oU pw
    by_cases g3:kd=3
    ·rw [if_pos (g2.1 g3),if_pos g3]
    ·rw [if_neg (fun e=>g3 (g2.2 e)),if_neg g3,if_neg g1,if_pos (by have:bt s (i+1)≠35:=fun e=>g3 (g2.2 e);omega)]
 ·rw [if_neg gu] at h
  have hk:fo s i=0:=by unfold fo;rw [if_neg gu]
  unfold bS lf
  rw [hk]
  obtain ⟨_,g1,g2,rfl,g4,_⟩:=h
  replace g1:kd≠1:=g1
  replace g2:kd=3↔_:=g2
  constructor
  ·unfold kX sl
   simp only [Nat.add_zero]
   rcases g4 with g | g | g<;>rw [g]<;>simp
  ·unfold oU pw
   simp only [Nat.add_zero]
   by_cases g3:kd=3
   ·rw [if_pos (g2.1 g3),if_pos g3]
   ·rw [if_neg (fun e=>g3 (g2.2 e)),if_neg g3,if_neg g1,if_pos (by have:bt s i≠35:=fun e=>g3 (g2.2 e);omega)]
theorem lU {s:ByteArray}:∀ {ks:List PPt} {i j:Nat},PartsAt s i j ks→De s i j (ks.map Pr)
 | [],_,_,h=>h
 | k :: ks,i,j,⟨_,l,h2,h3⟩=>by
  obtain ⟨e1,e2⟩:=A4 h2
  have:=(nw h3).1
  exact ⟨by omega,e2.symm,by rw [e1];exact lU h3⟩
theorem G9 {s:ByteArray} {p q ty:Nat} {ks:List PPt} (h:eC s p q ty ks) (lC:p<q):∃ xs,De s p q xs∧xs.sum=cw ty ks∧(∀ x∈xs,x≤1000000)∧xs.length≤q - p:=by
 have hp:∀ x∈ks.map Pr,x≤1000000:=fun x hx=>by obtain ⟨k,_,rfl⟩:=List.mem_map.1 hx;exact Li k.kd
 rcases h with ⟨h1,h2,h3⟩ | ⟨h0,h1,h2,h3⟩ | ⟨_,_,h2,h3,_⟩
 ·simp only [fl,decide_eq_true_eq] at h1
  have hk:fo s p=0:=by unfold fo;rw [if_neg (by omega)]
  have hl:=iW h3
  refine ⟨1 :: ks.map Pr,⟨?_,?_,?_⟩,?_,?_,?_⟩
  ·unfold bS;rw [hk];unfold kX;simp only [Nat.add_zero];rw [if_neg (by omega),if_neg (by omega)];omega
  ·unfold lf;rw [hk];unfold oU;simp only [Nat.add_zero];rw [if_neg (by omega),if_neg (by omega),if_neg (by omega)]
  ·rw [show bS s p=1 from by unfold bS;rw [hk];unfold kX;simp only [Nat.add_zero];rw [if_neg (by omega),if_neg (by omega)]]
   exact lU h3
  ·simp only [List.sum_cons,cw,zE];rw [if_neg (by omega)]
  ·intro x hx
   rcases List.mem_cons.1 hx with rfl | hx
   ·omega
   ·exact hp x hx
  ·simp only [List.length_cons,List.length_map];omega
 ·have hk:fo s p=0:=by unfold fo;rw [if_neg (by omega)]
  have hl:=iW h3
  have hn:bS s p=1:=by unfold bS;rw [hk];unfold kX;simp only [Nat.add_zero];rw [if_neg (by omega),if_neg (by omega)]
  refine ⟨0 :: ks.map Pr,⟨by omega,?_,?_⟩,?_,?_,?_⟩
  ·unfold lf;rw [hk];unfold oU;simp only [Nat.add_zero];rw [if_neg (by omega),if_neg (by omega),if_pos h1]
  ·rw [hn];exact lU h3
  ·simp only [List.sum_cons,cw,zE];rw [if_pos h2]
  ·intro x hx
   rcases List.mem_cons.1 hx with rfl | hx
   ·omega
   ·exact hp x hx
  ·simp only [List.length_cons,List.length_map];omega
 ·have hl:=iW h3
  refine ⟨ks.map Pr,lU h3,?_,hp,by simpa using hl⟩
  simp only [cw,zE];rw [if_pos h2];omega
set_option maxRecDepth 100000 in
set_option maxHeartbeats 4000000 in
theorem FH (w:World) (u:ByteArray) (h:bS u 0≤u.size) (hs:u.size≤400) :
  Calls Tryz.prog 135 #[.string u] w fun e w'=>e=.returned (.tuple #[.string (u.extract 0 (bS u 0)),.string (u.extract (bS u 0) u.size)])∧∃ m,w'=w.drewN m:=by
 have j8:=sS u 0
 by_cases gu:bt u 0=33
 ·have hk:fo u 0=1:=by unfold fo;rw [if_pos gu]
  rw [hk] at j8
  have h1s:1<u.size:=by omega
  have UF:0<u.size:=by omega
  have JY:((u[0].toNat:Int)==33)=true:=by rw [←bq u 0 UF,gu];rfl
  have mf:bS u 0=kX (bt u 1) (bt u 2) 1:=by unfold bS;rw [hk]
  by_cases h46:bt u 1=46
  ·have UZ:((u[1].toNat:Int)==46)=true:=by rw [←bq u 1 (by omega),h46];rfl
   have HN:Hid (bS u 0=3):=by unfold Hid;rw [mf,h46];rfl
   have fT:=HN.out
   rw [fT] at h
   clear fT mf j8 hk gu h46
   go_enter Tryz.func135,Tryz.ntmps135
   go_wp2
   go_quiet (fail)
   go_wp2
   go_ret2
   exact ⟨by rw [HN.out];first | rfl | simp,_,rfl⟩
  have UZ:((u[1].toNat:Int)==46)=false:=by rw [←bq u 1 (by omega)];simp;omega
  by_cases h35:bt u 1=35
  ·have Vx:((u[1].toNat:Int)==35)=true:=by rw [←bq u 1 (by omega),h35];rfl
   have HN:Hid (bS u 0=3):=by unfold Hid;rw [mf,h35];rfl
   have fT:=HN.out
   rw [fT] at h
   clear fT mf j8 hk gu h35 h46
   go_enter Tryz.func135,Tryz.ntmps135
   go_wp2
   go_quiet (fail)
   go_wp2
   go_ret2
   exact ⟨by rw [HN.out];first | rfl | simp,_,rfl⟩
  have Vx:((u[1].toNat:Int)==35)=false:=by rw [←bq u 1 (by omega)];simp;omega
  by_cases h58:bt u 1=58
  ·have ST:((u[1].toNat:Int)==58)=true:=by rw [←bq u 1 (by omega),h58];rfl
   rw [h58] at mf
   have NX:=@yN (bt u 2) 1
   have zL:2<u.size:=by omega
   by_cases h110:bt u 2=110
   ·have S9:((u[2].toNat:Int)==110)=true:=by rw [←bq u 2 zL,h110];rfl
    have HN:Hid (bS u 0=5):=by unfold Hid;rw [mf,h110];rfl
    have fT:=HN.out
    rw [fT] at h
    clear fT mf j8 hk gu h46 h35 h58 h110 NX
    go_enter Tryz.func135,Tryz.ntmps135
    go_wp2
    go_quiet (fail)
    go_wp2
    go_ret2
    exact ⟨by rw [HN.out];first | rfl | simp,_,rfl⟩
   ·have S9:((u[2].toNat:Int)==110)=false:=by rw [←bq u 2 zL];simp;omega
    have HN:Hid (bS u 0=3):=by unfold Hid;rw [mf];unfold kX;rw [if_neg (by omega),if_pos rfl,if_neg h110]
    have fT:=HN.out
    rw [fT] at h
    clear fT mf j8 hk gu h46 h35 h58 h110 NX
    go_enter Tryz.func135,Tryz.ntmps135
    go_wp2
    go_quiet (fail)
    go_wp2
    go_ret2
    exact ⟨by rw [HN.out];first | rfl | simp,_,rfl⟩
  have ST:((u[1].toNat:Int)==58)=false:=by rw [←bq u 1 (by omega)];simp;omega
  have HN:Hid (bS u 0=2):=by unfold Hid;rw [mf];unfold kX;rw [if_neg (by omega),if_neg h58]
  have fT:=HN.out
  rw [fT] at h
  clear fT mf j8 hk gu h46 h35 h58
  go_enter Tryz.func135,Tryz.ntmps135
  go_wp2
  go_quiet (fail)
  go_wp2
  go_ret2
  exact ⟨by rw [HN.out];first | rfl | simp,_,rfl⟩
 ·have hk:fo u 0=0:=by unfold fo;rw [if_neg gu]
  rw [hk] at j8
  have UF:0<u.size:=by omega
  have JY:((u[0].toNat:Int)==33)=false:=by rw [←bq u 0 UF];simp;omega
  have mf:bS u 0=kX (bt u 0) (bt u 1) 0:=by unfold bS;rw [hk]
  by_cases h46:bt u 0=46
  ·have UZ:((u[0].toNat:Int)==46)=true:=by rw [←bq u 0 (by omega),h46];rfl
   have HN:Hid (bS u 0=2):=by unfold Hid;rw [mf,h46];rfl
   have fT:=HN.out
   rw [fT] at h
   clear fT mf j8 hk gu h46
   go_enter Tryz.func135,Tryz.ntmps135
   go_wp2
   go_quiet (fail)
   go_wp2
   go_ret2
   exact ⟨by rw [HN.out];first | rfl | simp,_,rfl⟩
  have UZ:((u[0].toNat:Int)==46)=false:=by rw [←bq u 0 (by omega)];simp;omega
  by_cases h35:bt u 0=35
  ·have Vx:((u[0].toNat:Int)==35)=true:=by rw [←bq u 0 (by omega),h35];rfl
   have HN:Hid (bS u 0=2):=by unfold Hid;rw [mf,h35];rfl
   have fT:=HN.out
   rw [fT] at h
   clear fT mf j8 hk gu h35 h46
   go_enter Tryz.func135,Tryz.ntmps135
   go_wp2
   go_quiet (fail)
   go_wp2
   go_ret2
   exact ⟨by rw [HN.out];first | rfl | simp,_,rfl⟩
  have Vx:((u[0].toNat:Int)==35)=false:=by rw [←bq u 0 (by omega)];simp;omega
  by_cases h58:bt u 0=58
  ·have ST:((u[0].toNat:Int)==58)=true:=by rw [←bq u 0 (by omega),h58];rfl
   rw [h58] at mf
   have NX:=@yN (bt u 1) 0
   have zL:1<u.size:=by omega
   by_cases h110:bt u 1=110
   ·have S9:((u[1].toNat:Int)==110)=true:=by rw [←bq u 1 zL,h110];rfl
    have HN:Hid (bS u 0=4):=by unfold Hid;rw [mf,h110];rfl
    have fT:=HN.out
    rw [fT] at h
    clear fT mf j8 hk gu h46 h35 h58 h110 NX
    go_enter Tryz.func135,Tryz.ntmps135
    go_wp2
    go_quiet (fail)
    go_wp2
    go_ret2
    exact ⟨by rw [HN.out];first | rfl | simp,_,rfl⟩
   ·have S9:((u[1].toNat:Int)==110)=false:=by rw [←bq u 1 zL];simp;omega
    have HN:Hid (bS u 0=2):=by unfold Hid;rw [mf];unfold kX;rw [if_neg (by omega),if_pos rfl,if_neg h110]
    have fT:=HN.out
    rw [fT] at h
    clear fT mf j8 hk gu h46 h35 h58 h110 NX
    go_enter Tryz.func135,Tryz.ntmps135
    go_wp2
    go_quiet (fail)
    go_wp2
    go_ret2
    exact ⟨by rw [HN.out];first | rfl | simp,_,rfl⟩
  have ST:((u[0].toNat:Int)==58)=false:=by rw [←bq u 0 (by omega)];simp;omega
  have HN:Hid (bS u 0=1):=by unfold Hid;rw [mf];unfold kX;rw [if_neg (by omega),if_neg h58]
  have fT:=HN.out
  rw [fT] at h
  clear fT mf j8 hk gu h46 h35 h58
  go_enter Tryz.func135,Tryz.ntmps135
  go_wp2
  go_quiet (fail)
  go_wp2
  go_ret2
  exact ⟨by rw [HN.out];first | rfl | simp,_,rfl⟩
end Go.Proofs.YtblfffbmklkhmaaGreat
namespace Go.Proofs.YtblfffbmklkhmaaGreat
open Go.RowKit
theorem rA (c:Nat):((c:Int)==35)=true∧oU c=1000000∨((c:Int)==35)=false∧(((c:Int)==46)=true∧oU c=1000∨((c:Int)==46)=false∧(((c:Int)==58)=true∧oU c=1000∨((c:Int)==58)=false∧(((c:Int)==42)=true∧oU c=0∨((c:Int)==42)=false∧oU c=1))):=by
 by_cases h1:c=35
 ·left;subst h1;exact ⟨rfl,rfl⟩
 right
 refine ⟨by simp;omega,?_⟩
 by_cases h2:c=46
 ·left;subst h2;exact ⟨rfl,rfl⟩
 right
 refine ⟨by simp;omega,?_⟩
 by_cases h3:c=58
 ·left;subst h3;exact ⟨rfl,rfl⟩
 right
 refine ⟨by simp;omega,?_⟩
 by_cases h4:c=42
 ·left;subst h4;exact ⟨rfl,rfl⟩
 right
 exact ⟨by simp;omega,by unfold oU;rw [if_neg h1,if_neg (by omega),if_neg h4]⟩
set_option maxRecDepth 100000 in
set_option maxHeartbeats 4000000 in
theorem CX (w:World) (t:ByteArray) (h1:fo t 0<t.size) (hs:t.size≤400) :
  Calls Tryz.prog 136 #[.string t] w fun e w'=>e=.returned (.int .i64 (lf t 0))∧w'=w:=by
 by_cases gu:bt t 0=33
 ·have hk:fo t 0=1:=by unfold fo;rw [if_pos gu]
  rw [hk] at h1
  have UF:0<t.size:=by omega
  have JY:((t[0].toNat:Int)==33)=true:=by rw [←bq t 0 UF,gu];rfl
  have HV:Hid (lf t 0=oU (bt (t.extract 1 t.size) 0)):=by
   unfold Hid lf
   rw [hk,aV (Nat.le_refl _) (by omega)]
  have hvs:0<(t.extract 1 t.size).size:=by rw [ByteArray.size_extract];omega
  have hvl:(t.extract 1 t.size).size≤400:=by rw [ByteArray.size_extract];omega
  clear hk gu
  obtain ⟨v,hv⟩:∃ v,v=t.extract 1 t.size:=⟨_,rfl⟩
  rw [←hv] at HV hvs hvl
  have HVE:Hid (v=t.extract 1 t.size):=hv
  clear hv
  have he:(v[0].toNat:Int)=(bt v 0:Int):=by rw [bq v 0 hvs]
  have HE:Hid ((v[0].toNat:Int)=(bt v 0:Int)):=he
  rw [HV.out]
  go_enter Tryz.func136,Tryz.ntmps136
  go_upto_region 3 with fail
  rw [←HVE.out]
  rcases rA (bt v 0) with ⟨a,b⟩ | ⟨a,⟨a2,b⟩ | ⟨a2,⟨a3,b⟩ | ⟨a3,⟨a4,b⟩ | ⟨a4,b⟩⟩⟩⟩
  all_goals
   have HB:Hid _:=b
   clear b
   simp only [←he] at *
   go_wp2
   go_ret
   rw [HB.out]
   exact ⟨rfl,rfl⟩
 ·have hk:fo t 0=0:=by unfold fo;rw [if_neg gu]
  rw [hk] at h1
  have JY:((t[0].toNat:Int)==33)=false:=by rw [←bq t 0 h1];simp;omega
  have HV:Hid (lf t 0=oU (bt t 0)):=by unfold Hid lf;rw [hk]
  have he:(bt t 0:Int)=(t[0].toNat:Int):=by rw [bq t 0 h1]
  rw [HV.out]
  have hw:=rA (bt t 0)
  rw [he] at hw
  clear hk gu he HV
  rcases hw with ⟨a,b⟩ | ⟨a,⟨a2,b⟩ | ⟨a2,⟨a3,b⟩ | ⟨a3,⟨a4,b⟩ | ⟨a4,b⟩⟩⟩⟩
  all_goals
   rw [b]
   clear b
   go_enter Tryz.func136,Tryz.ntmps136
   go_wp2
   go_ret
   exact ⟨rfl,rfl⟩
theorem mH {s:ByteArray} {i n q:Nat} (hq:q≤s.size):(s.extract i q).extract n (s.extract i q).size=s.extract (i+n) q:=by
 apply ByteArray.ext
 rw [ByteArray.size_extract]
 simp only [ByteArray.data_extract,Array.extract_extract]
 congr 1
 omega
theorem NJ {s:ByteArray}:∀ {xs:List Nat} {i q:Nat},De s i q xs→i≤q
 | [],_,_,h=>by simp only [De] at h;omega
 | _ :: _,_,_,⟨h,_,_⟩=>by omega
end Go.Proofs.YtblfffbmklkhmaaGreat
namespace Go.Proofs.YtblfffbmklkhmaaGreat
open Go.RowKit
theorem Ot (v:ByteArray) (i:Nat) (r:List UInt8) (h:i<v.size∨r≠[]):ByteArray.toList.loop v i r≠[]:=by
 generalize hn:v.size - i=n
 induction n generalizing i r with
 | zero=>
  unfold ByteArray.toList.loop
  rw [if_neg (by omega)]
  intro e
  rcases h with h | h
  ·omega
  ·exact h (by simpa using e)
 | succ n ih=>
  unfold ByteArray.toList.loop
  rw [if_pos (by omega)]
  exact ih _ _ (Or.inr (by simp)) (by omega)
theorem fR (v:ByteArray) (h:0<v.size):v.toList.isEmpty=false:=by
 have:=Ot v 0 [] (Or.inl h)
 unfold ByteArray.toList
 cases hl:ByteArray.toList.loop v 0 [] with
 | nil=>exact absurd hl this
 | cons a b=>rfl
theorem Bs {B:Nat} {a w:World} (h:Below B a w) (n:Nat):Below B a (w.drewN n):=⟨h.os,h.tape,h.output,h.size,h.block⟩
end Go.Proofs.YtblfffbmklkhmaaGreat
namespace Go.Proofs.YtblfffbmklkhmaaGreat
open Go.RowKit
structure mI (p:ByteArray):Prop where
 pos:0<p.size
 dot:bt p 0=46→1<p.size
 name:bt p 0=35→1≤p.size
 colon:bt p 0=58→1<p.size∧(bt p 1=102∨bt p 1=108∨bt p 1=101∨(3<p.size∧48≤bt p 2∧bt p 2≤57∧48≤bt p 3∧bt p 3≤57))
 few:p.size≤400
noncomputable def dh (els:List REl) (y:REl) (p:ByteArray):Bool:=
 if bt p 0=42 then true
 else if bt p 0=46 then qy (bt p 1) y.cl
 else if bt p 0=35 then (y.nm.toList==(p.extract 1 p.size).toList)
 else if bt p 0=58 then
  (if bt p 1=102 then decide ((bV els y.num).1=1) else if bt p 1=108 then decide ((bV els y.num).1=(bV els y.num).2) else if bt p 1=101 then decide (y.kids.length=0) else j3 (bV els y.num).1 (bt p 2 - 48) (bt p 3 - 48))
 else (y.kd.toList==p.toList)
def HPost (w:World) (r:Bool) (e:Ending) (w':World):Prop:=e=.returned (.bool r)∧Drew w w'
set_option maxRecDepth 100000 in
set_option maxHeartbeats 2000000 in
theorem wF (w:World) (d:Nat) (els:List REl) (made:Nat) (hp:Option Addr) (vT:Value) (aR:Bool) (vL:Value) (y:REl) (p:ByteArray) (h:RD w d els made hp vT aR vL) (hy:y∈els) (kI:y.cl.size≤maxLen) (oE:mI p) :
  Calls Tryz.prog 210 #[.pointer (some ⟨d,0,none⟩),.pointer (some ⟨y.blk,0,none⟩),.string p] w fun e w'=>HPost w (dh els y p) e w':=by
 have HR:Hid (RD w d els made hp vT aR vL):=h
 have HO:Hid (mI p∧y∈els∧y.cl.size≤maxLen):=⟨oE,hy,kI⟩
 have y0:w.cell? ⟨y.blk,0,none⟩=some (.int .i64 y.num):=aa (h.el y hy) rfl
 have y1:w.cell? ⟨y.blk,1,none⟩=some (.string y.kd):=aa (h.el y hy) rfl
 have y2:w.cell? ⟨y.blk,2,none⟩=some (.string y.cl):=aa (h.el y hy) rfl
 have y3:w.cell? ⟨y.blk,3,none⟩=some (.string y.nm):=aa (h.el y hy) rfl
 have y4:w.cell? ⟨y.blk,4,none⟩=some y.ks:=aa (h.el y hy) rfl
 have LH:=yz h y.num
 obtain ⟨ak,ck,qj⟩:=au (h.kid y hy)
 rw [qj] at y4
 have h0:0<p.size:=oE.pos
 have mr:(p[0].toNat:Int)=(bt p 0:Int):=by rw [bq p 0 h0]
 have Oj:=h.kfew y hy
 clear h hy kI oE qj
 go_enter Tryz.func210,Tryz.ntmps210
 go_wp2_with fail
 refine (sZ _ d els made hp vT aR _ y.num HR.out).mono ?_
 rintro e w1 ⟨rfl,rfl⟩
 obtain ⟨w,rfl⟩:∃ w,w=w1:=⟨_,rfl⟩
 by_cases ql:bt p 0=42
 ·have HE:Hid (dh els y p=true):=by unfold Hid dh;rw [if_pos ql]
  have ZG:((bt p 0:Int)==42)=true:=by simp [ql]
  clear ql
  go_wp2
  go_ret
  exact ⟨by rw [HE.out];rfl,0,rfl⟩
 have ZG:((bt p 0:Int)==42)=false:=by rw [beq_eq_false_iff_ne];omega
 by_cases h46:bt p 0=46
 ·have HE:Hid (dh els y p=qy (bt p 1) y.cl):=by unfold Hid dh;rw [if_neg ql,if_pos h46]
  have UZ:((bt p 0:Int)==46)=true:=by simp [h46]
  have h1:1<p.size:=HO.out.1.dot h46
  have oF:(p[1].toNat:Int)=(bt p 1:Int):=by rw [bq p 1 h1]
  have HAM:Hid (∀ k,Calls Tryz.prog 165 #[.int .u8 (bt p 1),.string y.cl] (w.drewN k) fun e w'=>e=.returned (.bool (qy (bt p 1) y.cl))∧w'=w.drewN k):=fun k=>bd _ _ _ HO.out.2.2
  clear ql h46
  go_upto_region 6 with fail
  go_quiet ((go_at_call 165;exact Calls.quiet_of_same (HAM.out _)))
  go_wp2
  go_ret
  exact ⟨by rw [HE.out];rfl,nq,rfl⟩
 have UZ:((bt p 0:Int)==46)=false:=by rw [beq_eq_false_iff_ne];omega
 by_cases h35:bt p 0=35
 ·have HE:Hid (dh els y p=(y.nm.toList==(p.extract 1 p.size).toList)):=by unfold Hid dh;rw [if_neg ql,if_neg h46,if_pos h35]
  have Vx:((bt p 0:Int)==35)=true:=by simp [h35]
  have h1:1≤p.size:=HO.out.1.name h35
  clear ql h46 h35
  go_upto_region 8 with fail
  go_quiet (fail)
  go_wp2
  go_ret
  exact ⟨by rw [HE.out];rfl,nq,rfl⟩
 have Vx:((bt p 0:Int)==35)=false:=by rw [beq_eq_false_iff_ne];omega
 by_cases h58:bt p 0=58
 ·have ST:((bt p 0:Int)==58)=true:=by simp [h58]
  obtain ⟨h1,fi⟩:=HO.out.1.colon h58
  have oF:(p[1].toNat:Int)=(bt p 1:Int):=by rw [bq p 1 h1]
  have pU:Hid (dh els y p=if bt p 1=102 then decide ((bV els y.num).1=1) else if bt p 1=108 then decide ((bV els y.num).1=(bV els y.num).2) else if bt p 1=101 then decide (y.kids.length=0) else j3 (bV els y.num).1 (bt p 2 - 48) (bt p 3 - 48)):=by unfold Hid dh;rw [if_neg ql,if_neg h46,if_neg h35,if_pos h58]
  clear ql h46 h35 h58
  obtain ⟨Xk,zL⟩:=LH
  generalize (bV els y.num).1=at' at pU Xk ⊢
  generalize (bV els y.num).2=n at pU zL ⊢
  by_cases h102:bt p 1=102
  ·have Sw:((bt p 1:Int)==102)=true:=by simp [h102]
   have HE:Hid (dh els y p=((at':Int)==1)):=by unfold Hid;rw [pU.out,if_pos h102];by_cases e:at'=1<;>simp [e];omega
   clear h102 pU fi
   go_wp2
   go_ret
   exact ⟨by rw [HE.out];rfl,0,rfl⟩
  have Sw:((bt p 1:Int)==102)=false:=by rw [beq_eq_false_iff_ne];omega
  by_cases h108:bt p 1=108
  ·have RA:((bt p 1:Int)==108)=true:=by simp [h108]
   have HE:Hid (dh els y p=((at':Int)==(n:Int))):=by unfold Hid;rw [pU.out,if_neg h102,if_pos h108];by_cases e:at'=n<;>simp [e];omega
   clear h102 h108 pU fi
   go_wp2
   go_ret
   exact ⟨by rw [HE.out];rfl,0,rfl⟩
  have RA:((bt p 1:Int)==108)=false:=by rw [beq_eq_false_iff_ne];omega
  by_cases h101:bt p 1=101
  ·have Se:((bt p 1:Int)==101)=true:=by simp [h101]
   have HE:Hid (dh els y p=((y.kids.length:Int)==0)):=by unfold Hid;rw [pU.out,if_neg h102,if_neg h108,if_pos h101];by_cases e:y.kids.length=0<;>simp [e]
   clear h102 h108 h101 pU fi
   go_wp2
   go_ret
   exact ⟨by rw [HE.out];rfl,0,rfl⟩
  have Se:((bt p 1:Int)==101)=false:=by rw [beq_eq_false_iff_ne];omega
  obtain ⟨h3,l2,u2,l3,u3⟩:3<p.size∧48≤bt p 2∧bt p 2≤57∧48≤bt p 3∧bt p 3≤57:=by rcases fi with h | h | h | h<;>first | exact h | omega
  have HE:Hid (dh els y p=j3 at' (bt p 2 - 48) (bt p 3 - 48)):=by unfold Hid;rw [pU.out,if_neg h102,if_neg h108,if_neg h101]
  have h2:2<p.size:=by omega
  have BY:(p[2].toNat:Int)=(bt p 2:Int):=by rw [bq p 2 h2]
  have mq:(p[3].toNat:Int)=(bt p 3:Int):=by rw [bq p 3 h3]
  have yn:Hid (∀ k,Calls Tryz.prog 218 #[.int .i64 (at':Nat),.int .i64 ((bt p 2:Int) - 48),.int .i64 ((bt p 3:Int) - 48)] (w.drewN k) fun e w'=>e=.returned (.bool (j3 at' (bt p 2 - 48) (bt p 3 - 48)))∧w'=w.drewN k):=fun k=>by
   have:=BN (w.drewN k) at' (bt p 2 - 48) (bt p 3 - 48) Xk (by omega) (by omega)
   rw [show ((bt p 2 - 48:Nat):Int)=(bt p 2:Int) - 48 from by omega,show ((bt p 3 - 48:Nat):Int)=(bt p 3:Int) - 48 from by omega] at this
   exact this
  clear h102 h108 h101 pU fi
  go_upto_region 17 with fail
  go_quiet ((go_at_call 218;exact Calls.quiet_of_same (yn.out _)))
  go_wp2
  go_ret
  exact ⟨by rw [HE.out];rfl,nq,rfl⟩
 ·have ST:((bt p 0:Int)==58)=false:=by rw [beq_eq_false_iff_ne];omega
  have HE:Hid (dh els y p=(y.kd.toList==p.toList)):=by unfold Hid dh;rw [if_neg ql,if_neg h46,if_neg h35,if_neg h58]
  clear ql h46 h35 h58
  go_wp2
  go_ret
  exact ⟨by rw [HE.out];rfl,0,rfl⟩
noncomputable def mc (els:List REl) (y:REl) (p:ByteArray):Bool:=if bt p 0=33 then !dh els y (p.extract 1 p.size) else dh els y p
structure PartOK (p:ByteArray):Prop where
 pos:0<p.size
 turned:bt p 0=33→mI (p.extract 1 p.size)
 plain:bt p 0≠33→mI p
def kT:Nat→ByteArray→Prop
 | 0,u=>u.size=0
 | f+1,u=>u.size=0∨(bS u 0≤u.size∧u.size≤400∧PartOK (u.extract 0 (bS u 0))∧kT f (u.extract (bS u 0) u.size))
noncomputable def eM (els:List REl) (y:REl):Nat→ByteArray→Bool
 | 0,_=>true
 | f+1,u=>if u.size=0 then true else mc els y (u.extract 0 (bS u 0))&&eM els y f (u.extract (bS u 0) u.size)
theorem dX {u:ByteArray} (h:u.size=0):u=⟨#[]⟩:=by
 have:=ByteArray.size_eq_zero_iff.1 h
 exact this
set_option maxRecDepth 100000 in
set_option maxHeartbeats 4000000 in
theorem Ll (w:World) (d:Nat) (els:List REl) (made:Nat) (hp:Option Addr) (vT:Value) (aR:Bool) (vL:Value) (y:REl) (u:ByteArray) (f:Nat) (h:RD w d els made hp vT aR vL) (hy:y∈els) (kI:y.cl.size≤maxLen) (oE:kT f u) :
  Calls Tryz.prog 202 #[.pointer (some ⟨d,0,none⟩),.pointer (some ⟨y.blk,0,none⟩),.string u] w fun e w'=>HPost w (eM els y f u) e w':=by
 have HR:Hid (RD w d els made hp vT aR vL):=h
 have HO:Hid (y∈els∧y.cl.size≤maxLen):=⟨hy,kI⟩
 have HT:Hid (kT f u):=oE
 clear h hy kI oE
 go_enter Tryz.func202,Tryz.ntmps202
 go_wp2_with fail
 go_loopg [2] f (fun gk sv wr=>∃ (t:ByteArray),sv=.string t∧Hid (Drew w wr∧kT gk t∧eM els y f u=eM els y gk t))
 case atStart=>exact ⟨u,rfl,⟨0,rfl⟩,HT.out,rfl⟩
 case round=>
  obtain ⟨t,rfl,HN⟩:=hrel
  by_cases h0:t.size=0
  ·have HE:Hid (eM els y f u=true):=by
    unfold Hid
    rw [HN.out.2.2]
    cases gk with
    | zero=>rfl
    | succ g=>show (if _ then _ else _)=_;rw [if_pos h0]
   obtain rfl:=dX h0
   clear h0
   go_wp2
   go_ret
   exact ⟨by rw [HE.out];rfl,HN.out.1⟩
  ·have eV:=fR t (by omega)
   obtain ⟨g,rfl⟩:∃ g,gk=g+1:=by
    cases gk with
    | zero=>exact absurd HN.out.2.1 h0
    | succ g=>exact ⟨g,rfl⟩
   have Pj:=(show kT (g+1) t from HN.out.2.1).resolve_left h0
   have HQ:Hid (bS t 0≤t.size∧t.size≤400∧PartOK (t.extract 0 (bS t 0))∧kT g (t.extract (bS t 0) t.size)):=Pj
   have HF:Hid (eM els y f u=(mc els y (t.extract 0 (bS t 0))&&eM els y g (t.extract (bS t 0) t.size))):=by
    unfold Hid
    rw [HN.out.2.2]
    show (if _ then _ else _)=_
    rw [if_neg h0]
   have HD:Hid (Drew w wr):=HN.out.1
   clear h0 Pj HN
   go_wp2_with fail
   refine (FH wr t HQ.out.1 HQ.out.2.1).mono ?_
   rintro e w1 ⟨rfl,m,rfl⟩
   have ju:Hid (Drew w (wr.drewN m)):=jJ HD.out m
   clear HD eV
   generalize wr.drewN m=wq at ju ⊢
   have HRq:Hid (RD wq d els made hp vT aR vL):=HR.out.below ju.out.below
   have mC:Hid (PartOK (t.extract 0 (bS t 0))∧kT g (t.extract (bS t 0) t.size)):=HQ.out.2.2
   clear HQ
   generalize t.extract 0 (bS t 0)=p at HF mC ⊢
   generalize t.extract (bS t 0) t.size=r at HF mC ⊢
   have h0:0<p.size:=mC.out.1.pos
   have mr:(p[0].toNat:Int)=(bt p 0:Int):=by rw [bq p 0 h0]
   by_cases gu:bt p 0=33
   ·have JY:((bt p 0:Int)==33)=true:=by simp [gu]
    have HP:Hid (mc els y p=!dh els y (p.extract 1 p.size)):=by unfold Hid mc;rw [if_pos gu]
    have HH:Hid (mI (p.extract 1 p.size)):=mC.out.1.turned gu
    have h1:1≤p.size:=by omega
    clear gu
    go_wp2_with fail
    refine (wF wq d els made hp vT aR vL y (p.extract 1 p.size) HRq.out HO.out.1 HO.out.2 HH.out).mono ?_
    rintro e w2 ⟨rfl,o9⟩
    have n9:Hid (Drew w w2):=by
     obtain ⟨k,hk⟩:=o9
     rw [hk]
     exact jJ ju.out k
    clear o9
    cases hh:dh els y (p.extract 1 p.size) with
    | true=>
     have HE:Hid (eM els y f u=false):=by unfold Hid;rw [HF.out,HP.out,hh];rfl
     clear hh mr
     go_wp2
     go_ret
     exact ⟨by rw [HE.out];rfl,n9.out⟩
    | false=>
     have HE:Hid (eM els y f u=eM els y g r):=by unfold Hid;rw [HF.out,HP.out,hh];rfl
     clear hh mr
     go_wp2
     go_roundg g
     case measure=>omega
     case rel=>exact ⟨r,rfl,n9.out,mC.out.2,HE.out⟩
   ·have JY:((bt p 0:Int)==33)=false:=by rw [beq_eq_false_iff_ne];omega
    have HP:Hid (mc els y p=dh els y p):=by unfold Hid mc;rw [if_neg gu]
    have HH:Hid (mI p):=mC.out.1.plain gu
    clear gu
    go_wp2_with fail
    refine (wF wq d els made hp vT aR vL y p HRq.out HO.out.1 HO.out.2 HH.out).mono ?_
    rintro e w2 ⟨rfl,o9⟩
    have n9:Hid (Drew w w2):=by
     obtain ⟨k,hk⟩:=o9
     rw [hk]
     exact jJ ju.out k
    clear o9
    cases hh:dh els y p with
    | false=>
     have HE:Hid (eM els y f u=false):=by unfold Hid;rw [HF.out,HP.out,hh];rfl
     clear hh mr
     go_wp2
     go_ret
     exact ⟨by rw [HE.out];rfl,n9.out⟩
    | true=>
     have HE:Hid (eM els y f u=eM els y g r):=by unfold Hid;rw [HF.out,HP.out,hh];rfl
     clear hh mr
     go_wp2
     go_roundg g
     case measure=>omega
     case rel=>exact ⟨r,rfl,n9.out,mC.out.2,HE.out⟩
end Go.Proofs.YtblfffbmklkhmaaGreat
