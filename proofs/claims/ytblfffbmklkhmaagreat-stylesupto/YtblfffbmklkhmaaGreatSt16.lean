import Derived.Test.YtblfffbmklkhmaaGreatSt15
import Derived.Deep.MidRow
import Derived.Deep.WholeRow
import Derived.Great.BuildSlice
namespace Go.Proofs.YtblfffbmklkhmaaGreat
structure PEl where
 num:Nat
 par:Int
 rest:List Value
def az (els:List PEl) (n:Int):List Nat:=(els.filter fun e=>decide (e.par=n)).map PEl.num
theorem dV (A B:List PEl) (n:Int):az (A++B) n=az A n++az B n:=by simp [az]
theorem nW (x:PEl) (n:Int):az [x] n=if x.par=n then [x.num] else []:=by
 by_cases h:x.par=n<;>simp [az,h]
theorem eB {els:List PEl} {n:Int} {k:Nat}:k∈az els n↔∃ e∈els,e.par=n∧e.num=k:=by
 unfold az
 rw [List.mem_map]
 constructor
 ·rintro ⟨e,he,h⟩
  rw [List.mem_filter] at he
  exact ⟨e,he.1,by simpa using he.2,h⟩
 ·rintro ⟨e,he,h1,h2⟩
  exact ⟨e,List.mem_filter.2 ⟨he,by simpa using h1⟩,h2⟩
structure PT (els:List PEl) (T:aA):Prop where
 nums:(els.map PEl.num).Nodup
 to':∀ e∈els,∃ l,(e.num,l)∈T
 of':∀ n l,(n,l)∈T→∃ e∈els,e.num=n
 kids:∀ n l,(n,l)∈T→l=az els n
 root:∀ e∈els,e.num=0→e.par=-1
theorem zd {els:List PEl} (h:(els.map PEl.num).Nodup) {e f:PEl} (he:e∈els) (hf:f∈els) (hn:e.num=f.num):e=f:=by
 induction els with
 | nil=>cases he
 | cons x T ih=>
  rw [List.map_cons,List.nodup_cons] at h
  rcases List.mem_cons.1 he with xB | xB<;>rcases List.mem_cons.1 hf with sk | sk
  ·rw [xB,sk]
  ·rw [xB] at hn
   exact absurd (List.mem_map.2 ⟨f,sk,hn.symm⟩) h.1
  ·rw [sk] at hn
   exact absurd (List.mem_map.2 ⟨e,xB,hn⟩) h.1
  ·exact ih h.2 xB sk
section
variable {els:List PEl} {T:aA} {made:Nat}
theorem PT.par (h:PT els T) (hw:TW T made) {e:PEl} (he:e∈els):e.par=aU T e.num:=by
 by_cases h0:e.num=0
 ·rw [h.root e he h0,h0]
  exact hw.root_par.symm
 ·obtain ⟨l,hl⟩:=h.to' e he
  obtain ⟨q,hq,hm,hp⟩:=hw.up hl h0
  rw [hp]
  rw [h.kids q.1 q.2 hq,eB] at hm
  obtain ⟨f,hf,h1,h2⟩:=hm
  rw [←zd h.nums hf he h2]
  exact h1
theorem PT.len (h:PT els T) (hw:TW T made):els.length=T.length:=by
 have h1:=fc h.nums (m:=T.map Prod.fst) (fun k hk=>by
  obtain ⟨e,he,rfl⟩:=List.mem_map.1 hk
  obtain ⟨l,hl⟩:=h.to' e he
  exact List.mem_map.2 ⟨_,hl,rfl⟩)
 have h2:=fc hw.nums (m:=els.map PEl.num) (fun k hk=>by
  obtain ⟨x,hx,rfl⟩:=List.mem_map.1 hk
  obtain ⟨e,he,h3⟩:=h.of' x.1 x.2 hx
  exact List.mem_map.2 ⟨e,he,h3⟩)
 simp at h1 h2
 omega
def bU (els:List PEl) (n:Int):Option PEl:=els.find? fun e=>decide ((e.num:Int)=n)
theorem du {n:Int} {e:PEl} (h:bU els n=some e):e∈els∧(e.num:Int)=n:=⟨List.mem_of_find?_eq_some h,by simpa using List.find?_some h⟩
theorem oN {n:Int} (h:bU els n=none) {e:PEl} (he:e∈els):(e.num:Int)≠n:=by
 unfold bU at h
 rw [List.find?_eq_none] at h
 simpa using h e he
theorem PT.find_none (h:PT els T) {n:Int} (hf:bU els n=none):bn T n=none:=by
 cases ht:bn T n with
 | none=>rfl
 | some l=>
  obtain ⟨k,rfl,hk⟩:=fx ht
  obtain ⟨e,he,h1⟩:=h.of' k l hk
  exact absurd (by rw [h1]) (oN hf he)
theorem dt {T:aA} (hn:(T.map Prod.fst).Nodup) {k:Nat} {l:List Nat} (h:(k,l)∈T):bn T k=some l:=by
 unfold bn
 cases hf:T.find? fun e=>decide ((e.1:Int)=(k:Int)) with
 | none=>
  rw [List.find?_eq_none] at hf
  exact absurd (by simp) (hf _ h)
 | some e=>
  have h1:(e.1:Int)=(k:Int):=by simpa using List.find?_some hf
  have h2:=pY hn (List.mem_of_find?_eq_some hf) h (by show e.1=k;omega)
  rw [h2]
  rfl
theorem PT.find_some (h:PT els T) (hw:TW T made) {n:Int} {e:PEl} (hf:bU els n=some e):bn T n=some (az els n)∧(e.num,az els n)∈T∧n=e.num:=by
 obtain ⟨he,rfl⟩:=du hf
 obtain ⟨l,hl⟩:=h.to' e he
 have:=h.kids _ _ hl
 subst this
 exact ⟨dt hw.nums hl,hl,rfl⟩
def parP (els:List PEl) (n:Int):Int:=match bU els n with | none=>-1 | some e=>e.par
theorem PT.parP (h:PT els T) (hw:TW T made) (n:Int):parP els n=aU T n:=by
 unfold Go.Proofs.YtblfffbmklkhmaaGreat.parP
 cases hf:bU els n with
 | some e=>
  obtain ⟨he,rfl⟩:=du hf
  exact h.par hw he
 | none=>
  rcases cB T n with h1 | ⟨e,he,h1,_⟩
  ·exact h1.1.symm
  ·obtain ⟨k,hk,rfl⟩:=sY.1 h1
   obtain ⟨l,hl⟩:=hw.kin e he k hk
   obtain ⟨f,bo,h2⟩:=h.of' k l hl
   exact absurd (by rw [h2]) (oN hf bo)
theorem TW.chain (hw:TW T made) {rk:Nat→Nat} (hr:∀ e∈T,∀ k∈e.2,rk e.1<rk k) {a:Int} (ha:0≤a):∀ (k n:Nat),(∃ c,(n,c)∈T)→jm T k n=a→∃ l:List Nat,l.length=k+1∧l.Nodup∧(∀ x∈l,∃ c,(x,c)∈T)∧∀ x∈l,rk x≤rk n
 | 0,n,hn,_=>⟨[n],rfl,by simp,fun x hx=>by rw [List.mem_singleton] at hx;rw [hx];exact hn,fun x hx=>by rw [List.mem_singleton] at hx;rw [hx];exact Nat.le_refl _⟩
 | k+1,n,hn,h=>by
  have h':jm T k (aU T n)=a:=h
  rcases cB T n with ⟨h1,_⟩ | ⟨e,he,h1,h2⟩
  ·rw [h1] at h'
   have:=sH T (n:=-1) (by omega) k
   omega
  ·rw [h2] at h'
   obtain ⟨l,hl,hd,jF,oz⟩:=TW.chain hw hr ha k e.1 ⟨e.2,he⟩ h'
   have aN:=hr e he n (gN.1 h1)
   refine ⟨n :: l,by simp [hl],List.nodup_cons.2 ⟨fun hx=>by have:=oz n hx;omega,hd⟩,fun x hx=>?_,fun x hx=>?_⟩
   ·rcases List.mem_cons.1 hx with rfl | hx
    ·exact hn
    ·exact jF x hx
   ·rcases List.mem_cons.1 hx with rfl | hx
    ·exact Nat.le_refl _
    ·have:=oz x hx;omega
theorem TW.short (hw:TW T made) {a:Int} (ha:0≤a) {n:Nat} (hn:∃ c,(n,c)∈T):dR T a n↔∃ k,k<T.length∧jm T k n=a:=by
 obtain ⟨rk,hr⟩:=hw.rank
 constructor
 ·rintro ⟨_,k,hk⟩
  obtain ⟨l,hl,hd,jF,_⟩:=hw.chain hr ha k n hn hk
  have:=fc hd (m:=T.map Prod.fst) (fun x hx=>by
   obtain ⟨c,hc⟩:=jF x hx
   exact List.mem_map.2 ⟨_,hc,rfl⟩)
  simp at this
  exact ⟨k,by omega,hk⟩
 ·rintro ⟨k,_,hk⟩
  exact ⟨ha,k,hk⟩
def cY (els:List PEl) (place:Nat) (x:PEl):List PEl:=els.take place++[x]++els.drop place
theorem wU (place:Nat) (x:PEl) (n:Int):az (cY els place x) n=if x.par=n then bN (az els n) (az (els.take place) n).length x.num else az els n:=by
 unfold cY
 rw [dV,dV,nW]
 have Oz:az els n=az (els.take place) n++az (els.drop place) n:=by rw [←dV,List.take_append_drop]
 by_cases h:x.par=n
 ·rw [if_pos h,if_pos h,Oz]
  unfold bN
  rw [List.take_left',List.drop_left']<;>rfl
 ·rw [if_neg h,if_neg h,Oz,List.append_nil]
theorem eD {place:Nat} {x e:PEl}:e∈cY els place x↔e=x∨e∈els:=by
 unfold cY
 rw [List.mem_append,List.mem_append,List.mem_singleton]
 constructor
 ·rintro ((h | h) | h)
  ·exact Or.inr (List.mem_of_mem_take h)
  ·exact Or.inl h
  ·exact Or.inr (List.mem_of_mem_drop h)
 ·rintro (h | h)
  ·exact Or.inl (Or.inr h)
  ·rw [←List.take_append_drop place els,List.mem_append] at h
   exact h.elim (fun x=>Or.inl (Or.inl x)) Or.inr
theorem wu (place:Nat) (x:PEl) (h:(els.map PEl.num).Nodup) (hx:∀ e∈els,e.num≠x.num):((cY els place x).map PEl.num).Nodup:=by
 have:(cY els place x).map PEl.num=bN (els.map PEl.num) place x.num:=by
  unfold cY bN
  rw [List.map_append,List.map_append,List.map_take,List.map_drop]
  rfl
 rw [this]
 exact oG h (fun hm=>by
  obtain ⟨e,he,h1⟩:=List.mem_map.1 hm
  exact hx e he h1)
theorem PT.ins (h:PT els T) (hw:TW T made) {p k place:Nat} (hp:∃ l,(p,l)∈T) (rest:List Value) (hk:(az (els.take place) p).length=k):PT (cY els place ⟨made,p,rest⟩) (jG T p k made):=by
 obtain ⟨l0,IX⟩:=hw.root
 have h0:0<made:=hw.lt _ IX
 have aN:∀ e∈els,e.num<made:=fun e he=>by
  obtain ⟨l,hl⟩:=h.to' e he
  exact hw.lt _ hl
 refine ⟨wu _ _ h.nums (fun e he=>by have:=aN e he;show e.num≠made;omega),fun e he=>?_,fun n l hl=>?_,fun n l hl=>?_,fun e he h1=>?_⟩
 ·rcases eD.1 he with rfl | he
  ·exact ⟨[],cj.2 (Or.inr rfl)⟩
  ·obtain ⟨l,hl⟩:=h.to' e he
   exact ⟨if e.num=p then bN l k made else l,cj.2 (Or.inl ⟨(e.num,l),hl,rfl,rfl⟩)⟩
 ·rcases cj.1 hl with ⟨x,hx,h1,_⟩ | h1
  ·obtain ⟨e,he,h2⟩:=h.of' x.1 x.2 hx
   exact ⟨e,eD.2 (Or.inr he),h2.trans h1.symm⟩
  ·injection h1 with h1 _
   exact ⟨_,eD.2 (Or.inl rfl),h1.symm⟩
 ·rw [wU]
  rcases cj.1 hl with ⟨x,hx,h1,h2⟩ | h1
  ·have tR:n=x.1:=h1
   have C7:l=if x.1=p then bN x.2 k made else x.2:=h2
   have iU:=h.kids x.1 x.2 hx
   subst tR
   rw [C7]
   by_cases nK:x.1=p
   ·rw [if_pos nK,if_pos (by show (p:Int)=_;rw [nK]),←iU,nK,hk]
   ·rw [if_neg nK,if_neg (by show ¬ (p:Int)=_;omega),←iU]
  ·injection h1 with h1 h2
   subst h1 h2
   obtain ⟨lp,NL⟩:=hp
   have fp:=hw.lt _ NL
   rw [if_neg (by show ¬ (p:Int)=_;have:p<n:=fp;omega)]
   symm
   rw [List.eq_nil_iff_forall_not_mem]
   intro x hx
   rw [eB] at hx
   obtain ⟨e,he,h1,_⟩:=hx
   rw [h.par hw he] at h1
   rcases cB T e.num with ⟨h2,_⟩ | ⟨f,hf,_,h2⟩
   ·omega
   ·have:=hw.lt f hf;omega
 ·rcases eD.1 he with rfl | he
  ·have:made=0:=h1;omega
  ·exact h.root e he h1
theorem pp (p:PEl→Bool) (n:Int):az (els.filter p) n=(els.filter fun e=>p e&&decide (e.par=n)).map PEl.num:=by
 unfold az
 rw [List.filter_filter]
 congr 1
 refine List.filter_congr fun e _=>?_
 rw [Bool.and_comm]
theorem rQ (a:Nat) (n:Int):af a (az els n)=(els.filter fun e=>decide (e.num≠a)&&decide (e.par=n)).map PEl.num:=by
 unfold af az
 rw [List.filter_map,List.filter_filter]
 congr 1
 refine List.filter_congr fun e _=>?_
 show (decide (¬ ((e.num:Nat):Int)=a)&&_)=_
 congr 1
 by_cases h:e.num=a
 ·simp [h]
 ·simp [h];omega
theorem PT.rem (h:PT els T) (hw:TW T made) {a:Nat} {la:List Nat} (ha:(a,la)∈T) (h0:a≠0):PT (els.filter fun e=>!bI T a e.num) (oR T a):=by
 obtain ⟨q,hq,hm,hp⟩:=hw.up ha h0
 have hu:∀ (e:PEl),(!bI T a e.num)=true↔¬ dR T a e.num:=fun e=>by
  rw [←bE]
  cases bI T a e.num<;>simp
 refine ⟨h.nums.sublist (List.filter_sublist.map _),fun e he=>?_,fun n l hl=>?_,fun n l hl=>?_,fun e he=>h.root e (List.mem_filter.1 he).1⟩
 ·rw [List.mem_filter,hu] at he
  obtain ⟨l,hl⟩:=h.to' e he.1
  exact ⟨if e.num=q.1 then af a l else l,(eE hp).2 ⟨(e.num,l),hl,he.2,rfl,rfl⟩⟩
 ·obtain ⟨x,hx,YC,h1,_⟩:=(eE hp).1 hl
  obtain ⟨e,he,h2⟩:=h.of' x.1 x.2 hx
  refine ⟨e,List.mem_filter.2 ⟨he,(hu e).2 ?_⟩,h2.trans h1.symm⟩
  rw [h2]
  exact YC
 ·obtain ⟨x,hx,YC,h1,h2⟩:=(eE hp).1 hl
  have tR:n=x.1:=h1
  have C7:l=if x.1=q.1 then af a x.2 else x.2:=h2
  subst tR
  have iU:=h.kids x.1 x.2 hx
  have ol:∀ e∈els,e.par=(x.1:Int)→((!bI T a e.num)=true↔e.num≠a):=by
   intro e he WT
   rw [hu]
   have hme:e.num∈x.2:=by rw [iU];exact eB.2 ⟨e,he,WT,rfl⟩
   rw [hw.under_kid hx hme a]
   exact ⟨fun h1 h2=>h1 (Or.inl h2),fun h1 h2=>h2.elim h1 YC⟩
  have Yk:az (els.filter fun e=>!bI T a e.num) x.1=af a (az els x.1):=by
   rw [pp,rQ]
   congr 1
   refine List.filter_congr fun e he=>?_
   by_cases WT:e.par=(x.1:Int)
   ·have:=ol e he WT
    by_cases hea:e.num=a
    ·have h3:(!bI T a e.num)=false:=by
      cases hb:(!bI T a e.num) with
      | false=>rfl
      | true=>exact absurd hea (this.1 hb)
     rw [h3]
     simp [hea]
    ·rw [this.2 hea]
     simp [hea]
   ·simp [WT]
  rw [Yk,C7,←iU]
  split
  ·rfl
  ·rename_i hn
   symm
   unfold af
   rw [List.filter_eq_self]
   intro y hy
   rw [decide_eq_true_eq]
   intro e
   have ZN:y=a:=by omega
   subst ZN
   have:=hw.one x hx q hq y hy hm
   rw [this] at hn
   exact hn rfl
theorem PT.without (h:PT els T) {place:Nat} {e:PEl} (he:els[place]?=some e):els.eraseIdx place=els.filter fun x=>decide (x.num≠e.num):=by
 have aN:place<els.length:=(List.getElem?_eq_some_iff.1 he).1
 have yQ:els[place]=e:=(List.getElem?_eq_some_iff.1 he).2
 have Oz:els=els.take place++e :: els.drop (place+1):=by
  rw [←yQ,←List.drop_eq_getElem_cons aN,List.take_append_drop]
 have hn:=h.nums
 rw [List.eraseIdx_eq_take_drop_succ]
 conv=>rhs;rw [Oz]
 rw [Oz] at hn
 rw [List.map_append,List.map_cons,List.nodup_append] at hn
 rw [List.filter_append,List.filter_cons]
 have h1:(els.take place).filter (fun x=>decide (x.num≠e.num))=els.take place:=by
  rw [List.filter_eq_self]
  intro x hx
  rw [decide_eq_true_eq]
  exact hn.2.2 x.num (List.mem_map.2 ⟨x,hx,rfl⟩) e.num (by simp)
 have h2:(els.drop (place+1)).filter (fun x=>decide (x.num≠e.num))=els.drop (place+1):=by
  rw [List.filter_eq_self]
  intro x hx
  rw [decide_eq_true_eq]
  intro h3
  have h4:=hn.2.1
  rw [List.nodup_cons] at h4
  exact h4.1 (List.mem_map.2 ⟨x,hx,h3⟩)
 rw [h1,h2]
 simp
theorem qi (a:Nat) (n:Int):az (els.filter fun x=>decide (x.num≠a)) n=af a (az els n):=by
 rw [pp,rQ]
theorem PT.mov (h:PT els T) (hw:TW T made) {a p k place:Nat} {la:List Nat} (ha:(a,la)∈T) (h0:a≠0) (rest:List Value) (hk:(az ((els.filter fun x=>decide (x.num≠a)).take place) p).length=k) :
  PT (cY (els.filter fun x=>decide (x.num≠a)) place ⟨a,p,rest⟩) (jY T a p k):=by
 obtain ⟨q,hq,hm,hp⟩:=hw.up ha h0
 have jF:∀ e:PEl,e∈(els.filter fun x=>decide (x.num≠a))↔e∈els∧e.num≠a:=fun e=>by rw [List.mem_filter,decide_eq_true_eq]
 refine ⟨wu _ _ (h.nums.sublist (List.filter_sublist.map _)) (fun e he=>((jF e).1 he).2),fun e he=>?_,fun n l hl=>?_,fun n l hl=>?_,fun e he h1=>?_⟩
 ·rcases eD.1 he with rfl | he
  ·exact ⟨if a=p then bN (af a (if a=q.1 then af a la else la)) k a else if a=q.1 then af a la else la,(dP hp).2 ⟨(a,la),ha,rfl,rfl⟩⟩
  ·obtain ⟨l,hl⟩:=h.to' e ((jF e).1 he).1
   exact ⟨if e.num=p then bN (af a (if e.num=q.1 then af a l else l)) k a else if e.num=q.1 then af a l else l,(dP hp).2 ⟨(e.num,l),hl,rfl,rfl⟩⟩
 ·obtain ⟨x,hx,h1,_⟩:=(dP hp).1 hl
  have tR:n=x.1:=h1
  by_cases Ps:x.1=a
  ·exact ⟨_,eD.2 (Or.inl rfl),by rw [tR,Ps]⟩
  ·obtain ⟨e,he,h2⟩:=h.of' x.1 x.2 hx
   exact ⟨e,eD.2 (Or.inr ((jF e).2 ⟨he,by omega⟩)),h2.trans tR.symm⟩
 ·obtain ⟨x,hx,h1,h2⟩:=(dP hp).1 hl
  have tR:n=x.1:=h1
  subst tR
  have iU:=h.kids x.1 x.2 hx
  have mm:∀ l',(if x.1=q.1 then af a x.2 else x.2)=l'→l'=af a x.2:=by
   intro l' h3
   rw [←h3]
   split
   ·rfl
   ·rename_i hn
    symm
    unfold af
    rw [List.filter_eq_self]
    intro y hy
    rw [decide_eq_true_eq]
    intro e
    have ZN:y=a:=by omega
    subst ZN
    have:=hw.one x hx q hq y hy hm
    rw [this] at hn
    exact hn rfl
  have Yf:=mm _ rfl
  have C7:l=if x.1=p then bN (af a (if x.1=q.1 then af a x.2 else x.2)) k a else if x.1=q.1 then af a x.2 else x.2:=h2
  rw [Yf] at C7
  rw [wU,qi,←iU,C7,pB]
  by_cases nK:x.1=p
  ·rw [if_pos nK,if_pos (by show (p:Int)=_;rw [nK]),nK,hk]
  ·rw [if_neg nK,if_neg (by show ¬ (p:Int)=_;omega)]
 ·rcases eD.1 he with rfl | he
  ·exact absurd h1 h0
  ·exact h.root e ((jF e).1 he).1 h1
end
end Go.Proofs.YtblfffbmklkhmaaGreat
namespace Go.Proofs.YtblfffbmklkhmaaGreat
open Go.RowKit
section
variable {P:Program} {zw:Array Oper} {rest:List Oper} {o:Oper} {a:Act} {w:World} {Q:Exit→Act→World→Prop}
theorem aw (VX:o.guard=none) (ty:TypeId) (x y:Operand) (ho:o.op=.store ty x y) (c c':Array Value) (t:TypeId) (hx:a.eval x=.pointer (some ⟨w.heap.size,0,none⟩)) (hy:a.eval y=.agg c')
  (hi:(P.info? ty).map (·.size)=some c'.size) (hs:c.size=c'.size) (h1:c'.all (·.oneCell')=true) (h:wpList P zw Q rest (a.put o.dst undef) (w.alloc (.cells c' t))):wpList P zw Q (o :: rest) a (w.alloc (.cells c t)):=by
 refine wpList_store_row VX ty x y ho w.heap.size c' hx hy t c (heap_alloc_last w _) hi hs h1 ?_
 rw [World.setRow_alloc_new]
 exact h
theorem Lf {s:Nat} (hs:0<s) (c z:Array Value) (h1:c.size=s) (h2:z.size=s):Instr.fill (fun i=>some (i*s,s)) z [(0,.agg c)]=some c:=by
 have h:=Great.fill_whole hs [Value.agg c] z (fun v hv=>by rw [List.mem_singleton] at hv;rw [hv];exact h1) (by simp [h2])
 have e1:(([Value.agg c].zipIdx 0).map fun x=>(x.2,x.1))=[(0,Value.agg c)]:=rfl
 rw [e1] at h
 rw [h]
 simp [Value.cells]
theorem sq (hg:o.guard=none) (t e:TypeId) (x:Operand) (ho:o.op=.buildSlice t 1 #[(0,x)]) (c:Array Value) (hx:a.eval x=.agg c) (ie:TypeInfo) (z:Value)
  (hu:P.underlying t=some (.slice e)) (ZV:P.info? e=some ie) (hz:ie.zero=some z) (hs:ie.size=c.size) (j8:0<c.size) (MC:c.size≤1000)
  (h:wpList P zw Q rest (a.put o.dst (.slice (some ⟨w.heap.size,0,none⟩) 1 1)) (w.alloc (.cells c e))):wpList P zw Q (o :: rest) a w:=by
 refine wpList_buildSlice hg t e 1 _ ho c ie z hu ZV hz (by omega) (by omega) ?_ h
 rw [hs]
 have e1:(#[((0:Nat),x)].map fun (p:Nat × Operand)=>(p.1,a.eval p.2)).toList=[(0,Value.agg c)]:=by simp [hx]
 show Instr.fill _ _ (#[((0:Nat),x)].map fun (p:Nat × Operand)=>(p.1,a.eval p.2)).toList=some c
 rw [e1]
 exact Lf j8 c _ rfl (by simp)
end
def PEl.cells (e:PEl):List Value:=.int .i64 e.num :: .int .i64 e.par :: e.rest
def PEl.ok (e:PEl):Prop:=e.rest.length=29∧∀ v∈e.rest,v.oneCell'=true
theorem PEl.ok.len {e:PEl} (h:e.ok):e.cells.length=31:=by
 unfold PEl.cells
 rw [List.length_cons,List.length_cons,h.1]
theorem PEl.ok.one {e:PEl} (h:e.ok):∀ v∈e.cells,v.oneCell'=true:=by
 intro v hv
 unfold PEl.cells at hv
 rcases List.mem_cons.1 hv with rfl | hv
 ·rfl
 rcases List.mem_cons.1 hv with rfl | hv
 ·rfl
 ·exact h.2 v hv
def fh (els:List PEl):List Value:=els.flatMap PEl.cells
theorem JS {els:List PEl} (h:∀ e∈els,e.ok):(fh els).length=els.length*31:=by
 induction els with
 | nil=>rfl
 | cons x l ih=>
  have h1:=(h x List.mem_cons_self).len
  have h2:=ih (fun e he=>h e (List.mem_cons_of_mem _ he))
  unfold fh at h2 ⊢
  rw [List.flatMap_cons,List.length_append,h1,h2,List.length_cons]
  omega
theorem NQ {els:List PEl} (h:∀ e∈els,e.ok) {i j:Nat} (hi:i<els.length) (hj:j<31):(fh els)[i*31+j]?=els[i].cells[j]?:=by
 induction els generalizing i with
 | nil=>simp at hi
 | cons x l ih=>
  have h1:=(h x List.mem_cons_self).len
  unfold fh
  rw [List.flatMap_cons]
  cases i with
  | zero=>
   rw [List.getElem?_append_left (by omega)]
   simp
  | succ i=>
   rw [List.getElem?_append_right (by omega),h1,show (i+1)*31+j - 31=i*31+j from by omega]
   have:=ih (fun e he=>h e (List.mem_cons_of_mem _ he)) (i:=i) (by simpa using hi)
   unfold fh at this
   rw [this]
   simp
structure PL (w:World) (v:Value) (els:List PEl):Prop where
 row:w.ownsRow 0 134 31 v els.length (fh els)
 ok:∀ e∈els,e.ok
theorem PL.shape {w:World} {v:Value} {els:List PEl} (h:PL w v els):∃ a c,v=.slice a els.length c:=au h.row
theorem PL.at' {w:World} {a:Option Addr} {c:Nat} {els:List PEl} (h:PL w (.slice a els.length c) els) {i:Nat} (hi:i<els.length) :
  ∃ g,a=some ⟨g,0,none⟩∧g<w.heap.size∧w.rangeAt g (i*31) els[i].cells:=by
 obtain ⟨g,hg,db,hc⟩:=aH h.row (by omega)
 refine ⟨g,hg,db,fun j v hv=>hc _ _ ?_⟩
 have hl:=(h.ok els[i] (List.getElem_mem hi)).len
 have hj:j<31:=by
  have:=(List.getElem?_eq_some_iff.1 hv).1
  omega
 rw [NQ h.ok hi hj]
 exact hv
theorem ba {w wr:World} {ae:Nat} (hB:Below ae w wr) {g o:Nat} (hg:g<ae) {cs:List Value} (h:w.rangeAt g o cs):wr.rangeAt g o cs:=
 fun j v hv=>(hB.cell (p:=⟨g,o+j,none⟩) hg).trans (h j v hv)
theorem Tryz.size134:(Tryz.prog.info? 134).map (·.size)=some 31:=by kernel_rfl
structure ElAt (w:World) (g o:Nat) (cs:List Value) (num:Nat) (par:Int):Prop where
 rng:w.rangeAt g o cs
 len:cs.length=31
 one:∀ v∈cs,v.oneCell'=true
 c0:cs[0]?=some (.int .i64 num)
 c1:cs[1]?=some (.int .i64 par)
theorem ElAt.size {w:World} {g o:Nat} {cs:List Value} {num:Nat} {par:Int} (h:ElAt w g o cs num par):(Tryz.prog.info? 134).map (·.size)=some cs.length:=by rw [h.len];exact Tryz.size134
theorem ElAt.size' {w:World} {g o:Nat} {cs:List Value} {num:Nat} {par:Int} (h:ElAt w g o cs num par):(Tryz.prog.info? 134).map (·.size)=some cs.toArray.size:=by rw [List.size_toArray];exact h.size
theorem ElAt.same {w:World} {g o:Nat} {cs:List Value} {num:Nat} {par:Int} (h:ElAt w g o cs num par):31=cs.toArray.size:=by rw [List.size_toArray,h.len]
theorem ElAt.all {w:World} {g o:Nat} {cs:List Value} {num:Nat} {par:Int} (h:ElAt w g o cs num par):cs.toArray.all (·.oneCell')=true:=all_oneCell_toArray h.one
def Hu (w:World) (els:List PEl) (n:Int) (e:Ending) (w':World):Prop:=
 Below w.heap.size w w'∧((bU els n=none∧e=.returned (.tuple #[.int .i64 0,.bool false]))∨∃ (i:Nat) (x:PEl),els[i]?=some x∧bU els n=some x∧e=.returned (.tuple #[.int .i64 i,.bool true]))
theorem Mm {els:List PEl} {n:Int} {i:Nat} (hi:i<els.length) (mm:∀ j (hj:j<els.length),j<i→((els[j].num:Int)=n)→False) (h:(els[i].num:Int)=n):bU els n=some els[i]:=by
 unfold bU
 rw [List.find?_eq_some_iff_getElem]
 refine ⟨by simpa using h,i,hi,rfl,fun j hj=>?_⟩
 have:=mm j (by omega) hj
 simpa using this
theorem Kw {els:List PEl} {n:Int} (mm:∀ j (hj:j<els.length),((els[j].num:Int)=n)→False):bU els n=none:=by
 unfold bU
 rw [List.find?_eq_none]
 intro e he
 obtain ⟨j,hj,rfl⟩:=List.getElem_of_mem he
 simpa using mm j hj
set_option maxRecDepth 100000 in
set_option maxHeartbeats 2000000 in
theorem dq (w:World) (b:Nat) (v:Value) (els:List PEl) (n:Int) (hb:w.cell? ⟨b,1,none⟩=some v) (h:PL w v els) (bw:els.length≤24) :
  Calls Tryz.prog 72 #[.pointer (some ⟨b,1,none⟩),.int .i64 n] w fun e w'=>Hu w els n e w':=by
 obtain ⟨a,c,hv⟩:=h.shape
 subst hv
 have HP:Hid (PL w (.slice a els.length c) els):=h
 clear h
 go_enter Tryz.func72,Tryz.ntmps72
 go_wp2_with fail
 go_loopg [13] els.length (fun gk iv wr=>∃ i:Nat,iv=.int .i64 i∧i≤els.length∧els.length - i≤gk∧Hid (Below w.heap.size w wr∧∀ j (hj:j<els.length),j<i→((els[j].num:Int)=n)→False))
 case atStart=>exact ⟨0,rfl,Nat.zero_le _,by omega,Below.refl _ _,fun j hj h=>by omega⟩
 case round=>
  obtain ⟨i,rfl,hi,fK,HN⟩:=hrel
  by_cases aN:i<els.length
  ·have hd:decide ((i:Int)<(els.length:Int))=true:=by simp;omega
   obtain ⟨g,hg,db,hr⟩:=HP.out.at' aN
   subst hg
   obtain ⟨x,hx⟩:∃ x,els[i]=x:=⟨_,rfl⟩
   have HX:Hid (els[i]?=some x):=by unfold Hid;rw [List.getElem?_eq_getElem aN,hx]
   have hxo:x.ok:=hx▸HP.out.ok _ (List.getElem_mem aN)
   have HF:Hid ((x.num:Int)=n→bU els n=some x):=fun h=>by rw [←hx] at h ⊢;exact Mm aN HN.out.2 h
   have jl:Hid (¬ (x.num:Int)=n→∀ j (hj:j<els.length),j<i+1→((els[j].num:Int)=n)→False):=fun hm j hj h1 h2=>by
    by_cases e:j=i
    ·subst e
     rw [hx] at h2
     exact hm h2
    ·exact HN.out.2 j hj (by omega) h2
   have HE:Hid (ElAt wr g (i*31) x.cells x.num x.par):=by rw [←hx];exact ⟨ba HN.out.1 db hr,(HP.out.ok _ (List.getElem_mem aN)).len,(HP.out.ok _ (List.getElem_mem aN)).one,rfl,rfl⟩
   clear hx hr hxo
   generalize x.cells=cs at HE
   have c0:cs[0]?=some (.int .i64 x.num):=HE.out.c0
   have ea:Hid (Below w.heap.size w (wr.alloc (.cells cs.toArray 134))):=HN.out.1.alloc HN.out.1.size _
   by_cases hn:(x.num:Int)=n
   ·have gn:((x.num:Int)==n)=true:=by simp [hn]
    have qT:Hid (bU els n=some x):=HF.out hn
    clear hn
    go_wp2_with (first | (refine wpList_load_mid rfl 134 _ rfl g (i*31) rfl cs _ HE.out.rng Tryz.underlying134 rfl HE.out.size ?_) | (refine aw rfl 134 _ _ rfl _ cs.toArray 134 rfl rfl HE.out.size' HE.out.same HE.out.all ?_))
    go_ret2
    exact ⟨ea.out,Or.inr ⟨i,x,HX.out,qT.out,rfl⟩⟩
   ·have gn:((x.num:Int)==n)=false:=by simp [hn]
    have eL:=jl.out hn
    have nR:Hid (Below w.heap.size w (wr.alloc (.cells cs.toArray 134))∧∀ j (hj:j<els.length),j<i+1→((els[j].num:Int)=n)→False):=⟨ea.out,eL⟩
    clear hn eL
    go_wp2_with (first | (refine wpList_load_mid rfl 134 _ rfl g (i*31) rfl cs _ HE.out.rng Tryz.underlying134 rfl HE.out.size ?_) | (refine aw rfl 134 _ _ rfl _ cs.toArray 134 rfl rfl HE.out.size' HE.out.same HE.out.all ?_))
    go_roundg (els.length - (i+1))
    case measure=>omega
    case rel=>exact ⟨i+1,by go_num,by omega,Nat.le_refl _,nR⟩
  ·have hd:decide ((i:Int)<(els.length:Int))=false:=by simp;omega
   have JD:Hid (bU els n=none):=Kw (fun j hj h=>HN.out.2 j hj (by omega) h)
   go_wp2
   go_ret2
   exact ⟨HN.out.1,Or.inl ⟨JD.out,rfl⟩⟩
end Go.Proofs.YtblfffbmklkhmaaGreat
namespace Go.Proofs.YtblfffbmklkhmaaGreat
open Go.RowKit
theorem PL.el {w:World} {a:Option Addr} {c:Nat} {els:List PEl} (h:PL w (.slice a els.length c) els) {i:Nat} (hi:i<els.length):∃ g,a=some ⟨g,0,none⟩∧g<w.heap.size∧ElAt w g (i*31) els[i].cells els[i].num els[i].par:=by
 obtain ⟨g,hg,db,hr⟩:=h.at' hi
 exact ⟨g,hg,db,hr,(h.ok _ (List.getElem_mem hi)).len,(h.ok _ (List.getElem_mem hi)).one,rfl,rfl⟩
theorem ElAt.below {w wr:World} {ae g o:Nat} {cs:List Value} {num:Nat} {par:Int} (h:ElAt w g o cs num par) (hB:Below ae w wr) (hg:g<ae):ElAt wr g o cs num par:=⟨ba hB hg h.rng,h.len,h.one,h.c0,h.c1⟩
theorem ElAt.cell1 {w:World} {g o:Nat} {cs:List Value} {num:Nat} {par:Int} (h:ElAt w g o cs num par):w.cell? ⟨g,o+1,none⟩=some (.int .i64 par):=h.rng 1 _ h.c1
theorem wV {els:List PEl} {i:Nat} (h:i<els.length) (n:Int):az (els.take (i+1)) n=az (els.take i) n++if els[i].par=n then [els[i].num] else []:=by
 rw [List.take_succ_eq_append_getElem h,dV,nW]
theorem zW (els:List PEl) (n:Int):(az els n).length≤els.length:=by
 unfold az
 rw [List.length_map]
 exact List.length_filter_le _ _
def CD (w:World) (els:List PEl) (par at':Int) (e:Ending) (w':World):Prop:=
 Below w.heap.size w w'∧((∃ place:Nat,e=.returned (.tuple #[.int .i64 place,.bool true])∧place≤els.length∧((az (els.take place) par).length:Int)=at')∨(∃ n:Int,e=.returned (.tuple #[.int .i64 n,.bool false])∧(at'<0∨((az els par).length:Int)<at')))
set_option maxRecDepth 100000 in
set_option maxHeartbeats 2000000 in
theorem sW (w:World) (v:Value) (els:List PEl) (par at':Int) (h:PL w v els) (bw:els.length≤24) :
  Calls Tryz.prog 111 #[v,.int .i64 par,.int .i64 at'] w fun e w'=>CD w els par at' e w':=by
 obtain ⟨a,c,hv⟩:=h.shape
 subst hv
 have HP:Hid (PL w (.slice a els.length c) els):=h
 clear h
 go_enter Tryz.func111,Tryz.ntmps111
 go_wp2_with fail
 go_loopg [8,13] els.length (fun gk av iv wr=>∃ i:Nat,iv=.int .i64 i∧i≤els.length∧els.length - i≤gk∧av=.int .i64 ((az (els.take i) par).length:Nat)∧Hid (Below w.heap.size w wr∧(at'<0∨((az (els.take i) par).length:Int)≤at')))
 case atStart=>exact ⟨0,rfl,Nat.zero_le _,by omega,rfl,Below.refl _ _,by simp [az];omega⟩
 case round=>
  obtain ⟨i,rfl,hi,fK,rfl,HN⟩:=hrel
  have om:(az (els.take i) par).length≤24:=by
   have:=zW (els.take i) par
   have:(els.take i).length≤els.length:=List.length_take_le' _ _
   omega
  by_cases aN:i<els.length
  ·have hd:decide ((i:Int)<(els.length:Int))=true:=by simp;omega
   obtain ⟨g,hg,db,he⟩:=HP.out.el aN
   subst hg
   have I1:Hid (az (els.take (i+1)) par=az (els.take i) par++if els[i].par=par then [els[i].num] else []):=wV aN par
   have HE:Hid (ElAt wr g (i*31) els[i].cells els[i].num els[i].par):=he.below HN.out.1 db
   have HK:Hid (∀ k,(az (els.take i) par).length=k→(k:Int)=at'→((az (els.take i) par).length:Int)=at'):=fun k h1 h2=>by rw [h1];exact h2
   clear he
   generalize els[i]=x at HE I1
   generalize x.cells=cs at HE
   have c1:cs[1]?=some (.int .i64 x.par):=HE.out.c1
   have ea:Hid (Below w.heap.size w (wr.alloc (.cells cs.toArray 134))):=HN.out.1.alloc HN.out.1.size _
   by_cases eg:x.par=par
   ·have gp:(x.par != par)=false:=by simp [eg]
    have DH:Hid (az (els.take (i+1)) par=az (els.take i) par++[x.num]):=by unfold Hid;rw [I1.out,if_pos eg]
    clear eg I1
    by_cases zC:((az (els.take i) par).length:Int)=at'
    ·have y9:Hid (((az (els.take i) par).length:Int)=at'):=zC
     have ga:(((az (els.take i) par).length:Int)==at')=true:=by simp [zC]
     clear zC
     go_wp2_with (first | (refine wpList_load_mid rfl 134 _ rfl g (i*31) rfl cs _ HE.out.rng Tryz.underlying134 rfl HE.out.size ?_) | (refine aw rfl 134 _ _ rfl _ cs.toArray 134 rfl rfl HE.out.size' HE.out.same HE.out.all ?_))
     go_ret2
     exact ⟨ea.out,Or.inl ⟨i,rfl,hi,y9.out⟩⟩
    ·have ga:(((az (els.take i) par).length:Int)==at')=false:=by rw [beq_eq_false_iff_ne];exact zC
     have eL:Hid (Below w.heap.size w (wr.alloc (.cells cs.toArray 134))∧(at'<0∨((az (els.take (i+1)) par).length:Int)≤at')):=by
      refine ⟨ea.out,?_⟩
      rw [DH.out,List.length_append]
      have:=HN.out.2
      simp
      omega
     have Uk:Hid (((az (els.take (i+1)) par).length:Nat)=(az (els.take i) par).length+1):=by unfold Hid;rw [DH.out];simp
     clear zC
     generalize (az (els.take i) par).length=n0 at om ga Uk ⊢
     go_wp2_with (first | (refine wpList_load_mid rfl 134 _ rfl g (i*31) rfl cs _ HE.out.rng Tryz.underlying134 rfl HE.out.size ?_) | (refine aw rfl 134 _ _ rfl _ cs.toArray 134 rfl rfl HE.out.size' HE.out.same HE.out.all ?_))
     go_roundg (els.length - (i+1))
     case measure=>omega
     case rel=>exact ⟨i+1,by go_num,by omega,Nat.le_refl _,by rw [Uk.out];go_num,eL⟩
   ·have gp:(x.par != par)=true:=by simp [eg]
    have DH:Hid (az (els.take (i+1)) par=az (els.take i) par):=by unfold Hid;rw [I1.out,if_neg eg,List.append_nil]
    have eL:Hid (Below w.heap.size w (wr.alloc (.cells cs.toArray 134))∧(at'<0∨((az (els.take (i+1)) par).length:Int)≤at')):=⟨ea.out,by rw [DH.out];exact HN.out.2⟩
    clear eg I1
    go_wp2_with (first | (refine wpList_load_mid rfl 134 _ rfl g (i*31) rfl cs _ HE.out.rng Tryz.underlying134 rfl HE.out.size ?_) | (refine aw rfl 134 _ _ rfl _ cs.toArray 134 rfl rfl HE.out.size' HE.out.same HE.out.all ?_))
    go_roundg (els.length - (i+1))
    case measure=>omega
    case rel=>exact ⟨i+1,by go_num,by omega,Nat.le_refl _,by rw [DH.out],eL⟩
  ·have hd:decide ((i:Int)<(els.length:Int))=false:=by simp;omega
   obtain rfl:i=els.length:=by omega
   rw [List.take_length] at HN om ⊢
   by_cases zC:((az els par).length:Int)=at'
   ·have y9:Hid (((az els par).length:Int)=at'):=zC
    have ga:(((az els par).length:Int)==at')=true:=by simp [zC]
    clear zC
    go_wp2
    go_ret2
    refine ⟨HN.out.1,Or.inl ⟨els.length,rfl,Nat.le_refl _,?_⟩⟩
    rw [List.take_length]
    exact y9.out
   ·have ga:(((az els par).length:Int)==at')=false:=by rw [beq_eq_false_iff_ne];exact zC
    have y9:Hid (¬ ((az els par).length:Int)=at'):=zC
    clear zC
    go_wp2
    go_ret2
    refine ⟨HN.out.1,Or.inr ⟨_,rfl,?_⟩⟩
    have:=HN.out.2
    have:=y9.out
    omega
set_option maxRecDepth 100000 in
set_option maxHeartbeats 2000000 in
theorem gI (w:World) (b:Nat) (v:Value) (els:List PEl) (n:Int) (hb:w.cell? ⟨b,1,none⟩=some v) (h:PL w v els) (bw:els.length≤24) :
  Calls Tryz.prog 126 #[.pointer (some ⟨b,1,none⟩),.int .i64 n] w fun e w'=>e=.returned (.int .i64 (parP els n))∧Below w.heap.size w w':=by
 obtain ⟨a,c,hv⟩:=h.shape
 subst hv
 have HP:Hid (PL w (.slice a els.length c) els):=h
 have jI:b<w.heap.size:=World.block_lt_of_cell? w _ hb
 clear h
 go_enter Tryz.func126,Tryz.ntmps126
 go_wp2_with fail
 refine (dq w b _ els n hb HP.out bw).mono ?_
 rintro e w1 ⟨hB,⟨hf,rfl⟩ | ⟨i,x,hx,hf,rfl⟩⟩
 ·have HE:Hid (parP els n=-1):=by unfold Hid parP;rw [hf]
  clear hf
  go_wp2
  go_ret
  rw [HE.out]
  exact ⟨rfl,hB⟩
 ·have HE:Hid (parP els n=x.par):=by unfold Hid parP;rw [hf]
  have hi:i<els.length:=(List.getElem?_eq_some_iff.1 hx).1
  have mZ:els[i]=x:=(List.getElem?_eq_some_iff.1 hx).2
  obtain ⟨g,hg,db,he⟩:=HP.out.el hi
  subst hg
  have q1:=(he.below hB db).cell1
  rw [mZ] at q1
  have oF:w1.cell? ⟨b,1,none⟩=some (.slice (some ⟨g,0,none⟩) els.length c):=(hB.cell (p:=⟨b,1,none⟩) jI).trans hb
  have jC:(i:Int)<(els.length:Int):=by omega
  clear hx hf mZ he
  go_wp2
  go_ret
  rw [HE.out]
  exact ⟨rfl,hB⟩
def upP (els:List PEl):Nat→Int→Int
 | 0,n=>n
 | k+1,n=>parP els (upP els k n)
theorem PT.upP {els:List PEl} {T:aA} {made:Nat} (h:PT els T) (hw:TW T made) (n:Int):∀ k,upP els k n=jm T k n
 | 0=>rfl
 | k+1=>by
  rw [zh T n k 1]
  show Go.Proofs.YtblfffbmklkhmaaGreat.parP els (Go.Proofs.YtblfffbmklkhmaaGreat.upP els k n)=aU T (jm T k n)
  rw [PT.upP h hw n k,h.parP hw]
def BL (w:World) (els:List PEl) (n top:Int) (e:Ending) (w':World):Prop:=
 Below w.heap.size w w'∧∃ r:Bool,e=.returned (.bool r)∧(r=true↔∃ k,k<els.length∧upP els k n=top)
set_option maxRecDepth 100000 in
set_option maxHeartbeats 2000000 in
theorem nC (w:World) (b:Nat) (v:Value) (els:List PEl) (n top:Int) (hb:w.cell? ⟨b,1,none⟩=some v) (h:PL w v els) (bw:els.length≤24) :
  Calls Tryz.prog 120 #[.pointer (some ⟨b,1,none⟩),.int .i64 n,.int .i64 top] w fun e w'=>BL w els n top e w':=by
 obtain ⟨a,c,hv⟩:=h.shape
 subst hv
 have HP:Hid (PL w (.slice a els.length c) els):=h
 have jI:b<w.heap.size:=World.block_lt_of_cell? w _ hb
 have ow:Hid (w.cell? ⟨b,1,none⟩=some (.slice a els.length c)):=hb
 clear h
 go_enter Tryz.func120,Tryz.ntmps120
 go_wp2_with fail
 go_loopg [1,12] els.length (fun gk nv iv wr=>∃ i:Nat,iv=.int .i64 i∧i≤els.length∧els.length - i≤gk∧nv=.int .i64 (upP els i n)∧Hid (Below w.heap.size w wr∧∀ k,k<i→upP els k n≠top))
 case atStart=>exact ⟨0,rfl,Nat.zero_le _,by omega,rfl,Below.refl _ _,fun k hk=>by omega⟩
 case round=>
  obtain ⟨i,rfl,hi,fK,rfl,HN⟩:=hrel
  by_cases aN:i<els.length
  ·have hd:decide ((i:Int)<(els.length:Int))=true:=by simp;omega
   by_cases ht:upP els i n=top
   ·have HE:Hid (∃ k,k<els.length∧upP els k n=top):=⟨i,aN,ht⟩
    have gt:(upP els i n==top)=true:=by simp [ht]
    clear ht
    go_wp2
    go_ret
    exact ⟨HN.out.1,true,rfl,fun _=>HE.out,fun _=>rfl⟩
   ·have gt:(upP els i n==top)=false:=by simp [ht]
    have eL:Hid (∀ k,k<i+1→upP els k n≠top):=fun k hk=>by
     by_cases e:k=i
     ·rw [e];exact ht
     ·exact HN.out.2 k (by omega)
    have HU:Hid (upP els (i+1) n=parP els (upP els i n)):=rfl
    clear ht
    generalize upP els i n=m at gt HU ⊢
    have hbr:wr.cell? ⟨b,1,none⟩=some (.slice a els.length c):=(HN.out.1.cell (p:=⟨b,1,none⟩) jI).trans ow.out
    have HPr:Hid (PL wr (.slice a els.length c) els):=⟨aQ HP.out.row HN.out.1,HP.out.ok⟩
    go_wp2_with fail
    refine (gI wr b _ els m hbr HPr.out bw).mono ?_
    rintro e w1 ⟨rfl,hB⟩
    have nR:Hid (Below w.heap.size w w1∧∀ k,k<i+1→upP els k n≠top):=⟨HN.out.1.trans (hB.mono HN.out.1.size),eL.out⟩
    clear hB hbr
    go_wp2
    go_roundg (els.length - (i+1))
    case measure=>omega
    case rel=>exact ⟨i+1,by go_num,by omega,Nat.le_refl _,by rw [HU.out],nR⟩
  ·have hd:decide ((i:Int)<(els.length:Int))=false:=by simp;omega
   go_wp2
   go_ret
   refine ⟨HN.out.1,false,rfl,fun h=>(by cases h),fun ⟨k,hk,iU⟩=>absurd iU (HN.out.2 k (by omega))⟩
end Go.Proofs.YtblfffbmklkhmaaGreat
