import Derived.Test.YtblfffbmklkhmaaGreatSt10
import Derived.Test.YtblfffbmklkhmaaGreatSt9
import Derived.Laws.AppendOwnNone
namespace Go.Proofs.YtblfffbmklkhmaaGreat
open Go.RowKit
structure REl where
 blk:Nat
 num:Nat
 kids:List Nat
 kd:ByteArray
 cl:ByteArray
 nm:ByteArray
 ks:Value
 sh:Bool
def REl.cells (e:REl):Array Value:=#[.int .i64 e.num,.string e.kd,.string e.cl,.string e.nm,e.ks,.bool e.sh]
structure RD (w:World) (d:Nat) (els:List REl) (made:Nat) (hp:Option Addr) (vT:Value) (aR:Bool) (vL:Value):Prop where
 doc:w.heap[d]?=some (.cells #[.pointer hp,vL,.int .i64 made,vT,.bool aR] 121 (0,0))
 row:w.ownsRow 0 171 1 vL els.length (els.map fun e=>.pointer (some ⟨e.blk,0,none⟩))
 el:∀ e∈els,w.heap[e.blk]?=some (.cells e.cells 176 (0,0))
 kid:∀ e∈els,w.ownsRow 0 3 1 e.ks e.kids.length (e.kids.map fun k:Nat=>.int .i64 (k:Int))
 few:els.length≤24
 kfew:∀ e∈els,e.kids.length≤24
theorem RD.c1 {w:World} {d:Nat} {els:List REl} {made:Nat} {hp:Option Addr} {vT:Value} {aR:Bool} {vL:Value} (h:RD w d els made hp vT aR vL):w.cell? ⟨d,1,none⟩=some vL:=aa h.doc rfl
theorem RD.shape {w:World} {d:Nat} {els:List REl} {made:Nat} {hp:Option Addr} {vT:Value} {aR:Bool} {vL:Value} (h:RD w d els made hp vT aR vL):∃ a c,vL=.slice a els.length c:=au h.row
theorem RD.at' {w:World} {d:Nat} {els:List REl} {made:Nat} {hp:Option Addr} {vT:Value} {aR:Bool} {a:Option Addr} {c:Nat} (h:RD w d els made hp vT aR (.slice a els.length c)) {i:Nat} (hi:i<els.length) :
  ∃ g,a=some ⟨g,0,none⟩∧w.cell? ⟨g,i,none⟩=some (.pointer (some ⟨els[i].blk,0,none⟩)):=by
 obtain ⟨g,hg,_,hc⟩:=aH h.row (by omega)
 exact ⟨g,hg,hc i _ (by simp [hi])⟩
theorem ep {w:World} {e:REl} (h:w.heap[e.blk]?=some (.cells e.cells 176 (0,0))):w.cell? ⟨e.blk,0,none⟩=some (.int .i64 e.num)∧w.cell? ⟨e.blk,4,none⟩=some e.ks:=⟨aa h rfl,aa h rfl⟩
def aZ (els:List REl) (n:Int):Option REl:=els.find? fun e=>decide ((e.num:Int)=n)
def ey (o:Option REl):Value:=.pointer (o.map fun e=>⟨e.blk,0,none⟩)
theorem GA {els:List REl} {n:Int} {i:Nat} (hi:i<els.length) (mm:∀ j (hj:j<els.length),j<i→((els[j].num:Int)=n)→False) (h:(els[i].num:Int)=n):aZ els n=some els[i]:=by
 unfold aZ
 rw [List.find?_eq_some_iff_getElem]
 refine ⟨by simpa using h,i,hi,rfl,fun j hj=>?_⟩
 have:=mm j (by omega) hj
 simpa using this
theorem find_none {els:List REl} {n:Int} (mm:∀ j (hj:j<els.length),((els[j].num:Int)=n)→False):aZ els n=none:=by
 unfold aZ
 rw [List.find?_eq_none]
 intro e he
 obtain ⟨j,hj,rfl⟩:=List.getElem_of_mem he
 simpa using mm j hj
set_option maxRecDepth 100000 in
set_option maxHeartbeats 2000000 in
theorem eb (w:World) (d:Nat) (els:List REl) (made:Nat) (hp:Option Addr) (vT:Value) (aR:Bool) (vL:Value) (n:Int) (h:RD w d els made hp vT aR vL) :
  Calls Tryz.prog 92 #[.pointer (some ⟨d,0,none⟩),.int .i64 n] w fun e w'=>e=.returned (ey (aZ els n))∧w'=w:=by
 obtain ⟨a,c,hv⟩:=h.shape
 subst hv
 have d1:=h.c1
 have bw:=h.few
 have HR:Hid (RD w d els made hp vT aR (.slice a els.length c)):=h
 clear h
 go_enter Tryz.func92,Tryz.ntmps92
 go_wp2
 go_loop [5] (fun iv=>∃ i:Nat,iv=.int .i64 i∧i≤els.length∧Hid (∀ j (hj:j<els.length),j<i→((els[j].num:Int)=n)→False)) (fun iv=>els.length - (intOf iv).toNat)
 case atStart=>exact ⟨0,rfl,Nat.zero_le _,fun j hj h=>by omega⟩
 case round=>
  obtain ⟨i,rfl,hi,HN⟩:=hrel
  by_cases aN:i<els.length
  ·have hd:decide ((i:Int)<(els.length:Int))=true:=by simp;omega
   obtain ⟨g,hg,q1⟩:=HR.out.at' aN
   subst hg
   obtain ⟨q2,_⟩:=ep (HR.out.el els[i] (List.getElem_mem aN))
   have HF:Hid ((els[i].num:Int)=n→aZ els n=some els[i]):=GA aN HN.out
   have HG:Hid (∀ x,els[i]=x→els[i]=x):=fun _ h=>h
   obtain ⟨x,hx⟩:∃ x,els[i]=x:=⟨_,rfl⟩
   have HX:Hid (els[i]=x):=hx
   rw [hx] at q1 q2
   have qT:Hid ((x.num:Int)=n→aZ els n=some x):=by rw [←hx];exact HF.out
   clear hx HG HF
   by_cases hn:(x.num:Int)=n
   ·have gn:((x.num:Int)==n)=true:=by simp [hn]
    have HE:=qT.out hn
    have JD:Hid (aZ els n=some x):=HE
    clear hn HE qT
    go_wp2
    go_ret
    rw [JD.out]
    exact ⟨rfl,rfl⟩
   ·have gn:((x.num:Int)==n)=false:=by simp [hn]
    have eL:Hid (∀ j (hj:j<els.length),j<i+1→((els[j].num:Int)=n)→False):=fun j hj h1 h2=>by
     by_cases e:j=i
     ·subst e
      rw [HX.out] at h2
      exact hn h2
     ·exact HN.out j hj (by omega) h2
    clear hn qT
    go_wp2
    go_round
    case rel=>exact ⟨i+1,by go_num,by omega,eL⟩
    case measure=>simp [intOf];omega
  ·have hd:decide ((i:Int)<(els.length:Int))=false:=by simp;omega
   have JD:Hid (aZ els n=none):=find_none (fun j hj h=>HN.out j hj (by omega) h)
   go_wp2
   go_ret
   rw [JD.out]
   exact ⟨rfl,rfl⟩
end Go.Proofs.YtblfffbmklkhmaaGreat
namespace Go.Proofs.YtblfffbmklkhmaaGreat
open Go.RowKit
def ig (e:REl) (n:Int):Bool:=e.kids.any fun k=>decide ((k:Int)=n)
def Cq (els:List REl) (n:Int):Option REl:=els.find? fun e=>ig e n
def aJ (els:List REl) (n:Int):Int:=match Cq els n with | some e=>e.num | none=>-1
theorem jZ {e:REl} {n:Int}:ig e n=true↔∃ k∈e.kids,(k:Int)=n:=by simp [ig]
theorem Qb {e:REl} {n:Int} {j:Nat} (hj:j<e.kids.length) (h:((e.kids[j]:Nat):Int)=n):ig e n=true:=jZ.2 ⟨_,List.getElem_mem hj,h⟩
theorem Rm {e:REl} {n:Int} (h:∀ j (hj:j<e.kids.length),((e.kids[j]:Nat):Int)=n→False):ig e n=false:=by
 cases hk:ig e n with
 | false=>rfl
 | true=>
  obtain ⟨k,vE,iU⟩:=jZ.1 hk
  obtain ⟨j,hj,rfl⟩:=List.getElem_of_mem vE
  exact (h j hj iU).elim
theorem LY {els:List REl} {n:Int} {i:Nat} (hi:i<els.length) (mm:∀ j (hj:j<els.length),j<i→ig els[j] n=false) (h:ig els[i] n=true):aJ els n=els[i].num:=by
 have:Cq els n=some els[i]:=by
  unfold Cq
  rw [List.find?_eq_some_iff_getElem]
  exact ⟨h,i,hi,rfl,fun j hj=>by simpa using mm j (by omega) hj⟩
 unfold aJ
 rw [this]
theorem Kt {els:List REl} {n:Int} (mm:∀ j (hj:j<els.length),ig els[j] n=false):aJ els n=-1:=by
 have:Cq els n=none:=by
  unfold Cq
  rw [List.find?_eq_none]
  intro e he
  obtain ⟨j,hj,rfl⟩:=List.getElem_of_mem he
  simpa using mm j hj
 unfold aJ
 rw [this]
set_option maxRecDepth 100000 in
set_option maxHeartbeats 4000000 in
theorem eQ (w:World) (d:Nat) (els:List REl) (made:Nat) (hp:Option Addr) (vT:Value) (aR:Bool) (vL:Value) (n:Int) (h:RD w d els made hp vT aR vL) :
  Calls Tryz.prog 97 #[.pointer (some ⟨d,0,none⟩),.int .i64 n] w fun e w'=>e=.returned (.int .i64 (aJ els n))∧w'=w:=by
 obtain ⟨a,c,hv⟩:=h.shape
 subst hv
 have d1:=h.c1
 have bw:=h.few
 have HR:Hid (RD w d els made hp vT aR (.slice a els.length c)):=h
 clear h
 go_enter Tryz.func97,Tryz.ntmps97
 go_wp2
 go_loop [5] (fun iv=>∃ i:Nat,iv=.int .i64 i∧i≤els.length∧Hid (∀ j (hj:j<els.length),j<i→ig els[j] n=false)) (fun iv=>els.length - (intOf iv).toNat)
 case atStart=>exact ⟨0,rfl,Nat.zero_le _,fun j hj h=>by omega⟩
 case round=>
  obtain ⟨i,rfl,hi,HN⟩:=hrel
  by_cases aN:i<els.length
  ·have hd:decide ((i:Int)<(els.length:Int))=true:=by simp;omega
   obtain ⟨g,hg,q1⟩:=HR.out.at' aN
   subst hg
   obtain ⟨q2,q3⟩:=ep (HR.out.el els[i] (List.getElem_mem aN))
   have hk:=HR.out.kid els[i] (List.getElem_mem aN)
   have hkf:=HR.out.kfew els[i] (List.getElem_mem aN)
   obtain ⟨x,hx⟩:∃ x,els[i]=x:=⟨_,rfl⟩
   have HX:Hid (els[i]=x):=hx
   rw [hx] at q1 q2 q3 hk hkf
   obtain ⟨ka,kc,qj⟩:=au hk
   rw [qj] at q3 hk
   have HK:Hid (w.ownsRow 0 3 1 (.slice ka x.kids.length kc) x.kids.length (x.kids.map fun k:Nat=>.int .i64 (k:Int))):=hk
   clear hx hk qj
   go_wp2
   go_loop [6] (fun jv=>∃ j:Nat,jv=.int .i64 j∧j≤x.kids.length∧Hid (∀ t (ht:t<x.kids.length),t<j→((x.kids[t]:Nat):Int)=n→False)) (fun jv=>x.kids.length - (intOf jv).toNat)
   case atStart=>exact ⟨0,rfl,Nat.zero_le _,fun t ht h=>by omega⟩
   case round=>
    obtain ⟨j,rfl,hj,HJ⟩:=hrel
    by_cases Il:j<x.kids.length
    ·have iL:decide ((j:Int)<(x.kids.length:Int))=true:=by simp;omega
     obtain ⟨g2,hJ,_,yI⟩:=aH HK.out (by omega)
     subst hJ
     have q4:=yI j (.int .i64 ((x.kids[j]:Nat):Int)) (by simp [Il])
     by_cases hn:((x.kids[j]:Nat):Int)=n
     ·have HE:Hid (aJ els n=x.num):=by
       unfold Hid
       rw [←HX.out]
       exact LY aN HN.out (by rw [HX.out];exact Qb Il hn)
      have gn:(((x.kids[j]:Nat):Int)==n)=true:=by simp [hn]
      clear hn yI
      go_wp2
      go_ret
      rw [HE.out]
      exact ⟨rfl,rfl⟩
     ·have gn:(((x.kids[j]:Nat):Int)==n)=false:=by simp [hn]
      have rW:Hid (∀ t (ht:t<x.kids.length),t<j+1→((x.kids[t]:Nat):Int)=n→False):=fun t ht h1 h2=>by
       by_cases e:t=j
       ·subst e;exact hn h2
       ·exact HJ.out t ht (by omega) h2
      clear hn yI
      go_wp2
      go_round
      case rel=>exact ⟨j+1,by go_num,by omega,rW⟩
      case measure=>simp [intOf];omega
    ·have iL:decide ((j:Int)<(x.kids.length:Int))=false:=by simp;omega
     have eL:Hid (∀ t (ht:t<els.length),t<i+1→ig els[t] n=false):=fun t ht h1=>by
      by_cases e:t=i
      ·subst e
       rw [HX.out]
       exact Rm (fun u hu h=>HJ.out u hu (by omega) h)
      ·exact HN.out t ht (by omega)
     go_wp2
     go_round
     case rel=>exact ⟨i+1,by go_num,by omega,eL⟩
     case measure=>simp [intOf];omega
  ·have hd:decide ((i:Int)<(els.length:Int))=false:=by simp;omega
   have HE:Hid (aJ els n=-1):=Kt (fun j hj=>HN.out j hj (by omega))
   go_wp2
   go_ret
   rw [HE.out]
   exact ⟨rfl,rfl⟩
def up (els:List REl):Nat→Int→Int
 | 0,n=>n
 | k+1,n=>up els k (aJ els n)
def lM (els:List REl) (rk:Nat→Nat):Prop:=∀ e∈els,∀ k∈e.kids,rk e.num<rk k
def mg (els:List REl) (a n:Int):Prop:=0≤a∧∃ k,up els k n=a
theorem Em (els:List REl) (n:Int):∀ (t k:Nat),up els (t+k) n=up els k (up els t n)
 | 0,k=>by rw [Nat.zero_add];rfl
 | t+1,k=>by
  rw [show t+1+k=(t+k)+1 from by omega]
  exact Em els (aJ els n) t k
theorem Nm {els:List REl} {n:Int} {t:Nat}:up els (t+1) n=aJ els (up els t n):=by rw [Em];rfl
def Hg (els:List REl) (a n:Int) (w:World) (e:Ending) (w':World):Prop:=∃ b:Bool,e=.returned (.bool b)∧w'=w∧Hid (b=true↔mg els a n)
theorem nY (els:List REl) (n:Int):aJ els n=-1∨∃ e∈els,ig e n=true∧aJ els n=e.num:=by
 unfold aJ
 cases h:Cq els n with
 | none=>exact Or.inl rfl
 | some e=>exact Or.inr ⟨e,List.mem_of_find?_eq_some h,List.find?_some (p:=fun e=>ig e n) h,rfl⟩
theorem Qk {els:List REl} {n:Int} (hn:n<0):∀ k,up els k n<0:=by
 have hp:aJ els n=-1:=by
  rcases nY els n with h | ⟨e,_,h,_⟩
  ·exact h
  ·obtain ⟨k,_,hk⟩:=jZ.1 h
   omega
 intro k
 cases k with
 | zero=>exact hn
 | succ k=>
  show up els k (aJ els n)<0
  rw [hp]
  clear hp
  have Xq:aJ els (-1)=-1:=by
   rcases nY els (-1) with h | ⟨e,_,h,_⟩
   ·exact h
   ·obtain ⟨k,_,hk⟩:=jZ.1 h
    omega
  induction k with
  | zero=>show (-1:Int)<0;omega
  | succ k ih=>show up els k (aJ els (-1))<0;rw [Xq];exact ih
set_option maxRecDepth 100000 in
set_option maxHeartbeats 2000000 in
theorem nQ (w:World) (d:Nat) (els:List REl) (made:Nat) (hp:Option Addr) (vT:Value) (aR:Bool) (vL:Value) (a n:Int) (h:RD w d els made hp vT aR vL) (rk:Nat→Nat) (hr:lM els rk) :
  Calls Tryz.prog 173 #[.pointer (some ⟨d,0,none⟩),.int .i64 a,.int .i64 n] w fun e w'=>Hg els a n w e w':=by
 have HR:Hid (RD w d els made hp vT aR vL):=h
 have HK:Hid (lM els rk):=hr
 clear h hr
 go_enter Tryz.func173,Tryz.ntmps173
 go_wp2_with fail
 go_loopg [7] (rk n.toNat+1) (fun gk nv wr=>∃ m:Int,nv=.int .i64 m∧wr=w∧(0≤m→rk m.toNat<gk)∧Hid (∃ t,up els t n=m∧∀ j,j<t→up els j n≠a))
 case atStart=>exact ⟨n,rfl,rfl,fun _=>by omega,⟨0,rfl,fun j hj=>by omega⟩⟩
 case round=>
  obtain ⟨m,rfl,rfl,fK,HT⟩:=hrel
  by_cases hm:0≤m
  ·have hd:decide (0≤m)=true:=by simpa using hm
   have UI:=fK hm
   clear fK
   by_cases he:m=a
   ·have ge:(m==a)=true:=by simp [he]
    have HU:Hid (mg els a n):=by
     obtain ⟨t,h1,_⟩:=HT.out
     exact ⟨by omega,t,by omega⟩
    clear he
    go_wp2
    go_ret
    exact ⟨true,rfl,rfl,fun _=>HU.out,fun _=>rfl⟩
   ·have ge:(m==a)=false:=by simp [he]
    have n8:Hid (∃ t,up els t n=aJ els m∧∀ j,j<t→up els j n≠a):=by
     obtain ⟨t,h1,h2⟩:=HT.out
     refine ⟨t+1,by rw [Nm,h1],fun j hj=>?_⟩
     by_cases e:j=t
     ·subst e;rw [h1];exact he
     ·exact h2 j (by omega)
    have fp:0≤aJ els m→rk (aJ els m).toNat<rk m.toNat:=by
     intro h0
     rcases nY els m with h | ⟨e,h1,h2,h3⟩
     ·omega
     ·obtain ⟨k,vE,iU⟩:=jZ.1 h2
      rw [h3]
      have:=HK.out e h1 k vE
      have e1:((e.num:Int)).toNat=e.num:=by omega
      have e2:m.toNat=k:=by omega
      rw [e1,e2]
      exact this
    have qm:Hid (0≤aJ els m→rk (aJ els m).toNat<rk m.toNat):=fp
    clear he fp
    go_wp2_with fail
    refine (eQ _ d els made hp vT aR vL m HR.out).mono ?_
    rintro e w2 ⟨rfl,rfl⟩
    generalize aJ els m=m2 at n8 qm
    go_wp2
    go_roundg (rk m.toNat)
    case measure=>omega
    case rel=>exact ⟨m2,rfl,rfl,qm.out,n8⟩
  ·have hd:decide (0≤m)=false:=by simpa using hm
   have HU:Hid (¬ mg els a n):=by
    obtain ⟨t,h1,h2⟩:=HT.out
    rintro ⟨ha,k,hk⟩
    by_cases e:k<t
    ·exact h2 k e hk
    ·have:up els k n=up els (k - t) m:=by rw [←h1,←Em,show t+(k - t)=k from by omega]
     rw [this] at hk
     have:=Qk (els:=els) (n:=m) (by omega) (k - t)
     omega
   go_wp2
   go_ret
   exact ⟨false,rfl,rfl,fun h=>(by cases h),fun h=>(HU.out h).elim⟩
end Go.Proofs.YtblfffbmklkhmaaGreat
namespace Go.Proofs.YtblfffbmklkhmaaGreat
open Go.RowKit
theorem Tryz.info3:(Tryz.prog.info? 3).map (fun i=>(i.zero,i.size,i.bytes))=some (some (.int .i64 0),1,8):=by kernel_rfl
def ax (s:ByteArray):Bool:=decide (s.size=1)&&fl (bt s 0)
set_option maxHeartbeats 1000000 in
theorem lT (w:World) (s:ByteArray):Calls Tryz.prog 137 #[.string s] w fun e w'=>e=.returned (.bool (ax s))∧w'=w:=by
 by_cases h1:s.size=1
 ·have g1:((s.size:Int)==1)=true:=by simp [h1]
  have h0:0<s.size:=by omega
  have hb:(bt s 0:Int)=(s[0].toNat:Int):=by rw [bq s 0 h0]
  by_cases h2:(97:Int)≤bt s 0
  ·by_cases h3:(bt s 0:Int)≤122
   ·have HR:Hid (ax s=true):=by unfold Hid ax fl;simp only [h1,decide_true,Bool.true_and,decide_eq_true_eq];omega
    rw [hb] at h2 h3
    clear hb h1
    go_enter Tryz.func137,Tryz.ntmps137
    go_wp2
    go_ret
    rw [HR.out]
    exact ⟨by simp,rfl⟩
   ·have HR:Hid (ax s=false):=by unfold Hid ax fl;simp only [h1,decide_true,Bool.true_and,decide_eq_false_iff_not];omega
    rw [hb] at h2 h3
    have hd:decide ((s[0].toNat:Int)≤122)=false:=by simpa using h3
    clear hb h1
    go_enter Tryz.func137,Tryz.ntmps137
    go_wp2
    go_ret
    rw [HR.out]
    exact ⟨by simp,rfl⟩
  ·have HR:Hid (ax s=false):=by unfold Hid ax fl;simp only [h1,decide_true,Bool.true_and,decide_eq_false_iff_not];omega
   rw [hb] at h2
   have hd:decide ((97:Int)≤(s[0].toNat:Int))=false:=by simpa using h2
   clear hb h1
   go_enter Tryz.func137,Tryz.ntmps137
   go_wp2
   go_ret
   rw [HR.out]
   exact ⟨by simp,rfl⟩
 ·have g1:((s.size:Int)==1)=false:=by simp;omega
  have HR:Hid (ax s=false):=by unfold Hid ax;simp only [h1,decide_false,Bool.false_and]
  clear h1
  go_enter Tryz.func137,Tryz.ntmps137
  go_wp2
  go_ret
  rw [HR.out]
  exact ⟨by simp,rfl⟩
abbrev aK (l:List Nat):List Value:=l.map fun k:Nat=>.int .i64 (k:Int)
theorem uS (l:List Nat):∀ u∈aK l,u.oneCell'=true:=by
 intro u hu
 obtain ⟨k,_,rfl⟩:=List.mem_map.1 hu
 rfl
def uR (w:World) (l:List Nat) (e:Ending) (w':World):Prop:=∃ (a:Option Addr) (c:Nat),e=.returned (.slice a l.length c)∧w'.ownsRow w.heap.size 3 1 (.slice a l.length c) l.length (aK l)∧Below w.heap.size w w'
def af (n:Int) (l:List Nat):List Nat:=l.filter fun k:Nat=>decide ((k:Int)≠n)
theorem rz {l:List Nat} {i:Nat} (h:i<l.length) (n:Int):af n (l.take (i+1))=af n (l.take i)++if ((l[i]:Nat):Int)=n then [] else [l[i]]:=by
 unfold af
 rw [List.take_succ_eq_append_getElem h,List.filter_append]
 congr 1
 by_cases e:((l[i]:Nat):Int)=n<;>simp [e]
theorem jR (n:Int) (l:List Nat):(af n l).length≤l.length:=List.length_filter_le _ _
set_option maxRecDepth 100000 in
set_option maxHeartbeats 2000000 in
theorem uo (w:World) (a:Option Addr) (c:Nat) (l:List Nat) (n:Int) (ae:Nat) (ho:w.ownsRow ae 3 1 (.slice a l.length c) l.length (aK l)) (hl:l.length≤24) :
  Calls Tryz.prog 174 #[.slice a l.length c,.int .i64 n] w fun e w'=>uR w (af n l) e w':=by
 obtain ⟨i0,hi,gx,gw,gB⟩:=info_parts Tryz.info3
 have HO:Hid (w.ownsRow ae 3 1 (.slice a l.length c) l.length (aK l)):=ho
 clear ho
 go_enter Tryz.func174,Tryz.ntmps174
 go_wp2_with fail
 go_loopg [5,6] l.length (fun gk v iv wr=>∃ i:Nat,iv=.int .i64 i∧i≤l.length∧l.length - i≤gk∧wr.ownsRow w.heap.size 3 1 v (af n (l.take i)).length (aK (af n (l.take i)))∧Below w.heap.size w wr)
 case atStart=>exact ⟨0,rfl,Nat.zero_le _,by omega,World.ownsRow_nil _ _ _ _,Below.refl _ _⟩
 case round=>
  obtain ⟨i,rfl,jC,fK,bL,hB⟩:=hrel
  obtain ⟨a2,c2,hv⟩:=au bL
  subst hv
  by_cases aN:i<l.length
  ·have hd:decide ((i:Int)<(l.length:Int))=true:=by simp;omega
   obtain ⟨g,hg,db,hc⟩:=aH HO.out (by omega)
   subst hg
   have q:=(hB.cell (p:=⟨g,i,none⟩) db).trans (hc i (.int .i64 ((l[i]:Nat):Int)) (by simp [aN]))
   have rt:(af n (l.take i)).length≤24:=by
    have:=jR n (l.take i)
    have:(l.take i).length≤l.length:=List.length_take_le' _ _
    omega
   have HT:Hid (af n (l.take (i+1))=af n (l.take i)++if ((l[i]:Nat):Int)=n then [] else [l[i]]):=rz aN n
   clear hc
   generalize af n (l.take i)=f at bL rt HT
   generalize l[i]=y at q HT
   by_cases hn:(y:Int)=n
   ·have gn:((y:Int) != n)=false:=by simp [hn]
    have n8:Hid (af n (l.take (i+1))=f):=by unfold Hid;rw [HT.out,if_pos hn];simp
    have HW:Hid (wr.ownsRow w.heap.size 3 1 (.slice a2 f.length c2) f.length (aK f)):=bL
    clear hn HT bL
    go_wp2
    go_roundg (l.length - (i+1))
    case measure=>omega
    case rel=>exact ⟨i+1,by go_num,by omega,Nat.le_refl _,by rw [n8.out];exact HW.out,hB⟩
   ·have gn:((y:Int) != n)=true:=by simp [hn]
    have n8:Hid (af n (l.take (i+1))=f++[y]):=by unfold Hid;rw [HT.out,if_neg hn]
    have hz:=hB.size
    clear hn HT
    go_wp2_with (at_builtin;refine wpList_append_own _ rfl (.tmp 19) (.tmp 24) 40 rfl w.heap.size 3 i0 (.int .i64 0) 1 8 Tryz.underlying40 hi gx gw gB rfl (by decide) _ _ _ rfl (bL.alloc _) ⟨wr.heap.size,0,none⟩ 1 1 [.int .i64 (y:Int)] rfl rfl ?c1 ?c2 ?c3 ?c4 ?c5 ?_)
    case c1=>exact aO wr _ rfl _ _ _ rfl
    case c2=>intro u hu;simp at hu;subst hu;rfl
    case c3=>unfold maxLen;omega
    case c4=>omega
    case c5=>simp;omega
    ·intro v' w3 bB eJ _
     have bg:w3.ownsRow w.heap.size 3 1 v' (f++[y]).length (aK (f++[y])):=by simpa [aK] using bB
     have eS:Below w.heap.size w w3:=(hB.alloc hz _).grown eJ (by simp;omega) (fun k hk=>(bL.lt k hk).1)
     clear bB eJ bL q
     go_wp2
     go_roundg (l.length - (i+1))
     case measure=>omega
     case rel=>exact ⟨i+1,by go_num,by omega,Nat.le_refl _,by rw [n8.out];exact bg,eS⟩
  ·have hd:decide ((i:Int)<(l.length:Int))=false:=by simp;omega
   obtain rfl:i=l.length:=by omega
   rw [List.take_length] at bL
   have HW:Hid (wr.ownsRow w.heap.size 3 1 (.slice a2 (af n l).length c2) (af n l).length (aK (af n l))):=bL
   rw [List.take_length]
   clear bL
   go_wp2
   go_ret
   exact ⟨a2,c2,rfl,HW.out,hB⟩
def bN (l:List Nat) (k v:Nat):List Nat:=l.take k++[v]++l.drop k
set_option maxRecDepth 100000 in
set_option maxHeartbeats 4000000 in
theorem vJ (w:World) (g c:Nat) (l1 l2:List Nat) (v:Nat) (ae:Nat) (ho:w.ownsRow ae 3 1 (.slice (some ⟨g,0,none⟩) (l1.length+l2.length) c) (l1.length+l2.length) (aK (l1++l2))) (hl:l1.length+l2.length≤24) :
  Calls Tryz.prog 171 #[.slice (some ⟨g,0,none⟩) (l1.length+l2.length) c,.int .i64 l1.length,.int .i64 v] w fun e w'=>uR w (l1++[v]++l2) e w':=by
 obtain ⟨i0,hi,gx,gw,gB⟩:=info_parts Tryz.info3
 have LE:l1.length+l2.length≤c:=by
  rcases ho.2 with ⟨h,_⟩ | ⟨_,_,_,h,_,_,h2,_⟩
  ·injection h with h;cases h
  ·injection h with _ _ h3;omega
 have kI:c≤maxLen:=by
  rcases ho.2 with ⟨h,_⟩ | ⟨_,_,_,h,_,_,_,h2,_⟩
  ·injection h with h;cases h
  ·injection h with _ _ h3;rw [h3];exact h2
 unfold maxLen at kI
 have db:g<w.heap.size:=(ho.lt g rfl).2
 have HS:Hid (∀ (w2:World),Below w.heap.size w w2→(∀ j u,(aK l1)[j]?=some u→w2.cell? ((⟨g,0,none⟩:Addr).add j)=some u)∧(∀ j u,(aK l2)[j]?=some u→w2.cell? ((⟨g,l1.length,none⟩:Addr).add j)=some u)):=fun w2 hb=>by
  have VM:∀ j u,(aK (l1++l2))[j]?=some u→w2.cell? ⟨g,j,none⟩=some u:=fun j u hu=>by
   have h1:=ho.cells (g:=g) rfl j u hu
   rw [Go.WideShapes.add_plain,Nat.zero_add] at h1
   exact (hb.cell (p:=⟨g,j,none⟩) db).trans h1
  constructor
  ·intro j u hu
   rw [Go.WideShapes.add_plain,Nat.zero_add]
   refine VM j u ?_
   have hj:j<(aK l1).length:=(List.getElem?_eq_some_iff.1 hu).1
   rw [show aK (l1++l2)=aK l1++aK l2 from by simp [aK],List.getElem?_append_left hj]
   exact hu
  ·intro j u hu
   rw [Go.WideShapes.add_plain]
   refine VM _ u ?_
   rw [show aK (l1++l2)=aK l1++aK l2 from by simp [aK],List.getElem?_append_right (by simp [aK])]
   simpa [aK] using hu
 clear ho
 go_enter Tryz.func171,Tryz.ntmps171
 go_wp2_with (at_builtin;refine wpList_append_own _ rfl (.tmp 8) (.tmp 11) 40 rfl w.heap.size 3 i0 (.int .i64 0) 1 8 Tryz.underlying40 hi gx gw gB rfl (by decide) _ _ _ rfl (World.ownsRow_nil _ _ _ _) ⟨g,0,none⟩ l1.length c (aK l1) rfl (by simp [aK]) (HS.out w (Below.refl _ _)).1 (uS _) ?c3 ?c4 ?c5 ?_)
 case c3=>unfold maxLen;omega
 case c4=>omega
 case c5=>exact Nat.le_refl _
 ·intro v1 w1 Ay I0 _
  have mW:w1.ownsRow w.heap.size 3 1 v1 l1.length (aK l1):=by simpa using Ay
  have cF:Below w.heap.size w w1:=(Below.refl _ _).grown I0 (Nat.le_refl _) (fun k hk=>by simp [Value.ownBlock] at hk)
  obtain ⟨a1,c1,EB⟩:=au mW
  subst EB
  clear Ay I0
  have fO:=cF.size
  go_wp2_with (at_builtin;refine wpList_append_own _ rfl (.tmp 13) (.tmp 15) 40 rfl w.heap.size 3 i0 (.int .i64 0) 1 8 Tryz.underlying40 hi gx gw gB rfl (by decide) _ _ _ rfl (mW.alloc _) ⟨w1.heap.size,0,none⟩ 1 1 [.int .i64 (v:Int)] rfl rfl ?d1 ?d2 ?d3 ?d4 ?d5 ?_)
  case d1=>exact aO w1 _ rfl _ _ _ rfl
  case d2=>intro u hu;simp at hu;subst hu;rfl
  case d3=>unfold maxLen;omega
  case d4=>omega
  case d5=>simp;omega
  ·intro v2 w2 mN hJ _
   have cu:w2.ownsRow w.heap.size 3 1 v2 (l1.length+1) (aK (l1++[v])):=by simpa [aK] using mN
   have dp:Below w.heap.size w w2:=(cF.alloc fO _).grown hJ (by simp;omega) (fun k hk=>(mW.lt k hk).1)
   obtain ⟨a2,c2,jr⟩:=au cu
   subst jr
   have vz:=dp.size
   clear mN hJ
   by_cases MM:c=l1.length
   ·have Z7:l2=[]:=List.eq_nil_of_length_eq_zero (by omega)
    subst Z7
    obtain rfl:=MM
    go_wp2_with (at_builtin;refine wpList_append_own _ rfl (.tmp 17) (.tmp 20) 40 rfl w.heap.size 3 i0 (.int .i64 0) 1 8 Tryz.underlying40 hi gx gw gB rfl (by decide) _ _ _ rfl cu ⟨g,0,none⟩ 0 0 [] rfl rfl (fun j u hu=>by simp at hu) (fun u hu=>by cases hu) ?e3 ?e4 ?e5 ?_)
    case e3=>unfold maxLen;omega
    case e4=>omega
    case e5=>omega
    ·intro v3 w3 bB eJ _
     have bg:w3.ownsRow w.heap.size 3 1 v3 (l1++[v]++[]).length (aK (l1++[v]++[])):=by simpa [aK] using bB
     have eS:Below w.heap.size w w3:=dp.grown eJ (by omega) (fun k hk=>(cu.lt k hk).1)
     obtain ⟨a3,c3,A6⟩:=au bg
     subst A6
     have SD:Hid (w3.ownsRow w.heap.size 3 1 (.slice a3 (l1++[v]++[]).length c3) (l1++[v]++[]).length (aK (l1++[v]++[]))):=bg
     clear bB eJ bg
     go_wp2
     go_ret
     exact ⟨a3,c3,rfl,SD.out,eS⟩
   ·go_wp2_with (at_builtin;refine wpList_append_own _ rfl (.tmp 17) (.tmp 20) 40 rfl w.heap.size 3 i0 (.int .i64 0) 1 8 Tryz.underlying40 hi gx gw gB rfl (by decide) _ _ _ rfl cu ⟨g,l1.length,none⟩ l2.length (c - l1.length) (aK l2) ?f1 (by simp [aK]) (HS.out w2 dp).2 (uS _) ?f3 ?f4 ?f5 ?_)
    case f1=>simp [Act.eval]
    case f3=>unfold maxLen;omega
    case f4=>omega
    case f5=>omega
    ·intro v3 w3 bB eJ _
     have bg:w3.ownsRow w.heap.size 3 1 v3 (l1++[v]++l2).length (aK (l1++[v]++l2)):=by simpa [aK,Nat.add_assoc,Nat.add_comm,Nat.add_left_comm] using bB
     have eS:Below w.heap.size w w3:=dp.grown eJ (by omega) (fun k hk=>(cu.lt k hk).1)
     obtain ⟨a3,c3,A6⟩:=au bg
     subst A6
     have SD:Hid (w3.ownsRow w.heap.size 3 1 (.slice a3 (l1++[v]++l2).length c3) (l1++[v]++l2).length (aK (l1++[v]++l2))):=bg
     clear bB eJ bg
     go_wp2
     go_ret
     exact ⟨a3,c3,rfl,SD.out,eS⟩
theorem pQ (v:Nat):∀ u∈[Value.int .i64 (v:Int)],u.oneCell'=true:=by
 intro u hu
 simp at hu
 subst hu
 rfl
set_option maxRecDepth 100000 in
set_option maxHeartbeats 2000000 in
theorem ze (w:World) (v:Nat) :
  Calls Tryz.prog 171 #[.slice none 0 0,.int .i64 0,.int .i64 v] w fun e w'=>uR w [v] e w':=by
 obtain ⟨i0,hi,gx,gw,gB⟩:=info_parts Tryz.info3
 go_enter Tryz.func171,Tryz.ntmps171
 go_wp2_with (first | (at_builtin;refine wpList_append_own_none rfl (.tmp 8) (.tmp 11) 40 rfl w.heap.size 3 i0 1 Tryz.underlying40 hi _ _ _ rfl (World.ownsRow_nil _ _ _ _) rfl ?_) | (at_builtin;refine wpList_append_own _ rfl (.tmp 13) (.tmp 15) 40 rfl w.heap.size 3 i0 (.int .i64 0) 1 8 Tryz.underlying40 hi gx gw gB rfl (by decide) _ _ _ rfl (World.ownsRow_nil _ _ _ _) ⟨w.heap.size,0,none⟩ 1 1 [.int .i64 (v:Int)] rfl rfl (aO w _ rfl _ _ _ rfl) (pQ v) (by unfold maxLen;omega) (by omega) (by simp) ?_))
 ·intro v2 w2 mN hJ _
  have cu:w2.ownsRow w.heap.size 3 1 v2 1 (aK [v]):=by simpa [aK] using mN
  have dp:Below w.heap.size w w2:=((Below.refl _ _).alloc (Nat.le_refl _) _).grown hJ (by simp) (fun k hk=>by simp [Value.ownBlock] at hk)
  obtain ⟨a2,c2,jr⟩:=au cu
  subst jr
  have ML:Hid (w2.ownsRow w.heap.size 3 1 (.slice a2 1 c2) 1 (aK [v])):=cu
  clear mN hJ
  go_wp2_with (at_builtin;refine wpList_append_own_none rfl (.tmp 17) (.tmp 20) 40 rfl w.heap.size 3 i0 1 Tryz.underlying40 hi _ _ _ rfl cu rfl ?_)
  go_wp2
  go_ret
  exact ⟨a2,c2,rfl,ML.out,dp⟩
theorem pu (w:World) (a:Option Addr) (c:Nat) (l:List Nat) (k v:Nat) (ae:Nat) (ho:w.ownsRow ae 3 1 (.slice a l.length c) l.length (aK l)) (hl:l.length≤24) (hk:k≤l.length) :
  Calls Tryz.prog 171 #[.slice a l.length c,.int .i64 k,.int .i64 v] w fun e w'=>uR w (bN l k v) e w':=by
 by_cases h0:a=none
 ·subst h0
  have hn:l=[]∧c=0:=by
   rcases ho.2 with ⟨h,h2⟩ | ⟨_,_,_,h,_⟩
   ·injection h with _ h3 h4;exact ⟨List.eq_nil_of_length_eq_zero h2,h4⟩
   ·injection h with h;cases h
  obtain ⟨rfl,rfl⟩:=hn
  obtain rfl:k=0:=by simpa using hk
  exact ze w v
 ·obtain ⟨g,rfl⟩:∃ g,a=some ⟨g,0,none⟩:=by
   rcases ho.2 with ⟨h,_⟩ | ⟨g,_,_,h,_⟩
   ·injection h with h;exact absurd h h0
   ·injection h with h;exact ⟨g,h⟩
  have e1:(l.take k).length=k:=by simp;omega
  have e2:(l.take k).length+(l.drop k).length=l.length:=by rw [←List.length_append,List.take_append_drop]
  have:=vJ w g c (l.take k) (l.drop k) v ae (by rw [e2,List.take_append_drop];exact ho) (by omega)
  rw [e2,e1] at this
  exact this
end Go.Proofs.YtblfffbmklkhmaaGreat
namespace Go.Proofs.YtblfffbmklkhmaaGreat
open Go.RowKit
theorem jp {P:Program} (w:World) (ae:Nat) (t ty e:TypeId) (i:TypeInfo) (z:Value) (size bytes:Nat) (ht:P.underlying t=some (.slice e)) (hi:P.info? e=some i) (hz:i.zero=some z)
  (kj:i.size=size) (MG:i.bytes=bytes) (OV:z.cells.size=size) (fT:0<size) (v:Value) (n:Nat) (xs:List Value) (bL:w.ownsRow ae e size v n xs)
  (a:Addr) (m c:Nat) (iZ:List Value) (hl:iZ.length=m*size) (og:∀ j u,iZ[j]?=some u→w.cell? (a.add j)=some u) (h1:∀ u∈iZ,u.oneCell'=true)
  (MN:n+m≤maxLen) (kE:(n+m)*bytes≤140737488355328) (tI:ae≤w.heap.size) :
  ∃ v' w',(Builtin.append_ #[t,t] ty #[v,.slice (some a) m c]).run P w=.ok v' w'∧w'.ownsRow ae e size v' (n+m) (xs++iZ)∧w.grownBy w' v.ownBlock∧∀ j,v'.ownBlock=some j→v.ownBlock=some j∨w.heap.size≤j:=by
 obtain ⟨v',w',hr,h2,h3,_⟩:=run_append_own (P:=P) w ae t ty e i z size bytes ht hi hz kj MG OV fT v n xs bL a m c iZ hl og h1 MN kE tI
 refine ⟨v',w',hr,h2,h3,?_⟩
 rcases bL.2 with ⟨rfl,rfl⟩ | ⟨g,fL,eU,rfl,U9,hg,YA,FX,jy,Ff⟩
 ·have hx:xs=[]:=List.eq_nil_of_length_eq_zero (by simpa using bL.1)
  subst hx
  obtain ⟨v2,w2,zZ,h22,_,_⟩:=run_append_own (P:=P) w w.heap.size t ty e i z size bytes ht hi hz kj MG OV fT (.slice none 0 0) 0 [] (World.ownsRow_nil _ _ _ _) a m c iZ hl og h1 MN kE (Nat.le_refl _)
  rw [hr] at zZ
  injection zZ with e1 e2
  subst e1 e2
  exact fun j hj=>Or.inr (h22.lt j hj).1
 ·subst kj MG
  by_cases hroom:n+m≤fL
  ·have Kc:n*i.size+iZ.length≤eU.size:=by rw [hl,jy,←Nat.add_mul];exact Nat.mul_le_mul_right _ hroom
   have zZ:=run_append_room (P:=P) w t ty e i ht hi g n fL eU hg a m c iZ hl og h1 hroom Kc
   rw [hr] at zZ
   injection zZ with e1 _
   subst e1
   exact fun j hj=>Or.inl (by simpa [Value.ownBlock] using hj)
  ·have JW:∀ j u,xs[j]?=some u→w.cell? ((⟨g,0,none⟩:Addr).add j)=some u:=bL.cells (g:=g) rfl
   have Sn:((n+m:Nat):Int)≤9223372036854775807:=by unfold maxLen at MN;omega
   have zZ:=run_append_grow (P:=P) w t ty e i z ht hi hz ⟨g,0,none⟩ n fL xs bL.1 JW a m c iZ hl og (by omega) Sn (growslice_fits (by omega) kE)
   rw [hr] at zZ
   injection zZ with e1 _
   subst e1
   refine fun j hj=>Or.inr ?_
   simp [Value.ownBlock] at hj
   omega
theorem gZ {P:Program} (w:World) {zw:Array Oper} {rest:List Oper} {o:Oper} {a:Act} {Q:Exit→Act→World→Prop} (VX:o.guard=none) (s x:Operand) (t:TypeId)
  (ho:o.op=.call {callee:=.builtin .append,args:=#[s,x],argTypes:=#[t,t]})
  (ae:Nat) (e:TypeId) (i:TypeInfo) (z:Value) (size bytes:Nat) (ht:P.underlying t=some (.slice e)) (hi:P.info? e=some i) (hz:i.zero=some z)
  (kj:i.size=size) (MG:i.bytes=bytes) (OV:z.cells.size=size) (fT:0<size)
  (v:Value) (n:Nat) (xs:List Value) (hs:a.eval s=v) (bL:w.ownsRow ae e size v n xs)
  (ad:Addr) (m c:Nat) (iZ:List Value) (hx:a.eval x=.slice (some ad) m c) (hl:iZ.length=m*size) (og:∀ j u,iZ[j]?=some u→w.cell? (ad.add j)=some u) (h1:∀ u∈iZ,u.oneCell'=true)
  (MN:n+m≤maxLen) (kE:(n+m)*bytes≤140737488355328) (tI:ae≤w.heap.size)
  (h:∀ v' w',w'.ownsRow ae e size v' (n+m) (xs++iZ)→w.grownBy w' v.ownBlock→Hid (∀ j,v'.ownBlock=some j→v.ownBlock=some j∨w.heap.size≤j)→wpList P zw Q rest (a.put o.dst v') w'):wpList P zw Q (o :: rest) a w:=by
 refine wpList_plain VX fun K hK=>?_
 obtain ⟨v',w',DJ,r1,r2,r3⟩:=jp (P:=P) w ae t o.type e i z size bytes ht hi hz kj MG OV fT v n xs bL ad m c iZ hl og h1 MN kE tI
 unfold Oper.wp
 simp only [execOp,ho,resolve,invoke,builtin,Sem.run_bind,Sem.run_pure,Result.andThen_ok,List.map_toArray,List.map_cons,List.map_nil,hs,hx,DJ]
 exact hK _ _ (h v' w' r1 r2 r3)
end Go.Proofs.YtblfffbmklkhmaaGreat
