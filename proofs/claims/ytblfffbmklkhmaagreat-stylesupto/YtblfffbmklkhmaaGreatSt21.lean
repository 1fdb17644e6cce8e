import Derived.Test.YtblfffbmklkhmaaGreatSt20
import Derived.Test.YtblfffbmklkhmaaGreatSt17
namespace Go.Proofs.YtblfffbmklkhmaaGreat
open Go.RowKit
abbrev ai (l:List Int):List Value:=l.map (Value.int .i64)
def RowI (w:World) (a:Option Addr) (l:List Int):Prop:=∀ i (_:i<l.length),∃ g,a=some ⟨g,0,none⟩∧g<w.heap.size∧w.cell? ⟨g,i,none⟩=l[i]?.map (Value.int .i64)
theorem RowI.below {w w':World} {a:Option Addr} {l:List Int} (h:RowI w a l) (hB:Below w.heap.size w w'):RowI w' a l:=fun i hi=>by
 obtain ⟨g,h1,h2,h3⟩:=h i hi
 exact ⟨g,h1,Nat.lt_of_lt_of_le h2 hB.size,(hB.cell (p:=⟨g,i,none⟩) h2).trans h3⟩
theorem RowI.own {w:World} {ae:Nat} {a:Option Addr} {c:Nat} {l:List Int} (h:w.ownsRow ae 3 1 (.slice a l.length c) l.length (ai l)):RowI w a l:=fun i hi=>by
 obtain ⟨g,hg,db,hc⟩:=aH h (by omega)
 refine ⟨g,hg,db,?_⟩
 have:=hc i (.int .i64 l[i]) (by simp [hi])
 rw [this,List.getElem?_eq_getElem hi]
 rfl
theorem lP {w:World} {ae:Nat} {e:TypeId} {sz:Nat} {a:Option Addr} {n c:Nat} {xs:List Value} (h:w.ownsRow ae e sz (.slice a n c) n xs):n≤c:=by
 rcases h.2 with ⟨h1,h2⟩ | ⟨g,fL,eU,hv,_,hh,hc,_⟩
 ·omega
 ·injection hv with h1 h2 h3
  omega
theorem kS {w:World} {ae:Nat} {e:TypeId} {sz:Nat} {a:Option Addr} {n c:Nat} {xs:List Value} (h:w.ownsRow ae e sz (.slice a n c) n xs):c≤maxLen:=by
 rcases h.2 with ⟨h1,h2⟩ | ⟨g,fL,eU,hv,_,hh,hc,hm,_⟩
 ·injection h1 with _ _ h3
  rw [h3]
  exact Nat.zero_le _
 ·injection hv with h1 h2 h3
  rw [h3]
  exact hm
def jN (w:World) (l:List Int) (e:Ending) (w':World):Prop:=∃ (a:Option Addr) (c:Nat),e=.returned (.slice a l.length c)∧l.length≤c∧c≤maxLen∧RowI w' a l∧Below w.heap.size w w'
def si (w:World) (r:Int) (e:Ending) (w':World):Prop:=e=.returned (.int .i64 r)∧Below w.heap.size w w'
theorem Fm (x:Int):∀ u∈[Value.int .i64 x],u.oneCell'=true:=by
 intro u hu
 simp only [List.mem_cons,List.not_mem_nil,or_false] at hu
 rcases hu with rfl;rfl
theorem BF {els:List PEl} {k:Nat} {e:Int} (h:parP els e≠-1):bp els (k+1) e=parP els e :: bp els k (parP els e):=by
 show (if parP els e=-1 then [] else _)=_
 rw [if_neg h]
theorem ta {els:List PEl} {k:Nat} {e:Int} (h:parP els e=-1):bp els k e=[]:=by
 cases k with
 | zero=>rfl
 | succ k=>
  show (if parP els e=-1 then [] else _)=_
  rw [if_pos h]
theorem DG {els:List PEl} {k:Nat} {par:Int} (h:k<els.length):ee els (k+1) par=(if els[k].par=par then [(els[k].num:Int)] else [])++ee els k par:=by
 unfold ee
 rw [List.take_succ_eq_append_getElem h,List.filter_append,List.map_append,List.reverse_append]
 congr 1
 by_cases hp:els[k].par=par
 ·simp [hp]
 ·simp [hp]
section
set_option maxRecDepth 100000
set_option maxHeartbeats 4000000
variable (w:World) (b:Nat) (a:Option Addr) (c:Nat) (els:List PEl) (n:Int)
theorem uD (h:TRd w b a c els):Calls Tryz.prog 84 #[.pointer (some ⟨b,1,none⟩),.int .i64 n] w fun e w'=>jN w (bp els els.length n) e w':=by
 obtain ⟨i0,hi,gx,gw,gB⟩:=info_parts Tryz.info3
 have HT:Hid (TRd w b a c els):=h
 have bw:=h.few
 have q0:=h.cell
 clear h
 go_enter Tryz.func84,Tryz.ntmps84
 go_wp2_with fail
 go_loopg [1,5,11] els.length (fun gk nv v iv wr=>∃ (i:Nat) (m:Int) (L:List Int),iv=.int .i64 i∧nv=.int .i64 m∧i≤els.length∧els.length - i≤gk∧L.length≤i∧Hid (wr.ownsRow w.heap.size 3 1 v L.length (ai L)∧Below w.heap.size w wr∧bp els els.length n=L++bp els (els.length - i) m))
 case atStart=>exact ⟨0,n,[],rfl,rfl,Nat.zero_le _,by omega,by simp,World.ownsRow_nil _ _ _ _,Below.refl _ _,by simp⟩
 case round=>
  obtain ⟨i,m,L,rfl,rfl,jC,fK,hL,HN⟩:=hrel
  obtain ⟨a2,c2,jr⟩:=au HN.out.1
  subst jr
  have iS:=HN.out.2.1.size
  by_cases aN:i<els.length
  ·have hd:decide ((i:Int)<(els.length:Int))=true:=by simp;omega
   have I2:Hid (TRd wr b a c els):=HT.out.below HN.out.2.1
   clear q0
   go_wp2_with fail
   refine (gI wr b _ els m I2.out.cell I2.out.pl bw).mono ?_
   rintro e w1 ⟨rfl,cF⟩
   have dp:Below w.heap.size w w1:=HN.out.2.1.trans (cF.mono iS)
   have HO:Hid (w1.ownsRow w.heap.size 3 1 (.slice a2 L.length c2) L.length (ai L)):=aQ HN.out.1 (cF.mono (Nat.le_refl _))
   have OA:=dp.size
   have ea:Hid (Below w.heap.size w w1):=dp
   clear cF dp
   by_cases hp:parP els m=-1
   ·have gp:(parP els m==-1)=true:=by simp [hp]
    have HE:Hid (jN w (bp els els.length n) (.returned (.slice a2 L.length c2)) w1):=by
     have e1:bp els els.length n=L:=by rw [HN.out.2.2,ta hp,List.append_nil]
     unfold Hid
     rw [e1]
     exact ⟨a2,c2,rfl,lP HO.out,kS HO.out,RowI.own HO.out,ea.out⟩
    clear hp
    generalize parP els m=p at gp ⊢
    go_wp2
    go_ret
    exact HE.out
   ·have gp:(parP els m==-1)=false:=by simp [hp]
    have HA:Hid (bp els els.length n=(L++[parP els m])++bp els (els.length - (i+1)) (parP els m)):=by
     unfold Hid
     rw [HN.out.2.2,show els.length - i=els.length - (i+1)+1 from by omega,BF hp]
     simp
    clear hp HN
    generalize parP els m=p at gp HA ⊢
    go_wp2_with (at_builtin;refine wpList_append_own _ rfl (.tmp 19) (.tmp 21) 40 rfl w.heap.size 3 i0 (.int .i64 0) 1 8 Tryz.underlying40 hi gx gw gB rfl (by decide) _ _ _ rfl (HO.out.alloc _) ⟨w1.heap.size,0,none⟩ 1 1 [.int .i64 p] rfl rfl ?c1 ?c2 ?c3 ?c4 ?c5 ?_)
    case c1=>exact aO w1 _ rfl _ _ _ rfl
    case c2=>exact Fm p
    case c3=>unfold maxLen;omega
    case c4=>omega
    case c5=>simp;omega
    intro v5 w5 cX kG _
    have vn:Hid (w5.ownsRow w.heap.size 3 1 v5 (L++[p]).length (ai (L++[p]))∧Below w.heap.size w w5∧bp els els.length n=(L++[p])++bp els (els.length - (i+1)) p):=
     ⟨by simpa using cX,(ea.out.alloc OA _).grown kG (by simp;omega) (fun k hk=>(HO.out.lt k hk).1),HA.out⟩
    have O9:(L++[p]).length≤i+1:=by simp;omega
    clear cX kG HO ea HA I2
    generalize L++[p]=L2 at vn O9
    go_wp2
    go_roundg (els.length - (i+1))
    case measure=>omega
    case rel=>exact ⟨i+1,p,L2,by go_num,rfl,by omega,Nat.le_refl _,O9,vn⟩
  ·have hd:decide ((i:Int)<(els.length:Int))=false:=by simp;omega
   obtain rfl:i=els.length:=by omega
   have HE:Hid (jN w (bp els els.length n) (.returned (.slice a2 L.length c2)) wr):=by
    have e1:bp els els.length n=L:=by rw [HN.out.2.2,Nat.sub_self];exact List.append_nil _
    unfold Hid
    rw [e1]
    exact ⟨a2,c2,rfl,lP HN.out.1,kS HN.out.1,RowI.own HN.out.1,HN.out.2.1⟩
   go_wp2
   go_ret
   exact HE.out
theorem oQ (h:TRd w b a c els):Calls Tryz.prog 223 #[.pointer (some ⟨b,1,none⟩),.int .i64 n] w fun e w'=>jN w (bJ els n) e w':=by
 obtain ⟨i0,hi,gx,gw,gB⟩:=info_parts Tryz.info3
 have HT:Hid (TRd w b a c els):=h
 have bw:=h.few
 clear h
 go_enter Tryz.func223,Tryz.ntmps223
 go_wp2_with fail
 refine (dq w b _ els n HT.out.cell HT.out.pl HT.out.few).mono ?_
 rintro e w1 ⟨hB,⟨hf,rfl⟩ | ⟨ip,x,hx,hf,rfl⟩⟩
 ·have HE:Hid (jN w (bJ els n) (.returned (.slice none 0 0)) w1):=by unfold bJ;rw [hf];exact ⟨none,0,rfl,Nat.le_refl _,Nat.zero_le _,fun i hi=>absurd hi (by simp),hB⟩
  clear hf hB
  go_wp2
  go_ret
  exact HE.out
 ·have nZ:ip<els.length:=(List.getElem?_eq_some_iff.1 hx).1
  have mZ:els[ip]=x:=(List.getElem?_eq_some_iff.1 hx).2
  have HA:Hid (bJ els n=ee els ip x.par):=by
   unfold Hid bJ
   rw [hf]
   have h1:=(du hf).2
   have h2:=oJ HT.out.nums hx
   rw [h1] at h2
   show ee els (kO els n) x.par=_
   rw [h2]
  have T1:=HT.out.below hB
  obtain ⟨g,hg,db,he⟩:=T1.pl.el nZ
  subst hg
  have q1:=he.cell1
  rw [mZ] at q1
  have q0:=T1.cell
  have jC:(ip:Int)<(els.length:Int):=by omega
  have ed:Hid (Below w.heap.size w w1):=hB
  clear hf hB hx mZ he T1
  generalize x.par=par at HA q1
  go_wp2_with fail
  go_loopg [8,9] ip (fun gk v iv wr=>∃ (k:Nat) (iz:Int) (L:List Int),iv=.int .i64 iz∧iz=(k:Int) - 1∧k≤ip∧k≤gk∧L.length+k≤ip∧Hid (wr.ownsRow w.heap.size 3 1 v L.length (ai L)∧Below w.heap.size w wr∧bJ els n=L++ee els k par))
  case atStart=>exact ⟨ip,_,[],rfl,by go_num,Nat.le_refl _,Nat.le_refl _,by simp,World.ownsRow_nil _ _ _ _,ed.out,HA.out⟩
  case round=>
   obtain ⟨k,iz,L,rfl,hiz,TF,fK,hL,HN⟩:=hrel
   obtain ⟨a2,c2,jr⟩:=au HN.out.1
   subst jr
   have iS:=HN.out.2.1.size
   cases k with
   | zero=>
    have hd:decide ((0:Int)≤iz)=false:=by rw [decide_eq_false_iff_not];omega
    clear hiz
    have HE:Hid (jN w (bJ els n) (.returned (.slice a2 L.length c2)) wr):=by
     have e1:bJ els n=L:=by rw [HN.out.2.2];unfold ee;simp
     unfold Hid
     rw [e1]
     exact ⟨a2,c2,rfl,lP HN.out.1,kS HN.out.1,RowI.own HN.out.1,HN.out.2.1⟩
    go_wp2
    go_ret
    exact HE.out
   | succ k=>
    obtain rfl:iz=(k:Int):=by omega
    clear hiz q0 q1
    have hk:k<els.length:=by omega
    have om:(k:Int)<(els.length:Int):=by omega
    have T2:=HT.out.below HN.out.2.1
    obtain ⟨g2,hJ,mj,G7⟩:=T2.pl.el hk
    injection hJ with hJ
    injection hJ with hJ _ _
    subst hJ
    have q0:=T2.cell
    have q1:=G7.cell1
    have q2:wr.cell? ⟨g,k*31,none⟩=some (.int .i64 els[k].num):=G7.rng 0 _ G7.c0
    have HS:Hid (ee els (k+1) par=(if els[k].par=par then [(els[k].num:Int)] else [])++ee els k par):=DG hk
    clear T2 G7
    generalize els[k].par=py at q1 HS
    obtain ⟨ny,hny⟩:∃ ny:Int,ny=(els[k].num:Int):=⟨_,rfl⟩
    rw [←hny] at q2 HS
    clear hny
    by_cases hp:py=par
    ·have gp:(py==par)=true:=by simp [hp]
     have HA2:Hid (bJ els n=(L++[ny])++ee els k par):=by
      unfold Hid
      rw [HN.out.2.2,HS.out,if_pos hp]
      simp
     clear hp HS
     have HO:Hid (wr.ownsRow w.heap.size 3 1 (.slice a2 L.length c2) L.length (ai L)∧Below w.heap.size w wr):=⟨HN.out.1,HN.out.2.1⟩
     clear HN
     go_wp2_with (at_builtin;refine wpList_append_own _ rfl (.tmp 42) (.tmp 51) 40 rfl w.heap.size 3 i0 (.int .i64 0) 1 8 Tryz.underlying40 hi gx gw gB rfl (by decide) _ _ _ rfl (HO.out.1.alloc _) ⟨wr.heap.size,0,none⟩ 1 1 [.int .i64 ny] rfl rfl ?c1 ?c2 ?c3 ?c4 ?c5 ?_)
     case c2=>first | exact Fm ny | rfl
     case c3=>unfold maxLen;omega
     case c4=>omega
     case c5=>first | (simp;omega) | omega
     intro v5 w5 cX kG _
     have vn:Hid (w5.ownsRow w.heap.size 3 1 v5 (L++[ny]).length (ai (L++[ny]))∧Below w.heap.size w w5∧bJ els n=(L++[ny])++ee els k par):=
      ⟨by simpa using cX,(HO.out.2.alloc iS _).grown kG (by simp;omega) (fun k hk=>(HO.out.1.lt k hk).1),HA2.out⟩
     have O9:(L++[ny]).length+k≤ip:=by simp;omega
     clear cX kG HO HA2 q0 q1 q2
     generalize L++[ny]=L2 at vn O9
     go_wp2
     go_roundg k
     case measure=>omega
     case rel=>exact ⟨k,_,L2,rfl,by go_num,by omega,Nat.le_refl _,O9,vn⟩
    ·have gp:(py==par)=false:=by simp [hp]
     have vn:Hid (wr.ownsRow w.heap.size 3 1 (.slice a2 L.length c2) L.length (ai L)∧Below w.heap.size w wr∧bJ els n=L++ee els k par):=⟨HN.out.1,HN.out.2.1,by rw [HN.out.2.2,HS.out,if_neg hp];rfl⟩
     clear hp HS HN
     go_wp2
     go_roundg k
     case measure=>omega
     case rel=>exact ⟨k,_,L,rfl,by go_num,by omega,Nat.le_refl _,by omega,vn⟩
theorem Bz (i:Nat) (par:Int):(ee els i par).length≤els.length:=by
 unfold ee
 rw [List.length_reverse,List.length_map]
 refine Nat.le_trans (List.length_filter_le _ _) ?_
 exact List.length_take_le' _ _
theorem lI:(bJ els n).length≤els.length:=by
 unfold bJ
 split
 ·exact Bz els _ _
 ·simp
theorem pP (h:TRd w b a c els):Calls Tryz.prog 228 #[.pointer (some ⟨b,1,none⟩),.int .i64 n] w fun e w'=>si w (((bJ els n).length:Int)+1) e w':=by
 have HT:Hid (TRd w b a c els):=h
 have bw:=h.few
 have hl:=lI els n
 clear h
 go_enter Tryz.func228,Tryz.ntmps228
 go_wp2_with fail
 refine (oQ w b a c els n HT.out).mono ?_
 rintro e w1 ⟨a2,c2,rfl,_,_,_,hB⟩
 obtain ⟨k,hk⟩:∃ k,(bJ els n).length=k:=⟨_,rfl⟩
 have HE:Hid (si w (((bJ els n).length:Int)+1) (.returned (.int .i64 ((k:Int)+1))) w1):=⟨by rw [hk],hB⟩
 rw [hk] at hl ⊢
 clear hB hk
 go_wp2
 go_ret
 exact HE.out
end
end Go.Proofs.YtblfffbmklkhmaaGreat
namespace Go.Proofs.YtblfffbmklkhmaaGreat
open Go.RowKit
def hO (x:Int × List Int):List Value:=.int .i64 x.1 :: ai x.2
def mi (kl:List (Int × List Int)):List Value:=kl.flatMap hO
theorem uw {x:Int × List Int} (h:x.2.length=9):(hO x).length=10:=by
 unfold hO
 rw [List.length_cons,List.length_map,h]
theorem uz (x:Int × List Int):∀ v∈hO x,v.oneCell'=true:=by
 intro v hv
 unfold hO at hv
 rcases List.mem_cons.1 hv with rfl | hv
 ·rfl
 ·obtain ⟨y,_,rfl⟩:=List.mem_map.1 hv
  rfl
theorem Ml {kl:List (Int × List Int)} (h:∀ x∈kl,x.2.length=9) {i j:Nat} (hi:i<kl.length) (hj:j<10):(mi kl)[i*10+j]?=(hO kl[i])[j]?:=by
 induction kl generalizing i with
 | nil=>simp at hi
 | cons x l ih=>
  have h1:=uw (h x List.mem_cons_self)
  unfold mi
  rw [List.flatMap_cons]
  cases i with
  | zero=>
   rw [List.getElem?_append_left (by omega)]
   simp
  | succ i=>
   rw [List.getElem?_append_right (by omega),h1,show (i+1)*10+j - 10=i*10+j from by omega]
   have:=ih (fun e he=>h e (List.mem_cons_of_mem _ he)) (i:=i) (by simpa using hi)
   unfold mi at this
   rw [this]
   simp
theorem uA (L:List (Int × List Int)) (x:Int × List Int):mi (L++[x])=mi L++hO x:=by simp [mi]
structure KL (w:World) (v:Value) (kl:List (Int × List Int)):Prop where
 row:w.ownsRow 0 196 10 v kl.length (mi kl)
 nine:∀ x∈kl,x.2.length=9
theorem KL.below {w w':World} {v:Value} {kl:List (Int × List Int)} (h:KL w v kl) (hB:Below w.heap.size w w'):KL w' v kl:=⟨aQ h.row hB,h.nine⟩
theorem KL.shape {w:World} {v:Value} {kl:List (Int × List Int)} (h:KL w v kl):∃ a c,v=.slice a kl.length c:=au h.row
theorem Tryz.sizeK:(Tryz.prog.info? 196).map (·.size)=some 10:=by kernel_rfl
theorem Tryz.infoK:∃ (i:TypeInfo) (z:Value),Tryz.prog.info? 196=some i∧i.zero=some z∧i.size=10∧i.bytes=80∧z.cells.size=10:=by
 have h:(Tryz.prog.info? 196).map (fun i=>(i.zero.map (·.cells.size),i.size,i.bytes))=some (some 10,10,80):=by kernel_rfl
 cases hq:Tryz.prog.info? 196 with
 | none=>rw [hq] at h;cases h
 | some i=>
  rw [hq] at h
  simp only [Option.map_some,Option.some.injEq,Prod.mk.injEq] at h
  cases hz:i.zero with
  | none=>rw [hz] at h;cases h.1
  | some z=>
   rw [hz] at h
   simp only [Option.map_some,Option.some.injEq] at h
   exact ⟨i,z,rfl,hz,h.2.1,h.2.2,h.1⟩
structure KAt (w:World) (g o:Nat) (cs:List Value) (n:Int):Prop where
 rng:w.rangeAt g o cs
 len:cs.length=10
 one:∀ v∈cs,v.oneCell'=true
 c0:cs[0]?=some (.int .i64 n)
section
variable {w:World} {g o:Nat} {cs:List Value} {n:Int}
theorem KAt.size (h:KAt w g o cs n):(Tryz.prog.info? 196).map (·.size)=some cs.length:=by rw [h.len];exact Tryz.sizeK
theorem KAt.size' (h:KAt w g o cs n):(Tryz.prog.info? 196).map (·.size)=some cs.toArray.size:=by rw [List.size_toArray];exact h.size
theorem KAt.same (h:KAt w g o cs n):10=cs.toArray.size:=by rw [List.size_toArray,h.len]
theorem KAt.all (h:KAt w g o cs n):cs.toArray.all (·.oneCell')=true:=all_oneCell_toArray h.one
theorem KAt.info (h:KAt w g o cs n) {m:Nat} (hn:m=10):m=cs.toArray.size:=by rw [hn];exact h.same
theorem KAt.pos (h:KAt w g o cs n):0<cs.toArray.size:=by rw [←h.same];omega
theorem KAt.small (h:KAt w g o cs n):cs.toArray.size≤1000:=by rw [←h.same];omega
theorem KAt.len1 (h:KAt w g o cs n):cs.length=1*10:=by rw [h.len]
theorem KAt.below {wr:World} {ae:Nat} (h:KAt w g o cs n) (hB:Below ae w wr) (hg:g<ae):KAt wr g o cs n:=⟨ba hB hg h.rng,h.len,h.one,h.c0⟩
theorem KAt.new (h:KAt w g o cs n) (w':World):KAt (w'.alloc (.cells cs.toArray 196)) w'.heap.size 0 cs n:=by
 refine ⟨fun j v hv=>?_,h.len,h.one,h.c0⟩
 rw [Nat.zero_add,cell_of_row _ _ j cs.toArray 196 (0,0) (heap_alloc_new w' _)]
 simpa using hv
end
theorem KL.el {w:World} {a:Option Addr} {c:Nat} {kl:List (Int × List Int)} (h:KL w (.slice a kl.length c) kl) {i:Nat} (hi:i<kl.length):∃ g,a=some ⟨g,0,none⟩∧g<w.heap.size∧KAt w g (i*10) (hO kl[i]) kl[i].1:=by
 obtain ⟨g,hg,db,hc⟩:=aH h.row (by omega)
 have hl:=uw (h.nine _ (List.getElem_mem hi))
 refine ⟨g,hg,db,fun j v hv=>hc _ _ ?_,hl,uz _,rfl⟩
 have hj:j<10:=by
  have:=(List.getElem?_eq_some_iff.1 hv).1
  omega
 rw [Ml h.nine hi hj]
 exact hv
section
set_option maxRecDepth 100000
set_option maxHeartbeats 4000000
theorem F8 (w:World) (al:Option Addr) (cl:Nat) (L:List Int) (n:Int) (h:RowI w al L) (hL:L.length≤1000):Calls Tryz.prog 121 #[.slice al L.length cl,.int .i64 n] w fun e w'=>bh w (L.contains n) e w':=by
 have HI:Hid (RowI w al L):=h
 clear h
 go_enter Tryz.func121,Tryz.ntmps121
 go_wp2_with fail
 go_loopg [9] L.length (fun gk iv wr=>∃ i:Nat,iv=.int .i64 i∧i≤L.length∧L.length - i≤gk∧Hid (Below w.heap.size w wr∧∀ j (_:j<L.length),j<i→¬ L[j]=n))
 case atStart=>exact ⟨0,rfl,Nat.zero_le _,by omega,Below.refl _ _,fun j _ h=>by omega⟩
 case round=>
  obtain ⟨i,rfl,hi,fK,HN⟩:=hrel
  by_cases hli:i<L.length
  ·have hd:decide ((i:Int)<(L.length:Int))=true:=by simp;omega
   obtain ⟨g2,hJ,mj,C3⟩:=HI.out i hli
   subst hJ
   have q1:=(HN.out.1.cell (p:=⟨g2,i,none⟩) mj).trans C3
   rw [List.getElem?_eq_getElem hli] at q1
   replace q1:wr.cell? ⟨g2,i,none⟩=some (.int .i64 L[i]):=q1
   have jl:Hid (¬ L[i]=n→∀ j (_:j<L.length),j<i+1→¬ L[j]=n):=fun hm j hj h1=>by
    by_cases e:j=i
    ·subst e;exact hm
    ·exact HN.out.2 j hj (by omega)
   have HY:Hid (L[i]=n→L.contains n=true):=fun h=>by
    rw [List.contains_iff_mem]
    exact h▸List.getElem_mem hli
   clear C3
   generalize L[i]=o at q1 jl HY
   by_cases ho:o=n
   ·have go:(o==n)=true:=by simp [ho]
    have HR:Hid (bh w (L.contains n) (.returned (.bool true)) wr):=⟨by rw [HY.out ho],HN.out.1⟩
    clear ho
    go_wp2
    go_ret
    exact HR.out
   ·have go:(o==n)=false:=by simp [ho]
    have eL:Hid (Below w.heap.size w wr∧∀ j (_:j<L.length),j<i+1→¬ L[j]=n):=⟨HN.out.1,jl.out ho⟩
    clear ho
    go_wp2
    go_roundg (L.length - (i+1))
    case measure=>omega
    case rel=>exact ⟨i+1,by go_num,by omega,Nat.le_refl _,eL⟩
  ·have hd:decide ((i:Int)<(L.length:Int))=false:=by simp;omega
   have HR:Hid (bh w (L.contains n) (.returned (.bool false)) wr):=by
    refine ⟨?_,HN.out.1⟩
    have:L.contains n=false:=by
     rw [Bool.eq_false_iff]
     intro h
     rw [List.contains_iff_mem] at h
     obtain ⟨j,hj,h1⟩:=List.getElem_of_mem h
     exact HN.out.2 j hj (by omega) h1
    rw [this]
   go_wp2
   go_ret
   exact HR.out
def dD (L:List Int) (kl:List (Int × List Int)):List (Int × List Int):=kl.filter fun x=>!L.contains x.1
theorem C8 {L:List Int} {kl:List (Int × List Int)} {i:Nat} (h:i<kl.length):dD L (kl.take (i+1))=if L.contains kl[i].1=true then dD L (kl.take i) else dD L (kl.take i)++[kl[i]]:=by
 unfold dD
 rw [List.take_succ_eq_append_getElem h,List.filter_append]
 cases hu:L.contains kl[i].1 with
 | true=>simp only [List.filter_cons,hu,Bool.not_true];simp
 | false=>simp only [List.filter_cons,hu,Bool.not_false];simp
theorem xv (L:List Int) (kl:List (Int × List Int)):(dD L kl).length≤kl.length:=List.length_filter_le _ _
structure KI (ae:Nat) (W wr:World) (v:Value) (L:List (Int × List Int)):Prop where
 own:wr.ownsRow ae 196 10 v L.length (mi L)
 below:Below ae W wr
theorem KI.app {ae:Nat} {W wr:World} {v:Value} {L:List (Int × List Int)} (h:KI ae W wr v L) {w2 w3:World} {v3:Value} {x:Int × List Int} (hb:Below ae W w2) (hz:ae≤w2.heap.size) (hg:w2.grownBy w3 v.ownBlock) (ho:w3.ownsRow ae 196 10 v3 (L.length+1) (mi L++hO x)):KI ae W w3 v3 (L++[x]):=by
 refine ⟨?_,hb.grown hg hz (fun k hk=>(h.own.lt k hk).1)⟩
 rw [uA,List.length_append]
 exact ho
def qM (w:World) (b:Nat) (kl:List (Int × List Int)) (e:Ending) (w':World):Prop:=
 e=.returned (.tuple #[])∧∃ (w1:World) (a:Option Addr) (c:Nat),Below w.heap.size w w1∧w1.ownsRow w.heap.size 196 10 (.slice a kl.length c) kl.length (mi kl)∧w'=w1.setCell ⟨b,3,none⟩ (.slice a kl.length c)
theorem wW (w:World) (b:Nat) (eU:Array Value) (v:Value) (kl:List (Int × List Int)) (al:Option Addr) (cl:Nat) (L:List Int) (hb:w.heap[b]?=some (.cells eU 90 (0,0))) (A6:eU[3]?=some v) (h:KL w v kl) (bw:kl.length≤24) (hI:RowI w al L) (hL:L.length≤1000) :
  Calls Tryz.prog 76 #[.pointer (some ⟨b,3,none⟩),.slice al L.length cl] w fun e w'=>qM w b (dD L kl) e w':=by
 obtain ⟨i0,z0,hi,iz,is,ib,G6⟩:=Tryz.infoK
 obtain ⟨a,c,hv⟩:=h.shape
 subst hv
 have sy:Hid (w.heap[b]?=some (.cells eU 90 (0,0))):=hb
 have HP:Hid (KL w (.slice a kl.length c) kl):=h
 have HIL:Hid (RowI w al L):=hI
 have jI:b<w.heap.size:=(Array.getElem?_eq_some_iff.1 hb).1
 have q3:w.cell? ⟨b,3,none⟩=some (.slice a kl.length c):=aa hb A6
 have WL:Hid (eU[3]?=some (.slice a kl.length c)):=A6
 clear h hI hb A6
 have ES:Hid (KI w.heap.size w w (.slice none 0 0) (dD L (kl.take 0))):=⟨World.ownsRow_nil _ _ _ _,Below.refl _ _⟩
 go_enter Tryz.func76,Tryz.ntmps76
 go_wp2_with fail
 go_loopg [4,12] kl.length (fun gk v iv wr=>∃ i:Nat,iv=.int .i64 i∧i≤kl.length∧kl.length - i≤gk∧Hid (KI w.heap.size w wr v (dD L (kl.take i))))
 case atStart=>exact ⟨0,rfl,Nat.zero_le _,by omega,ES⟩
 case round=>
  obtain ⟨i,rfl,jC,fK,HN⟩:=hrel
  obtain ⟨a2,c2,jr⟩:=au HN.out.own
  subst jr
  have EA:(dD L (kl.take i)).length≤24:=by
   have h1:=xv L (kl.take i)
   have h2:(kl.take i).length≤kl.length:=List.length_take_le' _ _
   omega
  have iS:=HN.out.below.size
  by_cases aN:i<kl.length
  ·have hd:decide ((i:Int)<(kl.length:Int))=true:=by simp;omega
   obtain ⟨g,hg,db,he⟩:=HP.out.el aN
   subst hg
   have HE:Hid (KAt wr g (i*10) (hO kl[i]) kl[i].1):=he.below HN.out.below db
   have gA:Hid (dD L (kl.take (i+1))=if L.contains kl[i].1=true then dD L (kl.take i) else dD L (kl.take i)++[kl[i]]):=C8 aN
   clear he
   generalize kl[i]=y at HE gA
   obtain ⟨cs,jy⟩:∃ cs,hO y=cs:=⟨_,rfl⟩
   have PO:Hid (hO y=cs):=jy
   rw [jy] at HE
   clear jy
   have c0:cs[0]?=some (.int .i64 y.1):=HE.out.c0
   generalize dD L (kl.take i)=R at HN gA EA ⊢
   have jo:Hid (KAt (wr.alloc (.cells cs.toArray 196)) wr.heap.size 0 cs y.1):=HE.out.new wr
   have Ua:Hid (RowI (wr.alloc (.cells cs.toArray 196)) al L):=HIL.out.below (HN.out.below.alloc iS _)
   go_wp2_with (first | (refine wpList_load_mid rfl 196 _ rfl g (i*10) rfl cs _ HE.out.rng Tryz.underlying196 rfl HE.out.size ?_) | (refine aw rfl 196 _ _ rfl _ cs.toArray 196 rfl rfl HE.out.size' HE.out.same HE.out.all ?_))
   refine (F8 (wr.alloc (.cells cs.toArray 196)) al cl L y.1 Ua.out hL).mono ?_
   rintro e w3 ⟨rfl,eS⟩
   have EK:wr.heap.size+1≤w3.heap.size:=by have:=eS.size;simpa using this
   have ji:Hid (Below (wr.heap.size+1) (wr.alloc (.cells cs.toArray 196)) w3):=by simpa [Hid] using eS
   have nR:Hid (KI w.heap.size w w3 (.slice a2 R.length c2) R):=⟨aQ (HN.out.own.alloc _) eS,(HN.out.below.alloc iS _).trans (eS.mono (by simp;omega))⟩
   have iB:Hid (KAt w3 wr.heap.size 0 cs y.1):=jo.out.below ji.out (by omega)
   clear eS HN jo HE ji Ua c0
   cases hr:L.contains y.1 with
   | true=>
    have vk:Hid (KI w.heap.size w w3 (.slice a2 R.length c2) (dD L (kl.take (i+1)))):=by
     rw [gA.out,if_pos hr]
     exact nR.out
    clear gA hr
    go_wp2
    go_roundg (kl.length - (i+1))
    case measure=>omega
    case rel=>exact ⟨i+1,by go_num,by omega,Nat.le_refl _,vk⟩
   | false=>
    have fD:Hid (dD L (kl.take (i+1))=R++[y]):=by
     unfold Hid
     rw [gA.out,if_neg (by rw [hr];decide)]
    clear gA hr
    go_wp2_with (first | (refine wpList_load_mid rfl 196 _ rfl (wr.heap.size) (0) rfl cs _ iB.out.rng Tryz.underlying196 rfl iB.out.size ?_) | (refine bW w3.heap.size rfl rfl 86 196 _ rfl cs.toArray rfl i0 z0 Tryz.underlying86 hi iz (iB.out.info is) (iB.out.pos) (iB.out.small) ?_) | (at_builtin;refine wpList_append_own _ rfl (.tmp 21) (.tmp 23) 86 rfl (w.heap.size) 196 i0 z0 10 80 Tryz.underlying86 hi iz is ib G6 (by decide) _ _ _ rfl (nR.out.own.alloc _) ⟨w3.heap.size,0,none⟩ 1 1 cs rfl iB.out.len1 ?c1 iB.out.one ?c3 ?c4 ?c5 ?_))
    case c1=>exact aO w3 _ rfl _ _ _ (by simp)
    case c3=>unfold maxLen;omega
    case c4=>omega
    case c5=>simp;omega
    intro v5 w5 cX kG _
    have vk:Hid (KI w.heap.size w w5 v5 (dD L (kl.take (i+1)))):=by
     rw [fD.out]
     exact nR.out.app (nR.out.below.alloc (by omega) _) (by simp;omega) kG (by rw [PO.out];exact cX)
    clear cX kG nR iB
    go_wp2
    go_roundg (kl.length - (i+1))
    case measure=>omega
    case rel=>exact ⟨i+1,by go_num,by omega,Nat.le_refl _,vk⟩
  ·have hd:decide ((i:Int)<(kl.length:Int))=false:=by simp;omega
   obtain rfl:i=kl.length:=by omega
   rw [List.take_length] at HN EA ⊢
   have oF:wr.heap[b]?=some (.cells eU 90 (0,0)):=(HN.out.below.block b jI).trans sy.out
   have e1:wr.cell? ⟨b,3,none⟩=some (.slice a kl.length c):=aa oF WL.out
   have ez:wr.frozen? ⟨b,3,none⟩=false:=ag oF
   have HE:Hid (qM w b (dD L kl) (.returned (.tuple #[])) (wr.setCell ⟨b,3,none⟩ (.slice a2 (dD L kl).length c2))):=⟨rfl,wr,a2,c2,HN.out.below,HN.out.own,rfl⟩
   clear oF q3
   generalize (dD L kl).length=n5 at HE EA ⊢
   go_wp2
   go_end0
   exact HE.out
end
end Go.Proofs.YtblfffbmklkhmaaGreat
