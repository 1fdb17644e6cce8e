import Derived.Test.YtblfffbmklkhmaaGreatSt18
import Derived.Test.YtblfffbmklkhmaaGreatSt17
namespace Go.Proofs.YtblfffbmklkhmaaGreat
open Go.RowKit
def Ki (w:World) (els:List PEl) (n:Int) (e:Ending) (w':World):Prop:=
 Below w.heap.size w w'∧((bU els n=none∧e=.returned (.tuple #[.slice none 0 0,.int .i64 5]))∨((∃ x,bU els n=some x)∧∃ (a:Option Addr) (c:Nat),e=.returned (.tuple #[.slice a (az els n).length c,.int .i64 0])∧w'.ownsRow w.heap.size 3 1 (.slice a (az els n).length c) (az els n).length (aK (az els n))))
set_option maxRecDepth 100000 in
set_option maxHeartbeats 4000000 in
theorem Hj (w:World) (b:Nat) (v:Value) (els:List PEl) (n:Int) (hb:w.cell? ⟨b,1,none⟩=some v) (h:PL w v els) (bw:els.length≤24) :
  Calls Tryz.prog 138 #[.pointer (some ⟨b,1,none⟩),.int .i64 n] w fun e w'=>Ki w els n e w':=by
 obtain ⟨i0,hi,gx,gw,gB⟩:=info_parts Tryz.info3
 obtain ⟨a,c,hv⟩:=h.shape
 subst hv
 have HP:Hid (PL w (.slice a els.length c) els):=h
 have jI:b<w.heap.size:=World.block_lt_of_cell? w _ hb
 clear h
 go_enter Tryz.func138,Tryz.ntmps138
 go_wp2_with fail
 refine (dq w b _ els n hb HP.out bw).mono ?_
 rintro e w1 ⟨cF,⟨hf,rfl⟩ | ⟨ip,xp,_,hf,rfl⟩⟩
 ·have HF:Hid (bU els n=none):=hf
  clear hf
  go_wp2
  go_ret2
  exact ⟨cF,Or.inl ⟨HF.out,rfl⟩⟩
 ·have HF:Hid (∃ x,bU els n=some x):=⟨xp,hf⟩
  clear hf
  have oj:w1.cell? ⟨b,1,none⟩=some (.slice a els.length c):=(cF.cell (p:=⟨b,1,none⟩) jI).trans hb
  have ed:Hid (Below w.heap.size w w1):=cF
  clear hb cF
  go_wp2_with fail
  go_loopg [8,24] els.length (fun gk v iv wr=>∃ i:Nat,iv=.int .i64 i∧i≤els.length∧els.length - i≤gk∧Hid (wr.ownsRow w.heap.size 3 1 v (az (els.take i) n).length (aK (az (els.take i) n))∧Below w.heap.size w wr))
  case atStart=>exact ⟨0,rfl,Nat.zero_le _,by omega,World.ownsRow_nil _ _ _ _,ed.out⟩
  case round=>
   obtain ⟨i,rfl,jC,fK,HN⟩:=hrel
   obtain ⟨a2,c2,jr⟩:=au HN.out.1
   subst jr
   have om:(az (els.take i) n).length≤24:=by
    have:=zW (els.take i) n
    have:(els.take i).length≤els.length:=List.length_take_le' _ _
    omega
   have iS:=HN.out.2.size
   by_cases aN:i<els.length
   ·have hd:decide ((i:Int)<(els.length:Int))=true:=by simp;omega
    obtain ⟨g,hg,db,he⟩:=HP.out.el aN
    subst hg
    have I1:Hid (az (els.take (i+1)) n=az (els.take i) n++if els[i].par=n then [els[i].num] else []):=wV aN n
    have HE:Hid (ElAt wr g (i*31) els[i].cells els[i].num els[i].par):=he.below HN.out.2 db
    clear he
    generalize els[i]=x at HE I1
    generalize x.cells=cs at HE
    have c0:cs[0]?=some (.int .i64 x.num):=HE.out.c0
    have c1:cs[1]?=some (.int .i64 x.par):=HE.out.c1
    generalize az (els.take i) n=L at HN I1 om ⊢
    by_cases eg:x.par=n
    ·have gp:(x.par==n)=true:=by simp [eg]
     have DH:Hid (az (els.take (i+1)) n=L++[x.num]):=by unfold Hid;rw [I1.out,if_pos eg]
     clear eg I1
     go_wp2_with (first | (refine wpList_load_mid rfl 134 _ rfl g (i*31) rfl cs _ HE.out.rng Tryz.underlying134 rfl HE.out.size ?_) | (refine aw rfl 134 _ _ rfl _ cs.toArray 134 rfl rfl HE.out.size' HE.out.same HE.out.all ?_) | (at_builtin;refine wpList_append_own _ rfl (.tmp 32) (.tmp 35) 40 rfl w.heap.size 3 i0 (.int .i64 0) 1 8 Tryz.underlying40 hi gx gw gB rfl (by decide) _ _ _ rfl ((HN.out.1.alloc _).alloc _) ⟨wr.heap.size+1,0,none⟩ 1 1 [.int .i64 (x.num:Int)] rfl rfl ?c1 ?c2 ?c3 ?c4 ?c5 ?_))
     case c1=>exact aO (wr.alloc _) _ (by simp) _ _ _ rfl
     case c2=>exact pQ x.num
     case c3=>unfold maxLen;omega
     case c4=>omega
     case c5=>simp;omega
     intro v5 w5 cX kG _
     have vn:Hid (w5.ownsRow w.heap.size 3 1 v5 (az (els.take (i+1)) n).length (aK (az (els.take (i+1)) n))∧Below w.heap.size w w5):=by
      rw [DH.out]
      exact ⟨by simpa [aK] using cX,((HN.out.2.alloc iS _).alloc (by simp;omega) _).grown kG (by simp;omega) (fun k hk=>(HN.out.1.lt k hk).1)⟩
     clear cX kG HN HE c0 c1
     go_wp2
     go_roundg (els.length - (i+1))
     case measure=>omega
     case rel=>exact ⟨i+1,by go_num,by omega,Nat.le_refl _,vn⟩
    ·have gp:(x.par==n)=false:=by simp [eg]
     have vn:Hid ((wr.alloc (.cells cs.toArray 134)).ownsRow w.heap.size 3 1 (.slice a2 L.length c2) (az (els.take (i+1)) n).length (aK (az (els.take (i+1)) n))∧Below w.heap.size w (wr.alloc (.cells cs.toArray 134))):=by
      rw [I1.out,if_neg eg,List.append_nil]
      exact ⟨HN.out.1.alloc _,HN.out.2.alloc iS _⟩
     clear eg I1
     go_wp2_with (first | (refine wpList_load_mid rfl 134 _ rfl g (i*31) rfl cs _ HE.out.rng Tryz.underlying134 rfl HE.out.size ?_) | (refine aw rfl 134 _ _ rfl _ cs.toArray 134 rfl rfl HE.out.size' HE.out.same HE.out.all ?_))
     go_roundg (els.length - (i+1))
     case measure=>omega
     case rel=>exact ⟨i+1,by go_num,by omega,Nat.le_refl _,vn⟩
   ·have hd:decide ((i:Int)<(els.length:Int))=false:=by simp;omega
    obtain rfl:i=els.length:=by omega
    rw [List.take_length] at HN om ⊢
    go_wp2
    go_ret2
    exact ⟨HN.out.2,Or.inr ⟨HF.out,a2,c2,rfl,HN.out.1⟩⟩
def wv (w:World) (s:ByteArray) (e:Ending) (w':World):Prop:=
 Below w.heap.size w w'∧((ax s=false∧e=.returned (.tuple #[.agg #[.slice none 0 0,.int .i64 0],.int .i64 4]))∨(ax s=true∧∃ (g:Nat) (x:PEl),e=.returned (.tuple #[.agg #[.slice (some ⟨g,0,none⟩) 1 1,.int .i64 1],.int .i64 0])∧x.num=0∧x.par=-1∧(∀ M,MkO [x] (bQ M 0 (dK s)))∧PL w' (.slice (some ⟨g,0,none⟩) 1 1) [x]∧w.heap.size≤g))
set_option maxRecDepth 100000 in
set_option maxHeartbeats 4000000 in
theorem Jy (w:World) (s:ByteArray) :
  Calls Tryz.prog 43 #[.string s] w fun e w'=>wv w s e w':=by
 obtain ⟨i0,z0,hi,iz,is,ib,G6⟩:=Tryz.infoE
 go_enter Tryz.func43,Tryz.ntmps43
 go_wp2_with fail
 refine (pG _ s).mono ?_
 rintro e w1 ⟨c,rfl,o9,zo,_⟩
 have ZF:Hid (ax s=true→c=bt s 0):=zo
 clear zo
 have cF:Below w.heap.size w w1:=((Below.refl _ _).alloc (Nat.le_refl _) _).trans (o9.below.mono (by simp))
 have fO:w.heap.size<w1.heap.size:=by have:=o9.below.size;simp at this;omega
 have lg:w1.heap[w.heap.size]?=some (.cells #[.slice none 0 0,.int .i64 0] 85):=(o9.below.block w.heap.size (by simp)).trans (heap_alloc_new w _)
 have q0:w1.cell? ⟨w.heap.size,0,none⟩=some (.slice none 0 0):=aa lg rfl
 have q1:w1.cell? ⟨w.heap.size,1,none⟩=some (.int .i64 0):=aa lg rfl
 have qz:∀ k,w1.frozen? ⟨w.heap.size,k,none⟩=false:=fun _=>ag lg
 have sy:Hid (w1.heap[w.heap.size]?=some (.cells #[.slice none 0 0,.int .i64 0] 85)):=lg
 clear o9 lg
 cases hl:ax s with
 | false=>
  have HL:Hid (ax s=false):=hl
  clear hl
  go_wp2_with fail
  exact bodyPost_ret (v:=.tuple #[.agg #[.slice none 0 0,.int .i64 0],.int .i64 4]) (by simp [results,Tryz.results43,go_sem,q0,q1]) rfl ⟨(cF.setCell (Nat.le_refl _) _).setCell (Nat.le_refl _) _,Or.inl ⟨HL.out,rfl⟩⟩
 | true=>
  have HL:Hid (ax s=true):=hl
  clear hl
  have ZT:=Ly 0 (-1) c
  have MZ:Hid (∀ M,MkO [PEl.mk 0 (-1) (dF c)] (bQ M 0 (dK s))):=fun M=>(show MkO [] M from ⟨fun _ h=>(by cases h),fun _ h=>(by cases h)⟩).more (x:=PEl.mk 0 (-1) (dF c)) 0 (Fl _ _ _) (Ko _ _ (ZF.out HL.out)) (fun _ h=>by cases h)
  have HE:Hid (ElAt (w1.alloc (.cells (PEl.mk 0 (-1) (dF c)).cells.toArray 134)) w1.heap.size 0 (PEl.mk 0 (-1) (dF c)).cells 0 (-1)):=Dp ZT w1
  go_upto_region 5 with (refine aw rfl 134 _ _ rfl _ (PEl.mk 0 (-1) (dF c)).cells.toArray 134 rfl rfl HE.out.size' HE.out.same HE.out.all ?_)
  have yr:Hid (∃ x:PEl,x.num=0∧x.par=-1∧(∀ M,MkO [x] (bQ M 0 (dK s)))∧x.ok∧x.cells=(PEl.mk 0 (-1) (dF c)).cells):=⟨_,rfl,rfl,MZ.out,ZT,rfl⟩
  clear ZT MZ
  generalize (PEl.mk 0 (-1) (dF c)).cells=cs at HE yr ⊢
  go_wp2_with (first | (refine wpList_load_mid rfl 134 _ rfl w1.heap.size 0 rfl cs _ HE.out.rng Tryz.underlying134 rfl HE.out.size ?_) | (refine bW (w1.heap.size+1) (by simp) rfl 83 134 _ rfl cs.toArray rfl i0 z0 Tryz.underlying83 hi iz (HE.out.info is) HE.out.pos HE.out.small ?_))
  obtain ⟨W2,EC⟩:∃ W2,W2=(w1.setCell ⟨w.heap.size,0,none⟩ (.slice (some ⟨w1.heap.size+1,0,none⟩) 1 1)).setCell ⟨w.heap.size,1,none⟩ (.int .i64 1):=⟨_,rfl⟩
  rw [←EC]
  have mq:(w1.setCell ⟨w.heap.size,0,none⟩ (.slice (some ⟨w1.heap.size+1,0,none⟩) 1 1)).heap[w.heap.size]?=some (.cells #[.slice (some ⟨w1.heap.size+1,0,none⟩) 1 1,.int .i64 0] 85 (0,0)):=by rw [aq sy.out];rfl
  have IP:W2.heap[w.heap.size]?=some (.cells #[.slice (some ⟨w1.heap.size+1,0,none⟩) 1 1,.int .i64 1] 85 (0,0)):=by rw [EC,aq mq];rfl
  have Wy:W2.heap.size=w1.heap.size:=by rw [EC];simp
  have hBW:Below w.heap.size w W2:=by rw [EC];exact (cF.setCell (Nat.le_refl _) _).setCell (Nat.le_refl _) _
  clear EC mq
  have vR:((W2.alloc (.cells cs.toArray 134)).alloc (.cells cs.toArray 134)).heap[w.heap.size]?=some (.cells #[.slice (some ⟨w1.heap.size+1,0,none⟩) 1 1,.int .i64 1] 85 (0,0)):=(Below.heap_alloc _ _ _ (by simp;omega)).trans ((Below.heap_alloc _ _ _ (by omega)).trans IP)
  have f0:((W2.alloc (.cells cs.toArray 134)).alloc (.cells cs.toArray 134)).cell? ⟨w.heap.size,0,none⟩=some (.slice (some ⟨w1.heap.size+1,0,none⟩) 1 1):=aa vR rfl
  have f1:((W2.alloc (.cells cs.toArray 134)).alloc (.cells cs.toArray 134)).cell? ⟨w.heap.size,1,none⟩=some (.int .i64 1):=aa vR rfl
  have ri:Hid (wv w s (.returned (.tuple #[.agg #[.slice (some ⟨w1.heap.size+1,0,none⟩) 1 1,.int .i64 1],.int .i64 0])) ((W2.alloc (.cells cs.toArray 134)).alloc (.cells cs.toArray 134))):=by
   have hz:=hBW.size
   refine ⟨(hBW.alloc hz _).alloc (by simp;omega) _,Or.inr ⟨HL.out,w1.heap.size+1,?_⟩⟩
   obtain ⟨x,h1,h2,Ci,h3,h4⟩:=yr.out
   refine ⟨x,rfl,h1,h2,Ci,⟨?_,?_⟩,by omega⟩
   ·have e1:(W2.alloc (.cells cs.toArray 134)).heap.size=w1.heap.size+1:=by simp [Wy]
    have bR:=HE.out.len
    have rt:fh [x]=cs:=by simp [fh,h4]
    rw [rt]
    refine ⟨by rw [bR];rfl,Or.inr ⟨w1.heap.size+1,1,cs.toArray,rfl,Nat.zero_le _,?_,Nat.le_refl _,by unfold maxLen;omega,by simp [bR],?_⟩⟩
    ·rw [←e1]
     exact heap_alloc_new _ _
    ·have:cs.take 31=cs:=List.take_of_length_le (by omega)
     simpa using this
   ·intro e he
    rw [List.mem_singleton] at he
    rw [he]
    exact h3
  generalize (W2.alloc (.cells cs.toArray 134)).alloc (.cells cs.toArray 134)=W5 at f0 f1 ri ⊢
  exact bodyPost_ret (v:=.tuple #[.agg #[.slice (some ⟨w1.heap.size+1,0,none⟩) 1 1,.int .i64 1],.int .i64 0]) (by simp [results,Tryz.results43,go_sem,f0,f1]) rfl ri.out
end Go.Proofs.YtblfffbmklkhmaaGreat
namespace Go.Proofs.YtblfffbmklkhmaaGreat
open Go.RowKit
structure Vw where
 ty:Int→Int→Bool
 cl:Int→Int→Bool
 nm:Int→Int→Bool
 ab:Int→List Int
 ah:Int→List Int
 la:Int→Bool
 em:Int→Bool
def nj (v:Vw) (p:PPt) (e:Int):Bool:=
 if p.kd=1 then v.ty e p.lt else if p.kd=2 then v.cl e p.lt else if p.kd=3 then v.nm e p.lt
 else if p.kd=4 then decide (((v.ah e).length:Int)+1=1) else if p.kd=5 then v.la e else if p.kd=6 then v.em e
 else if p.kd=7 then ld (((v.ah e).length:Int)+1) p.st p.sr else false
def ke (v:Vw) (c:cO) (e:Int):Bool:=(c.ty==0||v.ty e c.ty)&&c.ps.all fun p=>nj v p e != p.nt
def ek (v:Vw) (sg e:Int):List Int:=if sg=32 then v.ab e else if sg=62 then (v.ab e).take 1 else if sg=126 then v.ah e else if sg=43 then (v.ah e).take 1 else []
def js (v:Vw):List cO→Int→Bool
 | [],_=>false
 | [c],e=>ke v c e
 | c :: d :: r,e=>ke v c e&&(ek v c.sg e).any (js v (d :: r))
def oL (v:Vw) (cs:List cO) (e:Int):Bool:=js v cs.reverse e
def gX (v:Vw) (e:Int) (a:Int × Bool) (cs:List cO):Int × Bool:=if oL v cs e then (max a.1 ((vq cs:Nat):Int),true) else a
def ew (v:Vw) (e:Int) (ss:List (List cO)):Int × Bool:=ss.foldl (gX v e) (0,false)
def fg (v:Vw) (e:Int) (W:List Clm) (r:cQ):List Clm:=if (ew v e r.ss).2 then Cy W r (ew v e r.ss).1 else W
def eo (v:Vw) (rs:List cQ) (e:Int):List Clm:=rs.foldl (fg v e) (List.replicate 9 Clm.none)
def CM (v:Vw) (rs:List cQ) (e:Int) (comes:List Int):List Int:=(List.range 9).map fun p=>cV (eo v rs e) comes 9 p
def dj (v:Vw) (rs:List cQ) (e:Int):List Int:=CM v rs e ((v.ab e).foldr (fun x comes=>CM v rs x comes) dO)
def ln (els:List PEl):Vw:=⟨dn els,dC els,eW els,bp els els.length,bJ els,jg els,f9 els⟩
theorem sR (els:List PEl):∀ (cs:List cO) (e:Int),di els cs e=js (ln els) cs e
 | [],_=>rfl
 | [_],_=>rfl
 | c :: d :: r,e=>by
  have ih:di els (d :: r)=js (ln els) (d :: r):=funext fun x=>sR els (d :: r) x
  show (fG els c e&&(cK els c.sg e).any (di els (d :: r)))=(ke (ln els) c e&&(ek (ln els) c.sg e).any (js (ln els) (d :: r)))
  rw [ih]
  rfl
theorem CT (els:List PEl) (cs:List cO) (e:Int):qE els cs e=oL (ln els) cs e:=sR els _ e
theorem C6 (els:List PEl) (e:Int):dJ els e=ew (ln els) e:=by
 have:eZ els e=gX (ln els) e:=by
  funext a cs
  unfold eZ gX
  rw [CT]
 funext ss
 unfold dJ ew
 rw [this]
theorem zg (els:List PEl) (rs:List cQ) (e:Int):bc els rs e=eo (ln els) rs e:=by
 have:jQ els e=fg (ln els) e:=by
  funext W r
  unfold jQ fg
  rw [C6]
 unfold bc eo
 rw [this]
theorem M3 (els:List PEl) (rs:List cQ):Eu els rs=CM (ln els) rs:=by
 funext e comes
 unfold Eu CM
 rw [zg]
def dA (T:aA) (p:Int):List Nat:=(bn T p).getD []
def gF (T:aA) (M:Nat→Mk) (e l:Int):Bool:=(bn T e).isSome&&(M e.toNat).kd==l
def e9 (T:aA) (M:Nat→Mk) (e l:Int):Bool:=(bn T e).isSome&&(decide (97≤l∧l≤122)&&(M e.toNat).cl (l - 97).toNat)
def gJ (T:aA) (M:Nat→Mk) (e l:Int):Bool:=(bn T e).isSome&&(M e.toNat).nm==l
def aW (T:aA):Nat→Int→List Int
 | 0,_=>[]
 | k+1,e=>if aU T e=-1 then [] else aU T e :: aW T k (aU T e)
def cE (T:aA) (e:Int):List Int:=if (bn T e).isSome then (((dA T (aU T e)).takeWhile fun (k:Nat)=>decide (¬ (k:Int)=e)).map fun (k:Nat)=>(k:Int)).reverse else []
def oi (T:aA) (e:Int):Bool:=(bn T e).isSome&&decide (((dA T (aU T e)).dropWhile fun (k:Nat)=>decide (¬ (k:Int)=e)).length≤1)
def kD (T:aA) (e:Int):Bool:=(bn T e).isSome&&(dA T e).isEmpty
def aY (T:aA) (M:Nat→Mk):Vw:=⟨gF T M,e9 T M,gJ T M,aW T T.length,cE T,oi T,kD T⟩
section
variable {els:List PEl} {T:aA} {made:Nat} {M:Nat→Mk}
theorem iH (h:PT els T) (hw:TW T made) (e:Int):(bU els e).isSome=(bn T e).isSome:=by
 cases hf:bU els e with
 | none=>rw [h.find_none hf];rfl
 | some x=>rw [(h.find_some hw hf).1];rfl
theorem uH (h:PT els T) (hw:TW T made):∀ k e,bp els k e=aW T k e
 | 0,_=>rfl
 | k+1,e=>by
  have e1:=h.parP hw e
  show (if parP els e=-1 then [] else parP els e :: bp els k (parP els e))=(if aU T e=-1 then [] else aU T e :: aW T k (aU T e))
  rw [e1,uH h hw k]
theorem ve {i:Nat} {x:PEl} (hx:els[i]?=some x):els=els.take i++x :: els.drop (i+1):=by
 obtain ⟨hi,he⟩:=List.getElem?_eq_some_iff.1 hx
 rw [←he,←List.drop_eq_getElem_cons hi,List.take_append_drop]
theorem Dn {i:Nat} {x:PEl} (hx:els[i]?=some x):az els x.par=az (els.take i) x.par++x.num :: az (els.drop (i+1)) x.par:=by
 conv=>lhs;rw [ve hx]
 rw [dV,show x :: els.drop (i+1)=[x]++els.drop (i+1) from rfl,dV,nW,if_pos rfl]
 rfl
theorem G3 (hn:(els.map PEl.num).Nodup) {i:Nat} {x:PEl} (hx:els[i]?=some x):∀ k∈az (els.take i) x.par,k≠x.num:=by
 intro k hk e
 rw [eB] at hk
 obtain ⟨y,hy,_,h2⟩:=hk
 have hs:=ve hx
 rw [hs,List.map_append,List.nodup_append] at hn
 exact hn.2.2 y.num (List.mem_map.2 ⟨y,hy,rfl⟩) x.num (by simp) (by rw [h2,e])
theorem j6 (hn:(els.map PEl.num).Nodup) {i:Nat} {x:PEl} (hx:els[i]?=some x):(az els x.par).takeWhile (fun (k:Nat)=>decide (¬ (k:Int)=(x.num:Int)))=az (els.take i) x.par∧(az els x.par).dropWhile (fun (k:Nat)=>decide (¬ (k:Int)=(x.num:Int)))=x.num :: az (els.drop (i+1)) x.par:=by
 have hna:=G3 hn hx
 have h1:∀ k∈az (els.take i) x.par,decide (¬ (k:Int)=(x.num:Int))=true:=fun k hk=>by
  have:=hna k hk
  rw [decide_eq_true_eq]
  omega
 rw [Dn hx]
 constructor
 ·rw [List.takeWhile_append_of_pos h1]
  simp
 ·rw [List.dropWhile_append_of_pos h1]
  simp
theorem xM (h:PT els T) (hw:TW T made) {x y:PEl} (hx:x∈els) (hy:y∈els) (h1:x.par=-1) (h2:y.par=-1):x=y:=by
 have z:∀ z∈els,z.par=-1→z.num=0:=fun z hz hp=>by
  by_cases h0:z.num=0
  ·exact h0
  ·obtain ⟨l,hl⟩:=h.to' z hz
   obtain ⟨q,hq,_,lC⟩:=hw.up hl h0
   have:=h.par hw hz
   rw [hp,lC] at this
   omega
 exact zd h.nums hx hy (by rw [z x hx h1,z y hy h2])
theorem oy (h:PT els T) (hw:TW T made) {x:PEl} (hx:x∈els) (hp:x.par≠-1):dA T (aU T x.num)=az els x.par:=by
 rw [←h.par hw hx]
 have h2:=h.par hw hx
 rcases cB T x.num with ⟨h1,_⟩ | ⟨e,he,_,h1⟩
 ·rw [h1] at h2;exact absurd h2 hp
 ·rw [h2,h1]
  unfold dA
  rw [dt hw.nums (k:=e.1) (l:=e.2) he]
  show e.2=_
  exact h.kids e.1 e.2 he
theorem A9 (h:PT els T) (hw:TW T made) {x:PEl} (hx:x∈els) (hp:x.par=-1):dA T (aU T x.num)=[]:=by
 rw [←h.par hw hx,hp]
 unfold dA
 cases ht:bn T (-1) with
 | none=>rfl
 | some l=>
  obtain ⟨k,hk,_⟩:=fx ht
  omega
theorem wA {i:Nat} {x:PEl} (hx:els[i]?=some x):x∈els:=List.mem_of_getElem? hx
theorem tW (h:PT els T) (hw:TW T made) {i:Nat} {x:PEl} (hx:els[i]?=some x) (hp:x.par=-1):az (els.take i) x.par=[]∧az (els.drop (i+1)) x.par=[]:=by
 have hd:(els.map PEl.num).Nodup:=h.nums
 have hs:=ve hx
 constructor
 ·rw [List.eq_nil_iff_forall_not_mem]
  intro k hk
  rw [eB] at hk
  obtain ⟨y,hy,h1,_⟩:=hk
  have:=xM h hw (wA hx) (List.mem_of_mem_take hy) hp (h1.trans hp)
  subst this
  rw [hs,List.map_append,List.nodup_append] at hd
  exact hd.2.2 x.num (List.mem_map.2 ⟨x,hy,rfl⟩) x.num (by simp) rfl
 ·rw [List.eq_nil_iff_forall_not_mem]
  intro k hk
  rw [eB] at hk
  obtain ⟨y,hy,h1,_⟩:=hk
  have:=xM h hw (wA hx) (List.mem_of_mem_drop hy) hp (h1.trans hp)
  subst this
  rw [hs,List.map_append,List.nodup_append] at hd
  have h3:=hd.2.1
  rw [List.map_cons,List.nodup_cons] at h3
  exact h3.1 (List.mem_map.2 ⟨x,hy,rfl⟩)
theorem Ak {e:Int} {x:PEl} (hn:(els.map PEl.num).Nodup) (hf:bU els e=some x):els[kO els e]?=some x:=by
 obtain ⟨hm,he⟩:=du hf
 obtain ⟨i,hi,hx⟩:=List.getElem_of_mem hm
 have h1:els[i]?=some x:=by rw [List.getElem?_eq_getElem hi,hx]
 have h2:=oJ hn h1
 rw [he] at h2
 rw [h2]
 exact h1
theorem J3 (h:PT els T) (hw:TW T made) (e:Int):bJ els e=cE T e:=by
 unfold bJ cE
 cases hf:bU els e with
 | none=>rw [h.find_none hf];rfl
 | some x=>
  have hi:=Ak h.nums hf
  obtain ⟨hm,rfl⟩:=du hf
  rw [(h.find_some hw hf).1]
  show ee els (kO els x.num) x.par=(((dA T (aU T x.num)).takeWhile fun (k:Nat)=>decide (¬ (k:Int)=(x.num:Int))).map fun (k:Nat)=>(k:Int)).reverse
  have e1:ee els (kO els x.num) x.par=((az (els.take (kO els x.num)) x.par).map fun (k:Nat)=>(k:Int)).reverse:=by
   unfold ee az
   rw [List.map_map]
   rfl
  rw [e1]
  by_cases hp:x.par=-1
  ·rw [A9 h hw hm hp,(tW h hw hi hp).1]
   rfl
  ·rw [oy h hw hm hp,(j6 h.nums hi).1]
theorem NR (h:PT els T) (hw:TW T made) (e:Int):jg els e=oi T e:=by
 unfold jg oi
 cases hf:bU els e with
 | none=>rw [h.find_none hf];rfl
 | some x=>
  have hi:=Ak h.nums hf
  obtain ⟨hm,rfl⟩:=du hf
  rw [(h.find_some hw hf).1]
  show ((els.drop (kO els x.num+1)).all fun y=>decide (¬ y.par=x.par))=(true&&decide (((dA T (aU T x.num)).dropWhile fun (k:Nat)=>decide (¬ (k:Int)=(x.num:Int))).length≤1))
  have e1:((els.drop (kO els x.num+1)).all fun y=>decide (¬ y.par=x.par))=decide (az (els.drop (kO els x.num+1)) x.par=[]):=by
   rw [Bool.eq_iff_iff,List.all_eq_true,decide_eq_true_eq]
   constructor
   ·intro h1
    rw [List.eq_nil_iff_forall_not_mem]
    intro k hk
    rw [eB] at hk
    obtain ⟨y,hy,h2,_⟩:=hk
    have:=h1 y hy
    rw [decide_eq_true_eq] at this
    exact this h2
   ·intro h1 y hy
    rw [decide_eq_true_eq]
    intro h2
    have:y.num∈az (els.drop (kO els x.num+1)) x.par:=eB.2 ⟨y,hy,h2,rfl⟩
    rw [h1] at this
    cases this
  rw [e1,Bool.true_and]
  by_cases hp:x.par=-1
  ·rw [A9 h hw hm hp,(tW h hw hi hp).2]
   rfl
  ·rw [oy h hw hm hp,(j6 h.nums hi).2]
   cases az (els.drop (kO els x.num+1)) x.par<;>simp
theorem Jd (h:PT els T) (hw:TW T made) (e:Int):f9 els e=kD T e:=by
 unfold f9 kD
 rw [iH h hw,Bool.and_comm]
 cases ht:bn T e with
 | none=>rfl
 | some l=>
  show (true&&_)=(true&&_)
  rw [Bool.true_and,Bool.true_and]
  have hk:dA T e=az els e:=by
   unfold dA
   rw [ht]
   obtain ⟨k,rfl,hk⟩:=fx ht
   exact h.kids k l hk
  rw [hk,Bool.eq_iff_iff,List.all_eq_true,List.isEmpty_iff]
  constructor
  ·intro h1
   rw [List.eq_nil_iff_forall_not_mem]
   intro k hk
   rw [eB] at hk
   obtain ⟨y,hy,h2,_⟩:=hk
   have:=h1 y hy
   rw [decide_eq_true_eq] at this
   exact this h2
  ·intro h1 y hy
   rw [decide_eq_true_eq]
   intro h2
   have:y.num∈az els e:=eB.2 ⟨y,hy,h2,rfl⟩
   rw [h1] at this
   cases this
theorem Ov (h:PT els T) (hw:TW T made) (hM:PN els M):ln els=aY T M:=by
 have e1:dn els=gF T M:=by
  funext e l
  unfold dn gF
  rw [←iH h hw]
  cases hf:bU els e with
  | none=>rfl
  | some x=>
   obtain ⟨hm,rfl⟩:=du hf
   show (je x==l)=(true&&((M x.num).kd==l))
   rw [(hM x hm).1,Bool.true_and]
 have e2:dC els=e9 T M:=by
  funext e l
  unfold dC e9
  rw [←iH h hw]
  cases hf:bU els e with
  | none=>rfl
  | some x=>
   obtain ⟨hm,rfl⟩:=du hf
   show (if 97≤l∧l≤122 then dT x (l - 97).toNat else false)=(true&&(decide (97≤l∧l≤122)&&(M x.num).cl (l - 97).toNat))
   by_cases hl:97≤l∧l≤122
   ·rw [if_pos hl,decide_eq_true hl,(hM x hm).2.1 _ (by omega)];rfl
   ·rw [if_neg hl,decide_eq_false hl];rfl
 have e3:eW els=gJ T M:=by
  funext e l
  unfold eW gJ
  rw [←iH h hw]
  cases hf:bU els e with
  | none=>rfl
  | some x=>
   obtain ⟨hm,rfl⟩:=du hf
   show (iA x==l)=(true&&((M x.num).nm==l))
   rw [(hM x hm).2.2,Bool.true_and]
 unfold ln aY
 rw [e1,e2,e3,h.len hw,funext (uH h hw T.length),funext (J3 h hw),funext (NR h hw),funext (Jd h hw)]
end
end Go.Proofs.YtblfffbmklkhmaaGreat
