import Derived.Test.YtblfffbmklkhmaaGreatSt4
namespace Go.Proofs.YtblfffbmklkhmaaGreat
open Go.RowKit
theorem Tryz.info190:(Tryz.prog.info? 190).map (fun i=>(i.zero,i.size,i.bytes))=some (some (.agg #[.int .u8 0,.int .u8 0,.slice none 0 0]),3,32):=by kernel_rfl
def Keeps (w w':World) (ae:Nat) (e:TypeId):Prop:=∀ g eU,ae≤g→w.heap[g]?=some (.cells eU e (0,0))→w'.heap[g]?=some (.cells eU e (0,0))
theorem Keeps.trans {a b c:World} {ae:Nat} {e:TypeId} (h:Keeps a b ae e) (k:Keeps b c ae e):Keeps a c ae e:=fun g eU hg hh=>k g eU hg (h g eU hg hh)
theorem ec {w w1:World} {b:Nat} {s:ByteArray} {j:Nat} {m:Int} (h:At w w1 b s j m) {ae:Nat} (hb:b<ae) (e:TypeId):Keeps w w1 ae e:=fun g eU hg hh=>
 (h.gb.block g (Array.getElem?_eq_some_iff.1 hh).1 (fun e=>by injection e with e;omega)).trans hh
theorem bX (w:World) (o:Obj) (ae:Nat) (e:TypeId):Keeps w (w.alloc o) ae e:=fun g _ _ hh=>(Below.heap_alloc w o g (Array.getElem?_eq_some_iff.1 hh).1).trans hh
theorem dZ (w:World) {ae:Nat} {p:Addr} (hp:p.block<ae) (u:Value) (e:TypeId):Keeps w (w.setCell p u) ae e:=fun g _ hg hh=>(Below.heap_setCell w p u g (by omega)).trans hh
theorem iY {w w':World} {ae eY:Nat} {e e':TypeId} (eV:e≠e') {size:Nat} {v:Value} {n:Nat} {xs:List Value} (ho:w.ownsRow eY e' size v n xs) (hg:w.grownBy w' v.ownBlock):Keeps w w' ae e:=by
 intro g eU _ hh
 refine (hg.block g (Array.getElem?_eq_some_iff.1 hh).1 ?_).trans hh
 intro eq
 rcases ho.2 with ⟨rfl,_⟩ | ⟨g',fL,adT,rfl,_,TV,_⟩
 ·simp [Value.ownBlock] at eq
 ·simp [Value.ownBlock] at eq
  subst eq
  rw [hh] at TV
  injection TV with TV
  injection TV with _ h2 _
  exact eV h2
theorem Keeps.owns {w w':World} {ae:Nat} {e:TypeId} (hk:Keeps w w' ae e) {size:Nat} {v:Value} {n:Nat} {xs:List Value} (h:w.ownsRow ae e size v n xs):w'.ownsRow ae e size v n xs:=by
 refine ⟨h.1,?_⟩
 rcases h.2 with hn | ⟨g,fL,eU,hv,hg,hh,rest⟩
 ·exact Or.inl hn
 ·exact Or.inr ⟨g,fL,eU,hv,hg,hk g eU hg hh,rest⟩
structure cO where
 sg:Int
 ty:Nat
 ps:List PPt
def mo (s:ByteArray) (i0 i:Nat):Int:=if i=i0 then 0 else (bt s (i - 1):Int)
theorem H5 (s:ByteArray) (i:Nat):mo s i i=0:=if_pos rfl
theorem xO (s:ByteArray) {i l:Nat} (h:i<l+1):mo s i (l+1)=bt s l:=by
 unfold mo
 rw [if_neg (by omega),Nat.add_sub_cancel]
def Comps (w:World) (ae:Nat):List Value→List cO→Prop
 | xs,[]=>xs=[]
 | xs,x :: cs=>∃ (a:Option Addr) (c:Nat) (ps ys:List Value),xs=.int .u8 x.sg :: .int .u8 x.ty :: .slice a x.ps.length c :: ys∧w.ownsRow ae 192 5 (.slice a x.ps.length c) x.ps.length ps∧Kinds ps x.ps∧Comps w ae ys cs
theorem Comps.keep {w w':World} {ae:Nat} (hk:Keeps w w' ae 192):∀ {xs:List Value} {cs:List cO},Comps w ae xs cs→Comps w' ae xs cs
 | _,[],h=>h
 | _,_ :: _,⟨a,c,ps,ys,h1,h2,h3,h4⟩=>⟨a,c,ps,ys,h1,hk.owns h2,h3,Comps.keep hk h4⟩
theorem Comps.mono {w:World} {ae eY:Nat} (hb:eY≤ae):∀ {xs:List Value} {cs:List cO},Comps w ae xs cs→Comps w eY xs cs
 | _,[],h=>h
 | _,_ :: _,⟨a,c,ps,ys,h1,h2,h3,h4⟩=>⟨a,c,ps,ys,h1,aG h2 hb,h3,Comps.mono hb h4⟩
theorem Comps.snoc {w:World} {ae:Nat} (sg:Int) (ty:Nat) (a:Option Addr) (c:Nat) (ks:List PPt) (ps:List Value) (ho:w.ownsRow ae 192 5 (.slice a ks.length c) ks.length ps) (hk:Kinds ps ks) :
  ∀ {xs:List Value} {cs:List cO},Comps w ae xs cs→Comps w ae (xs++[.int .u8 sg,.int .u8 ty,.slice a ks.length c]) (cs++[⟨sg,ty,ks⟩])
 | _,[],h=>by simp only [Comps] at h;subst h;exact ⟨a,c,ps,[],rfl,ho,hk,rfl⟩
 | _,_ :: _,⟨a',c',rP,ys,h1,h2,h3,h4⟩=>⟨a',c',rP,_,by rw [h1];rfl,h2,h3,Comps.snoc sg ty a c ks ps ho hk h4⟩
def SelPre (s:ByteArray) (i0:Nat):Nat→Nat→List cO→Prop
 | i,j,[]=>i=j
 | i,j,x :: cs=>∃ l,eC s i l x.ty x.ps∧i<l∧lJ (bt s l)=false∧fM (bt s l)=true∧SelPre s i0 (l+1) j cs∧x.sg=mo s i0 i
theorem SelPre.snoc {s:ByteArray} {i0 i j l:Nat} {cs:List cO} {sg:Int} {ty:Nat} {ks:List PPt} (h:SelPre s i0 i j cs) (hg:sg=mo s i0 j) (hc:eC s j l ty ks) (hl:j<l) (hA:lJ (bt s l)=false) (hs:fM (bt s l)=true):SelPre s i0 i (l+1) (cs++[⟨sg,ty,ks⟩]):=by
 induction cs generalizing i with
 | nil=>simp only [SelPre] at h;subst h;exact ⟨l,hc,hl,hA,hs,rfl,hg⟩
 | cons x cs ih=>
  obtain ⟨l',h1,h2,h3,h4,h5,h6⟩:=h
  exact ⟨l',h1,h2,h3,h4,ih h5,h6⟩
def jU (s:ByteArray) (i j:Nat) (cs:List cO):Prop:=
 ∃ pre l ty ks,cs=pre++[⟨mo s i l,ty,ks⟩]∧SelPre s i i l pre∧eC s l j ty ks∧l<j∧lJ (bt s j)=false∧fM (bt s j)=false
structure uK (w:World) (b:Nat) (s:ByteArray) (i:Nat) (m:Int) (gk:Nat) (v:Value) (more:Bool) (wr:World) (j:Nat) (mP:Int) (cs:List cO) (xs:List Value):Prop where
 at':At (w.alloc (.cells #[.slice none 0 0] 141)) wr b s j mP
 own:wr.ownsRow (w.heap.size+1) 190 3 v cs.length xs
 comps:Comps wr (w.heap.size+1) xs cs
 le:i≤j
 few:cs.length≤j - i
 gk:more=true→s.size - j<gk
 go:more=true→SelPre s i i j cs∧∀ nr,V s 2 ⟨nr,1,m⟩ i=V s 2 ⟨nr,cs.length+1,bY (decide (cs.length=4)) mP j⟩ j
 done:more=false→jU s i j cs∧∀ nr,V s 2 ⟨nr,1,m⟩ i=V s 3 ⟨nr,cs.length,mP⟩ j
def M6 (w:World) (b:Nat) (s:ByteArray) (i:Nat) (m:Int) (e:Ending) (w':World):Prop:=
 (∃ (a:Option Addr) (c:Nat) (cs:List cO) (xs:List Value) (j:Nat) (m':Int),e=.returned (.tuple #[.agg #[.slice a cs.length c],.bool true])∧At w w' b s j m'∧w'.ownsRow w.heap.size 190 3 (.slice a cs.length c) cs.length xs∧Comps w' w.heap.size xs cs∧
  Hid (jU s i j cs∧i<j∧∀ nr,V s 2 ⟨nr,1,m⟩ i=V s 3 ⟨nr,cs.length,m'⟩ j))∨
 (∃ j m',e=.returned (.tuple #[.agg #[.slice none 0 0],.bool false])∧At w w' b s j m'∧Hid (∀ nr,V s 2 ⟨nr,1,m⟩ i=((j:Int),-1)))
theorem V9 (a b:Int) (c:Option Addr) (n k:Nat):∀ u∈[Value.int .u8 a,Value.int .u8 b,Value.slice c n k],u.oneCell'=true:=by
 intro u hu
 simp only [List.mem_cons,List.not_mem_nil,or_false] at hu
 rcases hu with rfl | rfl | rfl<;>rfl
theorem iX {s:ByteArray}:∀ {cs:List cO} {i0 i j:Nat},SelPre s i0 i j cs→i≤j
 | [],_,_,_,h=>by simp only [SelPre] at h;omega
 | _ :: _,_,_,_,⟨_,_,h2,_,_,h5,_⟩=>by have:=iX h5;omega
theorem ym {s:ByteArray} {i nr nc:Nat} {m:Int} (h:fM (bt s i)=true∧i<s.size):V s 3 ⟨nr,nc,m⟩ i=V s 2 ⟨nr,nc+1,bY (decide (nc=4)) m (i+1)⟩ (i+1):=by
 have gu:bt s i≠33:=by have:=h.1;simp only [fM,decide_eq_true_eq] at this;omega
 rw [uy h.2 (m':=2) (by simp [bC,gH,h.1,gu]) (by decide)]
 simp [cnt,h.1]
theorem Rd.allocAt {w:World} {b:Nat} {s:ByteArray} {j:Nat} {m:Int} (h:Rd w b s j m) (o:Obj):At (w.alloc o) (w.alloc o) b s j m:=(h.alloc o).at0
set_option maxHeartbeats 4000000 in
theorem yY (w:World) (b:Nat) (s:ByteArray) (i:Nat) (m:Int) (h:Rd w b s i m) :
  Calls Tryz.prog 179 #[.pointer (some ⟨b,0,none⟩)] w fun e w'=>M6 w b s i m e w':=by
 have hb:=h.lt
 have sN:=h.top
 obtain ⟨i0,hi,gx,gw,gB⟩:=info_parts Tryz.info190
 go_enter Tryz.func179,Tryz.ntmps179
 go_wp2_with fail
 go_loopg [4,5,6] (s.size - i+1) (fun gk v sgv mv wr=>∃ (j:Nat) (mP:Int) (cs:List cO) (xs:List Value) (sg:Int) (more:Bool),sgv=.int .u8 sg∧mv=.bool more∧uK w b s i m gk v more wr j mP cs xs∧Hid (more=true→sg=mo s i j))
 case atStart=>
  refine ⟨i,m,[],[],0,true,rfl,rfl,⟨h.allocAt _,World.ownsRow_nil _ _ _ _,rfl,Nat.le_refl _,by simp,fun _=>by omega,fun _=>⟨rfl,fun nr=>?_⟩,fun e=>by cases e⟩,fun _=>(H5 s i).symm⟩
  simp [bY]
 case round=>
  obtain ⟨j,mP,cs,xs,sg,more,rfl,rfl,R,T9⟩:=hrel
  have oz:=R.at'.rd.le
  obtain ⟨a,c,hv⟩:=au R.own
  subst hv
  cases more
  ·have R2:=R
   have fO:w.heap.size<wr.heap.size:=by have:=R.at'.size;simp only [World.size_alloc] at this;omega
   obtain ⟨hc,hz⟩:=R.at'.cells w.heap.size (by simp) (by omega)
   clear R
   go_wp2
   refine bodyPost_ret (v:=.tuple #[.agg #[.slice a cs.length c],.bool true]) (by simp [results,Tryz.results179,go_sem,hc]) rfl (Or.inl ⟨a,c,cs,xs,j,mP,rfl,R2.at'.ofAlloc.setNew hb (Nat.le_refl _) _,aG (ownsRow_setCell_below R2.own (by simp) _) (by omega),(R2.comps.keep (dZ _ (by simp) _ _)).mono (by omega),?_⟩)
   obtain ⟨q1,q2⟩:=R2.done rfl
   refine ⟨q1,?_,q2⟩
   obtain ⟨pre,l,ty,ks,_,h2,_,h4,_⟩:=q1
   have:=iX h2
   omega
  ·replace T9:Hid (sg=mo s i j):=T9.out rfl
   by_cases h4:cs.length=4
   ·have g4:((cs.length:Int)==4)=true:=by simp [h4]
    have H4:Hid (cs.length=4):=h4
    clear h4
    go_wp2_with fail
    refine (pK _ b s j mP (by exact R.at'.rd)).mono ?_
    rintro e w1 ⟨rfl,pF⟩
    have hM:Hid (∀ nr,V s 2 ⟨nr,cs.length+1,bY (decide (cs.length=4)) mP j⟩ j=V s 2 ⟨nr,cs.length+1,j9 mP j⟩ j):=fun nr=>by simp [bY,H4.out]
    generalize j9 mP j=M at pF hM
    go_wp2_with fail
    refine (pE _ b s j M (by exact pF.rd)).mono ?_
    rintro e w2 (⟨ty,a2,c2,ks,ps,l,rfl,cN,v9,bo⟩ | ⟨l,rfl,cN,bo⟩)
    ·have cZ:=(R.at'.trans pF).trans cN
     have fO:=(R.at'.trans pF).size
     simp only [World.size_alloc] at fO
     have nX:w.heap.size<w2.heap.size:=by have:=cZ.size;simp only [World.size_alloc] at this;omega
     have cu:=(pF.trans cN).owns R.own (by omega)
     have bR:=R.few
     go_wp2_with (at_builtin;refine wpList_append_own _ rfl (.tmp 25) (.tmp 27) 139 rfl (w.heap.size+1) 190 i0 (.agg #[.int .u8 0,.int .u8 0,.slice none 0 0]) 3 32 Tryz.underlying139 hi gx gw gB rfl (by decide) _ _ _ rfl ((cu.alloc _).alloc _) ⟨w2.heap.size+1,0,none⟩ 1 1 [.int .u8 sg,.int .u8 ty,.slice a2 ks.length c2] rfl rfl ?c1x ?c2x ?c3x ?c4x ?c5x ?_)
     case c1x=>exact aO (w2.alloc _) _ (by simp) _ _ _ rfl
     case c2x=>exact V9 _ _ _ _ _
     case c3x=>unfold maxLen;omega
     case c4x=>omega
     case c5x=>simp;omega
     ·intro v' w3 bB eJ _
      have bg:w3.ownsRow (w.heap.size+1) 190 3 v' (cs++[(⟨sg,ty,ks⟩:cO)]).length (xs++[.int .u8 sg,.int .u8 ty,.slice a2 ks.length c2]):=by simpa using bB
      have iU:Keeps wr w2 (w.heap.size+1) 192:=ec (pF.trans cN) (by omega) _
      have qP:Keeps w2 w3 (w.heap.size+1) 192:=((bX _ _ _ _).trans (bX _ _ _ _)).trans (iY (by decide) ((cu.alloc _).alloc _) eJ)
      have lS:Comps w3 (w.heap.size+1) (xs++[.int .u8 sg,.int .u8 ty,.slice a2 ks.length c2]) (cs++[⟨sg,ty,ks⟩]):=
       Comps.snoc sg ty a2 c2 ks ps (qP.owns (aG v9 fO)) bo.out.1 (R.comps.keep (iU.trans qP))
      have vG:At (w.alloc (.cells #[.slice none 0 0] 141)) w3 b s l M:=((cZ.alloc _).alloc _).app (by simp;omega) (by simpa using ((cu.alloc _).alloc _)) eJ
      obtain ⟨q1,q2,q3,q4,q5⟩:=bo.out
      have HV:Hid (SelPre s i i j cs∧eC s j l ty ks∧j<l∧lJ (bt s l)=false∧∀ nr,V s 2 ⟨nr,1,m⟩ i=V s 3 ⟨nr,cs.length+1,M⟩ l):=
       ⟨(R.go rfl).1,q5,q3,q4,fun nr=>by rw [(R.go rfl).2 nr,hM.out,q2]⟩
      have oz:=R.le
      have fK:=R.gk rfl
      have bw:(cs++[(⟨sg,ty,ks⟩:cO)]).length≤l - i:=by simp;omega
      clear bB eJ cu R iU qP q1 q2 q4 q5 bo
      go_wp2_with fail
      refine (BG _ b s l M (by exact vG.rd)).mono ?_
      rintro e w4 (⟨rfl,iC,gY⟩ | ⟨rfl,iC,gY⟩)
      ·have R4:uK w b s i m (s.size - l) v' true w4 (l+1) M (cs++[⟨sg,ty,ks⟩]) (xs++[.int .u8 sg,.int .u8 ty,.slice a2 ks.length c2]):=by
        obtain ⟨p1,p2,p3,p4,p5⟩:=HV.out
        have h4:=gY.out
        refine ⟨vG.trans iC,iC.owns bg (by omega),lS.keep (ec iC (by omega) _),by omega,by omega,fun _=>by omega,fun _=>⟨p1.snoc (T9.out) p2 p3 p4 h4.1,fun nr=>?_⟩,fun e=>by cases e⟩
        rw [p5 nr,ym h4]
        simp
       have G4:=gY.out.2
       clear lS bg
       go_wp2
       go_roundg (s.size - l)
       case measure=>omega
       case rel=>exact ⟨l+1,M,_,_,_,_,rfl,rfl,R4,fun _=>(xO s (by have:=HV.out.2.2.1;omega)).symm⟩
      ·have R4:uK w b s i m 0 v' false w4 l M (cs++[⟨sg,ty,ks⟩]) (xs++[.int .u8 sg,.int .u8 ty,.slice a2 ks.length c2]):=by
        obtain ⟨p1,p2,p3,p4,p5⟩:=HV.out
        exact ⟨vG.trans iC,iC.owns bg (by omega),lS.keep (ec iC (by omega) _),by omega,by omega,fun e=>(by cases e),fun e=>(by cases e),fun _=>⟨⟨cs,j,ty,ks,by rw [T9.out],p1,p2,p3,p4,gY.out⟩,fun nr=>by rw [p5 nr];simp⟩⟩
       clear lS bg
       go_wp2
       go_roundg 0
       case measure=>omega
       case rel=>exact ⟨l,M,_,_,_,_,rfl,rfl,R4,fun e=>by cases e⟩
    ·have cZ:=(R.at'.trans pF).trans cN
     have nX:w.heap.size<w2.heap.size:=by have:=cZ.size;simp only [World.size_alloc] at this;omega
     obtain ⟨hc,hz⟩:=cZ.cells w.heap.size (by simp) (by omega)
     go_wp2_with fail
     exact bodyPost_ret (v:=.tuple #[.agg #[.slice none 0 0],.bool false]) (by simp [results,Tryz.results179,go_sem,hc,nX]) rfl (Or.inr ⟨l,M,rfl,(cZ.ofAlloc.setNew hb (Nat.le_refl _) _).alloc _,fun nr=>by rw [(R.go rfl).2 nr,hM.out,bo.out]⟩)
   ·have g4:((cs.length:Int)==4)=false:=by simp;omega
    obtain ⟨M,pF,hM⟩:∃ M,At wr wr b s j M∧Hid (∀ nr,V s 2 ⟨nr,cs.length+1,bY (decide (cs.length=4)) mP j⟩ j=V s 2 ⟨nr,cs.length+1,M⟩ j):=⟨mP,R.at'.rd.at0,fun nr=>by simp [bY,h4]⟩
    clear h4
    go_wp2_with fail
    refine (pE _ b s j M (by exact pF.rd)).mono ?_
    rintro e w2 (⟨ty,a2,c2,ks,ps,l,rfl,cN,v9,bo⟩ | ⟨l,rfl,cN,bo⟩)
    ·have cZ:=(R.at'.trans pF).trans cN
     have fO:=(R.at'.trans pF).size
     simp only [World.size_alloc] at fO
     have nX:w.heap.size<w2.heap.size:=by have:=cZ.size;simp only [World.size_alloc] at this;omega
     have cu:=(pF.trans cN).owns R.own (by omega)
     have bR:=R.few
     go_wp2_with (at_builtin;refine wpList_append_own _ rfl (.tmp 25) (.tmp 27) 139 rfl (w.heap.size+1) 190 i0 (.agg #[.int .u8 0,.int .u8 0,.slice none 0 0]) 3 32 Tryz.underlying139 hi gx gw gB rfl (by decide) _ _ _ rfl ((cu.alloc _).alloc _) ⟨w2.heap.size+1,0,none⟩ 1 1 [.int .u8 sg,.int .u8 ty,.slice a2 ks.length c2] rfl rfl ?c1y ?c2y ?c3y ?c4y ?c5y ?_)
     case c1y=>exact aO (w2.alloc _) _ (by simp) _ _ _ rfl
     case c2y=>exact V9 _ _ _ _ _
     case c3y=>unfold maxLen;omega
     case c4y=>omega
     case c5y=>simp;omega
     ·intro v' w3 bB eJ _
      have bg:w3.ownsRow (w.heap.size+1) 190 3 v' (cs++[(⟨sg,ty,ks⟩:cO)]).length (xs++[.int .u8 sg,.int .u8 ty,.slice a2 ks.length c2]):=by simpa using bB
      have iU:Keeps wr w2 (w.heap.size+1) 192:=ec (pF.trans cN) (by omega) _
      have qP:Keeps w2 w3 (w.heap.size+1) 192:=((bX _ _ _ _).trans (bX _ _ _ _)).trans (iY (by decide) ((cu.alloc _).alloc _) eJ)
      have lS:Comps w3 (w.heap.size+1) (xs++[.int .u8 sg,.int .u8 ty,.slice a2 ks.length c2]) (cs++[⟨sg,ty,ks⟩]):=
       Comps.snoc sg ty a2 c2 ks ps (qP.owns (aG v9 fO)) bo.out.1 (R.comps.keep (iU.trans qP))
      have vG:At (w.alloc (.cells #[.slice none 0 0] 141)) w3 b s l M:=((cZ.alloc _).alloc _).app (by simp;omega) (by simpa using ((cu.alloc _).alloc _)) eJ
      obtain ⟨q1,q2,q3,q4,q5⟩:=bo.out
      have HV:Hid (SelPre s i i j cs∧eC s j l ty ks∧j<l∧lJ (bt s l)=false∧∀ nr,V s 2 ⟨nr,1,m⟩ i=V s 3 ⟨nr,cs.length+1,M⟩ l):=
       ⟨(R.go rfl).1,q5,q3,q4,fun nr=>by rw [(R.go rfl).2 nr,hM.out,q2]⟩
      have oz:=R.le
      have fK:=R.gk rfl
      have bw:(cs++[(⟨sg,ty,ks⟩:cO)]).length≤l - i:=by simp;omega
      clear bB eJ cu R iU qP q1 q2 q4 q5 bo
      go_wp2_with fail
      refine (BG _ b s l M (by exact vG.rd)).mono ?_
      rintro e w4 (⟨rfl,iC,gY⟩ | ⟨rfl,iC,gY⟩)
      ·have R4:uK w b s i m (s.size - l) v' true w4 (l+1) M (cs++[⟨sg,ty,ks⟩]) (xs++[.int .u8 sg,.int .u8 ty,.slice a2 ks.length c2]):=by
        obtain ⟨p1,p2,p3,p4,p5⟩:=HV.out
        have h4:=gY.out
        refine ⟨vG.trans iC,iC.owns bg (by omega),lS.keep (ec iC (by omega) _),by omega,by omega,fun _=>by omega,fun _=>⟨p1.snoc (T9.out) p2 p3 p4 h4.1,fun nr=>?_⟩,fun e=>by cases e⟩
        rw [p5 nr,ym h4]
        simp
       have G4:=gY.out.2
       clear lS bg
       go_wp2
       go_roundg (s.size - l)
       case measure=>omega
       case rel=>exact ⟨l+1,M,_,_,_,_,rfl,rfl,R4,fun _=>(xO s (by have:=HV.out.2.2.1;omega)).symm⟩
      ·have R4:uK w b s i m 0 v' false w4 l M (cs++[⟨sg,ty,ks⟩]) (xs++[.int .u8 sg,.int .u8 ty,.slice a2 ks.length c2]):=by
        obtain ⟨p1,p2,p3,p4,p5⟩:=HV.out
        exact ⟨vG.trans iC,iC.owns bg (by omega),lS.keep (ec iC (by omega) _),by omega,by omega,fun e=>(by cases e),fun e=>(by cases e),fun _=>⟨⟨cs,j,ty,ks,by rw [T9.out],p1,p2,p3,p4,gY.out⟩,fun nr=>by rw [p5 nr];simp⟩⟩
       clear lS bg
       go_wp2
       go_roundg 0
       case measure=>omega
       case rel=>exact ⟨l,M,_,_,_,_,rfl,rfl,R4,fun e=>by cases e⟩
    ·have cZ:=(R.at'.trans pF).trans cN
     have nX:w.heap.size<w2.heap.size:=by have:=cZ.size;simp only [World.size_alloc] at this;omega
     obtain ⟨hc,hz⟩:=cZ.cells w.heap.size (by simp) (by omega)
     go_wp2_with fail
     exact bodyPost_ret (v:=.tuple #[.agg #[.slice none 0 0],.bool false]) (by simp [results,Tryz.results179,go_sem,hc,nX]) rfl (Or.inr ⟨l,M,rfl,(cZ.ofAlloc.setNew hb (Nat.le_refl _) _).alloc _,fun nr=>by rw [(R.go rfl).2 nr,hM.out,bo.out]⟩)
end Go.Proofs.YtblfffbmklkhmaaGreat
