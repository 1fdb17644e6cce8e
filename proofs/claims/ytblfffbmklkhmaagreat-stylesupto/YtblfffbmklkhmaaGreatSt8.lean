import Derived.Test.YtblfffbmklkhmaaGreatSt7
import Derived.RegionTactic
namespace Go.Proofs.YtblfffbmklkhmaaGreat
open Go.RowKit
theorem Tryz.info138:(Tryz.prog.info? 138).map (fun i=>(i.zero,i.size,i.bytes))=some (some (.agg #[.int .i64 0,.slice none 0 0,.slice none 0 0]),3,56):=by kernel_rfl
def kt (s:ByteArray) (i j:Nat):Prop:=(bt s i=64∧j=i+2)∨(bt s i≠64∧j=i)
def Lq (s:ByteArray) (i:Nat):Int:=if bt s i=64 then (bt s (i+1):Int) - 48 else 10
structure cQ where
 ly:Int
 ss:List (List cO)
 ds:List PDc
def H8 (w:World) (b:Nat) (s:ByteArray) (i:Nat) (m:Int) (e:Ending) (w':World):Prop:=
 (∃ (v:Int) (j:Nat),e=.returned (.tuple #[.int .i64 v,.bool true])∧At w w' b s j m∧Hid (kt s i j∧(∀ nr nc mn,V s 18 ⟨nr,nc,mn⟩ i=V s 2 ⟨nr,1,mn⟩ j)∧v=Lq s i))∨
 (∃ (v:Int) (j:Nat),e=.returned (.tuple #[.int .i64 v,.bool false])∧At w w' b s j m∧Hid (sf s 18 i j))
theorem pZ {s:ByteArray} {i:Nat} (h:(bt s i:Int)=64∧i<s.size):(∀ nr nc mn,V s 18 ⟨nr,nc,mn⟩ i=V s 1 ⟨nr,1,mn⟩ (i+1))∧bt s i=64:=by
 have h1:bt s i=64:=by omega
 refine ⟨fun nr nc mn=>?_,h1⟩
 rw [uy h.2 (m':=1) (by simp [bC,h1]) (by decide)]
 simp [cnt]
theorem na {s:ByteArray} {i:Nat} (h:(bt s i:Int)≠64):(∀ nr nc mn,V s 18 ⟨nr,nc,mn⟩ i=V s 2 ⟨nr,1,mn⟩ i)∧bt s i≠64:=by
 have h1:¬ bt s i=64:=by omega
 exact ⟨fun nr nc mn=>LJ (by decide) (by decide) (by simp [bC,h1]) (by simp [cnt]),h1⟩
theorem Ai {s:ByteArray} {i:Nat} (h:fk (bt s i)=true∧i<s.size):∀ nr mn,V s 1 ⟨nr,1,mn⟩ i=V s 2 ⟨nr,1,mn⟩ (i+1):=fun nr mn=>by
 rw [uy h.2 (m':=2) (by simp [bC,h.1,wh]) (by decide)]
 simp [cnt]
theorem vK {s:ByteArray} {i:Nat} (h:fk (bt s i)=false):sf s 1 i i:=iT (by decide) (by simp [bC,h,wh])
set_option maxHeartbeats 1000000 in
theorem Ga (w:World) (b:Nat) (s:ByteArray) (i:Nat) (m:Int) (h:Rd w b s i m) :
  Calls Tryz.prog 157 #[.pointer (some ⟨b,0,none⟩)] w fun e w'=>H8 w b s i m e w':=by
 go_enter Tryz.func157,Tryz.ntmps157
 go_wp2_with fail
 refine (gK _ b s i m 64 (by exact h) (by decide)).mono ?_
 rintro e w1 (⟨rfl,ha,hf⟩ | ⟨rfl,ha,hf⟩)
 ·go_wp2_with fail
  refine (lA _ b s (i+1) m (by exact ha.rd)).mono ?_
  rintro e w2 (⟨rfl,cN,bo⟩ | ⟨rfl,cN,bo⟩)
  ·go_wp2_with fail
   go_ret2
   exact Or.inl ⟨_,i+2,rfl,ha.trans cN,Or.inl ⟨(pZ hf.out).2,rfl⟩,fun nr nc mn=>by rw [(pZ hf.out).1,Ai bo.out],by unfold Lq;rw [if_pos (pZ hf.out).2]⟩
  ·go_wp2_with fail
   go_ret2
   exact Or.inr ⟨_,i+1,rfl,ha.trans cN,fun k=>by rw [(pZ hf.out).1 k.nr k.nc k.mn,vK bo.out]⟩
 ·go_wp2_with fail
  go_ret2
  exact Or.inl ⟨_,i,rfl,ha,Or.inr ⟨(na hf.out).2,rfl⟩,(na hf.out).1,by unfold Lq;rw [if_neg (na hf.out).2]⟩
def qL (s:ByteArray) (i j:Nat) (r:cQ):Prop:=
 ∃ l q,kt s i l∧mJ s l q r.ss∧l<q∧bt s q=123∧q<j∧Sim s 3 q 0 j∧r.ly=Lq s i∧BC s q j r.ds
def J7 (w:World) (b:Nat) (s:ByteArray) (i:Nat) (m:Int) (e:Ending) (w':World):Prop:=
 (∃ (lv:Int) (a:Option Addr) (c:Nat) (ss:List (List cO)) (xs:List Value) (a':Option Addr) (c':Nat) (ds:List PDc) (ys:List Value) (j:Nat) (m':Int),
  e=.returned (.tuple #[.agg #[.int .i64 lv,.slice a ss.length c,.slice a' ds.length c'],.bool true])∧At w w' b s j m'∧w'.ownsRow w.heap.size 141 1 (.slice a ss.length c) ss.length xs∧Sels w' w.heap.size xs ss∧w'.ownsRow w.heap.size 253 5 (.slice a' ds.length c') ds.length ys∧
  Hid (Decs ys ds∧qL s i j ⟨lv,ss,ds⟩∧i<j∧∃ OZ,∀ nr nc,V s 18 ⟨nr,nc,m⟩ i=V s 0 ⟨nr,OZ,m'⟩ j))∨
 (∃ (j:Nat) (m':Int),e=.returned (.tuple #[.agg #[.int .i64 0,.slice none 0 0,.slice none 0 0],.bool false])∧At w w' b s j m'∧Hid (∀ nr nc,V s 18 ⟨nr,nc,m⟩ i=((j:Int),-1)))
theorem Gq {w:World} {ae:Nat} {xs:List Value} {ss:List (List cO)} (h:Sels w ae xs ss) {B:Nat} (hB:B<ae) (v0 v1 v2:Value) :
  Sels (((w.setCell ⟨B,0,none⟩ v0).setCell ⟨B,1,none⟩ v1).setCell ⟨B,2,none⟩ v2) ae xs ss:=
 h.keep (((dZ _ (by exact hB) _ _).trans (dZ _ (by exact hB) _ _)).trans (dZ _ (by exact hB) _ _)) (((dZ _ (by exact hB) _ _).trans (dZ _ (by exact hB) _ _)).trans (dZ _ (by exact hB) _ _))
set_option maxHeartbeats 2000000 in
theorem Bc (w:World) (b:Nat) (s:ByteArray) (i:Nat) (m:Int) (h:Rd w b s i m) :
  Calls Tryz.prog 124 #[.pointer (some ⟨b,0,none⟩)] w fun e w'=>J7 w b s i m e w':=by
 have hb:=h.lt
 go_enter Tryz.func124,Tryz.ntmps124
 go_wp2_with fail
 refine (Ga _ b s i m (by exact h.alloc _)).mono ?_
 rintro e w1 (⟨lv,l,rfl,ha,hf⟩ | ⟨lv,l,rfl,ha,hf⟩)
 ·have fO:w.heap.size<w1.heap.size:=by have:=ha.size;simp only [World.size_alloc] at this;omega
  go_wp2_with fail
  refine (vA _ b s l m (by exact ha.rd)).mono ?_
  rintro e w2 (⟨a,c,ss,xs,q,m2,rfl,cN,v9,zL,bo⟩ | ⟨q,m2,rfl,cN,bo⟩)
  ·have cZ:=ha.trans cN
   go_wp2_with fail
   refine (Ge _ b s q m2 (by exact cZ.rd) ⟨bo.out.2.2.1,bo.out.2.2.2.1,bo.out.2.2.2.2.1⟩).mono ?_
   rintro e w3 (⟨a',c',j,ds,ys,rfl,iC,X7,gY⟩ | ⟨a',n',c',j,rfl,iC,gY⟩)
   ·have mM:=cZ.trans iC
    obtain ⟨hc,hz⟩:=mM.cells w.heap.size (by simp) (by omega)
    have bg:=iC.owns v9 (by omega)
    have Ys:w.heap.size<w2.heap.size:=by have:=cZ.size;simp only [World.size_alloc] at this;omega
    have aae:=zL.keep (ec iC (by omega) _) (ec iC (by omega) _)
    go_wp2_with fail
    refine bodyPost_ret (v:=.tuple #[.agg #[.int .i64 lv,.slice a ss.length c,.slice a' ds.length c'],.bool true]) (by simp [results,Tryz.results124,go_sem,hc]) rfl
     (Or.inl ⟨lv,a,c,ss,xs,a',c',ds,ys,j,m2,rfl,mM.ofAlloc.set3 hb (Nat.le_refl _) _ _ _,aG (s9 bg fO _ _ _) (by omega),(Gq aae fO _ _ _).mono (by omega),aG (s9 X7 Ys _ _ _) (by omega),?_⟩)
    obtain ⟨p1,p2,p3,p4,p5,nc,p6⟩:=bo.out
    obtain ⟨q0,q1,q2,q3⟩:=gY.out
    obtain ⟨r1,r2,r3⟩:=hf.out
    have jC:i≤l:=by rcases r1 with ⟨_,r⟩ | ⟨_,r⟩<;>omega
    exact ⟨q0,⟨l,q,r1,p1,p2,q3.1,q2,q1,r3,q3⟩,by omega,nc,fun nr OZ=>by rw [r2,p6,q1]⟩
   ·have mM:=cZ.trans iC
    obtain ⟨hc,hz⟩:=mM.cells w.heap.size (by simp) (by omega)
    go_wp2_with fail
    refine bodyPost_ret (v:=.tuple #[.agg #[.int .i64 0,.slice none 0 0,.slice none 0 0],.bool false]) (by simp [results,Tryz.results124,go_sem,hc]) rfl (Or.inr ⟨j,m2,rfl,mM.ofAlloc.set3 hb (Nat.le_refl _) _ _ _,?_⟩)
    obtain ⟨p1,p2,p3,p4,p5,nc,p6⟩:=bo.out
    exact fun nr OZ=>by rw [hf.out.2.1,p6,gY.out]
  ·have cZ:=ha.trans cN
   obtain ⟨hc,hz⟩:=cZ.cells w.heap.size (by simp) (by omega)
   go_wp2_with fail
   exact bodyPost_ret (v:=.tuple #[.agg #[.int .i64 0,.slice none 0 0,.slice none 0 0],.bool false]) (by simp [results,Tryz.results124,go_sem,hc]) rfl (Or.inr ⟨q,m2,rfl,cZ.ofAlloc.set3 hb (Nat.le_refl _) _ _ _,fun nr OZ=>by rw [hf.out.2.1,bo.out]⟩)
 ·obtain ⟨hc,hz⟩:=ha.cells w.heap.size (by simp) (by omega)
  go_wp2_with fail
  exact bodyPost_ret (v:=.tuple #[.agg #[.int .i64 0,.slice none 0 0,.slice none 0 0],.bool false]) (by simp [results,Tryz.results124,go_sem,hc]) rfl (Or.inr ⟨l,m,rfl,ha.ofAlloc.set3 hb (Nat.le_refl _) _ _ _,fun nr nc=>hf.out _⟩)
end Go.Proofs.YtblfffbmklkhmaaGreat
namespace Go.Proofs.YtblfffbmklkhmaaGreat
open Go.RowKit
def Ruls (w:World) (ae:Nat):List Value→List cQ→Prop
 | xs,[]=>xs=[]
 | xs,r :: rs=>∃ (a:Option Addr) (c:Nat) (a':Option Addr) (c':Nat) (ps qs ys:List Value),xs=.int .i64 r.ly :: .slice a r.ss.length c :: .slice a' r.ds.length c' :: ys∧w.ownsRow ae 141 1 (.slice a r.ss.length c) r.ss.length ps∧Sels w ae ps r.ss∧(w.ownsRow ae 253 5 (.slice a' r.ds.length c') r.ds.length qs∧Decs qs r.ds)∧Ruls w ae ys rs
theorem Ruls.keep {w w':World} {ae:Nat} (hk:∀ e,e≠138→Keeps w w' ae e):∀ {xs:List Value} {rs:List cQ},Ruls w ae xs rs→Ruls w' ae xs rs
 | _,[],h=>h
 | _,_ :: _,⟨a,c,a',c',ps,qs,ys,h1,h2,h3,h5,h4⟩=>⟨a,c,a',c',ps,qs,ys,h1,(hk _ (by decide)).owns h2,h3.keep (hk _ (by decide)) (hk _ (by decide)),⟨(hk _ (by decide)).owns h5.1,h5.2⟩,Ruls.keep hk h4⟩
theorem Ruls.mono {w:World} {ae eY:Nat} (hb:eY≤ae):∀ {xs:List Value} {rs:List cQ},Ruls w ae xs rs→Ruls w eY xs rs
 | _,[],h=>h
 | _,_ :: _,⟨a,c,a',c',ps,qs,ys,h1,h2,h3,h5,h4⟩=>⟨a,c,a',c',ps,qs,ys,h1,aG h2 hb,h3.mono hb,⟨aG h5.1 hb,h5.2⟩,Ruls.mono hb h4⟩
theorem Ruls.snoc {w:World} {ae:Nat} (lv:Int) (a:Option Addr) (c:Nat) (a':Option Addr) (c':Nat) (ss:List (List cO)) (ds:List PDc) (ps qs:List Value) (ho:w.ownsRow ae 141 1 (.slice a ss.length c) ss.length ps) (hk:Sels w ae ps ss) (hd:w.ownsRow ae 253 5 (.slice a' ds.length c') ds.length qs∧Decs qs ds) :
  ∀ {xs:List Value} {rs:List cQ},Ruls w ae xs rs→Ruls w ae (xs++[.int .i64 lv,.slice a ss.length c,.slice a' ds.length c']) (rs++[⟨lv,ss,ds⟩])
 | _,[],h=>by simp only [Ruls] at h;subst h;exact ⟨a,c,a',c',ps,qs,[],rfl,ho,hk,hd,rfl⟩
 | _,_ :: _,⟨a1,c1,a2,c2,rP,qs',ys,h1,h2,h3,h5,h4⟩=>⟨a1,c1,a2,c2,rP,qs',_,by rw [h1];rfl,h2,h3,h5,Ruls.snoc lv a c a' c' ss ds ps qs ho hk hd h4⟩
def RulsAt (s:ByteArray):Nat→Nat→List cQ→Prop
 | i,j,[]=>i=j
 | i,j,ss :: rs=>∃ l,qL s i l ss∧i<l∧RulsAt s l j rs
theorem RulsAt.snoc {s:ByteArray} {i j l:Nat} {rs:List cQ} {ss:cQ} (h:RulsAt s i j rs) (hc:qL s j l ss) (hl:j<l):RulsAt s i l (rs++[ss]):=by
 induction rs generalizing i with
 | nil=>simp only [RulsAt] at h;subst h;exact ⟨l,hc,hl,rfl⟩
 | cons x rs ih=>
  obtain ⟨l',h1,h2,h3⟩:=h
  exact ⟨l',h1,h2,ih h3⟩
structure t9 (w:World) (b:Nat) (s:ByteArray) (gk:Nat) (v:Value) (wr:World) (j:Nat) (mP:Int) (rs:List cQ) (xs:List Value):Prop where
 at':At (w.alloc (.cells #[.slice none 0 0] 82)) wr b s j mP
 own:wr.ownsRow (w.heap.size+1) 138 3 v rs.length xs
 ruls:Ruls wr (w.heap.size+1) xs rs
 few:rs.length≤j
 gk:s.size - j≤gk
 text:RulsAt s 0 j rs
 run:∃ nc,V s 0 ⟨0,0,-1⟩ 0=V s 0 ⟨rs.length,nc,mP⟩ j
def GB (w:World) (b:Nat) (s:ByteArray) (e:Ending) (w':World):Prop:=
 (∃ (a:Option Addr) (c:Nat) (rs:List cQ) (xs:List Value) (m':Int),e=.returned (.tuple #[.agg #[.slice a rs.length c],.bool true])∧At w w' b s s.size m'∧w'.ownsRow w.heap.size 138 3 (.slice a rs.length c) rs.length xs∧Ruls w' w.heap.size xs rs∧
  Hid (RulsAt s 0 s.size rs∧V s 0 ⟨0,0,-1⟩ 0=(-1,m')))∨
 (∃ (j:Nat) (m':Int),e=.returned (.tuple #[.agg #[.slice none 0 0],.bool false])∧At w w' b s j m'∧Hid (V s 0 ⟨0,0,-1⟩ 0=((j:Int),-1)))
theorem Ka (a:Int) (b:Option Addr) (n k:Nat) (b':Option Addr) (n' k':Nat):∀ u∈[Value.int .i64 a,Value.slice b n k,Value.slice b' n' k'],u.oneCell'=true:=by
 intro u hu
 simp only [List.mem_cons,List.not_mem_nil,or_false] at hu
 rcases hu with rfl | rfl | rfl<;>rfl
theorem rF (w:World) (n ae:Nat) (e:TypeId):Keeps w (w.drewN n) ae e:=fun _ _ _ hh=>hh
theorem Hv {w:World} {ae:Nat} {e:TypeId} {size:Nat} {v:Value} {n:Nat} {xs:List Value} (h:w.ownsRow ae e size v n xs) (k:Nat):(w.drewN k).ownsRow ae e size v n xs:=(rF w k ae e).owns h
set_option maxHeartbeats 4000000 in
theorem It (w:World) (b:Nat) (s:ByteArray) (h:Rd w b s 0 (-1)) :
  Calls Tryz.prog 77 #[.pointer (some ⟨b,0,none⟩)] w fun e w'=>GB w b s e w':=by
 have hb:=h.lt
 have sN:=h.top
 obtain ⟨i0,hi,gx,gw,gB⟩:=info_parts Tryz.info138
 go_enter Tryz.func77,Tryz.ntmps77
 go_wp2_with fail
 go_loopg [4] (s.size) (fun gk v wr=>∃ (j:Nat) (mP:Int) (rs:List cQ) (xs:List Value),t9 w b s gk v wr j mP rs xs)
 case atStart=>exact ⟨0,-1,[],[],h.allocAt _,World.ownsRow_nil _ _ _ _,rfl,by simp,by omega,rfl,0,rfl⟩
 case round=>
  obtain ⟨j,mP,rs,xs,R⟩:=hrel
  have oz:=R.at'.rd.le
  obtain ⟨a,c,hv⟩:=au R.own
  subst hv
  go_wp2_with fail
  refine (k9 _ b s j mP (by exact R.at'.rd)).mono ?_
  rintro e w0 ⟨rfl,n0,rfl⟩
  by_cases hend:s.size≤j
  ·obtain rfl:j=s.size:=by omega
   have R2:=R
   have fO:w.heap.size<wr.heap.size:=by have:=R.at'.size;simp only [World.size_alloc] at this;omega
   obtain ⟨hc,hz⟩:=R.at'.cells w.heap.size (by simp) (by omega)
   clear R
   go_wp2
   refine bodyPost_ret (v:=.tuple #[.agg #[.slice a rs.length c],.bool true]) (by simp [results,Tryz.results77,go_sem,hc]) rfl (Or.inl ⟨a,c,rs,xs,mP,rfl,?_,?_,?_,?_⟩)
   ·exact (R2.at'.ofAlloc.drewN n0).setNew hb (Nat.le_refl _) _
   ·exact aG (ownsRow_setCell_below (Hv R2.own n0) (by simp) _) (by omega)
   ·exact (R2.ruls.keep (fun e _=>(rF wr n0 _ _).trans (dZ _ (by simp) _ _))).mono (by omega)
   ·obtain ⟨nc,r1⟩:=R2.run
    exact ⟨R2.text,by rw [r1,tK (Nat.le_refl _)];simp⟩
  ·have hd:decide (s.size≤j)=false:=by simpa using hend
   have aN:j<s.size:=by omega
   by_cases h4:rs.length=20
   ·have g4:((rs.length:Int)==20)=true:=by simp [h4]
    have H4:Hid (rs.length=20):=h4
    clear h4
    go_wp2_with fail
    refine (pK _ b s j mP (by exact R.at'.rd.drewN _)).mono ?_
    rintro e w1 ⟨rfl,U3⟩
    have pF:At wr w1 b s j (j9 mP j):=(R.at'.rd.at0.drewN n0).trans U3
    have hM:Hid (∀ nc,V s 0 ⟨rs.length,nc,mP⟩ j=V s 18 ⟨rs.length+1,1,j9 mP j⟩ j):=fun nc=>by rw [uO aN];simp [bY,H4.out]
    generalize j9 mP j=M at pF U3 hM
    go_wp2_with fail
    refine (Bc _ b s j M (by exact pF.rd)).mono ?_
    rintro e w2 (⟨lv,a2,c2,ss,ps,a3,c3,ds,qs,l,M2,rfl,cN,v9,zL,iL,bo⟩ | ⟨l,M2,rfl,cN,bo⟩)
    ·have cZ:=(R.at'.trans pF).trans cN
     have fO:=(R.at'.trans pF).size
     simp only [World.size_alloc] at fO
     have nX:w.heap.size<w2.heap.size:=by have:=cZ.size;simp only [World.size_alloc] at this;omega
     have cu:=(pF.trans cN).owns R.own (by omega)
     have bR:=R.few
     go_wp2_with (at_builtin;refine wpList_append_own _ rfl (.tmp 23) (.tmp 25) 80 rfl (w.heap.size+1) 138 i0 (.agg #[.int .i64 0,.slice none 0 0,.slice none 0 0]) 3 56 Tryz.underlying80 hi gx gw gB rfl (by decide) _ _ _ rfl ((cu.alloc _).alloc _) ⟨w2.heap.size+1,0,none⟩ 1 1 [.int .i64 lv,.slice a2 ss.length c2,.slice a3 ds.length c3] rfl rfl ?c1x ?c2x ?c3x ?c4x ?c5x ?_)
     case c1x=>exact aO (w2.alloc _) _ (by simp) _ _ _ rfl
     case c2x=>exact Ka _ _ _ _ _ _ _
     case c3x=>unfold maxLen;omega
     case c4x=>omega
     case c5x=>simp;omega
     ·intro v' w3 bB eJ _
      have bg:w3.ownsRow (w.heap.size+1) 138 3 v' (rs++[(⟨lv,ss,ds⟩:cQ)]).length (xs++[.int .i64 lv,.slice a2 ss.length c2,.slice a3 ds.length c3]):=by simpa using bB
      have iU:∀ e,Keeps wr w2 (w.heap.size+1) e:=fun e=>ec (pF.trans cN) (by omega) _
      have qP:∀ e,e≠138→Keeps w2 w3 (w.heap.size+1) e:=fun e he=>((bX _ _ _ _).trans (bX _ _ _ _)).trans (iY he ((cu.alloc _).alloc _) eJ)
      have Bb:Ruls w3 (w.heap.size+1) (xs++[.int .i64 lv,.slice a2 ss.length c2,.slice a3 ds.length c3]) (rs++[⟨lv,ss,ds⟩]):=
       Ruls.snoc lv a2 c2 a3 c3 ss ds ps qs ((qP 141 (by decide)).owns (aG v9 fO)) ((zL.mono fO).keep (qP _ (by decide)) (qP _ (by decide))) ⟨(qP 253 (by decide)).owns (aG iL fO),bo.out.1⟩ (R.ruls.keep (fun e he=>(iU e).trans (qP e he)))
      have vG:At (w.alloc (.cells #[.slice none 0 0] 82)) w3 b s l M2:=((cZ.alloc _).alloc _).app (by simp;omega) (by simpa using ((cu.alloc _).alloc _)) eJ
      obtain ⟨q0,q1,q2,OZ,q3⟩:=bo.out
      obtain ⟨nc,r1⟩:=R.run
      have R3:t9 w b s (s.size - l) v' w3 l M2 (rs++[⟨lv,ss,ds⟩]) (xs++[.int .i64 lv,.slice a2 ss.length c2,.slice a3 ds.length c3]):=by
       refine ⟨vG,bg,Bb,by simp;omega,Nat.le_refl _,R.text.snoc q1 q2,OZ,?_⟩
       rw [r1,hM.out nc,q3]
       simp
      have fK:=R.gk
      have G4:=vG.rd.le
      clear bB eJ cu R iU qP q0 q1 q3 bo r1 bg Bb
      go_wp2
      go_roundg (s.size - l)
      case measure=>omega
      case rel=>exact ⟨l,M2,_,_,R3⟩
    ·have cZ:=(R.at'.trans pF).trans cN
     have nX:w.heap.size<w2.heap.size:=by have:=cZ.size;simp only [World.size_alloc] at this;omega
     obtain ⟨hc,hz⟩:=cZ.cells w.heap.size (by simp) (by omega)
     obtain ⟨nc,r1⟩:=R.run
     have HR:Hid (V s 0 ⟨0,0,-1⟩ 0=((l:Int),-1)):=by unfold Hid;rw [r1,hM.out nc,bo.out]
     clear r1
     go_wp2_with fail
     exact bodyPost_ret (v:=.tuple #[.agg #[.slice none 0 0],.bool false]) (by simp [results,Tryz.results77,go_sem,hc,nX]) rfl (Or.inr ⟨l,M2,rfl,(cZ.ofAlloc.setNew hb (Nat.le_refl _) _).alloc _,HR.out⟩)
   ·have g4:((rs.length:Int)==20)=false:=by simp;omega
    obtain ⟨M,pF,hM⟩:∃ M,At wr (wr.drewN n0) b s j M∧Hid (∀ nc,V s 0 ⟨rs.length,nc,mP⟩ j=V s 18 ⟨rs.length+1,1,M⟩ j):=⟨mP,R.at'.rd.at0.drewN n0,fun nc=>by rw [uO aN];simp [bY,h4]⟩
    clear h4
    go_wp2_with fail
    refine (Bc _ b s j M (by exact pF.rd)).mono ?_
    rintro e w2 (⟨lv,a2,c2,ss,ps,a3,c3,ds,qs,l,M2,rfl,cN,v9,zL,iL,bo⟩ | ⟨l,M2,rfl,cN,bo⟩)
    ·have cZ:=(R.at'.trans pF).trans cN
     have fO:=(R.at'.trans pF).size
     simp only [World.size_alloc] at fO
     have nX:w.heap.size<w2.heap.size:=by have:=cZ.size;simp only [World.size_alloc] at this;omega
     have cu:=(pF.trans cN).owns R.own (by omega)
     have bR:=R.few
     go_wp2_with (at_builtin;refine wpList_append_own _ rfl (.tmp 23) (.tmp 25) 80 rfl (w.heap.size+1) 138 i0 (.agg #[.int .i64 0,.slice none 0 0,.slice none 0 0]) 3 56 Tryz.underlying80 hi gx gw gB rfl (by decide) _ _ _ rfl ((cu.alloc _).alloc _) ⟨w2.heap.size+1,0,none⟩ 1 1 [.int .i64 lv,.slice a2 ss.length c2,.slice a3 ds.length c3] rfl rfl ?c1y ?c2y ?c3y ?c4y ?c5y ?_)
     case c1y=>exact aO (w2.alloc _) _ (by simp) _ _ _ rfl
     case c2y=>exact Ka _ _ _ _ _ _ _
     case c3y=>unfold maxLen;omega
     case c4y=>omega
     case c5y=>simp;omega
     ·intro v' w3 bB eJ _
      have bg:w3.ownsRow (w.heap.size+1) 138 3 v' (rs++[(⟨lv,ss,ds⟩:cQ)]).length (xs++[.int .i64 lv,.slice a2 ss.length c2,.slice a3 ds.length c3]):=by simpa using bB
      have iU:∀ e,Keeps wr w2 (w.heap.size+1) e:=fun e=>ec (pF.trans cN) (by omega) _
      have qP:∀ e,e≠138→Keeps w2 w3 (w.heap.size+1) e:=fun e he=>((bX _ _ _ _).trans (bX _ _ _ _)).trans (iY he ((cu.alloc _).alloc _) eJ)
      have Bb:Ruls w3 (w.heap.size+1) (xs++[.int .i64 lv,.slice a2 ss.length c2,.slice a3 ds.length c3]) (rs++[⟨lv,ss,ds⟩]):=
       Ruls.snoc lv a2 c2 a3 c3 ss ds ps qs ((qP 141 (by decide)).owns (aG v9 fO)) ((zL.mono fO).keep (qP _ (by decide)) (qP _ (by decide))) ⟨(qP 253 (by decide)).owns (aG iL fO),bo.out.1⟩ (R.ruls.keep (fun e he=>(iU e).trans (qP e he)))
      have vG:At (w.alloc (.cells #[.slice none 0 0] 82)) w3 b s l M2:=((cZ.alloc _).alloc _).app (by simp;omega) (by simpa using ((cu.alloc _).alloc _)) eJ
      obtain ⟨q0,q1,q2,OZ,q3⟩:=bo.out
      obtain ⟨nc,r1⟩:=R.run
      have R3:t9 w b s (s.size - l) v' w3 l M2 (rs++[⟨lv,ss,ds⟩]) (xs++[.int .i64 lv,.slice a2 ss.length c2,.slice a3 ds.length c3]):=by
       refine ⟨vG,bg,Bb,by simp;omega,Nat.le_refl _,R.text.snoc q1 q2,OZ,?_⟩
       rw [r1,hM.out nc,q3]
       simp
      have fK:=R.gk
      have G4:=vG.rd.le
      clear bB eJ cu R iU qP q0 q1 q3 bo r1 bg Bb
      go_wp2
      go_roundg (s.size - l)
      case measure=>omega
      case rel=>exact ⟨l,M2,_,_,R3⟩
    ·have cZ:=(R.at'.trans pF).trans cN
     have nX:w.heap.size<w2.heap.size:=by have:=cZ.size;simp only [World.size_alloc] at this;omega
     obtain ⟨hc,hz⟩:=cZ.cells w.heap.size (by simp) (by omega)
     obtain ⟨nc,r1⟩:=R.run
     have HR:Hid (V s 0 ⟨0,0,-1⟩ 0=((l:Int),-1)):=by unfold Hid;rw [r1,hM.out nc,bo.out]
     clear r1
     go_wp2_with fail
     exact bodyPost_ret (v:=.tuple #[.agg #[.slice none 0 0],.bool false]) (by simp [results,Tryz.results77,go_sem,hc,nX]) rfl (Or.inr ⟨l,M2,rfl,(cZ.ofAlloc.setNew hb (Nat.le_refl _) _).alloc _,HR.out⟩)
end Go.Proofs.YtblfffbmklkhmaaGreat
namespace Go.Proofs.YtblfffbmklkhmaaGreat
open Go.RowKit
def fa (s:ByteArray):Int × Int:=
 if 400<s.size then (1,0) else if 0≤(V s 0 ⟨0,0,-1⟩ 0).1 then (2,(V s 0 ⟨0,0,-1⟩ 0).1) else if (V s 0 ⟨0,0,-1⟩ 0).2=-1 then (0,0) else (3,(V s 0 ⟨0,0,-1⟩ 0).2)
def JV (w:World) (s:ByteArray) (e:Ending) (w':World):Prop:=
 ∃ (a:Option Addr) (n c:Nat),e=.returned (.tuple #[.agg #[.slice a n c],.int .i64 (fa s).1,.int .i64 (fa s).2])∧Below w.heap.size w w'∧
  ((fa s).1=0→∃ rs xs,n=rs.length∧w'.ownsRow w.heap.size 138 3 (.slice a n c) n xs∧Ruls w' w.heap.size xs rs∧RulsAt s 0 s.size rs)
theorem At.below {w w0 w1:World} {b:Nat} {s:ByteArray} {j:Nat} {m:Int} (h:At w0 w1 b s j m) (hw:Below w.heap.size w w0) (hb:w.heap.size≤b):Below w.heap.size w w1:=
 hw.grown h.gb hw.size (fun k e=>by injection e with e;omega)
set_option maxHeartbeats 2000000 in
theorem uk (w:World) (s:ByteArray) (hs:s.size≤maxLen) :
  Calls Tryz.prog 42 #[.string s] w fun e w'=>JV w s e w':=by
 unfold maxLen at hs
 by_cases h400:400<s.size
 ·have HC:Hid (fa s=(1,0)):=by unfold Hid fa;rw [if_pos h400]
  go_enter Tryz.func42,Tryz.ntmps42
  go_wp2
  refine bodyPost_ret (v:=.tuple #[.agg #[.slice none 0 0],.int .i64 1,.int .i64 0]) (by simp [results,Tryz.results42,go_sem]) rfl ⟨none,0,0,by rw [HC.out],?_,?_⟩
  ·exact (Below.refl _ _).alloc (Nat.le_refl _) _
  ·rw [HC.out];intro h;simp at h
 ·have Vv:s.size≤400:=by omega
  have hr:Rd ((w.alloc (.cells #[.slice none 0 0] 82)).alloc (.cells #[.string s,.int .i64 0,.int .i64 (-1)] 146)) (w.heap.size+1) s 0 (-1):=by
   refine ⟨?_,Nat.zero_le _,Vv,by omega,by omega⟩
   have:=heap_alloc_new (w.alloc (.cells #[.slice none 0 0] 82)) (.cells #[.string s,.int .i64 0,.int .i64 (-1)] 146)
   simpa using this
  have mr:Below w.heap.size w ((w.alloc (.cells #[.slice none 0 0] 82)).alloc (.cells #[.string s,.int .i64 0,.int .i64 (-1)] 146)):=((Below.refl _ _).alloc (Nat.le_refl _) _).alloc (by simp) _
  go_enter Tryz.func42,Tryz.ntmps42
  go_wp2_with fail
  refine (It _ (w.heap.size+1) s (by exact hr)).mono ?_
  rintro e w1 (⟨a,c,rs,xs,m,rfl,ha,ho,hR,hf⟩ | ⟨j,m,rfl,ha,hf⟩)
  ·have oF:=ha.below mr (by omega)
   have fO:w.heap.size+1<w1.heap.size:=by have:=ha.size;simp at this;omega
   have OI:w.heap.size<w1.heap.size:=by omega
   obtain ⟨hc,hz⟩:=ha.cells w.heap.size (by simp;omega) (by omega)
   have c2:=ha.rd.c2
   have So:w1.ownsRow (w.heap.size+2) 138 3 (.slice a rs.length c) rs.length xs:=aG ho (by simp)
   have O7:Ruls w1 (w.heap.size+2) xs rs:=hR.mono (by simp)
   clear ho hR
   have PK:=ha.rd.lo
   by_cases hm:m=-1
   ·subst hm
    have HC:Hid (fa s=(0,0)):=by unfold Hid fa;rw [if_neg h400,hf.out.2];simp
    have gd:((-1:Int) != -1)=false:=by decide
    go_wp2
    refine bodyPost_ret (v:=.tuple #[.agg #[.slice a rs.length c],.int .i64 0,.int .i64 0]) (by simp [results,Tryz.results42,go_sem,hc,OI]) rfl ⟨a,rs.length,c,by rw [HC.out],?_,fun _=>⟨rs,xs,rfl,?_,?_,hf.out.1⟩⟩
    ·exact (oF.setCell (by simp) _).alloc (by simp [World.setCell];omega) _
    ·exact aG ((ownsRow_setCell_below So (by simp) _).alloc _) (by omega)
    ·exact (O7.keep (fun e _=>(dZ _ (by simp) _ _).trans (bX _ _ _ _))).mono (by omega)
   ·have HC:Hid (fa s=(3,m)):=by unfold Hid fa;rw [if_neg h400,hf.out.2];simp [hm]
    have gd:(m != -1)=true:=by simp [hm]
    clear hm
    go_wp2
    go_region
    all_goals go_wp2
    all_goals refine bodyPost_ret (v:=.tuple #[.agg #[.slice none 0 0],.int .i64 3,.int .i64 m]) (by simp [results,Tryz.results42,go_sem,hc,OI]) rfl ⟨none,0,0,by rw [HC.out],?_,?_⟩
    all_goals first | (rw [HC.out];intro h;simp at h;done) | skip
    all_goals repeat' (first | exact oF | refine Below.drew ?_ | refine Below.alloc ?_ (by simp [World.setCell];omega) _ | refine Below.setCell ?_ (by simp) _)
  ·have oF:=ha.below mr (by omega)
   have fO:w.heap.size+1<w1.heap.size:=by have:=ha.size;simp at this;omega
   have OI:w.heap.size<w1.heap.size:=by omega
   obtain ⟨hc,hz⟩:=ha.cells w.heap.size (by simp;omega) (by omega)
   have c1:=ha.rd.c1
   have HC:Hid (fa s=(2,(j:Int))):=by unfold Hid fa;rw [if_neg h400,hf.out];simp
   go_wp2
   go_region
   all_goals go_wp2
   all_goals refine bodyPost_ret (v:=.tuple #[.agg #[.slice none 0 0],.int .i64 2,.int .i64 j]) (by simp [results,Tryz.results42,go_sem,hc,OI]) rfl ⟨none,0,0,by rw [HC.out],?_,?_⟩
   all_goals first | (rw [HC.out];intro h;simp at h;done) | skip
   all_goals repeat' (first | exact oF | refine Below.drew ?_ | refine Below.alloc ?_ (by simp [World.setCell];omega) _ | refine Below.setCell ?_ (by simp) _)
end Go.Proofs.YtblfffbmklkhmaaGreat
