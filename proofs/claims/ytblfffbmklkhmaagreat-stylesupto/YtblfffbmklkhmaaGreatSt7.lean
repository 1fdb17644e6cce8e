import Derived.Test.YtblfffbmklkhmaaGreatSt4
import Derived.Test.YtblfffbmklkhmaaGreatSt5
namespace Go.Proofs.YtblfffbmklkhmaaGreat
open Go.RowKit
def zx (s:ByteArray) (i:Nat):Nat→Int
 | 0=>0
 | t+1=>zx s i t*10+((bt s (i+t):Int) - 48)
theorem uV {c:Nat} (h:fk c=true):48≤c∧c≤57:=by simpa only [fk,decide_eq_true_eq] using h
structure Ls (w:World) (b:Nat) (s:ByteArray) (i:Nat) (m:Int) (gk:Nat) (wr:World) (t:Nat) (n:Int):Prop where
 at':At w wr b s (i+t) m
 lo:1≤t
 hi:t≤3
 gk:3 - t≤gk
 sim:Sim s 12 i (12+(t:Int)) (i+t)
 val:n=zx s i t
 dig:∀ k,i≤k→k<i+t→fk (bt s k)=true
 nlo:0≤n
 nhi:t<3→n≤99
def Nl (w:World) (b:Nat) (s:ByteArray) (i:Nat) (m:Int) (e:Ending) (w':World):Prop:=
 (∃ (nv:Int) (j:Nat),e=.returned (.tuple #[.int .i64 nv,.bool true])∧At w w' b s j m∧Hid (Sim s 12 i 15 j∧i<j∧j≤i+3∧nv=zx s i (j - i)∧(∀ k,i≤k→k<j→fk (bt s k)=true)∧(j=i+3∨fk (bt s j)=false)))∨
 (e=.returned (.tuple #[.int .i64 0,.bool false])∧At w w' b s i m∧Hid (fk (bt s i)=false))
theorem H2 {s:ByteArray} {i:Nat} (h:fk (bt s i)=true∧i<s.size):Sim s 12 i 13 (i+1):=dS h.2 (by simp [bC,h.1]) (by decide) (fun k=>by simp [cnt])
theorem Jh {s:ByteArray} {i t:Nat} (h:fk (bt s i)=true∧i<s.size) (ht:t=1∨t=2):Sim s (12+(t:Int)) i (12+((t+1:Nat):Int)) (i+1):=by
 rcases ht with rfl | rfl
 ·exact dS h.2 (by simp [bC,h.1]) (by decide) (fun k=>by simp [cnt])
 ·exact dS h.2 (by simp [bC,h.1]) (by decide) (fun k=>by simp [cnt])
theorem Ja {s:ByteArray} {i t:Nat} (h:fk (bt s i)=false) (ht:t=1∨t=2):Sim s (12+(t:Int)) i 15 i:=by
 rcases ht with rfl | rfl
 ·exact kY (by decide) (by decide) (by simp [bC,h]) (fun k=>by simp [cnt])
 ·exact kY (by decide) (by decide) (by simp [bC,h]) (fun k=>by simp [cnt])
set_option maxHeartbeats 1000000 in
theorem Dr (w:World) (b:Nat) (s:ByteArray) (i:Nat) (m:Int) (h:Rd w b s i m) :
  Calls Tryz.prog 215 #[.pointer (some ⟨b,0,none⟩)] w fun e w'=>Nl w b s i m e w':=by
 go_enter Tryz.func215,Tryz.ntmps215
 go_wp2_with fail
 refine (lA _ b s i m (by exact h)).mono ?_
 rintro e w1 (⟨rfl,ha,hf⟩ | ⟨rfl,ha,hf⟩)
 ·go_wp2_with fail
  go_loopg [4,6] 2 (fun gk nv tv wr=>∃ (t:Nat) (n:Int),nv=.int .i64 n∧tv=.int .i64 t∧Ls w b s i m gk wr t n)
  case atStart=>exact ⟨1,_,rfl,rfl,ha,by omega,by omega,by omega,H2 hf.out,by simp [zx],fun k h1 h2=>(show i=k from by omega)▸hf.out.1,by have:=uV hf.out.1;omega,fun _=>by have:=uV hf.out.1;omega⟩
  case round=>
   obtain ⟨t,n,rfl,rfl,R⟩:=hrel
   have PK:=R.lo
   have hhi:=R.hi
   by_cases ht:t<3
   ·go_wp2_with fail
    refine (lA _ b s (i+t) m (by exact R.at'.rd)).mono ?_
    rintro e w2 (⟨rfl,cN,bo⟩ | ⟨rfl,cN,bo⟩)
    ·have iL:=uV bo.out.1
     have hn0:=R.nlo
     have Cd:=R.nhi ht
     have R2:Ls w b s i m (gk - 1) w2 (t+1) (n*10+((bt s (i+t):Int) - 48)):=⟨R.at'.trans cN,by omega,by omega,by have:=R.gk;omega,R.sim.trans (Jh bo.out (by omega)),by rw [R.val];rfl,fun k h1 h2=>by
      by_cases e:k=i+t
      ·rw [e];exact bo.out.1
      ·exact R.dig k h1 (by omega),by omega,fun h3=>by
       obtain rfl:t=1:=by omega
       have h9:n≤9:=by
        have hv:=R.val
        have:=uV (R.dig i (Nat.le_refl _) (by omega))
        simp [zx] at hv
        omega
       omega⟩
     have fK:=R.gk
     clear R
     go_wp2
     go_roundg (gk - 1)
     case measure=>omega
     case rel=>exact ⟨t+1,_,by go_num,by go_num,R2⟩
    ·go_wp2
     go_ret2
     exact Or.inl ⟨_,i+t,rfl,R.at'.trans cN,R.sim.trans (Ja bo.out (by omega)),by omega,by omega,by rw [Nat.add_sub_cancel_left];exact R.val,R.dig,Or.inr bo.out⟩
   ·obtain rfl:t=3:=by omega
    go_wp2
    go_ret2
    exact Or.inl ⟨_,i+3,rfl,R.at',R.sim,by omega,by omega,by rw [Nat.add_sub_cancel_left];exact R.val,R.dig,Or.inl rfl⟩
 ·go_wp2
  go_ret2
  exact Or.inr ⟨rfl,ha,hf⟩
def Ae (s:ByteArray) (i j:Nat) (kd nv vr:Int):Prop:=
 (bt s i=105∧kd=2∧nv=0∧vr=0∧j=i+1)∨(bt s i=114∧kd=3∧nv=0∧vr=0∧j=i+1)∨(bt s i=117∧kd=4∧nv=0∧vr=0∧j=i+1)∨
 (bt s i=36∧kd=5∧nv=0∧vr=bt s (i+1)∧qH (bt s (i+1))=true∧j=i+2)∨
 (kd=1∧nv=zx s i (j - i)∧vr=0∧i<j∧j≤i+3∧(∀ k,i≤k→k<j→fk (bt s k)=true)∧(j=i+3∨fk (bt s j)=false))
def Ny (w:World) (b:Nat) (s:ByteArray) (i:Nat) (m:Int) (e:Ending) (w':World):Prop:=
 (∃ (kd nv vr:Int) (j:Nat),e=.returned (.tuple #[.agg #[.int .i64 kd,.int .i64 nv,.int .u8 vr],.bool true])∧At w w' b s j m∧Hid (Sim s 12 i 15 j∧i<j∧Ae s i j kd nv vr))∨
 (∃ (kd nv vr:Int) (j:Nat),e=.returned (.tuple #[.agg #[.int .i64 kd,.int .i64 nv,.int .u8 vr],.bool false])∧At w w' b s j m∧Hid (sf s 12 i j))
theorem tB {s:ByteArray} {i:Nat} (h:bt s i=105∨bt s i=114∨bt s i=117):Sim s 12 i 15 (i+1)∧i+1≤s.size:=by
 have hi:i<s.size:=lr (by omega)
 refine ⟨dS hi ?_ (by decide) (fun k=>by simp [cnt]),hi⟩
 have hd:fk (bt s i)=false:=by simp only [fk,decide_eq_false_iff_not];omega
 have sx:¬ bt s i=36:=by omega
 simp [bC,hd,sx,wh,h]
theorem N7 {s:ByteArray} {i:Nat} (h:bt s i=36):Sim s 12 i 17 (i+1)∧i<s.size:=by
 have hi:i<s.size:=lr (by omega)
 exact ⟨dS hi (by simp [bC,h,fk]) (by decide) (fun k=>by simp [cnt]),hi⟩
theorem Tn {s:ByteArray} {i:Nat} (hd:fk (bt s i)=false) (h1:bt s i≠105) (h2:bt s i≠114) (h3:bt s i≠117) (h4:bt s i≠36):sf s 12 i i:=
 iT (by decide) (by simp [bC,hd,h1,h2,h3,h4,wh])
theorem OK {s:ByteArray} {i:Nat} (h:qH (bt s i)=true∧i<s.size):Sim s 17 i 15 (i+1):=dS h.2 (by simp [bC,h.1,wh]) (by decide) (fun k=>by simp [cnt])
theorem SE {s:ByteArray} {i:Nat} (h:qH (bt s i)=false):sf s 17 i i:=iT (by decide) (by simp [bC,h,wh])
abbrev Fu:Obj:=Obj.cells #[Value.int IntKind.i64 0,Value.int IntKind.i64 0,Value.int IntKind.u8 0] 219
set_option maxHeartbeats 2000000 in
theorem Gl (w:World) (b:Nat) (s:ByteArray) (i:Nat) (m:Int) (h:Rd w b s i m) :
  Calls Tryz.prog 208 #[.pointer (some ⟨b,0,none⟩)] w fun e w'=>Ny w b s i m e w':=by
 have hb:=h.lt
 have c1:=h.c1
 have f1:=h.fr 1
 have oz:=h.le
 have sN:=h.top
 go_enter Tryz.func208,Tryz.ntmps208
 go_wp2_with fail
 refine (jd _ b s i m (by exact h.alloc _)).mono ?_
 rintro e w1 ⟨rfl,n1,rfl⟩
 by_cases k1:bt s i=105
 ·have g1:((bt s i:Int)==105)=true:=by simp [k1]
  have K1:Hid (bt s i=105):=k1
  clear k1
  go_wp2_with fail
  have hp:=tB (Or.inl K1.out)
  exact bodyPost_ret (v:=.tuple #[.agg #[.int .i64 2,.int .i64 0,.int .u8 0],.bool true]) (by simp [results,Tryz.results208,go_sem]) rfl (Or.inl ⟨2,0,0,i+1,rfl,((((h.at0.alloc _).drewN _).setAt hp.2 (by omega)).set3 hb (Nat.le_refl _) _ _ _),hp.1,by omega,Or.inl ⟨K1.out,rfl,rfl,rfl,rfl⟩⟩)
 have g1:((bt s i:Int)==105)=false:=by simp;omega
 by_cases k2:bt s i=114
 ·have g2:((bt s i:Int)==114)=true:=by simp [k2]
  have K1:Hid (bt s i=114):=k2
  clear k1 k2
  go_wp2_with fail
  have hp:=tB (Or.inr (Or.inl K1.out))
  exact bodyPost_ret (v:=.tuple #[.agg #[.int .i64 3,.int .i64 0,.int .u8 0],.bool true]) (by simp [results,Tryz.results208,go_sem]) rfl (Or.inl ⟨3,0,0,i+1,rfl,((((h.at0.alloc _).drewN _).setAt hp.2 (by omega)).set3 hb (Nat.le_refl _) _ _ _),hp.1,by omega,(Or.inr <| Or.inl ⟨K1.out,rfl,rfl,rfl,rfl⟩)⟩)
 have g2:((bt s i:Int)==114)=false:=by simp;omega
 by_cases k3:bt s i=117
 ·have g3:((bt s i:Int)==117)=true:=by simp [k3]
  have K1:Hid (bt s i=117):=k3
  clear k1 k2 k3
  go_wp2_with fail
  have hp:=tB (Or.inr (Or.inr K1.out))
  exact bodyPost_ret (v:=.tuple #[.agg #[.int .i64 4,.int .i64 0,.int .u8 0],.bool true]) (by simp [results,Tryz.results208,go_sem]) rfl (Or.inl ⟨4,0,0,i+1,rfl,((((h.at0.alloc _).drewN _).setAt hp.2 (by omega)).set3 hb (Nat.le_refl _) _ _ _),hp.1,by omega,(Or.inr <| Or.inr <| Or.inl ⟨K1.out,rfl,rfl,rfl,rfl⟩)⟩)
 have g3:((bt s i:Int)==117)=false:=by simp;omega
 by_cases k4:bt s i=36
 ·have g4:((bt s i:Int)==36)=true:=by simp [k4]
  have K1:Hid (bt s i=36):=k4
  clear k1 k2 k3 k4
  have hp:=N7 K1.out
  have HP:Hid (Sim s 12 i 17 (i+1)):=hp.1
  have aN:=hp.2
  clear hp
  go_wp2_with fail
  have ha:=((h.at0.alloc Fu).drewN n1).setAt (j:=i+1) (v:=(i:Int)+1) (by omega) (by omega)
  refine (qc _ b s (i+1) m (by exact ha.rd)).mono ?_
  rintro e w2 (⟨rfl,cN,bo⟩ | ⟨rfl,cN,bo⟩)
  ·have cZ:=ha.trans cN
   obtain ⟨hc,hz⟩:=cN.cells w.heap.size (by simp [World.setCell]) (by omega)
   go_wp2_with fail
   exact bodyPost_ret (v:=.tuple #[.agg #[.int .i64 5,.int .i64 0,.int .u8 (bt s (i+1))],.bool true]) (by simp [results,Tryz.results208,go_sem,hc]) rfl (Or.inl ⟨5,0,_,i+2,rfl,cZ.set3 hb (Nat.le_refl _) _ _ _,HP.out.trans (OK bo.out),by omega,Or.inr (Or.inr (Or.inr (Or.inl ⟨K1.out,rfl,rfl,rfl,bo.out.1,rfl⟩)))⟩)
  ·have cZ:=ha.trans cN
   obtain ⟨hc,hz⟩:=cN.cells w.heap.size (by simp [World.setCell]) (by omega)
   go_wp2_with fail
   exact bodyPost_ret (v:=.tuple #[.agg #[.int .i64 5,.int .i64 0,.int .u8 0],.bool false]) (by simp [results,Tryz.results208,go_sem,hc]) rfl (Or.inr ⟨5,0,0,i+1,rfl,cZ.set3 hb (Nat.le_refl _) _ _ _,HP.out.bad (SE bo.out)⟩)
 ·have g4:((bt s i:Int)==36)=false:=by simp;omega
  have HN:Hid (bt s i≠105∧bt s i≠114∧bt s i≠117∧bt s i≠36):=⟨k1,k2,k3,k4⟩
  clear k1 k2 k3 k4
  go_wp2_with fail
  have ha:=(h.at0.alloc Fu).drewN n1
  refine (Dr _ b s i m (by exact ha.rd)).mono ?_
  rintro e w2 (⟨nv,j,rfl,cN,bo⟩ | ⟨rfl,cN,bo⟩)
  ·have cZ:=ha.trans cN
   obtain ⟨hc,hz⟩:=cN.cells w.heap.size (by simp) (by omega)
   go_wp2_with fail
   exact bodyPost_ret (v:=.tuple #[.agg #[.int .i64 1,.int .i64 nv,.int .u8 0],.bool true]) (by simp [results,Tryz.results208,go_sem,hc]) rfl (Or.inl ⟨1,nv,0,j,rfl,cZ.set3 hb (Nat.le_refl _) _ _ _,bo.out.1,bo.out.2.1,Or.inr (Or.inr (Or.inr (Or.inr ⟨rfl,bo.out.2.2.2.1,rfl,bo.out.2.1,bo.out.2.2.1,bo.out.2.2.2.2⟩)))⟩)
  ·have cZ:=ha.trans cN
   obtain ⟨hc,hz⟩:=cN.cells w.heap.size (by simp) (by omega)
   go_wp2_with fail
   obtain ⟨q1,q2,q3,q4⟩:=HN.out
   exact bodyPost_ret (v:=.tuple #[.agg #[.int .i64 1,.int .i64 0,.int .u8 0],.bool false]) (by simp [results,Tryz.results208,go_sem,hc]) rfl (Or.inr ⟨1,0,0,i,rfl,cZ.set3 hb (Nat.le_refl _) _ _ _,Tn bo.out q1 q2 q3 q4⟩)
end Go.Proofs.YtblfffbmklkhmaaGreat
namespace Go.Proofs.YtblfffbmklkhmaaGreat
open Go.RowKit
theorem Tryz.info141:(Tryz.prog.info? 141).map (fun i=>(i.zero,i.size,i.bytes))=some (some (.agg #[.slice none 0 0]),1,24):=by kernel_rfl
def Sels (w:World) (ae:Nat):List Value→List (List cO)→Prop
 | xs,[]=>xs=[]
 | xs,cs :: ss=>∃ (a:Option Addr) (c:Nat) (ps ys:List Value),xs=.slice a cs.length c :: ys∧w.ownsRow ae 190 3 (.slice a cs.length c) cs.length ps∧Comps w ae ps cs∧Sels w ae ys ss
theorem Sels.keep {w w':World} {ae:Nat} (hk:Keeps w w' ae 192) (PY:Keeps w w' ae 190):∀ {xs:List Value} {ss:List (List cO)},Sels w ae xs ss→Sels w' ae xs ss
 | _,[],h=>h
 | _,_ :: _,⟨a,c,ps,ys,h1,h2,h3,h4⟩=>⟨a,c,ps,ys,h1,PY.owns h2,h3.keep hk,Sels.keep hk PY h4⟩
theorem Sels.mono {w:World} {ae eY:Nat} (hb:eY≤ae):∀ {xs:List Value} {ss:List (List cO)},Sels w ae xs ss→Sels w eY xs ss
 | _,[],h=>h
 | _,_ :: _,⟨a,c,ps,ys,h1,h2,h3,h4⟩=>⟨a,c,ps,ys,h1,aG h2 hb,h3.mono hb,Sels.mono hb h4⟩
theorem Sels.snoc {w:World} {ae:Nat} (a:Option Addr) (c:Nat) (cs:List cO) (ps:List Value) (ho:w.ownsRow ae 190 3 (.slice a cs.length c) cs.length ps) (hk:Comps w ae ps cs) :
  ∀ {xs:List Value} {ss:List (List cO)},Sels w ae xs ss→Sels w ae (xs++[.slice a cs.length c]) (ss++[cs])
 | _,[],h=>by simp only [Sels] at h;subst h;exact ⟨a,c,ps,[],rfl,ho,hk,rfl⟩
 | _,_ :: _,⟨a',c',rP,ys,h1,h2,h3,h4⟩=>⟨a',c',rP,_,by rw [h1];rfl,h2,h3,Sels.snoc a c cs ps ho hk h4⟩
def SelsPre (s:ByteArray):Nat→Nat→List (List cO)→Prop
 | i,j,[]=>i=j
 | i,j,cs :: ss=>∃ l,jU s i l cs∧i<l∧bt s l=44∧SelsPre s (l+1) j ss
theorem SelsPre.snoc {s:ByteArray} {i j l:Nat} {ss:List (List cO)} {cs:List cO} (h:SelsPre s i j ss) (hc:jU s j l cs) (hl:j<l) (hs:bt s l=44):SelsPre s i (l+1) (ss++[cs]):=by
 induction ss generalizing i with
 | nil=>simp only [SelsPre] at h;subst h;exact ⟨l,hc,hl,hs,rfl⟩
 | cons x ss ih=>
  obtain ⟨l',h1,h2,h3,h4⟩:=h
  exact ⟨l',h1,h2,h3,ih h4⟩
def mJ (s:ByteArray) (i j:Nat) (ss:List (List cO)):Prop:=
 ∃ pre l cs,ss=pre++[cs]∧SelsPre s i l pre∧jU s l j cs∧l<j∧bt s j≠44
theorem ij {s:ByteArray}:∀ {ss:List (List cO)} {i j:Nat},SelsPre s i j ss→i≤j
 | [],_,_,h=>by simp only [SelsPre] at h;omega
 | _ :: _,_,_,⟨_,_,h2,_,h5⟩=>by have:=ij h5;omega
structure yU (w:World) (b:Nat) (s:ByteArray) (i:Nat) (m:Int) (gk:Nat) (v:Value) (more:Bool) (wr:World) (j:Nat) (mP:Int) (ss:List (List cO)) (xs:List Value):Prop where
 at':At w wr b s j mP
 own:wr.ownsRow w.heap.size 141 1 v ss.length xs
 sels:Sels wr w.heap.size xs ss
 le:i≤j
 few:ss.length≤j - i
 gk:more=true→s.size - j<gk
 go:more=true→SelsPre s i j ss∧∀ nr,V s 2 ⟨nr,1,m⟩ i=V s 2 ⟨nr,1,mP⟩ j
 done:more=false→mJ s i j ss∧lJ (bt s j)=false∧fM (bt s j)=false∧∃ nc,∀ nr,V s 2 ⟨nr,1,m⟩ i=V s 3 ⟨nr,nc,mP⟩ j
def KF (w:World) (b:Nat) (s:ByteArray) (i:Nat) (m:Int) (e:Ending) (w':World):Prop:=
 (∃ (a:Option Addr) (c:Nat) (ss:List (List cO)) (xs:List Value) (j:Nat) (m':Int),e=.returned (.tuple #[.slice a ss.length c,.bool true])∧At w w' b s j m'∧w'.ownsRow w.heap.size 141 1 (.slice a ss.length c) ss.length xs∧Sels w' w.heap.size xs ss∧
  Hid (mJ s i j ss∧i<j∧lJ (bt s j)=false∧fM (bt s j)=false∧bt s j≠44∧∃ nc,∀ nr,V s 2 ⟨nr,1,m⟩ i=V s 3 ⟨nr,nc,m'⟩ j))∨
 (∃ j m',e=.returned (.tuple #[.slice none 0 0,.bool false])∧At w w' b s j m'∧Hid (∀ nr,V s 2 ⟨nr,1,m⟩ i=((j:Int),-1)))
theorem Wp (c:Option Addr) (n k:Nat):∀ u∈[Value.slice c n k],u.oneCell'=true:=by
 intro u hu
 simp only [List.mem_cons,List.not_mem_nil,or_false] at hu
 rcases hu with rfl;rfl
theorem ui {s:ByteArray} {i nr nc:Nat} {m:Int} (h:bt s i=44) (hi:i<s.size):V s 3 ⟨nr,nc,m⟩ i=V s 2 ⟨nr,1,m⟩ (i+1):=by
 rw [uy hi (m':=2) (by simp [bC,gH,h]) (by decide)]
 simp [cnt,h,fM]
set_option maxHeartbeats 4000000 in
theorem vA (w:World) (b:Nat) (s:ByteArray) (i:Nat) (m:Int) (h:Rd w b s i m) :
  Calls Tryz.prog 158 #[.pointer (some ⟨b,0,none⟩)] w fun e w'=>KF w b s i m e w':=by
 have hb:=h.lt
 have sN:=h.top
 obtain ⟨i0,hi,gx,gw,gB⟩:=info_parts Tryz.info141
 go_enter Tryz.func158,Tryz.ntmps158
 go_wp2_with fail
 go_loopg [4,5] (s.size - i+1) (fun gk v mv wr=>∃ (j:Nat) (mP:Int) (ss:List (List cO)) (xs:List Value) (more:Bool),mv=.bool more∧yU w b s i m gk v more wr j mP ss xs)
 case atStart=>
  exact ⟨i,m,[],[],true,rfl,h.at0,World.ownsRow_nil _ _ _ _,rfl,Nat.le_refl _,by simp,fun _=>by omega,fun _=>⟨rfl,fun nr=>rfl⟩,fun e=>by cases e⟩
 case round=>
  obtain ⟨j,mP,ss,xs,more,rfl,R⟩:=hrel
  have oz:=R.at'.rd.le
  obtain ⟨a,c,hv⟩:=au R.own
  subst hv
  cases more
  ·have R2:=R
   clear R
   go_wp2
   go_ret2
   refine Or.inl ⟨a,c,ss,xs,j,mP,rfl,R2.at',R2.own,R2.sels,?_⟩
   obtain ⟨q1,q2,q3,q4⟩:=R2.done rfl
   obtain ⟨pre,l,cs,p1,p2,p3,p4,p5⟩:=q1
   have:=ij p2
   exact ⟨⟨pre,l,cs,p1,p2,p3,p4,p5⟩,by omega,q2,q3,p5,q4⟩
  ·go_wp2_with fail
   refine (yY _ b s j mP (by exact R.at'.rd)).mono ?_
   rintro e w2 (⟨a2,c2,cs,ps,l,M,rfl,cN,v9,yI,bo⟩ | ⟨l,M,rfl,cN,bo⟩)
   ·have cZ:=R.at'.trans cN
    have fO:=R.at'.size
    have nX:=cZ.size
    have cu:=cN.owns R.own (by omega)
    have bR:=R.few
    go_wp2_with (at_builtin;refine wpList_append_own _ rfl (.tmp 16) (.tmp 18) 135 rfl w.heap.size 141 i0 (.agg #[.slice none 0 0]) 1 24 Tryz.underlying135 hi gx gw gB rfl (by decide) _ _ _ rfl ((cu.alloc _).alloc _) ⟨w2.heap.size+1,0,none⟩ 1 1 [.slice a2 cs.length c2] rfl rfl ?c1 ?c2 ?c3 ?c4 ?c5 ?_)
    case c1=>exact aO (w2.alloc _) _ (by simp) _ _ _ rfl
    case c2=>exact Wp _ _ _
    case c3=>unfold maxLen;omega
    case c4=>omega
    case c5=>simp;omega
    ·intro v' w3 bB eJ _
     have bg:w3.ownsRow w.heap.size 141 1 v' (ss++[cs]).length (xs++[.slice a2 cs.length c2]):=by simpa using bB
     have iU:∀ e,Keeps wr w2 w.heap.size e:=fun e=>ec cN (by omega) _
     have qP:∀ e,e≠141→Keeps w2 w3 w.heap.size e:=fun e he=>((bX _ _ _ _).trans (bX _ _ _ _)).trans (iY he ((cu.alloc _).alloc _) eJ)
     have FP:Sels w3 w.heap.size (xs++[.slice a2 cs.length c2]) (ss++[cs]):=
      Sels.snoc a2 c2 cs ps ((qP 190 (by decide)).owns (aG v9 fO)) ((yI.mono fO).keep (qP 192 (by decide))) (R.sels.keep ((iU _).trans (qP _ (by decide))) ((iU _).trans (qP _ (by decide))))
     have vG:At w w3 b s l M:=((cZ.alloc _).alloc _).app hb ((cu.alloc _).alloc _) eJ
     obtain ⟨q1,q2,q3⟩:=bo.out
     have HV:Hid (SelsPre s i j ss∧jU s j l cs∧j<l∧∀ nr,V s 2 ⟨nr,1,m⟩ i=V s 3 ⟨nr,cs.length,M⟩ l):=
      ⟨(R.go rfl).1,q1,q2,fun nr=>by rw [(R.go rfl).2 nr,q3]⟩
     have oz:=R.le
     have fK:=R.gk rfl
     have bw:(ss++[cs]).length≤l - i:=by simp;omega
     clear bB eJ cu R iU qP q1 q3 bo
     go_wp2_with fail
     refine (gK _ b s l M 44 (by exact vG.rd) (by decide)).mono ?_
     rintro e w4 (⟨rfl,iC,gY⟩ | ⟨rfl,iC,gY⟩)
     ·have R4:yU w b s i m (s.size - l) v' true w4 (l+1) M (ss++[cs]) (xs++[.slice a2 cs.length c2]):=by
       obtain ⟨p1,p2,p3,p4⟩:=HV.out
       have h4:=gY.out
       have FG:bt s l=44:=by omega
       exact ⟨vG.trans iC,iC.owns bg (by omega),FP.keep (ec iC (by omega) _) (ec iC (by omega) _),by omega,by omega,fun _=>by omega,fun _=>⟨p1.snoc p2 p3 FG,fun nr=>by rw [p4 nr,ui FG h4.2]⟩,fun e=>by cases e⟩
      have G4:=gY.out.2
      clear FP bg
      go_wp2
      go_roundg (s.size - l)
      case measure=>omega
      case rel=>exact ⟨l+1,M,_,_,_,rfl,R4⟩
     ·have R4:yU w b s i m 0 v' false w4 l M (ss++[cs]) (xs++[.slice a2 cs.length c2]):=by
       obtain ⟨p1,p2,p3,p4⟩:=HV.out
       have FG:bt s l≠44:=by have:=gY.out;omega
       have p2':=p2
       obtain ⟨_,_,_,_,_,_,_,_,hA,hS⟩:=p2'
       exact ⟨vG.trans iC,iC.owns bg (by omega),FP.keep (ec iC (by omega) _) (ec iC (by omega) _),by omega,by omega,fun e=>(by cases e),fun e=>(by cases e),fun _=>⟨⟨ss,j,cs,rfl,p1,p2,p3,FG⟩,hA,hS,cs.length,p4⟩⟩
      clear FP bg
      go_wp2
      go_roundg 0
      case measure=>omega
      case rel=>exact ⟨l,M,_,_,_,rfl,R4⟩
   ·have cZ:=R.at'.trans cN
    go_wp2_with fail
    go_ret2
    exact Or.inr ⟨l,M,rfl,cZ.alloc _,fun nr=>by rw [(R.go rfl).2 nr,bo.out]⟩
end Go.Proofs.YtblfffbmklkhmaaGreat
namespace Go.Proofs.YtblfffbmklkhmaaGreat
open Go.RowKit
theorem Tryz.info253:(Tryz.prog.info? 253).map (fun i=>(i.zero,i.size,i.bytes))=some (some (.agg #[.int .u8 0,.int .i64 0,.int .i64 0,.int .u8 0,.bool false]),5,40):=by kernel_rfl
structure PDc where
 pr:Int
 kd:Int
 nu:Int
 va:Int
 im:Bool
def kC (s:ByteArray) (i j:Nat) (d:PDc):Prop:=
 ua (bt s i)=true∧d.pr=bt s i∧bt s (i+1)=58∧∃ k,Ae s (i+2) k d.kd d.nu d.va∧i+2<k∧((d.im=true∧bt s k=33∧j=k+1)∨(d.im=false∧bt s k≠33∧j=k))
def Decs:List Value→List PDc→Prop
 | xs,[]=>xs=[]
 | xs,d :: ds=>∃ ys,xs=.int .u8 d.pr :: .int .i64 d.kd :: .int .i64 d.nu :: .int .u8 d.va :: .bool d.im :: ys∧Decs ys ds
theorem Decs.snoc {xs:List Value} {ds:List PDc} (h:Decs xs ds) (p kd nv vr:Int) (im:Bool):Decs (xs++[.int .u8 p,.int .i64 kd,.int .i64 nv,.int .u8 vr,.bool im]) (ds++[⟨p,kd,nv,vr,im⟩]):=by
 induction ds generalizing xs with
 | nil=>simp only [Decs] at h;subst h;exact ⟨[],rfl,rfl⟩
 | cons k ks ih=>
  obtain ⟨ys,rfl,hy⟩:=h
  exact ⟨_,rfl,ih hy⟩
def DcPre (s:ByteArray):Nat→Nat→List PDc→Prop
 | i,j,[]=>i=j
 | i,j,d :: ds=>∃ l,kC s i l d∧i<l∧bt s l=59∧DcPre s (l+1) j ds
theorem DcPre.snoc {s:ByteArray} {i j l:Nat} {ds:List PDc} {d:PDc} (h:DcPre s i j ds) (hc:kC s j l d) (hl:j<l) (hs:bt s l=59):DcPre s i (l+1) (ds++[d]):=by
 induction ds generalizing i with
 | nil=>simp only [DcPre] at h;subst h;exact ⟨l,hc,hl,hs,rfl⟩
 | cons x ss ih=>
  obtain ⟨l',h1,h2,h3,h4⟩:=h
  exact ⟨l',h1,h2,h3,ih h4⟩
def AS (s:ByteArray) (i j:Nat) (ds:List PDc):Prop:=∃ pre l d,ds=pre++[d]∧DcPre s i l pre∧kC s l j d∧l<j∧bt s j≠59
def BC (s:ByteArray) (i j:Nat) (ds:List PDc):Prop:=
 bt s i=123∧((bt s (i+1)=125∧ds=[]∧j=i+2)∨(bt s (i+1)≠125∧∃ k,AS s (i+1) k ds∧bt s k=125∧j=k+1))
def L5 (w:World) (b:Nat) (s:ByteArray) (i:Nat) (m:Int) (e:Ending) (w':World):Prop:=
 (∃ (p kd nv vr:Int) (im:Bool) (j:Nat),e=.returned (.tuple #[.agg #[.int .u8 p,.int .i64 kd,.int .i64 nv,.int .u8 vr,.bool im],.bool true])∧At w w' b s j m∧Hid (Sim s 10 i 16 j∧i<j∧kC s i j ⟨p,kd,nv,vr,im⟩))∨
 (∃ (j:Nat),e=.returned (.tuple #[.agg #[.int .u8 0,.int .i64 0,.int .i64 0,.int .u8 0,.bool false],.bool false])∧At w w' b s j m∧Hid (sf s 10 i j))
theorem tk {s:ByteArray} {i:Nat} (h:ua (bt s i)=true∧i<s.size):Sim s 10 i 11 (i+1):=dS h.2 (by simp [bC,jS,h.1]) (by decide) (fun k=>by simp [cnt])
theorem N0 {s:ByteArray} {i:Nat} (h:ua (bt s i)=false):sf s 10 i i:=iT (by decide) (by simp [bC,jS,h])
theorem xW {s:ByteArray} {i:Nat} (h:(bt s i:Int)=58∧i<s.size):Sim s 11 i 12 (i+1):=by
 have h1:bt s i=58:=by omega
 exact dS h.2 (by simp [bC,wh,h1]) (by decide) (fun k=>by simp [cnt])
theorem Mu {s:ByteArray} {i:Nat} (h:(bt s i:Int)≠58):sf s 11 i i:=by
 have h1:¬ bt s i=58:=by omega
 exact iT (by decide) (by simp [bC,wh,h1])
theorem L1 {s:ByteArray} {i:Nat} (h:(bt s i:Int)=33∧i<s.size):Sim s 15 i 16 (i+1):=by
 have h1:bt s i=33:=by omega
 exact dS h.2 (by simp [bC,jA,h1]) (by decide) (fun k=>by simp [cnt])
theorem Nf {s:ByteArray} {i:Nat} (h:(bt s i:Int)≠33):Sim s 15 i 16 i:=by
 have h1:¬ bt s i=33:=by omega
 exact kY (by decide) (by decide) (by simp [bC,jA,h1]) (fun k=>by simp [cnt])
set_option maxHeartbeats 2000000 in
theorem se (w:World) (b:Nat) (s:ByteArray) (i:Nat) (m:Int) (h:Rd w b s i m) :
  Calls Tryz.prog 194 #[.pointer (some ⟨b,0,none⟩)] w fun e w'=>L5 w b s i m e w':=by
 have hb:=h.lt
 go_enter Tryz.func194,Tryz.ntmps194
 go_wp2_with fail
 refine (yi _ b s i m (by exact h.alloc _)).mono ?_
 rintro e w1 (⟨rfl,ha,hf⟩ | ⟨rfl,ha,hf⟩)
 ·go_wp2_with fail
  refine (gK _ b s (i+1) m 58 (by exact ha.rd) (by decide)).mono ?_
  rintro e w2 (⟨rfl,cN,bo⟩ | ⟨rfl,cN,bo⟩)
  ·have cZ:=ha.trans cN
   go_wp2_with fail
   refine (Gl _ b s (i+2) m (by exact cZ.rd)).mono ?_
   rintro e w3 (⟨kd,nv,vr,j,rfl,iC,gY⟩ | ⟨kd,nv,vr,j,rfl,iC,gY⟩)
   ·have mM:=cZ.trans iC
    have Xp:w.heap.size<w3.heap.size:=by have:=mM.size;simp only [World.size_alloc] at this;omega
    have HS:Hid (Sim s 10 i 15 j∧i<j∧ua (bt s i)=true∧bt s (i+1)=58∧Ae s (i+2) j kd nv vr∧i+2<j):=⟨((tk hf.out).trans (xW bo.out)).trans gY.out.1,by have:=gY.out.2.1;omega,hf.out.1,by have:=bo.out.1;omega,gY.out.2.2,gY.out.2.1⟩
    go_wp2_with fail
    have OU:=mM.alloc (Obj.cells #[Value.int IntKind.i64 kd,Value.int IntKind.i64 nv,Value.int IntKind.u8 vr] 219)
    refine (gK _ b s j m 33 (by exact OU.rd) (by decide)).mono ?_
    rintro e w4 (⟨rfl,U5,PW⟩ | ⟨rfl,U5,PW⟩)
    ·have UP:=OU.trans U5
     obtain ⟨hc,hz⟩:=UP.cells w.heap.size (by simp) (by omega)
     obtain ⟨MB,Yg⟩:=U5.cells w3.heap.size (by simp) (by omega)
     go_wp2_with fail
     exact bodyPost_ret (v:=.tuple #[.agg #[.int .u8 (bt s i),.int .i64 kd,.int .i64 nv,.int .u8 vr,.bool true],.bool true]) (by simp [results,Tryz.results194,go_sem,hc]) rfl (Or.inl ⟨_,kd,nv,vr,true,j+1,rfl,UP.ofAlloc.set5 hb (Nat.le_refl _) _ _ _ _ _,HS.out.1.trans (L1 PW.out),by have:=HS.out.2.1;omega,HS.out.2.2.1,rfl,HS.out.2.2.2.1,j,HS.out.2.2.2.2.1,HS.out.2.2.2.2.2,Or.inl ⟨rfl,by have:=PW.out.1;omega,rfl⟩⟩)
    ·have UP:=OU.trans U5
     obtain ⟨hc,hz⟩:=UP.cells w.heap.size (by simp) (by omega)
     obtain ⟨MB,Yg⟩:=U5.cells w3.heap.size (by simp) (by omega)
     go_wp2_with fail
     exact bodyPost_ret (v:=.tuple #[.agg #[.int .u8 (bt s i),.int .i64 kd,.int .i64 nv,.int .u8 vr,.bool false],.bool true]) (by simp [results,Tryz.results194,go_sem,hc]) rfl (Or.inl ⟨_,kd,nv,vr,false,j,rfl,UP.ofAlloc.set5 hb (Nat.le_refl _) _ _ _ _ _,HS.out.1.trans (Nf PW.out),HS.out.2.1,HS.out.2.2.1,rfl,HS.out.2.2.2.1,j,HS.out.2.2.2.2.1,HS.out.2.2.2.2.2,Or.inr ⟨rfl,by have:=PW.out;omega,rfl⟩⟩)
   ·have mM:=cZ.trans iC
    have Xp:w.heap.size<w3.heap.size:=by have:=mM.size;simp only [World.size_alloc] at this;omega
    obtain ⟨hc,hz⟩:=mM.cells w.heap.size (by simp) (by omega)
    go_wp2_with fail
    exact bodyPost_ret (v:=.tuple #[.agg #[.int .u8 0,.int .i64 0,.int .i64 0,.int .u8 0,.bool false],.bool false]) (by simp [results,Tryz.results194,go_sem,hc,Xp]) rfl (Or.inr ⟨j,rfl,(mM.ofAlloc.set5 hb (Nat.le_refl _) _ _ _ _ _).alloc _,((tk hf.out).trans (xW bo.out)).bad gY.out⟩)
  ·have cZ:=ha.trans cN
   obtain ⟨hc,hz⟩:=cZ.cells w.heap.size (by simp) (by omega)
   go_wp2_with fail
   exact bodyPost_ret (v:=.tuple #[.agg #[.int .u8 0,.int .i64 0,.int .i64 0,.int .u8 0,.bool false],.bool false]) (by simp [results,Tryz.results194,go_sem,hc]) rfl (Or.inr ⟨i+1,rfl,cZ.ofAlloc.set5 hb (Nat.le_refl _) _ _ _ _ _,(tk hf.out).bad (Mu bo.out)⟩)
 ·obtain ⟨hc,hz⟩:=ha.cells w.heap.size (by simp) (by omega)
  go_wp2_with fail
  exact bodyPost_ret (v:=.tuple #[.agg #[.int .u8 0,.int .i64 0,.int .i64 0,.int .u8 0,.bool false],.bool false]) (by simp [results,Tryz.results194,go_sem,hc]) rfl (Or.inr ⟨i,rfl,ha.ofAlloc.set5 hb (Nat.le_refl _) _ _ _ _ _,N0 hf.out⟩)
structure ti (w:World) (b:Nat) (s:ByteArray) (i:Nat) (m:Int) (gk:Nat) (v:Value) (more:Bool) (wr:World) (j:Nat) (ds:List PDc) (xs:List Value):Prop where
 at':At w wr b s j m
 own:wr.ownsRow w.heap.size 253 5 v ds.length xs
 decs:Decs xs ds
 le:i≤j
 few:ds.length≤j - i
 gk:more=true→s.size - j<gk
 go:more=true→Sim s 10 i 10 j∧DcPre s i j ds
 done:more=false→Sim s 10 i 16 j∧bt s j≠59∧i<j∧AS s i j ds
def H3 (w:World) (b:Nat) (s:ByteArray) (i:Nat) (m:Int) (e:Ending) (w':World):Prop:=
 (∃ (a:Option Addr) (c j:Nat) (ds:List PDc) (xs:List Value),e=.returned (.tuple #[.slice a ds.length c,.bool true])∧At w w' b s j m∧w'.ownsRow w.heap.size 253 5 (.slice a ds.length c) ds.length xs∧Hid (Decs xs ds∧Sim s 10 i 16 j∧bt s j≠59∧i<j∧AS s i j ds))∨
 (∃ (j:Nat),e=.returned (.tuple #[.slice none 0 0,.bool false])∧At w w' b s j m∧Hid (sf s 10 i j))
theorem Vs (a b c d:Int) (e:Bool):∀ u∈[Value.int .u8 a,Value.int .i64 b,Value.int .i64 c,Value.int .u8 d,Value.bool e],u.oneCell'=true:=by
 intro u hu
 simp only [List.mem_cons,List.not_mem_nil,or_false] at hu
 rcases hu with rfl | rfl | rfl | rfl | rfl<;>rfl
theorem K4 {s:ByteArray} {i:Nat} (h:(bt s i:Int)=59∧i<s.size):Sim s 16 i 10 (i+1):=by
 have h1:bt s i=59:=by omega
 exact dS h.2 (by simp [bC,ik,h1]) (by decide) (fun k=>by simp [cnt])
set_option maxHeartbeats 4000000 in
theorem ra (w:World) (b:Nat) (s:ByteArray) (i:Nat) (m:Int) (h:Rd w b s i m) :
  Calls Tryz.prog 180 #[.pointer (some ⟨b,0,none⟩)] w fun e w'=>H3 w b s i m e w':=by
 have hb:=h.lt
 have sN:=h.top
 obtain ⟨i0,hi,gx,gw,gB⟩:=info_parts Tryz.info253
 go_enter Tryz.func180,Tryz.ntmps180
 go_wp2_with fail
 go_loopg [4,5] (s.size - i+1) (fun gk v mv wr=>∃ (j:Nat) (ds:List PDc) (xs:List Value) (more:Bool),mv=.bool more∧ti w b s i m gk v more wr j ds xs)
 case atStart=>
  exact ⟨i,[],[],true,rfl,h.at0,World.ownsRow_nil _ _ _ _,rfl,Nat.le_refl _,by simp,fun _=>by omega,fun _=>⟨fun _=>rfl,rfl⟩,fun e=>by cases e⟩
 case round=>
  obtain ⟨j,ds,xs,more,rfl,R⟩:=hrel
  have oz:=R.at'.rd.le
  obtain ⟨a,c,hv⟩:=au R.own
  subst hv
  cases more
  ·have R2:=R
   clear R
   go_wp2
   go_ret2
   exact Or.inl ⟨a,c,j,ds,xs,rfl,R2.at',R2.own,R2.decs,R2.done rfl⟩
  ·go_wp2_with fail
   refine (se _ b s j m (by exact R.at'.rd)).mono ?_
   rintro e w2 (⟨p,kd,nv,vr,im,l,rfl,cN,bo⟩ | ⟨l,rfl,cN,bo⟩)
   ·have cZ:=R.at'.trans cN
    have fO:=R.at'.size
    have nX:=cZ.size
    have cu:=cN.owns R.own (by omega)
    have bR:=R.few
    go_wp2_with (at_builtin;refine wpList_append_own _ rfl (.tmp 16) (.tmp 18) 136 rfl w.heap.size 253 i0 (.agg #[.int .u8 0,.int .i64 0,.int .i64 0,.int .u8 0,.bool false]) 5 40 Tryz.underlying136 hi gx gw gB rfl (by decide) _ _ _ rfl ((cu.alloc _).alloc _) ⟨w2.heap.size+1,0,none⟩ 1 1 [.int .u8 p,.int .i64 kd,.int .i64 nv,.int .u8 vr,.bool im] rfl rfl ?c1 ?c2 ?c3 ?c4 ?c5 ?_)
    case c1=>exact aO (w2.alloc _) _ (by simp) _ _ _ rfl
    case c2=>exact Vs _ _ _ _ _
    case c3=>unfold maxLen;omega
    case c4=>omega
    case c5=>simp;omega
    ·intro v' w3 bB eJ _
     have vG:At w w3 b s l m:=((cZ.alloc _).alloc _).app hb ((cu.alloc _).alloc _) eJ
     have HV:Hid (Sim s 10 i 16 l∧j<l∧DcPre s i j ds∧kC s j l ⟨p,kd,nv,vr,im⟩):=⟨(R.go rfl).1.trans bo.out.1,bo.out.2.1,(R.go rfl).2,bo.out.2.2⟩
     have oz:=R.le
     have fK:=R.gk rfl
     have Il:=bo.out.2.1
     have MD:Hid (Decs (xs++[.int .u8 p,.int .i64 kd,.int .i64 nv,.int .u8 vr,.bool im]) (ds++[⟨p,kd,nv,vr,im⟩])):=R.decs.snoc _ _ _ _ _
     have bw:(ds++[(⟨p,kd,nv,vr,im⟩:PDc)]).length≤l - i:=by simp;omega
     have bg:w3.ownsRow w.heap.size 253 5 v' (ds++[(⟨p,kd,nv,vr,im⟩:PDc)]).length (xs++[.int .u8 p,.int .i64 kd,.int .i64 nv,.int .u8 vr,.bool im]):=by simpa using bB
     clear bB eJ cu R bo
     go_wp2_with fail
     refine (gK _ b s l m 59 (by exact vG.rd) (by decide)).mono ?_
     rintro e w4 (⟨rfl,iC,gY⟩ | ⟨rfl,iC,gY⟩)
     ·have R4:ti w b s i m (s.size - l) v' true w4 (l+1) (ds++[⟨p,kd,nv,vr,im⟩]) (xs++[.int .u8 p,.int .i64 kd,.int .i64 nv,.int .u8 vr,.bool im]):=
       ⟨vG.trans iC,iC.owns bg (by omega),MD.out,by omega,by omega,fun _=>by have:=gY.out.2;omega,fun _=>⟨HV.out.1.trans (K4 gY.out),HV.out.2.2.1.snoc HV.out.2.2.2 HV.out.2.1 (by have:=gY.out.1;omega)⟩,fun e=>by cases e⟩
      have G4:=gY.out.2
      clear bg
      go_wp2
      go_roundg (s.size - l)
      case measure=>omega
      case rel=>exact ⟨l+1,_,_,_,rfl,R4⟩
     ·have R4:ti w b s i m 0 v' false w4 l (ds++[⟨p,kd,nv,vr,im⟩]) (xs++[.int .u8 p,.int .i64 kd,.int .i64 nv,.int .u8 vr,.bool im]):=
       ⟨vG.trans iC,iC.owns bg (by omega),MD.out,by omega,by omega,fun e=>(by cases e),fun e=>(by cases e),fun _=>⟨HV.out.1,by have:=gY.out;omega,by have:=HV.out.2.1;omega,ds,j,_,rfl,HV.out.2.2.1,HV.out.2.2.2,HV.out.2.1,by have:=gY.out;omega⟩⟩
      clear bg
      go_wp2
      go_roundg 0
      case measure=>omega
      case rel=>exact ⟨l,_,_,_,rfl,R4⟩
   ·have cZ:=R.at'.trans cN
    go_wp2_with fail
    go_ret2
    exact Or.inr ⟨l,rfl,cZ.alloc _,(R.go rfl).1.bad bo.out⟩
def Id (w:World) (b:Nat) (s:ByteArray) (i:Nat) (m:Int) (e:Ending) (w':World):Prop:=
 (∃ (a:Option Addr) (c j:Nat) (ds:List PDc) (xs:List Value),e=.returned (.tuple #[.slice a ds.length c,.bool true])∧At w w' b s j m∧w'.ownsRow w.heap.size 253 5 (.slice a ds.length c) ds.length xs∧Hid (Decs xs ds∧Sim s 3 i 0 j∧i<j∧BC s i j ds))∨
 (∃ (a:Option Addr) (n c j:Nat),e=.returned (.tuple #[.slice a n c,.bool false])∧At w w' b s j m∧Hid (sf s 3 i j))
theorem kU {s:ByteArray} {i:Nat} (h:(bt s i:Int)=123∧i<s.size):Sim s 3 i 9 (i+1)∧bt s i=123:=by
 have h1:bt s i=123:=by omega
 exact ⟨dS h.2 (by simp [bC,gH,fM,h1]) (by decide) (fun k=>by simp [cnt,fM,h1]),h1⟩
theorem LL {s:ByteArray} {i:Nat} (h:(bt s i:Int)≠123) (hA:lJ (bt s i)=false) (hS:fM (bt s i)=false) (FG:bt s i≠44):sf s 3 i i:=by
 simp only [lJ,decide_eq_false_iff_not] at hA
 have h1:¬ bt s i=123:=by omega
 have h2:¬ bt s i=33:=by omega
 have h3:¬ bt s i=46:=by omega
 have h4:¬ bt s i=35:=by omega
 have h5:¬ bt s i=58:=by omega
 exact iT (by decide) (by simp [bC,gH,il,hS,FG,h1,h2,h3,h4,h5])
theorem B0 {s:ByteArray} {i:Nat} (h:(bt s i:Int)=125∧i<s.size):Sim s 9 i 0 (i+1)∧Sim s 16 i 0 (i+1):=by
 have h1:bt s i=125:=by omega
 exact ⟨dS h.2 (by simp [bC,h1]) (by decide) (fun k=>by simp [cnt]),dS h.2 (by simp [bC,ik,h1]) (by decide) (fun k=>by simp [cnt])⟩
theorem BM {s:ByteArray} {i:Nat} (h:(bt s i:Int)≠125):Sim s 9 i 10 i:=by
 have h1:¬ bt s i=125:=by omega
 exact kY (by decide) (by decide) (by simp [bC,h1]) (fun k=>by simp [cnt])
theorem Gy {s:ByteArray} {i:Nat} (h:(bt s i:Int)≠125) (Gh:bt s i≠59):sf s 16 i i:=by
 have h1:¬ bt s i=125:=by omega
 exact iT (by decide) (by simp [bC,ik,h1,Gh])
set_option maxHeartbeats 1000000 in
theorem Ge (w:World) (b:Nat) (s:ByteArray) (i:Nat) (m:Int) (h:Rd w b s i m) (hN:Hid (lJ (bt s i)=false∧fM (bt s i)=false∧bt s i≠44)) :
  Calls Tryz.prog 159 #[.pointer (some ⟨b,0,none⟩)] w fun e w'=>Id w b s i m e w':=by
 have hb:=h.lt
 go_enter Tryz.func159,Tryz.ntmps159
 go_wp2_with fail
 refine (gK _ b s i m 123 (by exact h) (by decide)).mono ?_
 rintro e w1 (⟨rfl,ha,hf⟩ | ⟨rfl,ha,hf⟩)
 ·go_wp2_with fail
  refine (gK _ b s (i+1) m 125 (by exact ha.rd) (by decide)).mono ?_
  rintro e w2 (⟨rfl,cN,bo⟩ | ⟨rfl,cN,bo⟩)
  ·go_wp2_with fail
   go_ret2
   exact Or.inl ⟨none,0,i+2,[],[],rfl,ha.trans cN,World.ownsRow_nil _ _ _ _,rfl,(kU hf.out).1.trans (B0 bo.out).1,by omega,(kU hf.out).2,Or.inl ⟨by have:=bo.out.1;omega,rfl,rfl⟩⟩
  ·have cZ:=ha.trans cN
   go_wp2_with fail
   refine (ra _ b s (i+1) m (by exact cZ.rd)).mono ?_
   rintro e w3 (⟨a,c,j,ds,xs,rfl,iC,X7,gY⟩ | ⟨j,rfl,iC,gY⟩)
   ·have mM:=cZ.trans iC
    have HS:Hid (Sim s 3 i 16 j∧i<j∧bt s i=123∧bt s j≠59∧Decs xs ds∧AS s (i+1) j ds∧bt s (i+1)≠125):=⟨((kU hf.out).1.trans (BM bo.out)).trans gY.out.2.1,by have:=gY.out.2.2.2.1;omega,(kU hf.out).2,gY.out.2.2.1,gY.out.1,gY.out.2.2.2.2,by have:=bo.out;omega⟩
    have Y3:=cZ.size
    go_wp2_with fail
    refine (gK _ b s j m 125 (by exact mM.rd) (by decide)).mono ?_
    rintro e w4 (⟨rfl,OU,ME⟩ | ⟨rfl,OU,ME⟩)
    ·go_wp2_with fail
     go_ret2
     exact Or.inl ⟨a,c,j+1,ds,xs,rfl,mM.trans OU,aG (OU.owns X7 (by omega)) Y3,HS.out.2.2.2.2.1,HS.out.1.trans (B0 ME.out).2,by have:=HS.out.2.1;omega,HS.out.2.2.1,Or.inr ⟨HS.out.2.2.2.2.2.2,j,HS.out.2.2.2.2.2.1,by have:=ME.out.1;omega,rfl⟩⟩
    ·go_wp2_with fail
     go_ret2
     exact Or.inr ⟨a,ds.length,c,j,rfl,mM.trans OU,HS.out.1.bad (Gy ME.out HS.out.2.2.2.1)⟩
   ·go_wp2_with fail
    go_ret2
    exact Or.inr ⟨none,0,0,j,rfl,cZ.trans iC,((kU hf.out).1.trans (BM bo.out)).bad gY.out⟩
 ·go_wp2_with fail
  go_ret2
  exact Or.inr ⟨none,0,0,i,rfl,ha,LL hf.out hN.out.1 hN.out.2.1 hN.out.2.2⟩
end Go.Proofs.YtblfffbmklkhmaaGreat
