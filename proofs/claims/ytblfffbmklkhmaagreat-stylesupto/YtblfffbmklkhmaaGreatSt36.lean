import Derived.Test.YtblfffbmklkhmaaGreatSt35
import Derived.Test.YtblfffbmklkhmaaGreatSt22
import Derived.Test.YtblfffbmklkhmaaGreatSt23
import Derived.Deep.RegionHeld3
namespace Go.Proofs.YtblfffbmklkhmaaGreat
open Go.RowKit
section
set_option maxRecDepth 100000
set_option maxHeartbeats 4000000
variable (w:World) (b:Nat) (a:Option Addr) (c:Nat) (els:List PEl) (n:Int)
theorem rS (nt:Bool) (kd lt st sr:Int) (h:TRd w b a c els) (hp:PPt.fine ⟨nt,kd,lt,st,sr⟩):Calls Tryz.prog 221 #[.agg #[.bool nt,.int .i64 kd,.int .u8 lt,.int .i64 st,.int .i64 sr],.pointer (some ⟨b,1,none⟩),.int .i64 n] w fun e w'=>bh w (cU els ⟨nt,kd,lt,st,sr⟩ n) e w':=by
 have HT:Hid (TRd (w.alloc (.cells #[.bool nt,.int .i64 kd,.int .u8 lt,.int .i64 st,.int .i64 sr] 192)) b a c els):=h.below ((Below.refl _ _).alloc (Nat.le_refl _) _)
 have HF:Hid (PPt.fine ⟨nt,kd,lt,st,sr⟩):=hp
 have bw:=h.few
 have hhl:=lI els n
 have HB:Hid (∀ (r:Bool) w1,cU els ⟨nt,kd,lt,st,sr⟩ n=r→Below (w.heap.size+1) (w.alloc (.cells #[.bool nt,.int .i64 kd,.int .u8 lt,.int .i64 st,.int .i64 sr] 192)) w1→bh w (cU els ⟨nt,kd,lt,st,sr⟩ n) (.returned (.bool r)) w1):=fun r w1 hr hb=>⟨by rw [hr],((Below.refl _ _).alloc (Nat.le_refl _) _).trans (hb.mono (by omega))⟩
 have HS:Hid (cU els ⟨nt,kd,lt,st,sr⟩ n=if kd=1 then dn els n lt else if kd=2 then dC els n lt else if kd=3 then eW els n lt
  else if kd=4 then decide (((bJ els n).length:Int)+1=1) else if kd=5 then jg els n else if kd=6 then f9 els n
  else if kd=7 then ld (((bJ els n).length:Int)+1) st sr else false):=rfl
 clear h hp
 by_cases h1:kd=1
 ·have HR:Hid (cU els ⟨nt,kd,lt,st,sr⟩ n=dn els n lt):=by unfold Hid;rw [HS.out,if_pos h1]
  have g1:(kd==1)=true:=by simp [h1]
  clear h1 HS
  go_enter Tryz.func221,Tryz.ntmps221
  go_wp2_with fail
  refine (p7 _ b a c els n lt HT.out).mono ?_
  rintro e w1 ⟨rfl,hB⟩
  have HE:=HB.out _ w1 HR.out (hB.mono (by simp))
  clear hB
  generalize dn els n lt=r at HE ⊢
  go_wp2
  go_ret
  exact HE
 have g1:(kd==1)=false:=by simp [h1]
 by_cases h2:kd=2
 ·have HR:Hid (cU els ⟨nt,kd,lt,st,sr⟩ n=dC els n lt):=by unfold Hid;rw [HS.out,if_neg h1,if_pos h2]
  have g2:(kd==2)=true:=by simp [h2]
  clear h1 h2 HS
  go_enter Tryz.func221,Tryz.ntmps221
  go_wp2_with fail
  refine (vN _ b a c els n lt HT.out).mono ?_
  rintro e w1 ⟨rfl,hB⟩
  have HE:=HB.out _ w1 HR.out (hB.mono (by simp))
  clear hB
  generalize dC els n lt=r at HE ⊢
  go_wp2
  go_ret
  exact HE
 have g2:(kd==2)=false:=by simp [h2]
 by_cases h3:kd=3
 ·have HR:Hid (cU els ⟨nt,kd,lt,st,sr⟩ n=eW els n lt):=by unfold Hid;rw [HS.out,if_neg h1,if_neg h2,if_pos h3]
  have g3:(kd==3)=true:=by simp [h3]
  clear h1 h2 h3 HS
  go_enter Tryz.func221,Tryz.ntmps221
  go_wp2_with fail
  refine (zD _ b a c els n lt HT.out).mono ?_
  rintro e w1 ⟨rfl,hB⟩
  have HE:=HB.out _ w1 HR.out (hB.mono (by simp))
  clear hB
  generalize eW els n lt=r at HE ⊢
  go_wp2
  go_ret
  exact HE
 have g3:(kd==3)=false:=by simp [h3]
 by_cases h4:kd=4
 ·have HR:Hid (cU els ⟨nt,kd,lt,st,sr⟩ n=((((bJ els n).length:Int)+1)==1)):=by unfold Hid;rw [HS.out,if_neg h1,if_neg h2,if_neg h3,if_pos h4];rfl
  have g4:(kd==4)=true:=by simp [h4]
  clear h1 h2 h3 h4 HS
  go_enter Tryz.func221,Tryz.ntmps221
  go_wp2_with fail
  refine (pP _ b a c els n HT.out).mono ?_
  rintro e w1 ⟨rfl,hB⟩
  have HE:=HB.out _ w1 HR.out (hB.mono (by simp))
  clear hB HR
  obtain ⟨r,hr⟩:∃ r,(((bJ els n).length:Int)+1)=r:=⟨_,rfl⟩
  rw [hr] at HE ⊢
  clear hr
  go_wp2
  go_ret
  exact HE
 have g4:(kd==4)=false:=by simp [h4]
 by_cases h5:kd=5
 ·have HR:Hid (cU els ⟨nt,kd,lt,st,sr⟩ n=jg els n):=by unfold Hid;rw [HS.out,if_neg h1,if_neg h2,if_neg h3,if_neg h4,if_pos h5]
  have g5:(kd==5)=true:=by simp [h5]
  clear h1 h2 h3 h4 h5 HS
  go_enter Tryz.func221,Tryz.ntmps221
  go_wp2_with fail
  refine (Ix _ b a c els n HT.out).mono ?_
  rintro e w1 ⟨rfl,hB⟩
  have HE:=HB.out _ w1 HR.out (hB.mono (by simp))
  clear hB
  generalize jg els n=r at HE ⊢
  go_wp2
  go_ret
  exact HE
 have g5:(kd==5)=false:=by simp [h5]
 by_cases h6:kd=6
 ·have HR:Hid (cU els ⟨nt,kd,lt,st,sr⟩ n=f9 els n):=by unfold Hid;rw [HS.out,if_neg h1,if_neg h2,if_neg h3,if_neg h4,if_neg h5,if_pos h6]
  have g6:(kd==6)=true:=by simp [h6]
  clear h1 h2 h3 h4 h5 h6 HS
  go_enter Tryz.func221,Tryz.ntmps221
  go_wp2_with fail
  refine (El _ b a c els n HT.out).mono ?_
  rintro e w1 ⟨rfl,hB⟩
  have HE:=HB.out _ w1 HR.out (hB.mono (by simp))
  clear hB
  generalize f9 els n=r at HE ⊢
  go_wp2
  go_ret
  exact HE
 have g6:(kd==6)=false:=by simp [h6]
 by_cases h7:kd=7
 ·have HR:Hid (cU els ⟨nt,kd,lt,st,sr⟩ n=ld (((bJ els n).length:Int)+1) st sr):=by unfold Hid;rw [HS.out,if_neg h1,if_neg h2,if_neg h3,if_neg h4,if_neg h5,if_neg h6,if_pos h7]
  have g7:(kd==7)=true:=by simp [h7]
  clear h1 h2 h3 h4 h5 h6 h7 HS
  go_enter Tryz.func221,Tryz.ntmps221
  go_wp2_with fail
  refine (pP _ b a c els n HT.out).mono ?_
  rintro e w1 ⟨rfl,hB⟩
  have fO:w.heap.size<w1.heap.size:=by have:=hB.size;simp at this;omega
  have q3:w1.cell? ⟨w.heap.size,3,none⟩=some (.int .i64 st):=(hB.cell (p:=⟨w.heap.size,3,none⟩) (by simp)).trans (aa (heap_alloc_new w _) rfl)
  have q4:w1.cell? ⟨w.heap.size,4,none⟩=some (.int .i64 sr):=(hB.cell (p:=⟨w.heap.size,4,none⟩) (by simp)).trans (aa (heap_alloc_new w _) rfl)
  have ed:Hid (Below (w.heap.size+1) (w.alloc (.cells #[.bool nt,.int .i64 kd,.int .u8 lt,.int .i64 st,.int .i64 sr] 192)) w1):=hB.mono (by simp)
  have iS:=ed.out.size
  clear hB
  have kL:0≤(((bJ els n).length:Int)+1)∧(((bJ els n).length:Int)+1)≤100:=by omega
  go_wp2_with fail
  refine (Mp w1 _ st sr kL HF.out.1 HF.out.2).mono ?_
  rintro e w2 ⟨rfl,dp⟩
  have HE:=HB.out _ w2 HR.out (ed.out.trans (dp.mono (by omega)))
  clear dp
  generalize ld (((bJ els n).length:Int)+1) st sr=r at HE ⊢
  go_wp2
  go_ret
  exact HE
 ·have HR:Hid (cU els ⟨nt,kd,lt,st,sr⟩ n=false):=by unfold Hid;rw [HS.out,if_neg h1,if_neg h2,if_neg h3,if_neg h4,if_neg h5,if_neg h6,if_neg h7]
  have g7:(kd==7)=false:=by simp [h7]
  clear h1 h2 h3 h4 h5 h6 h7 HS
  have HE:=HB.out _ _ HR.out (Below.refl _ _)
  go_enter Tryz.func221,Tryz.ntmps221
  go_wp2
  go_ret
  exact HE
end
end Go.Proofs.YtblfffbmklkhmaaGreat
namespace Go.Proofs.YtblfffbmklkhmaaGreat
open Go.RowKit
theorem Jq {els:List PEl} {x:cO} {n:Int} (h0:¬ x.ty=0) (h:dn els n x.ty=false):fG els x n=false:=by
 unfold fG
 have:(x.ty==0)=false:=by simp [h0]
 rw [this,h]
 rfl
theorem B2 {els:List PEl} {x:cO} {n:Int} {i:Nat} (hi:i<x.ps.length) (h:cU els x.ps[i] n=x.ps[i].nt):fG els x n=false:=by
 unfold fG
 have:(x.ps.all fun p=>cU els p n != p.nt)=false:=by
  rw [List.all_eq_false]
  exact ⟨x.ps[i],List.getElem_mem hi,by simp [h]⟩
 rw [this,Bool.and_false]
theorem BI {els:List PEl} {x:cO} {n:Int} (h0:x.ty=0∨dn els n x.ty=true) (h:∀ j (_:j<x.ps.length),¬ cU els x.ps[j] n=x.ps[j].nt):fG els x n=true:=by
 unfold fG
 have h1:(x.ps.all fun p=>cU els p n != p.nt)=true:=by
  rw [List.all_eq_true]
  intro p hp
  obtain ⟨j,hj,rfl⟩:=List.getElem_of_mem hp
  simpa using h j hj
 rw [h1,Bool.and_true]
 rcases h0 with h0 | h0
 ·simp [h0]
 ·rw [h0,Bool.or_true]
def Fz (w:World) (ap:Option Addr) (cp:Nat) (xs:List Value) (x:cO):Prop:=w.ownsRow 0 192 5 (.slice ap x.ps.length cp) x.ps.length xs∧Kinds xs x.ps∧∀ p∈x.ps,p.fine
section
set_option maxRecDepth 100000
set_option maxHeartbeats 4000000
variable (w:World) (b:Nat) (a:Option Addr) (c:Nat) (els:List PEl) (n:Int)
theorem Gt (x:cO) (ap:Option Addr) (cp:Nat) (xs:List Value) (h:TRd w b a c els) (ho:Fz w ap cp xs x) (hl:x.ps.length≤400):Calls Tryz.prog 216 #[.agg #[.int .u8 x.sg,.int .u8 x.ty,.slice ap x.ps.length cp],.pointer (some ⟨b,1,none⟩),.int .i64 n] w fun e w'=>bh w (fG els x n) e w':=by
 have HT:Hid (TRd w b a c els):=h
 have HO:Hid (Fz w ap cp xs x):=ho
 clear h ho
 by_cases h0:x.ty=0
 ·have g0:((x.ty:Int) != 0)=false:=by simp [h0]
  have XZ:Hid (x.ty=0∨dn els n x.ty=true):=Or.inl h0
  have ed:Hid (Below w.heap.size w (w.alloc (.cells #[.int .u8 x.sg,.int .u8 x.ty,.slice ap x.ps.length cp] 190))):=(Below.refl _ _).alloc (Nat.le_refl _) _
  clear h0
  generalize (x.ty:Int)=tz at g0 ed
  go_enter Tryz.func216,Tryz.ntmps216
  go_wp2_with fail
  go_loopg [23] x.ps.length (fun gk iv wr=>∃ i:Nat,iv=.int .i64 i∧i≤x.ps.length∧x.ps.length - i≤gk∧Hid (Below w.heap.size w wr∧∀ j (_:j<x.ps.length),j<i→¬ cU els x.ps[j] n=x.ps[j].nt))
  case atStart=>exact ⟨0,rfl,Nat.zero_le _,by omega,ed.out,fun j _ h=>by omega⟩
  case round=>
   obtain ⟨i,rfl,hi,fK,HN⟩:=hrel
   have iS:=HN.out.1.size
   by_cases aN:i<x.ps.length
   ·have hd:decide ((i:Int)<(x.ps.length:Int))=true:=by simp;omega
    obtain ⟨g,hg,db,fN⟩:=aH HO.out.1 (by omega)
    subst hg
    obtain ⟨e0,e1,e2,e3,e4⟩:=mA HO.out.2.1 aN
    have c0:=(HN.out.1.cell (p:=⟨g,i*5,none⟩) db).trans (fN _ _ e0)
    have c1:=(HN.out.1.cell (p:=⟨g,i*5+1,none⟩) db).trans (fN _ _ e1)
    have c2:=(HN.out.1.cell (p:=⟨g,i*5+2,none⟩) db).trans (fN _ _ e2)
    have c3:=(HN.out.1.cell (p:=⟨g,i*5+3,none⟩) db).trans (fN _ _ e3)
    have c4:=(HN.out.1.cell (p:=⟨g,i*5+4,none⟩) db).trans (fN _ _ e4)
    have HF:Hid (PPt.fine ⟨x.ps[i].nt,x.ps[i].kd,x.ps[i].lt,x.ps[i].st,x.ps[i].sr⟩):=HO.out.2.2 x.ps[i] (List.getElem_mem aN)
    have HY:Hid (cU els ⟨x.ps[i].nt,x.ps[i].kd,x.ps[i].lt,x.ps[i].st,x.ps[i].sr⟩ n=x.ps[i].nt→fG els x n=false):=fun h=>B2 aN h
    have jl:Hid (¬ cU els ⟨x.ps[i].nt,x.ps[i].kd,x.ps[i].lt,x.ps[i].st,x.ps[i].sr⟩ n=x.ps[i].nt→∀ j (_:j<x.ps.length),j<i+1→¬ cU els x.ps[j] n=x.ps[j].nt):=fun hm j hj h1=>by
     by_cases e:j=i
     ·subst e;exact hm
     ·exact HN.out.2 j hj (by omega)
    clear e0 e1 e2 e3 e4 fN
    generalize x.ps[i].nt=nt at c0 HF HY jl
    generalize x.ps[i].kd=kd at c1 HF HY jl
    generalize x.ps[i].lt=lt at c2 HF HY jl
    generalize x.ps[i].st=st at c3 HF HY jl
    generalize x.ps[i].sr=sr at c4 HF HY jl
    have vO:Hid (Below w.heap.size w (wr.alloc (.cells #[.bool nt,.int .i64 kd,.int .u8 lt,.int .i64 st,.int .i64 sr] 192)).drew):=(HN.out.1.alloc iS _).drew
    have rD:Hid (TRd (wr.alloc (.cells #[.bool nt,.int .i64 kd,.int .u8 lt,.int .i64 st,.int .i64 sr] 192)).drew b a c els):=HT.out.below vO.out
    have HC:Hid (∀ wx,Below (wr.heap.size+1) (wr.alloc (.cells #[.bool nt,.int .i64 kd,.int .u8 lt,.int .i64 st,.int .i64 sr] 192)).drew wx→wx.cell? ⟨wr.heap.size,0,none⟩=some (.bool nt)∧wx.cell? ⟨wr.heap.size,1,none⟩=some (.int .i64 kd)∧wx.cell? ⟨wr.heap.size,2,none⟩=some (.int .u8 lt)∧wx.cell? ⟨wr.heap.size,3,none⟩=some (.int .i64 st)∧wx.cell? ⟨wr.heap.size,4,none⟩=some (.int .i64 sr)):=fun wx hb=>
     have lg:(wr.alloc (.cells #[.bool nt,.int .i64 kd,.int .u8 lt,.int .i64 st,.int .i64 sr] 192)).drew.heap[wr.heap.size]?=some (.cells #[.bool nt,.int .i64 kd,.int .u8 lt,.int .i64 st,.int .i64 sr] 192):=heap_alloc_new wr _
     have hx:wx.heap[wr.heap.size]?=some (.cells #[.bool nt,.int .i64 kd,.int .u8 lt,.int .i64 st,.int .i64 sr] 192):=(hb.block _ (by omega)).trans lg
     ⟨aa hx rfl,aa hx rfl,aa hx rfl,aa hx rfl,aa hx rfl⟩
    have H0:Hid (Below (wr.heap.size+1) (wr.alloc (.cells #[.bool nt,.int .i64 kd,.int .u8 lt,.int .i64 st,.int .i64 sr] 192)).drew (wr.alloc (.cells #[.bool nt,.int .i64 kd,.int .u8 lt,.int .i64 st,.int .i64 sr] 192)).drew):=Below.refl _ _
    go_upto_region 6 with fail
    go_cut [33] (fun v wx=>v=.bool (cU els ⟨nt,kd,lt,st,sr⟩ n==nt)∧Hid (Below w.heap.size w wx))
    case first=>
     go_region_held3 (fun w'=>w'.cell? ⟨wr.heap.size,0,none⟩=some (.bool nt)∧w'.cell? ⟨wr.heap.size,1,none⟩=some (.int .i64 kd)∧w'.cell? ⟨wr.heap.size,2,none⟩=some (.int .u8 lt)∧w'.cell? ⟨wr.heap.size,3,none⟩=some (.int .i64 st)∧w'.cell? ⟨wr.heap.size,4,none⟩=some (.int .i64 sr)) (first | exact HC.out _ H0.out | exact HC.out _ HX.out.1)
      (first | (go_at_call 221;refine (rS _ b a c els n nt kd lt st sr rD.out HF.out).mono ?_;rintro e w1 ⟨rfl,cF⟩;have HX:Hid (Below (wr.heap.size+1) (wr.alloc (.cells #[.bool nt,.int .i64 kd,.int .u8 lt,.int .i64 st,.int .i64 sr] 192)).drew w1∧Below w.heap.size w w1):=⟨cF.mono (by simp [World.drew]),vO.out.trans (cF.mono vO.out.size)⟩))
     all_goals
      go_wp2_with fail
      go_meet
      exact ⟨rfl,HX.out.2⟩
    case rest=>
     obtain ⟨rfl,HX⟩:=hcut
     by_cases hs:cU els ⟨nt,kd,lt,st,sr⟩ n=nt
     ·have HR:Hid (bh w (fG els x n) (.returned (.bool false)) wc):=⟨by rw [HY.out hs],HX.out⟩
      have gs:(cU els ⟨nt,kd,lt,st,sr⟩ n==nt)=true:=by simp [hs]
      clear hs c0 c1 c2 c3 c4
      generalize (cU els ⟨nt,kd,lt,st,sr⟩ n==nt)=z at gs ⊢
      subst gs
      go_wp2
      go_ret
      exact HR.out
     ·have eL:Hid (Below w.heap.size w wc∧∀ j (_:j<x.ps.length),j<i+1→¬ cU els x.ps[j] n=x.ps[j].nt):=⟨HX.out,jl.out hs⟩
      have gs:(cU els ⟨nt,kd,lt,st,sr⟩ n==nt)=false:=by simp [hs]
      clear hs c0 c1 c2 c3 c4
      generalize (cU els ⟨nt,kd,lt,st,sr⟩ n==nt)=z at gs ⊢
      subst gs
      go_wp2
      go_roundg (x.ps.length - (i+1))
      case measure=>omega
      case rel=>exact ⟨i+1,by go_num,by omega,Nat.le_refl _,eL⟩
   ·have hd:decide ((i:Int)<(x.ps.length:Int))=false:=by simp;omega
    have HR:Hid (bh w (fG els x n) (.returned (.bool true)) wr):=⟨by rw [BI XZ.out (fun j hj=>HN.out.2 j hj (by omega))],HN.out.1⟩
    go_wp2
    go_ret
    exact HR.out
 ·have g0:((x.ty:Int) != 0)=true:=by simp;omega
  have HZ:Hid (¬ x.ty=0):=h0
  have WY:Hid (TRd (w.alloc (.cells #[.int .u8 x.sg,.int .u8 x.ty,.slice ap x.ps.length cp] 190)) b a c els):=HT.out.below ((Below.refl _ _).alloc (Nat.le_refl _) _)
  clear h0
  go_enter Tryz.func216,Tryz.ntmps216
  go_wp2_with fail
  refine (p7 _ b a c els n x.ty WY.out).mono ?_
  rintro e w1 ⟨rfl,hB⟩
  have fO:w.heap.size<w1.heap.size:=by have:=hB.size;simp at this;omega
  have q2:w1.cell? ⟨w.heap.size,2,none⟩=some (.slice ap x.ps.length cp):=(hB.cell (p:=⟨w.heap.size,2,none⟩) (by simp)).trans (aa (heap_alloc_new w _) rfl)
  have ed:Hid (Below w.heap.size w w1):=((Below.refl _ _).alloc (Nat.le_refl _) _).trans (hB.mono (by simp))
  clear hB
  cases hr:dn els n x.ty with
  | false=>
   have HR:Hid (bh w (fG els x n) (.returned (.bool false)) w1):=⟨by rw [Jq HZ.out hr],ed.out⟩
   clear hr
   go_wp2
   go_ret
   exact HR.out
  | true=>
   have XZ:Hid (x.ty=0∨dn els n x.ty=true):=Or.inr hr
   clear hr
   go_wp2_with fail
   go_loopg [23] x.ps.length (fun gk iv wr=>∃ i:Nat,iv=.int .i64 i∧i≤x.ps.length∧x.ps.length - i≤gk∧Hid (Below w.heap.size w wr∧∀ j (_:j<x.ps.length),j<i→¬ cU els x.ps[j] n=x.ps[j].nt))
   case atStart=>exact ⟨0,rfl,Nat.zero_le _,by omega,ed.out,fun j _ h=>by omega⟩
   case round=>
    obtain ⟨i,rfl,hi,fK,HN⟩:=hrel
    have iS:=HN.out.1.size
    by_cases aN:i<x.ps.length
    ·have hd:decide ((i:Int)<(x.ps.length:Int))=true:=by simp;omega
     obtain ⟨g,hg,db,fN⟩:=aH HO.out.1 (by omega)
     subst hg
     obtain ⟨e0,e1,e2,e3,e4⟩:=mA HO.out.2.1 aN
     have c0:=(HN.out.1.cell (p:=⟨g,i*5,none⟩) db).trans (fN _ _ e0)
     have c1:=(HN.out.1.cell (p:=⟨g,i*5+1,none⟩) db).trans (fN _ _ e1)
     have c2:=(HN.out.1.cell (p:=⟨g,i*5+2,none⟩) db).trans (fN _ _ e2)
     have c3:=(HN.out.1.cell (p:=⟨g,i*5+3,none⟩) db).trans (fN _ _ e3)
     have c4:=(HN.out.1.cell (p:=⟨g,i*5+4,none⟩) db).trans (fN _ _ e4)
     have HF:Hid (PPt.fine ⟨x.ps[i].nt,x.ps[i].kd,x.ps[i].lt,x.ps[i].st,x.ps[i].sr⟩):=HO.out.2.2 x.ps[i] (List.getElem_mem aN)
     have HY:Hid (cU els ⟨x.ps[i].nt,x.ps[i].kd,x.ps[i].lt,x.ps[i].st,x.ps[i].sr⟩ n=x.ps[i].nt→fG els x n=false):=fun h=>B2 aN h
     have jl:Hid (¬ cU els ⟨x.ps[i].nt,x.ps[i].kd,x.ps[i].lt,x.ps[i].st,x.ps[i].sr⟩ n=x.ps[i].nt→∀ j (_:j<x.ps.length),j<i+1→¬ cU els x.ps[j] n=x.ps[j].nt):=fun hm j hj h1=>by
      by_cases e:j=i
      ·subst e;exact hm
      ·exact HN.out.2 j hj (by omega)
     clear e0 e1 e2 e3 e4 fN
     generalize x.ps[i].nt=nt at c0 HF HY jl
     generalize x.ps[i].kd=kd at c1 HF HY jl
     generalize x.ps[i].lt=lt at c2 HF HY jl
     generalize x.ps[i].st=st at c3 HF HY jl
     generalize x.ps[i].sr=sr at c4 HF HY jl
     have vO:Hid (Below w.heap.size w (wr.alloc (.cells #[.bool nt,.int .i64 kd,.int .u8 lt,.int .i64 st,.int .i64 sr] 192)).drew):=(HN.out.1.alloc iS _).drew
     have rD:Hid (TRd (wr.alloc (.cells #[.bool nt,.int .i64 kd,.int .u8 lt,.int .i64 st,.int .i64 sr] 192)).drew b a c els):=HT.out.below vO.out
     have HC:Hid (∀ wx,Below (wr.heap.size+1) (wr.alloc (.cells #[.bool nt,.int .i64 kd,.int .u8 lt,.int .i64 st,.int .i64 sr] 192)).drew wx→wx.cell? ⟨wr.heap.size,0,none⟩=some (.bool nt)∧wx.cell? ⟨wr.heap.size,1,none⟩=some (.int .i64 kd)∧wx.cell? ⟨wr.heap.size,2,none⟩=some (.int .u8 lt)∧wx.cell? ⟨wr.heap.size,3,none⟩=some (.int .i64 st)∧wx.cell? ⟨wr.heap.size,4,none⟩=some (.int .i64 sr)):=fun wx hb=>
      have lg:(wr.alloc (.cells #[.bool nt,.int .i64 kd,.int .u8 lt,.int .i64 st,.int .i64 sr] 192)).drew.heap[wr.heap.size]?=some (.cells #[.bool nt,.int .i64 kd,.int .u8 lt,.int .i64 st,.int .i64 sr] 192):=heap_alloc_new wr _
      have hx:wx.heap[wr.heap.size]?=some (.cells #[.bool nt,.int .i64 kd,.int .u8 lt,.int .i64 st,.int .i64 sr] 192):=(hb.block _ (by omega)).trans lg
      ⟨aa hx rfl,aa hx rfl,aa hx rfl,aa hx rfl,aa hx rfl⟩
     have H0:Hid (Below (wr.heap.size+1) (wr.alloc (.cells #[.bool nt,.int .i64 kd,.int .u8 lt,.int .i64 st,.int .i64 sr] 192)).drew (wr.alloc (.cells #[.bool nt,.int .i64 kd,.int .u8 lt,.int .i64 st,.int .i64 sr] 192)).drew):=Below.refl _ _
     go_upto_region 6 with fail
     go_cut [33] (fun v wx=>v=.bool (cU els ⟨nt,kd,lt,st,sr⟩ n==nt)∧Hid (Below w.heap.size w wx))
     case first=>
      go_region_held3 (fun w'=>w'.cell? ⟨wr.heap.size,0,none⟩=some (.bool nt)∧w'.cell? ⟨wr.heap.size,1,none⟩=some (.int .i64 kd)∧w'.cell? ⟨wr.heap.size,2,none⟩=some (.int .u8 lt)∧w'.cell? ⟨wr.heap.size,3,none⟩=some (.int .i64 st)∧w'.cell? ⟨wr.heap.size,4,none⟩=some (.int .i64 sr)) (first | exact HC.out _ H0.out | exact HC.out _ HX.out.1)
       (first | (go_at_call 221;refine (rS _ b a c els n nt kd lt st sr rD.out HF.out).mono ?_;rintro e w1 ⟨rfl,cF⟩;have HX:Hid (Below (wr.heap.size+1) (wr.alloc (.cells #[.bool nt,.int .i64 kd,.int .u8 lt,.int .i64 st,.int .i64 sr] 192)).drew w1∧Below w.heap.size w w1):=⟨cF.mono (by simp [World.drew]),vO.out.trans (cF.mono vO.out.size)⟩))
      all_goals
       go_wp2_with fail
       go_meet
       exact ⟨rfl,HX.out.2⟩
     case rest=>
      obtain ⟨rfl,HX⟩:=hcut
      by_cases hs:cU els ⟨nt,kd,lt,st,sr⟩ n=nt
      ·have HR:Hid (bh w (fG els x n) (.returned (.bool false)) wc):=⟨by rw [HY.out hs],HX.out⟩
       have gs:(cU els ⟨nt,kd,lt,st,sr⟩ n==nt)=true:=by simp [hs]
       clear hs c0 c1 c2 c3 c4
       generalize (cU els ⟨nt,kd,lt,st,sr⟩ n==nt)=z at gs ⊢
       subst gs
       go_wp2
       go_ret
       exact HR.out
      ·have eL:Hid (Below w.heap.size w wc∧∀ j (_:j<x.ps.length),j<i+1→¬ cU els x.ps[j] n=x.ps[j].nt):=⟨HX.out,jl.out hs⟩
       have gs:(cU els ⟨nt,kd,lt,st,sr⟩ n==nt)=false:=by simp [hs]
       clear hs c0 c1 c2 c3 c4
       generalize (cU els ⟨nt,kd,lt,st,sr⟩ n==nt)=z at gs ⊢
       subst gs
       go_wp2
       go_roundg (x.ps.length - (i+1))
       case measure=>omega
       case rel=>exact ⟨i+1,by go_num,by omega,Nat.le_refl _,eL⟩
    ·have hd:decide ((i:Int)<(x.ps.length:Int))=false:=by simp;omega
     have HR:Hid (bh w (fG els x n) (.returned (.bool true)) wr):=⟨by rw [BI XZ.out (fun j hj=>HN.out.2 j hj (by omega))],HN.out.1⟩
     go_wp2
     go_ret
     exact HR.out
end
end Go.Proofs.YtblfffbmklkhmaaGreat
namespace Go.Proofs.YtblfffbmklkhmaaGreat
open Go.RowKit
structure ClRow (w:World) (ac:Option Addr) (cc:Nat) (xs:List Value) (cs:List cO):Prop where
 row:w.ownsRow 0 190 3 (.slice ac cs.length cc) cs.length xs
 comps:Comps w 0 xs cs
 few:cs.length≤400
 short:∀ x∈cs,x.ps.length≤400
 fine:∀ x∈cs,∀ p∈x.ps,p.fine
theorem ClRow.below {w w':World} {ac:Option Addr} {cc:Nat} {xs:List Value} {cs:List cO} (h:ClRow w ac cc xs cs) (hB:Below w.heap.size w w'):ClRow w' ac cc xs cs:=
 ⟨aQ h.row hB,h.comps.keep (fI hB _ _),h.few,h.short,h.fine⟩
theorem wN {els:List PEl} {x:cO} {r:List cO} {n:Int} (h:fG els x n=false∨r=[]):di els (x :: r) n=fG els x n:=by
 cases r with
 | nil=>rfl
 | cons d r=>
  rcases h with h | h
  ·show (fG els x n&&_)=_
   rw [h]
   rfl
  ·cases h
theorem IC {els:List PEl} {x:cO} {r:List cO} {n:Int} (h:fG els x n=true) (hr:r≠[]):di els (x :: r) n=(cK els x.sg n).any (di els r):=by
 cases r with
 | nil=>exact absurd rfl hr
 | cons d r=>
  show (fG els x n&&_)=_
  rw [h]
  rfl
theorem DV (els:List PEl) (sg n:Int):(cK els sg n).length≤els.length:=by
 have h1:∀ k m,(bp els k m).length≤k:=by
  intro k
  induction k with
  | zero=>intro m;simp [bp]
  | succ k ih=>
   intro m
   show (if parP els m=-1 then [] else _).length≤_
   split
   ·simp
   ·have:=ih (parP els m);simp;omega
 have h2:=h1 els.length n
 have h3:=lI els n
 unfold cK
 (repeat' split)<;>(try rw [List.length_take])<;>(try simp)<;>omega
section
set_option maxRecDepth 100000
set_option maxHeartbeats 4000000
variable (b:Nat) (a:Option Addr) (c:Nat) (els:List PEl)
theorem uE (ac:Option Addr) (cc:Nat) (xs:List Value) (cs:List cO):∀ (m:Nat) (w:World) (n:Int),m≤cs.length→TRd w b a c els→ClRow w ac cc xs cs→
  Calls Tryz.prog 209 #[.slice ac m cc,.pointer (some ⟨b,1,none⟩),.int .i64 n] w fun e w'=>bh w (di els (cs.take m).reverse n) e w'
 | 0,w,n,_,_,_=>by
  have HR:Hid (bh w (di els (cs.take 0).reverse n) (.returned (.bool false)) w):=⟨rfl,Below.refl _ _⟩
  go_enter Tryz.func209,Tryz.ntmps209
  go_wp2
  go_ret
  exact HR.out
 | m+1,w,n,hm,h,ho=>by
  have IH:Hid (∀ (w:World) (n:Int),TRd w b a c els→ClRow w ac cc xs cs→Calls Tryz.prog 209 #[.slice ac m cc,.pointer (some ⟨b,1,none⟩),.int .i64 n] w fun e w'=>bh w (di els (cs.take m).reverse n) e w'):=fun w n=>uE ac cc xs cs m w n (by omega)
  have HT:Hid (TRd w b a c els):=h
  have HO:Hid (ClRow w ac cc xs cs):=ho
  have bw:=h.few
  have hcf:=ho.few
  have LE:=lP ho.row
  have FX:=kS ho.row
  unfold maxLen at FX
  obtain ⟨g,hg,db,fN⟩:=aH ho.row (by omega)
  subst hg
  have aN:m<cs.length:=by omega
  obtain ⟨ap,cp,ps,e0,e1,e2,e3,e4⟩:=pC ho.comps aN
  have c0:=fN _ _ e0
  have c1:=fN _ _ e1
  have c2:=fN _ _ e2
  have HL:Hid ((cs.take (m+1)).reverse=cs[m] :: (cs.take m).reverse):=by unfold Hid;rw [List.take_succ_eq_append_getElem aN,List.reverse_append];rfl
  have XC:Hid (Fz w ap cp ps cs[m]):=⟨e3,e4,ho.fine _ (List.getElem_mem aN)⟩
  have kL:=ho.short _ (List.getElem_mem aN)
  have HM:Hid (m≠0→(cs.take m).reverse≠[]):=fun h0 h1=>by
   have h2:(cs.take m).reverse.length=0:=by rw [h1];rfl
   rw [List.length_reverse,List.length_take] at h2
   omega
  have Vr:Hid (m=0→(cs.take m).reverse=[]):=fun h0=>by rw [h0];rfl
  have hgs:((m:Int)+1 - 1)=m:=by omega
  clear h ho e0 e1 e2 e3 e4 fN
  generalize cs[m]=x at c0 c1 c2 HL XC kL
  have VG:Hid (Fz (w.alloc (.cells #[.int .u8 x.sg,.int .u8 x.ty,.slice ap x.ps.length cp] 190)) ap cp ps x):=⟨XC.out.1.alloc _,XC.out.2⟩
  have ed:Hid (Below w.heap.size w (w.alloc (.cells #[.int .u8 x.sg,.int .u8 x.ty,.slice ap x.ps.length cp] 190))):=(Below.refl _ _).alloc (Nat.le_refl _) _
  have I2:Hid (TRd (w.alloc (.cells #[.int .u8 x.sg,.int .u8 x.ty,.slice ap x.ps.length cp] 190)) b a c els):=HT.out.below ed.out
  go_enter Tryz.func209,Tryz.ntmps209
  go_wp2_with fail
  refine (Gt _ b a c els n x ap cp ps I2.out VG.out kL).mono ?_
  rintro e w1 ⟨rfl,hB⟩
  have fO:w.heap.size<w1.heap.size:=by have:=hB.size;simp at this;omega
  have q0:w1.cell? ⟨w.heap.size,0,none⟩=some (.int .u8 x.sg):=(hB.cell (p:=⟨w.heap.size,0,none⟩) (by simp)).trans (aa (heap_alloc_new w _) rfl)
  have ea:Hid (Below w.heap.size w w1):=ed.out.trans (hB.mono (by simp))
  have n8:Hid (TRd w1 b a c els):=HT.out.below ea.out
  clear hB c0 c1 c2 VG XC I2 ed
  cases hr:fG els x n with
  | false=>
   have HR:Hid (bh w (di els (cs.take (m+1)).reverse n) (.returned (.bool false)) w1):=⟨by rw [HL.out,wN (Or.inl hr),hr],ea.out⟩
   clear hr
   go_wp2
   go_ret
   exact HR.out
  | true=>
   by_cases yl:m=0
   ·have HR:Hid (bh w (di els (cs.take (m+1)).reverse n) (.returned (.bool true)) w1):=⟨by rw [HL.out,wN (Or.inr (Vr.out yl)),hr],ea.out⟩
    clear hr
    have gm:((m:Int)==0)=true:=by simp [yl]
    clear yl HM Vr
    go_wp2
    go_ret
    exact HR.out
   ·have HS:Hid (di els (cs.take (m+1)).reverse n=(cK els x.sg n).any (di els (cs.take m).reverse)):=by unfold Hid;rw [HL.out,IC hr (HM.out yl)]
    have gm:((m:Int)==0)=false:=by rw [beq_eq_false_iff_ne];omega
    have UH:=DV els x.sg n
    clear hr yl HM Vr HL
    go_wp2_with fail
    refine (Ao w1 b a c els n x.sg n8.out).mono ?_
    rintro e w2 ⟨a2,c2,rfl,k1,k2,k3,hB⟩
    have ji:Hid (Below w.heap.size w w2):=ea.out.trans (hB.mono ea.out.size)
    have HI:Hid (RowI w2 a2 (cK els x.sg n)):=k3
    clear hB k3 ea n8 q0
    generalize cK els x.sg n=l at HI HS UH k1 ⊢
    generalize (cs.take m).reverse=r at IH HS
    go_wp2_with fail
    go_loopg [44] l.length (fun gk iv wr=>∃ i:Nat,iv=.int .i64 i∧i≤l.length∧l.length - i≤gk∧Hid (Below w.heap.size w wr∧Below w2.heap.size w2 wr∧∀ j (_:j<l.length),j<i→di els r l[j]=false))
    case atStart=>exact ⟨0,rfl,Nat.zero_le _,by omega,ji.out,Below.refl _ _,fun j _ h=>by omega⟩
    case round=>
     obtain ⟨i,rfl,hi,fK,HN⟩:=hrel
     have iS:=HN.out.1.size
     by_cases hli:i<l.length
     ·have hd:decide ((i:Int)<(l.length:Int))=true:=by simp;omega
      obtain ⟨g2,hJ,mj,C3⟩:=HI.out i hli
      subst hJ
      have q1:=(HN.out.2.1.cell (p:=⟨g2,i,none⟩) mj).trans C3
      rw [List.getElem?_eq_getElem hli] at q1
      replace q1:wr.cell? ⟨g2,i,none⟩=some (.int .i64 l[i]):=q1
      have jl:Hid (di els r l[i]=false→∀ j (_:j<l.length),j<i+1→di els r l[j]=false):=fun hm j hj h1=>by
       by_cases e:j=i
       ·subst e;exact hm
       ·exact HN.out.2.2 j hj (by omega)
      have HY:Hid (di els r l[i]=true→l.any (di els r)=true):=fun h=>by
       rw [List.any_eq_true]
       exact ⟨l[i],List.getElem_mem hli,h⟩
      clear C3
      generalize l[i]=o at q1 jl HY
      have jk:Hid (TRd wr b a c els∧ClRow wr (some ⟨g,0,none⟩) cc xs cs):=⟨HT.out.below HN.out.1,HO.out.below HN.out.1⟩
      go_wp2_with fail
      refine (IH.out wr o jk.out.1 jk.out.2).mono ?_
      rintro e w3 ⟨rfl,eS⟩
      have AJ:Hid (Below w.heap.size w w3∧Below w2.heap.size w2 w3):=⟨HN.out.1.trans (eS.mono iS),HN.out.2.1.trans (eS.mono HN.out.2.1.size)⟩
      clear eS q1 jk
      cases hr:di els r o with
      | true=>
       have HR:Hid (bh w (di els (cs.take (m+1)).reverse n) (.returned (.bool true)) w3):=⟨by rw [HS.out,HY.out hr],AJ.out.1⟩
       clear hr
       go_wp2
       go_ret
       exact HR.out
      | false=>
       have eL:Hid (Below w.heap.size w w3∧Below w2.heap.size w2 w3∧∀ j (_:j<l.length),j<i+1→di els r l[j]=false):=⟨AJ.out.1,AJ.out.2,jl.out hr⟩
       clear hr
       go_wp2
       go_roundg (l.length - (i+1))
       case measure=>omega
       case rel=>exact ⟨i+1,by go_num,by omega,Nat.le_refl _,eL⟩
     ·have hd:decide ((i:Int)<(l.length:Int))=false:=by simp;omega
      have HR:Hid (bh w (di els (cs.take (m+1)).reverse n) (.returned (.bool false)) wr):=by
       refine ⟨?_,HN.out.1⟩
       have:l.any (di els r)=false:=by
        rw [List.any_eq_false]
        intro o ho
        obtain ⟨j,hj,rfl⟩:=List.getElem_of_mem ho
        rw [HN.out.2.2 j hj (by omega)]
        simp
       rw [HS.out,this]
      go_wp2
      go_ret
      exact HR.out
theorem vx (w:World) (n:Int) (ac:Option Addr) (cc:Nat) (xs:List Value) (cs:List cO) (h:TRd w b a c els) (ho:ClRow w ac cc xs cs) :
  Calls Tryz.prog 195 #[.agg #[.slice ac cs.length cc],.pointer (some ⟨b,1,none⟩),.int .i64 n] w fun e w'=>bh w (qE els cs n) e w':=by
 have ed:Hid (Below w.heap.size w (w.alloc (.cells #[.slice ac cs.length cc] 141))):=(Below.refl _ _).alloc (Nat.le_refl _) _
 have HT:Hid (TRd (w.alloc (.cells #[.slice ac cs.length cc] 141)) b a c els∧ClRow (w.alloc (.cells #[.slice ac cs.length cc] 141)) ac cc xs cs):=⟨h.below ed.out,ho.below ed.out⟩
 have HM:Hid (qE els cs n=di els (cs.take cs.length).reverse n):=by unfold Hid;rw [List.take_length];rfl
 clear h ho
 go_enter Tryz.func195,Tryz.ntmps195
 go_wp2_with fail
 refine (uE b a c els ac cc xs cs cs.length _ n (Nat.le_refl _) HT.out.1 HT.out.2).mono ?_
 rintro e w1 ⟨rfl,hB⟩
 have HR:Hid (bh w (qE els cs n) (.returned (.bool (di els (cs.take cs.length).reverse n))) w1):=⟨by rw [HM.out],ed.out.trans (hB.mono (by simp))⟩
 clear hB HM
 generalize di els (cs.take cs.length).reverse n=r at HR ⊢
 go_wp2
 go_ret
 exact HR.out
end
end Go.Proofs.YtblfffbmklkhmaaGreat
