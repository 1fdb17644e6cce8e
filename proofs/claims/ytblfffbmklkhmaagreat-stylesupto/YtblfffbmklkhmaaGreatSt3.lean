import Derived.Test.YtblfffbmklkhmaaGreatSt2
namespace Go.Proofs.YtblfffbmklkhmaaGreat
open Go.RowKit
theorem At.trans {w w1 w2:World} {b:Nat} {s:ByteArray} {j k:Nat} {m n:Int} (h:At w w1 b s j m) (h2:At w1 w2 b s k n):At w w2 b s k n:=⟨h2.rd,kV h.gb h2.gb⟩
theorem At.drewN {w w1:World} {b:Nat} {s:ByteArray} {j:Nat} {m:Int} (h:At w w1 b s j m) (n:Nat):At w (w1.drewN n) b s j m:=⟨h.rd.drewN n,fJ h.gb n⟩
theorem Rd.at0 {w:World} {b:Nat} {s:ByteArray} {j:Nat} {m:Int} (h:Rd w b s j m):At w w b s j m:=⟨h,gV _ _⟩
theorem At.setAt {w w1:World} {b:Nat} {s:ByteArray} {i j:Nat} {m:Int} (h:At w w1 b s i m) (hj:j≤s.size) {v:Int} (hv:v=j):At w (w1.setCell ⟨b,1,none⟩ (.int .i64 v)) b s j m:=⟨h.rd.setAt hj hv,yo h.gb _ _⟩
theorem Rd.alloc {w:World} {b:Nat} {s:ByteArray} {i:Nat} {m:Int} (h:Rd w b s i m) (o:Obj):Rd (w.alloc o) b s i m:=⟨(Below.heap_alloc w o b h.lt).trans h.blk,h.le,h.top,h.lo,h.hi⟩
theorem At.alloc {w w1:World} {b:Nat} {s:ByteArray} {j:Nat} {m:Int} (h:At w w1 b s j m) (o:Obj):At w (w1.alloc o) b s j m:=⟨h.rd.alloc o,uL h.gb o⟩
set_option maxHeartbeats 400000 in
theorem gK (w:World) (b:Nat) (s:ByteArray) (i:Nat) (m:Int) (lo:Int) (h:Rd w b s i m) (PK:1≤lo) :
  Calls Tryz.prog 177 #[.pointer (some ⟨b,0,none⟩),.int .u8 lo] w fun e w'=>
   (e=.returned (.bool true)∧At w w' b s (i+1) m∧Hid ((bt s i:Int)=lo∧i<s.size))∨(e=.returned (.bool false)∧At w w' b s i m∧Hid ((bt s i:Int)≠lo)):=by
 go_enter Tryz.func177,Tryz.ntmps177
 go_wp2_with fail
 refine (eX _ b s i m lo lo (by exact h) PK).mono ?_
 rintro e w1 (⟨rfl,ha,hf⟩ | ⟨rfl,ha,hf⟩)
 ·go_wp2_with fail
  go_ret
  exact Or.inl ⟨rfl,ha,(by unfold Hid at *;omega)⟩
 ·go_wp2_with fail
  go_ret
  exact Or.inr ⟨rfl,ha,(by unfold Hid at *;omega)⟩
set_option maxHeartbeats 400000 in
theorem oO (w:World) (b:Nat) (s:ByteArray) (i:Nat) (m:Int) (h:Rd w b s i m) :
  Calls Tryz.prog 205 #[.pointer (some ⟨b,0,none⟩)] w fun e w'=>
   (e=.returned (.tuple #[.int .u8 (bt s i),.bool true])∧At w w' b s (i+1) m∧Hid (fl (bt s i)=true∧i<s.size))∨
   (e=.returned (.tuple #[.int .u8 0,.bool false])∧At w w' b s i m∧Hid (fl (bt s i)=false)):=by
 go_enter Tryz.func205,Tryz.ntmps205
 go_wp2_with fail
 refine (eX _ b s i m 97 122 (by exact h) (by decide)).mono ?_
 rintro e w1 (⟨rfl,ha,hf⟩ | ⟨rfl,ha,hf⟩)
 ·go_wp2_with fail
  go_ret2
  exact Or.inl ⟨rfl,ha,(by unfold Hid at *;simp only [fl,decide_eq_true_eq];omega)⟩
 ·go_wp2_with fail
  go_ret2
  exact Or.inr ⟨rfl,ha,(by unfold Hid at *;simp only [fl,decide_eq_false_iff_not];omega)⟩
set_option maxHeartbeats 400000 in
theorem qc (w:World) (b:Nat) (s:ByteArray) (i:Nat) (m:Int) (h:Rd w b s i m) :
  Calls Tryz.prog 214 #[.pointer (some ⟨b,0,none⟩)] w fun e w'=>
   (e=.returned (.tuple #[.int .u8 (bt s i),.bool true])∧At w w' b s (i+1) m∧Hid (qH (bt s i)=true∧i<s.size))∨
   (e=.returned (.tuple #[.int .u8 0,.bool false])∧At w w' b s i m∧Hid (qH (bt s i)=false)):=by
 go_enter Tryz.func214,Tryz.ntmps214
 go_wp2_with fail
 refine (eX _ b s i m 88 90 (by exact h) (by decide)).mono ?_
 rintro e w1 (⟨rfl,ha,hf⟩ | ⟨rfl,ha,hf⟩)
 ·go_wp2_with fail
  go_ret2
  exact Or.inl ⟨rfl,ha,(by unfold Hid at *;simp only [qH,decide_eq_true_eq];omega)⟩
 ·go_wp2_with fail
  go_ret2
  exact Or.inr ⟨rfl,ha,(by unfold Hid at *;simp only [qH,decide_eq_false_iff_not];omega)⟩
set_option maxHeartbeats 400000 in
theorem yi (w:World) (b:Nat) (s:ByteArray) (i:Nat) (m:Int) (h:Rd w b s i m) :
  Calls Tryz.prog 207 #[.pointer (some ⟨b,0,none⟩)] w fun e w'=>
   (e=.returned (.tuple #[.int .u8 (bt s i),.bool true])∧At w w' b s (i+1) m∧Hid (ua (bt s i)=true∧i<s.size))∨
   (e=.returned (.tuple #[.int .u8 0,.bool false])∧At w w' b s i m∧Hid (ua (bt s i)=false)):=by
 go_enter Tryz.func207,Tryz.ntmps207
 go_wp2_with fail
 refine (eX _ b s i m 65 70 (by exact h) (by decide)).mono ?_
 rintro e w1 (⟨rfl,ha,hf⟩ | ⟨rfl,ha,hf⟩)
 ·go_wp2_with fail
  go_ret2
  exact Or.inl ⟨rfl,ha,(by unfold Hid at *;simp only [ua,qH,Bool.or_eq_true,decide_eq_true_eq];omega)⟩
 ·go_wp2_with fail
  refine (qc _ b s i m (by exact ha.rd)).mono ?_
  rintro e w2 (⟨rfl,Qc,N4⟩ | ⟨rfl,Qc,N4⟩)
  ·go_wp2_with fail
   go_ret2
   exact Or.inl ⟨rfl,ha.trans Qc,(by unfold Hid at *;simp only [ua,N4.1,Bool.or_true];exact ⟨trivial,N4.2⟩)⟩
  ·go_wp2_with fail
   go_ret2
   exact Or.inr ⟨rfl,ha.trans Qc,(by unfold Hid at *;simp only [ua,N4,Bool.or_false,decide_eq_false_iff_not];omega)⟩
set_option maxHeartbeats 400000 in
theorem lA (w:World) (b:Nat) (s:ByteArray) (i:Nat) (m:Int) (h:Rd w b s i m) :
  Calls Tryz.prog 178 #[.pointer (some ⟨b,0,none⟩)] w fun e w'=>
   (e=.returned (.tuple #[.int .i64 ((bt s i:Int) - 48),.bool true])∧At w w' b s (i+1) m∧Hid (fk (bt s i)=true∧i<s.size))∨
   (e=.returned (.tuple #[.int .i64 0,.bool false])∧At w w' b s i m∧Hid (fk (bt s i)=false)):=by
 go_enter Tryz.func178,Tryz.ntmps178
 go_wp2_with fail
 refine (eX _ b s i m 48 57 (by exact h) (by decide)).mono ?_
 rintro e w1 (⟨rfl,ha,hf⟩ | ⟨rfl,ha,hf⟩)
 ·have PK:48≤(bt s i:Int):=hf.out.1
  have hhi:(bt s i:Int)≤57:=hf.out.2.1
  go_wp2_with fail
  go_ret2
  exact Or.inl ⟨rfl,ha,(by unfold Hid at *;simp only [fk,decide_eq_true_eq];omega)⟩
 ·go_wp2_with fail
  go_ret2
  exact Or.inr ⟨rfl,ha,(by unfold Hid at *;simp only [fk,decide_eq_false_iff_not];omega)⟩
theorem jw {c:Nat} (h:((c:Int)==32)=true∨((c:Int)==62)=true∨((c:Int)==43)=true∨((c:Int)==126)=true):fM c=true:=by
 simp only [beq_iff_eq] at h;simp only [fM,decide_eq_true_eq];omega
theorem Ns {c:Nat} (h1:((c:Int)==32)=false) (h2:((c:Int)==62)=false) (h3:((c:Int)==43)=false) (h4:((c:Int)==126)=false):fM c=false:=by
 simp only [beq_eq_false_iff_ne] at h1 h2 h3 h4;simp only [fM,decide_eq_false_iff_not];omega
set_option maxHeartbeats 400000 in
theorem BG (w:World) (b:Nat) (s:ByteArray) (i:Nat) (m:Int) (h:Rd w b s i m) :
  Calls Tryz.prog 193 #[.pointer (some ⟨b,0,none⟩)] w fun e w'=>
   (e=.returned (.tuple #[.int .u8 (bt s i),.bool true])∧At w w' b s (i+1) m∧Hid (fM (bt s i)=true∧i<s.size))∨
   (e=.returned (.tuple #[.int .u8 0,.bool false])∧At w w' b s i m∧Hid (fM (bt s i)=false)):=by
 have c1:=h.c1
 have f1:=h.fr 1
 have oz:=h.le
 have sN:=h.top
 have fT:fM (bt s i)=true→i<s.size:=by
  intro e
  by_cases hi:i<s.size
  ·exact hi
  ·rw [qt s i (by omega)] at e;simp [fM] at e
 have HZ:Hid (fM (bt s i)=true→i<s.size):=fT
 clear fT
 go_enter Tryz.func193,Tryz.ntmps193
 go_wp2_with fail
 refine (jd _ b s i m (by exact h)).mono ?_
 rintro e w1 ⟨rfl,n1,rfl⟩
 go_wp2_with fail
 all_goals go_ret2
 ·exact Or.inl ⟨rfl,At.setAt (h.at0.drewN _) (by have:=HZ.out (jw (Or.inl ‹_›));omega) (by omega),⟨jw (Or.inl ‹_›),HZ.out (jw (Or.inl ‹_›))⟩⟩
 ·exact Or.inl ⟨rfl,At.setAt (h.at0.drewN _) (by have:=HZ.out (jw (Or.inr (Or.inl ‹_›)));omega) (by omega),⟨jw (Or.inr (Or.inl ‹_›)),HZ.out (jw (Or.inr (Or.inl ‹_›)))⟩⟩
 ·exact Or.inl ⟨rfl,At.setAt (h.at0.drewN _) (by have:=HZ.out (jw (Or.inr (Or.inr (Or.inl ‹_›))));omega) (by omega),⟨jw (Or.inr (Or.inr (Or.inl ‹_›))),HZ.out (jw (Or.inr (Or.inr (Or.inl ‹_›))))⟩⟩
 ·exact Or.inl ⟨rfl,At.setAt (h.at0.drewN _) (by have:=HZ.out (jw (Or.inr (Or.inr (Or.inr ‹_›))));omega) (by omega),⟨jw (Or.inr (Or.inr (Or.inr ‹_›))),HZ.out (jw (Or.inr (Or.inr (Or.inr ‹_›))))⟩⟩
 ·exact Or.inr ⟨rfl,h.at0.drewN _,Ns ‹_› ‹_› ‹_› ‹_›⟩
theorem yZ {c:Nat} (h:((c:Int)==46)=true∨((c:Int)==35)=true∨((c:Int)==58)=true∨((c:Int)==33)=true):lJ c=true:=by
 simp only [beq_iff_eq] at h;simp only [lJ,decide_eq_true_eq];omega
theorem Oy {c:Nat} (h1:((c:Int)==46)=false) (h2:((c:Int)==35)=false) (h3:((c:Int)==58)=false) (h4:((c:Int)==33)=false):lJ c=false:=by
 simp only [beq_eq_false_iff_ne] at h1 h2 h3 h4;simp only [lJ,decide_eq_false_iff_not];omega
set_option maxHeartbeats 400000 in
theorem wg (w:World) (b:Nat) (s:ByteArray) (i:Nat) (m:Int) (h:Rd w b s i m) :
  Calls Tryz.prog 212 #[.pointer (some ⟨b,0,none⟩)] w fun e w'=>
   e=.returned (.bool (lJ (bt s i)))∧At w w' b s i m:=by
 go_enter Tryz.func212,Tryz.ntmps212
 go_wp2_with fail
 refine (jd _ b s i m (by exact h)).mono ?_
 rintro e w1 ⟨rfl,n1,rfl⟩
 go_wp2_with fail
 all_goals go_ret
 ·exact ⟨by rw [yZ (Or.inl ‹_›)];rfl,h.at0.drewN _⟩
 ·exact ⟨by rw [yZ (Or.inr (Or.inl ‹_›))];rfl,h.at0.drewN _⟩
 ·exact ⟨by rw [yZ (Or.inr (Or.inr (Or.inl ‹_›)))];rfl,h.at0.drewN _⟩
 ·exact ⟨by rw [yZ (Or.inr (Or.inr (Or.inr ‹_›)))];rfl,h.at0.drewN _⟩
 ·exact ⟨by rw [Oy ‹_› ‹_› ‹_› ‹_›];rfl,h.at0.drewN _⟩
end Go.Proofs.YtblfffbmklkhmaaGreat
namespace Go.Proofs.YtblfffbmklkhmaaGreat
open Go.RowKit
theorem ll {a w:World} {r:Option Nat} (h:a.grownBy w r) {p:Addr} (hp:a.heap.size≤p.block) (u:Value):a.grownBy (w.setCell p u) r:=
 ⟨h.os,h.tape,h.output,by simpa [World.setCell] using h.size,fun k hk hn=>(Below.heap_setCell _ _ _ _ (by omega)).trans (h.block k hk hn)⟩
theorem Rd.setOther {w:World} {b:Nat} {s:ByteArray} {i:Nat} {m:Int} (h:Rd w b s i m) {p:Addr} (hp:b≠p.block) (u:Value):Rd (w.setCell p u) b s i m:=
 ⟨(Below.heap_setCell _ _ _ _ hp).trans h.blk,h.le,h.top,h.lo,h.hi⟩
theorem At.setNew {w w1:World} {b:Nat} {s:ByteArray} {j:Nat} {m:Int} (h:At w w1 b s j m) (hb:b<w.heap.size) {p:Addr} (hp:w.heap.size≤p.block) (u:Value):At w (w1.setCell p u) b s j m:=
 ⟨h.rd.setOther (by omega) u,ll h.gb hp u⟩
theorem At.ofAlloc {w w1:World} {b:Nat} {s:ByteArray} {j:Nat} {m:Int} {o:Obj} (h:At (w.alloc o) w1 b s j m):At w w1 b s j m:=
 ⟨h.rd,kV (World.grownBy_alloc w o _) h.gb⟩
theorem At.cells {w w1:World} {b:Nat} {s:ByteArray} {j:Nat} {m:Int} (h:At w w1 b s j m) (B:Nat) (hB:B<w.heap.size) (hn:B≠b) :
  (∀ o,w1.cell? ⟨B,o,none⟩=w.cell? ⟨B,o,none⟩)∧(∀ o,w1.frozen? ⟨B,o,none⟩=w.frozen? ⟨B,o,none⟩):=
 ⟨fun o=>World.cell?_of_block (a:=⟨B,o,none⟩) (h.gb.block B hB (by simp;omega)),fun o=>World.frozen?_of_block (a:=⟨B,o,none⟩) (h.gb.block B hB (by simp;omega))⟩
theorem At.size {w w1:World} {b:Nat} {s:ByteArray} {j:Nat} {m:Int} (h:At w w1 b s j m):w.heap.size≤w1.heap.size:=h.gb.size
set_option maxHeartbeats 400000 in
theorem nB (w:World) (b:Nat) (s:ByteArray) (i:Nat) (m kd:Int) (h:Rd w b s i m) :
  Calls Tryz.prog 224 #[.pointer (some ⟨b,0,none⟩),.int .i64 kd] w fun e w'=>
   (e=.returned (.tuple #[.agg #[.bool false,.int .i64 kd,.int .u8 (bt s i),.int .i64 0,.int .i64 0],.bool true])∧At w w' b s (i+1) m∧Hid (fl (bt s i)=true∧i<s.size))∨
   (e=.returned (.tuple #[.agg #[.bool false,.int .i64 kd,.int .u8 0,.int .i64 0,.int .i64 0],.bool false])∧At w w' b s i m∧Hid (fl (bt s i)=false)):=by
 have hb:=h.lt
 go_enter Tryz.func224,Tryz.ntmps224
 go_wp2_with fail
 refine (oO _ b s i m (by exact h.alloc _)).mono ?_
 rintro e w1 (⟨rfl,ha,hf⟩ | ⟨rfl,ha,hf⟩)
 ·obtain ⟨hc,hz⟩:=ha.cells w.heap.size (by simp) (by omega)
  go_wp2_with fail
  exact bodyPost_ret (v:=.tuple #[.agg #[.bool false,.int .i64 kd,.int .u8 (bt s i),.int .i64 0,.int .i64 0],.bool true]) (by simp [results,Tryz.results224,go_sem,hc]) rfl
   (Or.inl ⟨rfl,(((((ha.ofAlloc.setNew hb (Nat.le_refl _) _).setNew hb (Nat.le_refl _) _).setNew hb (Nat.le_refl _) _).setNew hb (Nat.le_refl _) _).setNew hb (Nat.le_refl _) _),hf⟩)
 ·obtain ⟨hc,hz⟩:=ha.cells w.heap.size (by simp) (by omega)
  go_wp2_with fail
  exact bodyPost_ret (v:=.tuple #[.agg #[.bool false,.int .i64 kd,.int .u8 0,.int .i64 0,.int .i64 0],.bool false]) (by simp [results,Tryz.results224,go_sem,hc]) rfl
   (Or.inr ⟨rfl,(((((ha.ofAlloc.setNew hb (Nat.le_refl _) _).setNew hb (Nat.le_refl _) _).setNew hb (Nat.le_refl _) _).setNew hb (Nat.le_refl _) _).setNew hb (Nat.le_refl _) _),hf⟩)
end Go.Proofs.YtblfffbmklkhmaaGreat
namespace Go.Proofs.YtblfffbmklkhmaaGreat
open Go.RowKit
abbrev K0:Cn:=⟨0,0,-1⟩
set_option maxHeartbeats 1000000 in
theorem xf (w:World) (s:ByteArray) (hs:s.size≤400):Calls Tryz.prog 129 #[.string s] w fun e w'=>e=.returned (.int .i64 (V s 0 K0 0).1)∧w'=w:=by
 go_enter Tryz.func129,Tryz.ntmps129
 go_wp2
 go_loop [3,4] (fun mv i=>∃ (k:Nat) (m:Int),k≤s.size∧i=.int .i64 k∧mv=.int .i64 m∧0≤m∧m≤17∧Hid (∃ kk,V s 0 K0 0=V s m kk k)) (fun _ i=>s.size - (intOf i).toNat)
 case atStart=>exact ⟨0,0,Nat.zero_le _,rfl,rfl,by decide,by decide,⟨_,rfl⟩⟩
 case round=>
  obtain ⟨k,m,hk,rfl,rfl,yl,vt,HV⟩:=hrel
  by_cases aN:k<s.size
  ·go_wp2_with fail
   have Eb:=bq s k aN
   rw [←Eb]
   refine (Jw _ m (bt s k) yl vt).mono ?_
   rintro e w1 ⟨rfl,rfl⟩
   clear Eb
   have hr:=Iq m (bt s k)
   by_cases hn:bC m (bt s k)=-1
   ·have HR:Hid ((V s 0 K0 0).1=k):=by
     obtain ⟨kk,h⟩:=HV.out
     unfold Hid
     rw [h,tU aN hn]
    rw [hn]
    clear hn hr
    go_wp2
    go_ret
    exact ⟨by rw [HR.out];rfl,rfl⟩
   ·have HR:Hid (∃ kk,V s 0 K0 0=V s (bC m (bt s k)) kk (k+1)):=by
     obtain ⟨kk,h⟩:=HV.out
     exact ⟨_,by rw [h,uy aN rfl hn]⟩
    generalize bC m (bt s k)=m' at hr hn HR
    have hg:(m'==-1)=false:=by simp [hn]
    clear hn
    go_wp2
    go_round
    case rel=>exact ⟨k+1,m',by omega,by go_num,rfl,by simp only [beq_eq_false_iff_ne] at hg;omega,hr.2,HR⟩
    case measure=>simp [intOf];omega
  ·obtain rfl:k=s.size:=by omega
   by_cases hm:m=0
   ·subst hm
    have HR:Hid ((V s 0 K0 0).1=-1):=by
     obtain ⟨kk,h⟩:=HV.out
     unfold Hid
     rw [h,tK (Nat.le_refl _)];rfl
    have hg:((0:Int) != 0)=false:=rfl
    go_wp2
    go_ret
    exact ⟨by rw [HR.out];rfl,rfl⟩
   ·have HR:Hid ((V s 0 K0 0).1=s.size):=by
     obtain ⟨kk,h⟩:=HV.out
     unfold Hid
     rw [h,tK (Nat.le_refl _),if_neg hm]
    have hg:(m != 0)=true:=by simp [hm]
    clear hm
    go_wp2
    go_ret
    exact ⟨by rw [HR.out];rfl,rfl⟩
def SR (s:ByteArray) (f:Nat) (c:Nat) (r:Nat):Prop:=f≤r∧r≤s.size∧(∀ j,f≤j→j<r→bt s j≠c)∧(r<s.size→bt s r=c)
set_option maxHeartbeats 1000000 in
theorem kP (w:World) (s:ByteArray) (f c:Nat) (hs:s.size≤400) (hf:f≤s.size):Calls Tryz.prog 131 #[.string s,.int .i64 f,.int .u8 c] w fun e w'=>∃ r:Nat,e=.returned (.int .i64 r)∧w'=w∧Hid (SR s f c r):=by
 go_enter Tryz.func131,Tryz.ntmps131
 go_wp2
 go_loop [7] (fun i=>∃ k:Nat,f≤k∧k≤s.size∧i=.int .i64 k∧Hid (∀ j,f≤j→j<k→bt s j≠c)) (fun i=>s.size - (intOf i).toNat)
 case atStart=>exact ⟨f,Nat.le_refl _,hf,rfl,fun j h1 h2=>by omega⟩
 case round=>
  obtain ⟨k,hfk,hk,rfl,HN⟩:=hrel
  by_cases aN:k<s.size
  ·by_cases hc:bt s k=c
   ·have HC:Hid (SR s f c k):=⟨hfk,hk,HN.out,fun _=>hc⟩
    have he:((s[k].toNat:Int)==(c:Int))=true:=by rw [←bq s k aN,hc];simp
    clear hc
    go_wp2
    go_ret
    exact ⟨k,rfl,rfl,HC⟩
   ·have eL:Hid (∀ j,f≤j→j<k+1→bt s j≠c):=by
     intro j h1 h2
     by_cases e:j=k
     ·rw [e];exact hc
     ·exact HN.out j h1 (by omega)
    have he:((s[k].toNat:Int)==(c:Int))=false:=by rw [←bq s k aN];simp;omega
    clear hc
    go_wp2
    go_round
    case rel=>exact ⟨k+1,by omega,by omega,by go_num,eL⟩
    case measure=>simp [intOf];omega
  ·obtain rfl:k=s.size:=by omega
   have HC:Hid (SR s f c s.size):=⟨hf,Nat.le_refl _,HN.out,fun h=>by omega⟩
   go_wp2
   go_ret
   exact ⟨s.size,rfl,rfl,HC⟩
def Sh (w:World) (b:Nat) (v:Value) (mn:Int):Prop:=w.heap[b]?=some (.cells #[v,.int .i64 mn] 160 (0,0))
theorem Sh.c0 {w:World} {b:Nat} {v:Value} {mn:Int} (h:Sh w b v mn):w.cell? ⟨b,0,none⟩=some v:=aa h rfl
theorem Sh.c1 {w:World} {b:Nat} {v:Value} {mn:Int} (h:Sh w b v mn):w.cell? ⟨b,1,none⟩=some (.int .i64 mn):=aa h rfl
theorem Sh.fr {w:World} {b:Nat} {v:Value} {mn:Int} (h:Sh w b v mn) (k:Nat):w.frozen? ⟨b,k,none⟩=false:=ag h
theorem Sh.lt {w:World} {b:Nat} {v:Value} {mn:Int} (h:Sh w b v mn):b<w.heap.size:=(Array.getElem?_eq_some_iff.1 h).1
theorem Sh.set1 {w:World} {b:Nat} {v:Value} {mn:Int} (h:Sh w b v mn) (x:Int):Sh (w.setCell ⟨b,1,none⟩ (.int .i64 x)) b v x:=by
 unfold Sh
 rw [aq h]
 rfl
theorem Sh.set0 {w:World} {b:Nat} {v:Value} {mn:Int} (h:Sh w b v mn) (x:Value):Sh (w.setCell ⟨b,0,none⟩ x) b x mn:=by
 unfold Sh
 rw [aq h]
 rfl
def fV (mn:Int) (i:Nat):Prop:=mn=-1∨(0≤mn∧mn≤i)
set_option maxHeartbeats 1000000 in
theorem qR (w:World) (b:Nat) (v:Value) (mn:Int) (i:Nat) (h:Sh w b v mn) (hn:Hid (fV mn i)) :
  Calls Tryz.prog 130 #[.pointer (some ⟨b,0,none⟩),.int .i64 i] w fun e w'=>e=.returned (.tuple #[])∧Sh w' b v (j9 mn i)∧w.grownBy w' (some b):=by
 have c1:=h.c1
 have f1:=h.fr 1
 by_cases hm:mn=-1
 ·subst hm
  have hd:decide ((-1:Int)<0)=true:=by decide
  go_enter Tryz.func130,Tryz.ntmps130
  go_wp2
  go_end0
  exact ⟨rfl,by simpa [j9] using h.set1 i,yo (gV _ _) _ _⟩
 ·have h2:0≤mn∧mn≤i:=by rcases hn.out with h | h<;>omega
  have hd:decide (mn<0)=false:=by simp;omega
  have iL:decide ((i:Int)<mn)=false:=by simp;omega
  have HM:Hid (¬ mn=-1):=hm
  clear hm
  go_enter Tryz.func130,Tryz.ntmps130
  go_wp2
  go_end0
  exact ⟨rfl,by simpa [j9,HM.out] using h,gV _ _⟩
end Go.Proofs.YtblfffbmklkhmaaGreat
namespace Go.Proofs.YtblfffbmklkhmaaGreat
open Go.RowKit
theorem At.set5 {w w1:World} {b:Nat} {s:ByteArray} {j:Nat} {m:Int} (h:At w w1 b s j m) (hb:b<w.heap.size) {B:Nat} (hB:w.heap.size≤B) (v0 v1 v2 v3 v4:Value) :
  At w (((((w1.setCell ⟨B,0,none⟩ v0).setCell ⟨B,1,none⟩ v1).setCell ⟨B,2,none⟩ v2).setCell ⟨B,3,none⟩ v3).setCell ⟨B,4,none⟩ v4) b s j m:=
 ((((h.setNew hb hB _).setNew hb hB _).setNew hb hB _).setNew hb hB _).setNew hb hB _
def Sim (s:ByteArray) (m:Int) (i:Nat) (m':Int) (j:Nat):Prop:=∀ k,V s m k i=V s m' k j
def sf (s:ByteArray) (m:Int) (i:Nat) (j:Nat):Prop:=∀ k,V s m k i=((j:Int),-1)
theorem Sim.trans {s:ByteArray} {a b c:Int} {i j l:Nat} (h:Sim s a i b j) (k:Sim s b j c l):Sim s a i c l:=fun n=>(h n).trans (k n)
theorem Sim.bad {s:ByteArray} {a b:Int} {i j l:Nat} (h:Sim s a i b j) (k:sf s b j l):sf s a i l:=fun n=>(h n).trans (k n)
theorem dS {s:ByteArray} {m m':Int} {i:Nat} (hi:i<s.size) (h:bC m (bt s i)=m') (hm:m'≠-1) (hc:∀ k,cnt m (bt s i) i k=k):Sim s m i m' (i+1):=fun k=>by
 rw [uy hi h hm,hc]
theorem iT {s:ByteArray} {m:Int} {i:Nat} (hm:m≠0) (h:bC m (bt s i)=-1):sf s m i i:=fun _=>RQ hm h
theorem kY {s:ByteArray} {m m':Int} {i:Nat} (hm:m≠0) (o8:m'≠0) (h:bC m (bt s i)=bC m' (bt s i)) (hk:∀ k,cnt m (bt s i) i k=cnt m' (bt s i) i k):Sim s m i m' i:=fun k=>LJ hm o8 h (hk k)
theorem lr {s:ByteArray} {i:Nat} (h:bt s i≠0):i<s.size:=by
 by_cases hi:i<s.size
 ·exact hi
 ·exact absurd (qt s i (by omega)) h
def plain (c:Nat):Bool:=decide (fM c=false∧c≠44∧c≠123)
def Plain (s:ByteArray) (i j:Nat):Prop:=∀ k,i≤k→k<j→plain (bt s k)=true
theorem sA {c:Nat} (h:fl c=true):plain c=true:=by
 simp only [fl,decide_eq_true_eq] at h
 simp only [plain,fM,decide_eq_true_eq,decide_eq_false_iff_not];omega
theorem E4 {c:Nat} (h:fk c=true):plain c=true:=by
 simp only [fk,decide_eq_true_eq] at h
 simp only [plain,fM,decide_eq_true_eq,decide_eq_false_iff_not];omega
theorem jh {c:Nat} (h:c=46∨c=35∨c=58∨c=33∨c=42∨c=102∨c=108∨c=101∨c=110):plain c=true:=by
 simp only [plain,fM,decide_eq_true_eq,decide_eq_false_iff_not];omega
theorem Plain.one {s:ByteArray} {i:Nat} (h:plain (bt s i)=true):Plain s i (i+1):=fun k k1 k2=>by
 obtain rfl:k=i:=by omega
 exact h
theorem Plain.cat {s:ByteArray} {i j l:Nat} (h:Plain s i j) (h2:Plain s j l):Plain s i l:=fun k k1 k2=>by
 by_cases e:k<j
 ·exact h k k1 e
 ·exact h2 k (by omega) k2
structure PPt where
 nt:Bool
 kd:Int
 lt:Int
 st:Int
 sr:Int
def gR (s:ByteArray) (i:Nat):PPt:=if bt s i=102 then ⟨false,4,0,0,0⟩ else if bt s i=108 then ⟨false,5,0,0,0⟩ else if bt s i=101 then ⟨false,6,0,0,0⟩ else ⟨false,7,0,(bt s (i+1):Int) - 48,(bt s (i+2):Int) - 48⟩
def iJ (s:ByteArray) (i:Nat):PPt:=if bt s i=46 then ⟨false,2,bt s (i+1),0,0⟩ else if bt s i=35 then ⟨false,3,bt s (i+1),0,0⟩ else gR s (i+1)
def PPt.no (p:PPt):PPt:=⟨true,p.kd,p.lt,p.st,p.sr⟩
def kz (s:ByteArray) (i:Nat):PPt:=if bt s i=33 then (if fl (bt s (i+1))=true then ⟨true,1,bt s (i+1),0,0⟩ else (iJ s (i+1)).no) else iJ s i
def TG (s:ByteArray) (i:Nat):Prop:=bt s i=102∨bt s i=108∨bt s i=101∨(bt s i=110∧fk (bt s (i+1))=true∧fk (bt s (i+2))=true)
def SOK (s:ByteArray) (i:Nat):Prop:=((bt s i=46∨bt s i=35)∧fl (bt s (i+1))=true)∨(bt s i=58∧TG s (i+1))
def sl (s:ByteArray) (i:Nat):Nat:=if bt s i=58∧bt s (i+1)=110 then 4 else 2
def pw (kd:Int):Nat:=if kd=3 then 1000000 else if kd=1 then 1 else 1000
set_option maxHeartbeats 400000 in
theorem AG (w:World) (b:Nat) (s:ByteArray) (i:Nat) (m:Int) (h:Rd w b s i m) :
  Calls Tryz.prog 232 #[.pointer (some ⟨b,0,none⟩)] w fun e w'=>
   (∃ st sr:Int,e=.returned (.tuple #[.agg #[.bool false,.int .i64 7,.int .u8 0,.int .i64 st,.int .i64 sr],.bool true])∧At w w' b s (i+2) m∧Hid (Sim s 6 i 3 (i+2)∧i+2≤s.size∧Plain s i (i+2)∧st=(bt s i:Int) - 48∧sr=(bt s (i+1):Int) - 48∧fk (bt s i)=true∧fk (bt s (i+1))=true))∨
   (∃ (kd st sr:Int) (j:Nat),e=.returned (.tuple #[.agg #[.bool false,.int .i64 kd,.int .u8 0,.int .i64 st,.int .i64 sr],.bool false])∧At w w' b s j m∧Hid (sf s 6 i j)):=by
 have hb:=h.lt
 go_enter Tryz.func232,Tryz.ntmps232
 go_wp2_with fail
 refine (lA _ b s i m (by exact h.alloc _)).mono ?_
 rintro e w1 (⟨rfl,ha,hf⟩ | ⟨rfl,ha,hf⟩)
 ·have fO:=ha.size
  simp only [World.size_alloc] at fO
  go_wp2_with fail
  refine (lA _ b s (i+1) m (by exact ha.rd)).mono ?_
  rintro e w2 (⟨rfl,cN,bo⟩ | ⟨rfl,cN,bo⟩)
  ·have cZ:=ha.trans cN
   obtain ⟨hc,hz⟩:=cZ.cells w.heap.size (by simp) (by omega)
   go_wp2_with fail
   refine bodyPost_ret (v:=.tuple #[.agg #[.bool false,.int .i64 7,.int .u8 0,.int .i64 ((bt s i:Int) - 48),.int .i64 ((bt s (i+1):Int) - 48)],.bool true]) (by simp [results,Tryz.results232,go_sem,hc]) rfl (Or.inl ⟨_,_,rfl,cZ.ofAlloc.set5 hb (Nat.le_refl _) _ _ _ _ _,?_⟩)
   exact ⟨(dS hf.out.2 (m':=7) (by simp [bC,hf.out.1,wh]) (by decide) (fun k=>by simp [cnt])).trans (dS bo.out.2 (by simp [bC,bo.out.1,wh]) (by decide) (fun k=>by simp [cnt])),bo.out.2,(Plain.one (E4 hf.out.1)).cat (Plain.one (E4 bo.out.1)),rfl,rfl,hf.out.1,bo.out.1⟩
  ·have cZ:=ha.trans cN
   obtain ⟨hc,hz⟩:=cZ.cells w.heap.size (by simp) (by omega)
   go_wp2_with fail
   refine bodyPost_ret (v:=.tuple #[.agg #[.bool false,.int .i64 7,.int .u8 0,.int .i64 ((bt s i:Int) - 48),.int .i64 0],.bool false]) (by simp [results,Tryz.results232,go_sem,hc]) rfl (Or.inr ⟨_,_,_,i+1,rfl,cZ.ofAlloc.set5 hb (Nat.le_refl _) _ _ _ _ _,?_⟩)
   exact (dS hf.out.2 (m':=7) (by simp [bC,hf.out.1,wh]) (by decide) (fun k=>by simp [cnt])).bad (iT (by decide) (by simp [bC,bo.out,wh]))
 ·obtain ⟨hc,hz⟩:=ha.cells w.heap.size (by simp) (by omega)
  go_wp2_with fail
  refine bodyPost_ret (v:=.tuple #[.agg #[.bool false,.int .i64 0,.int .u8 0,.int .i64 0,.int .i64 0],.bool false]) (by simp [results,Tryz.results232,go_sem,hc]) rfl (Or.inr ⟨_,_,_,i,rfl,ha.ofAlloc.set5 hb (Nat.le_refl _) _ _ _ _ _,?_⟩)
  exact iT (by decide) (by simp [bC,hf.out,wh])
end Go.Proofs.YtblfffbmklkhmaaGreat
namespace Go.Proofs.YtblfffbmklkhmaaGreat
open Go.RowKit
theorem qK {s:ByteArray} {i:Nat} (h:bt s i=102∨bt s i=108∨bt s i=101):Sim s 5 i 3 (i+1)∧i+1≤s.size∧bt s i≠110∧Plain s i (i+1):=by
 have hi:i<s.size:=lr (by omega)
 refine ⟨dS hi ?_ (by decide) (fun k=>by simp [cnt]),hi,by omega,Plain.one (jh (by omega))⟩
 have h1:¬ bt s i=110:=by omega
 simp [bC,h1,wh,h]
theorem Nb {s:ByteArray} {i:Nat} (h:bt s i=110):Sim s 5 i 6 (i+1)∧i<s.size:=by
 have hi:i<s.size:=lr (by omega)
 exact ⟨dS hi (by simp [bC,h]) (by decide) (fun k=>by simp [cnt]),hi⟩
theorem JF {s:ByteArray} {i:Nat} (h1:bt s i≠102) (h2:bt s i≠108) (h3:bt s i≠101) (h4:bt s i≠110):sf s 5 i i:=
 iT (by decide) (by simp [bC,h1,h2,h3,h4,wh])
def vh (md:Int) (w:World) (b:Nat) (s:ByteArray) (i:Nat) (m:Int) (Z1:ByteArray→Nat→PPt→Nat→Prop) (e:Ending) (w':World):Prop:=
 (∃ (nt:Bool) (kd lt st sr:Int) (j:Nat),e=.returned (.tuple #[.agg #[.bool nt,.int .i64 kd,.int .u8 lt,.int .i64 st,.int .i64 sr],.bool true])∧At w w' b s j m∧Hid (Sim s md i 3 j∧j≤s.size∧Z1 s i ⟨nt,kd,lt,st,sr⟩ j))∨
 (∃ (nt:Bool) (kd lt st sr:Int) (j:Nat),e=.returned (.tuple #[.agg #[.bool nt,.int .i64 kd,.int .u8 lt,.int .i64 st,.int .i64 sr],.bool false])∧At w w' b s j m∧Hid (sf s md i j))
def GG (s:ByteArray) (i:Nat) (p:PPt) (j:Nat):Prop:=p=gR s i∧4≤p.kd∧p.kd≤7∧j=i+(if bt s i=110 then 3 else 1)∧Plain s i j∧TG s i
set_option maxHeartbeats 1000000 in
theorem vB (w:World) (b:Nat) (s:ByteArray) (i:Nat) (m:Int) (h:Rd w b s i m) :
  Calls Tryz.prog 225 #[.pointer (some ⟨b,0,none⟩)] w fun e w'=>vh 5 w b s i m GG e w':=by
 have hb:=h.lt
 have c1:=h.c1
 have f1:=h.fr 1
 have oz:=h.le
 have sN:=h.top
 go_enter Tryz.func225,Tryz.ntmps225
 go_wp2_with fail
 refine (jd _ b s i m (by exact h.alloc _)).mono ?_
 rintro e w1 ⟨rfl,n1,rfl⟩
 by_cases k1:bt s i=102
 ·have g1:((bt s i:Int)==102)=true:=by simp [k1]
  have K1:Hid (bt s i=102):=k1
  clear k1
  go_wp2_with fail
  have hp:=qK (Or.inl K1.out)
  refine bodyPost_ret (v:=.tuple #[.agg #[.bool false,.int .i64 4,.int .u8 0,.int .i64 0,.int .i64 0],.bool true]) (by simp [results,Tryz.results225,go_sem]) rfl (Or.inl ⟨false,4,0,0,0,i+1,rfl,((((h.at0.alloc _).drewN _).setAt hp.2.1 (by omega)).set5 hb (Nat.le_refl _) _ _ _ _ _),?_⟩)
  exact ⟨hp.1,hp.2.1,by unfold gR;rw [K1.out];rfl,by decide,by decide,by rw [if_neg hp.2.2.1],hp.2.2.2,by have:=K1.out;unfold TG;omega⟩
 by_cases k2:bt s i=108
 ·have g1:((bt s i:Int)==102)=false:=by simp [k2]
  have g2:((bt s i:Int)==108)=true:=by simp [k2]
  have K1:Hid (bt s i=108):=k2
  clear k1 k2
  go_wp2_with fail
  have hp:=qK (Or.inr (Or.inl K1.out))
  refine bodyPost_ret (v:=.tuple #[.agg #[.bool false,.int .i64 5,.int .u8 0,.int .i64 0,.int .i64 0],.bool true]) (by simp [results,Tryz.results225,go_sem]) rfl (Or.inl ⟨false,5,0,0,0,i+1,rfl,((((h.at0.alloc _).drewN _).setAt hp.2.1 (by omega)).set5 hb (Nat.le_refl _) _ _ _ _ _),?_⟩)
  exact ⟨hp.1,hp.2.1,by unfold gR;rw [K1.out];rfl,by decide,by decide,by rw [if_neg hp.2.2.1],hp.2.2.2,by have:=K1.out;unfold TG;omega⟩
 by_cases k3:bt s i=101
 ·have g1:((bt s i:Int)==102)=false:=by simp [k3]
  have g2:((bt s i:Int)==108)=false:=by simp [k3]
  have g3:((bt s i:Int)==101)=true:=by simp [k3]
  have K1:Hid (bt s i=101):=k3
  clear k1 k2 k3
  go_wp2_with fail
  have hp:=qK (Or.inr (Or.inr K1.out))
  refine bodyPost_ret (v:=.tuple #[.agg #[.bool false,.int .i64 6,.int .u8 0,.int .i64 0,.int .i64 0],.bool true]) (by simp [results,Tryz.results225,go_sem]) rfl (Or.inl ⟨false,6,0,0,0,i+1,rfl,((((h.at0.alloc _).drewN _).setAt hp.2.1 (by omega)).set5 hb (Nat.le_refl _) _ _ _ _ _),?_⟩)
  exact ⟨hp.1,hp.2.1,by unfold gR;rw [K1.out];rfl,by decide,by decide,by rw [if_neg hp.2.2.1],hp.2.2.2,by have:=K1.out;unfold TG;omega⟩
 have g1:((bt s i:Int)==102)=false:=by simp;omega
 have g2:((bt s i:Int)==108)=false:=by simp;omega
 have g3:((bt s i:Int)==101)=false:=by simp;omega
 by_cases k4:bt s i=110
 ·have g4:((bt s i:Int)==110)=true:=by simp [k4]
  have K1:Hid (bt s i=110):=k4
  clear k1 k2 k3 k4
  have hp:=Nb K1.out
  have HP:Hid (Sim s 5 i 6 (i+1)):=hp.1
  have aN:=hp.2
  clear hp
  go_wp2_with fail
  have ha:=((h.at0.alloc (Obj.cells #[Value.bool false,Value.int IntKind.i64 0,Value.int IntKind.u8 0,Value.int IntKind.i64 0,Value.int IntKind.i64 0] 192)).drewN n1).setAt (j:=i+1) (v:=(i:Int)+1) (by omega) (by omega)
  refine (AG _ b s (i+1) m (by exact ha.rd)).mono ?_
  rintro e w2 (⟨st,sr,rfl,cN,bo⟩ | ⟨kd,st,sr,j,rfl,cN,bo⟩)
  ·have cZ:=ha.trans cN
   obtain ⟨hc,hz⟩:=cN.cells w.heap.size (by simp [World.setCell]) (by omega)
   go_wp2_with fail
   refine bodyPost_ret (v:=.tuple #[.agg #[.bool false,.int .i64 7,.int .u8 0,.int .i64 st,.int .i64 sr],.bool true]) (by simp [results,Tryz.results225,go_sem,hc]) rfl (Or.inl ⟨false,7,0,st,sr,i+3,rfl,cZ.set5 hb (Nat.le_refl _) _ _ _ _ _,?_⟩)
   exact ⟨HP.out.trans bo.out.1,bo.out.2.1,by unfold gR;rw [K1.out,bo.out.2.2.2.1,bo.out.2.2.2.2.1];rfl,by show (4:Int)≤7;decide,by show (7:Int)≤7;decide,by rw [if_pos K1.out],(Plain.one (jh (by have:=K1.out;omega))).cat bo.out.2.2.1,Or.inr (Or.inr (Or.inr ⟨K1.out,bo.out.2.2.2.2.2⟩))⟩
  ·have cZ:=ha.trans cN
   obtain ⟨hc,hz⟩:=cN.cells w.heap.size (by simp [World.setCell]) (by omega)
   go_wp2_with fail
   refine bodyPost_ret (v:=.tuple #[.agg #[.bool false,.int .i64 kd,.int .u8 0,.int .i64 st,.int .i64 sr],.bool false]) (by simp [results,Tryz.results225,go_sem,hc]) rfl (Or.inr ⟨false,kd,0,st,sr,j,rfl,cZ.set5 hb (Nat.le_refl _) _ _ _ _ _,?_⟩)
   exact HP.out.bad bo.out
 ·have g4:((bt s i:Int)==110)=false:=by simp;omega
  have HB:Hid (sf s 5 i i):=JF k1 k2 k3 k4
  clear k1 k2 k3 k4
  go_wp2_with fail
  refine bodyPost_ret (v:=.tuple #[.agg #[.bool false,.int .i64 0,.int .u8 0,.int .i64 0,.int .i64 0],.bool false]) (by simp [results,Tryz.results225,go_sem]) rfl (Or.inr ⟨false,0,0,0,0,i,rfl,(((h.at0.alloc _).drewN _).set5 hb (Nat.le_refl _) _ _ _ _ _),HB.out⟩)
end Go.Proofs.YtblfffbmklkhmaaGreat
