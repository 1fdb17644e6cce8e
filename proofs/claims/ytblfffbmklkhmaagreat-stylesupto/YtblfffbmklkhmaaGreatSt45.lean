import Derived.Test.YtblfffbmklkhmaaGreatSt44
import Derived.Test.YtblfffbmklkhmaaGreatSt15
import Derived.Test.YtblfffbmklkhmaaGreatSt10
import Derived.Test.YtblfffbmklkhmaaGreatSt37
namespace Go.Proofs.YtblfffbmklkhmaaGreat
open Go.RowKit
theorem JL {PS:World→Value→YS→List Nat→(Nat→Prop)→Prop} {Q:ft→YS→List Nat→YS→List Nat→Prop} {I:YS→List Nat→fm→Prop} (hP:bi PS Q) (hI:i8 Q I) (w:World) (b made:Nat) (G:Nat→Prop) (h:PD2 PS I w b made G) (n:Int) (s:ByteArray) :
  Calls Tryz.prog 60 #[.pointer (some ⟨b,0,none⟩),.int .i64 n,.string s] w fun e w'=>fF PS I w b made G e w':=by
 obtain ⟨U,st,pa,d,K,Fp,Fx,Fy,h1,h2,h3,h4,h5,h6⟩:=h
 subst h4
 refine (pe hP w b U st pa d K G Fp Fx Fy h1 h2 h5 (hI.cnt h6) n s).mono fun e w' hp=>?_
 obtain ⟨rfl,X',fQ,K',hq,hl,hR⟩:=hp
 exact hq.doc (by rw [hR.1];exact Nat.le_succ _) hl (hI.qry h6 h5 hR)
def lW (PS:World→Value→YS→List Nat→(Nat→Prop)→Prop) (I:YS→List Nat→fm→Prop) (ae:Nat) (w:World) (B nx np M:Nat) (e:Ending) (w':World):Prop:=
 e=.returned (.bool true)∧Below ae w w'∧∃ vu sj r6 Fc rP qd,GW2 PS I ae w' B vu sj r6 Fc rP qd∧Fc≤nx+1∧rP.length≤np+1∧∀ p∈rP,p.made≤M+1
section
variable {PS:World→Value→YS→List Nat→(Nat→Prop)→Prop} {Q:ft→YS→List Nat→YS→List Nat→Prop} {I:YS→List Nat→fm→Prop}
set_option maxRecDepth 100000 in
set_option maxHeartbeats 4000000 in
theorem CJ (hP:bi PS Q) (L8:∀ X v1 v2 v3,X.T=[(0,[])]→I X [0] ⟨v1,v2,v3,1,false,[0],[0],[]⟩) (ae:Nat) (w:World) (B:Nat) (vD vI vM:Value) (nx:Nat) (ps:List ml) (es:List vj) (h:GW2 PS I ae w B vD vI vM nx ps es) (M:Nat) (hM:∀ p∈ps,p.made≤M) (sQ:ps.length≤1099511627776) (at' X Y Z:Int) (S Tt:ByteArray) (on:Bool) (hS:S.size≤maxLen) :
  Calls Tryz.prog 33 #[.pointer (some ⟨B,0,none⟩),.agg #[.int .i64 3,.int .i64 at',.int .i64 X,.int .i64 Y,.int .i64 Z,.string S,.string Tt,.bool on]] w fun e w'=>lW PS I ae w B nx ps.length M e w':=by
 have oa:Hid (GW2 PS I ae (w.alloc (an 3 at' X Y Z S Tt on)) B vD vI vM nx ps es):=h.keep hP ((Below.refl _ _).alloc (Nat.le_refl _) _)
 have HB:Hid (Below ae w (w.alloc (an 3 at' X Y Z S Tt on))):=(Below.refl _ _).alloc h.baseW _
 have HP:Hid (bi PS Q):=hP
 have HM:Hid (∀ p∈ps,p.made≤M):=hM
 clear h hP hM
 go_enter Tryz.func33,Tryz.ntmps33
 go_wp2_with fail
 refine (DB HP.out L8 ae _ B vD vI vM nx ps es oa.out sQ 3 at' X Y Z S Tt on hS).mono ?_
 rintro e w1 ⟨rfl,hb,vu,rP,hg,fi⟩
 have HE:Hid (lW PS I ae w B nx ps.length M (.returned (.bool true)) w1):=by
  refine ⟨rfl,HB.out.trans hb,vu,vI,vM,nx,rP,es,hg,Nat.le_succ _,?_,?_⟩
  ·rcases fi with rfl | ⟨b,G,rfl⟩
   ·exact Nat.le_succ _
   ·simp
  ·rcases fi with rfl | ⟨b,G,rfl⟩
   ·exact fun p hp=>Nat.le_succ_of_le (HM.out p hp)
   ·intro p hp
    rcases List.mem_append.1 hp with hp | hp
    ·exact Nat.le_succ_of_le (HM.out p hp)
    ·rw [List.mem_singleton] at hp
     rw [hp]
     exact Nat.le_add_left 1 M
 clear hb hg fi
 go_wp2
 go_ret
 exact HE.out
set_option maxRecDepth 100000 in
set_option maxHeartbeats 4000000 in
theorem Dj (hP:bi PS Q) (hI:i8 Q I) (ae:Nat) (w:World) (B:Nat) (vD vI vM:Value) (nx:Nat) (ps:List ml) (es:List vj) (h:GW2 PS I ae w B vD vI vM nx ps es) (M:Nat) (hM:∀ p∈ps,p.made≤M) (hM2:M≤1099511627776) (sQ:ps.length≤1099511627776) (wZ:nx≤274877906944) (kd at' X Y Z:Int) (S Tt:ByteArray) (on:Bool) (hS:S.size≤maxLen) (hk:kd=4∨kd=5∨kd=6∨kd=7∨kd=8∨kd=9∨kd=10∨kd=11) :
  Calls Tryz.prog 33 #[.pointer (some ⟨B,0,none⟩),.agg #[.int .i64 kd,.int .i64 at',.int .i64 X,.int .i64 Y,.int .i64 Z,.string S,.string Tt,.bool on]] w fun e w'=>lW PS I ae w B nx ps.length M e w':=by
 have oa:Hid (GW2 PS I ae (w.alloc (an kd at' X Y Z S Tt on)) B vD vI vM nx ps es):=h.keep hP ((Below.refl _ _).alloc (Nat.le_refl _) _)
 have HB:Hid (Below ae w (w.alloc (an kd at' X Y Z S Tt on))):=(Below.refl _ _).alloc h.baseW _
 have HP:Hid (bi PS Q):=hP
 have HM:Hid (∀ p∈ps,p.made≤M):=hM
 have HK:Hid (kd=4∨kd=5∨kd=6∨kd=7∨kd=8∨kd=9∨kd=10∨kd=11):=hk
 have HI:Hid (i8 Q I):=hI
 have d0:(w.alloc (an kd at' X Y Z S Tt on)).cell? ⟨w.heap.size,0,none⟩=some (.int .i64 kd):=aa (heap_alloc_new w _) rfl
 have d1:(w.alloc (an kd at' X Y Z S Tt on)).cell? ⟨w.heap.size,1,none⟩=some (.int .i64 at'):=aa (heap_alloc_new w _) rfl
 have k1:(kd==1)=false:=by rcases hk with rfl | rfl | rfl | rfl | rfl | rfl | rfl | rfl<;>rfl
 have k2:(kd==2)=false:=by rcases hk with rfl | rfl | rfl | rfl | rfl | rfl | rfl | rfl<;>rfl
 have k3:(kd==3)=false:=by rcases hk with rfl | rfl | rfl | rfl | rfl | rfl | rfl | rfl<;>rfl
 have kl:decide (kd<1)=false:=by rcases hk with rfl | rfl | rfl | rfl | rfl | rfl | rfl | rfl<;>rfl
 have kg:decide (kd>15)=false:=by rcases hk with rfl | rfl | rfl | rfl | rfl | rfl | rfl | rfl<;>rfl
 have kg':decide (15<kd)=false:=by rcases hk with rfl | rfl | rfl | rfl | rfl | rfl | rfl | rfl<;>rfl
 have ku:decide (kd<12)=true:=by rcases hk with rfl | rfl | rfl | rfl | rfl | rfl | rfl | rfl<;>rfl
 clear h hP hM hk hI
 obtain ⟨aD,cD,hvD⟩:=au oa.out.rowD
 subst hvD
 have c0:(w.alloc (an kd at' X Y Z S Tt on)).cell? ⟨B,0,none⟩=some (.slice aD ps.length cD):=aa oa.out.wb.blk rfl
 by_cases h0:ps.length=0
 ·have g0:((ps.length:Int)==0)=true:=by simp [h0]
  have HE:Hid (lW PS I ae w B nx ps.length M (.returned (.bool true)) (w.alloc (an kd at' X Y Z S Tt on))):=⟨rfl,HB.out,_,_,_,_,_,_,oa.out,Nat.le_succ _,Nat.le_succ _,fun p hp=>Nat.le_succ_of_le (HM.out p hp)⟩
  clear h0
  go_enter Tryz.func33,Tryz.ntmps33
  go_wp2
  go_ret
  exact HE.out
 ·have g0:((ps.length:Int)==0)=false:=by rw [beq_eq_false_iff_ne];omega
  have HJ:Hid (mh at' ps.length<ps.length):=LW (by omega)
  have MT:Hid (∀ k,Calls Tryz.prog 58 #[.int .i64 at',.int .i64 (ps.length:Int)] ((w.alloc (an kd at' X Y Z S Tt on)).drewN k) fun e w'=>e=.returned (.int .i64 (mh at' ps.length:Nat))∧w'=(w.alloc (an kd at' X Y Z S Tt on)).drewN k):=fun k=>LV _ _ _
  obtain ⟨gD,Wg,db,hcD⟩:=aH oa.out.rowD (by omega)
  subst Wg
  clear h0
  obtain ⟨j,hj⟩:∃ j,mh at' ps.length=j:=⟨_,rfl⟩
  rw [hj] at HJ MT
  clear hj
  have q:=hcD j (.pointer (some ⟨(ps[j]'HJ.out).b,0,none⟩)) (by rw [List.getElem?_map,List.getElem?_eq_getElem HJ.out];rfl)
  have Il:(j:Int)<(ps.length:Int):=by have:=HJ.out;omega
  clear hcD
  go_enter Tryz.func33,Tryz.ntmps33
  go_upto_region 14 with fail
  go_quiet ((go_at_call 58;exact Calls.quiet_of_same (MT.out _)))
  have WP:Below (w.alloc (an kd at' X Y Z S Tt on)).heap.size (w.alloc (an kd at' X Y Z S Tt on)) ((w.alloc (an kd at' X Y Z S Tt on)).drewN nq):=cJ _ _
  have RZ:Hid (GW2 PS I ae ((w.alloc (an kd at' X Y Z S Tt on)).drewN nq) B (.slice (some ⟨gD,0,none⟩) ps.length cD) vI vM nx ps es):=oa.out.keep HP.out WP
  have YG:Hid (Below ae w ((w.alloc (an kd at' X Y Z S Tt on)).drewN nq)):=HB.out.trans (WP.mono oa.out.baseW)
  have NE:Hid (((w.alloc (an kd at' X Y Z S Tt on)).drewN nq).heap[w.heap.size]?=some (an kd at' X Y Z S Tt on)):=(WP.block w.heap.size (by simp)).trans (heap_alloc_new w _)
  generalize (w.alloc (an kd at' X Y Z S Tt on)).drewN nq=wq at RZ YG NE ⊢
  clear WP MT oa HB d0 d1 c0 q
  have d0:wq.cell? ⟨w.heap.size,0,none⟩=some (.int .i64 kd):=aa NE.out rfl
  have d1:wq.cell? ⟨w.heap.size,1,none⟩=some (.int .i64 at'):=aa NE.out rfl
  have d2:wq.cell? ⟨w.heap.size,2,none⟩=some (.int .i64 X):=aa NE.out rfl
  have d3:wq.cell? ⟨w.heap.size,3,none⟩=some (.int .i64 Y):=aa NE.out rfl
  have d4:wq.cell? ⟨w.heap.size,4,none⟩=some (.int .i64 Z):=aa NE.out rfl
  have d5:wq.cell? ⟨w.heap.size,5,none⟩=some (.string S):=aa NE.out rfl
  have d6:wq.cell? ⟨w.heap.size,6,none⟩=some (.string Tt):=aa NE.out rfl
  have d7:wq.cell? ⟨w.heap.size,7,none⟩=some (.bool on):=aa NE.out rfl
  by_cases h7:kd=7
  ·have k7:(kd==7)=true:=by simp [h7]
   clear h7
   go_wp2_with fail
   refine (nA HP.out ae wq B _ vI vM nx ps es RZ.out j HJ.out wZ X).mono ?_
   rintro e w1 ⟨rfl,hb,sj,r6,Fc,G',qd,ZE,hg⟩
   have HE:Hid (lW PS I ae w B nx ps.length M (.returned (.bool true)) w1):=by
    refine ⟨rfl,YG.out.trans hb,_,_,_,_,_,_,hg,ZE,?_,?_⟩
    ·rw [List.length_set];exact Nat.le_succ _
    ·refine A0 HM.out ?_
     show (ps[j]'HJ.out).made≤M+1
     exact Nat.le_succ_of_le (HM.out _ (List.getElem_mem HJ.out))
   clear hb hg ZE
   go_wp2
   go_ret
   exact HE.out
  ·have k7:(kd==7)=false:=by simp [h7]
   have hmd:(ps[j]'HJ.out).made≤1099511627776:=Nat.le_trans (HM.out _ (List.getElem_mem HJ.out)) hM2
   have HE:Hid (∀ w1,fF PS I wq (ps[j]'HJ.out).b (ps[j]'HJ.out).made (ps[j]'HJ.out).G (.returned (.bool true)) w1→lW PS I ae w B nx ps.length M (.returned (.bool true)) w1):=fun w1 hp=>by
    obtain ⟨_,made',o8,zJ,hH⟩:=hp
    refine ⟨rfl,YG.out.trans (hH.toBelow RZ.out.baseW (RZ.out.baseG j HJ.out)),_,_,_,_,_,_,RZ.out.turn HP.out HJ.out hH.size (fun k hk hn=>hH.block k hk hn) zJ (fun k hk=>hk.1),Nat.le_succ _,?_,?_⟩
    ·rw [List.length_set];exact Nat.le_succ _
    ·exact A0 HM.out (by have:=HM.out _ (List.getElem_mem HJ.out);show made'≤M+1;omega)
   by_cases h11:kd=11
   ·have kq:(kd==11)=true:=by simp [h11]
    clear h7 h11
    go_wp2_with fail
    refine (JL HP.out HI.out wq _ _ _ (RZ.out.pd j HJ.out) X Tt).mono ?_
    intro e w1 hp
    obtain rfl:=hp.1
    have Zn:Hid (lW PS I ae w B nx ps.length M (.returned (.bool true)) w1):=HE.out w1 hp
    clear hp
    go_wp2
    go_ret
    exact Zn.out
   ·have kq:(kd==11)=false:=by simp [h11]
    have Uk:Hid (kd=4∨kd=5∨kd=6∨kd=8∨kd=9∨kd=10):=by have:=HK.out;unfold Hid;omega
    clear h7 h11
    go_wp2_with fail
    refine (Bd HP.out HI.out wq _ _ _ (RZ.out.pd j HJ.out) hmd kd at' X Y Z S Tt on hS Uk.out).mono ?_
    intro e w1 hp
    obtain rfl:=hp.1
    have Zn:Hid (lW PS I ae w B nx ps.length M (.returned (.bool true)) w1):=HE.out w1 hp
    clear hp
    go_wp2
    go_ret
    exact Zn.out
end
end Go.Proofs.YtblfffbmklkhmaaGreat
namespace Go.Proofs.YtblfffbmklkhmaaGreat
open Go.RowKit
theorem PD2.told {PS:World→Value→YS→List Nat→(Nat→Prop)→Prop} {I:YS→List Nat→fm→Prop} {w:World} {b made:Nat} {G:Nat→Prop} (h:PD2 PS I w b made G):∃ d:Nat,w.cell? ⟨b,1,none⟩=some (.pointer (some ⟨d,0,none⟩))∧w.cell? ⟨d,2,none⟩=some (.int .i64 made):=by
 obtain ⟨X,st,pa,d,K,Fp,Fx,Fy,h1,_,_,h4,_⟩:=h
 subst h4
 obtain ⟨els,hp,vT,aR,vL,Rr,Gs,hX,_⟩:=h1.rs
 exact ⟨d,aa h1.pb.blk rfl,aa hX.rd.doc rfl⟩
def J8 (PS:World→Value→YS→List Nat→(Nat→Prop)→Prop) (I:YS→List Nat→fm→Prop) (w:World) (b made:Nat) (G:Nat→Prop) (e:Ending) (w':World):Prop:=
 e=.returned (.bool true)∧PD2 PS I w' b made (n6 G w w')∧Fr w w' G
theorem Ip {PS:World→Value→YS→List Nat→(Nat→Prop)→Prop} {Q:ft→YS→List Nat→YS→List Nat→Prop} {I:YS→List Nat→fm→Prop} (hP:bi PS Q) (hI:i8 Q I) (w:World) (b made:Nat) (G:Nat→Prop) (h:PD2 PS I w b made G) (n:Int) (s:ByteArray) :
  Calls Tryz.prog 60 #[.pointer (some ⟨b,0,none⟩),.int .i64 n,.string s] w fun e w'=>J8 PS I w b made G e w':=by
 obtain ⟨U,st,pa,d,K,Fp,Fx,Fy,h1,h2,h3,h4,h5,h6⟩:=h
 subst h4
 refine (pe hP w b U st pa d K G Fp Fx Fy h1 h2 h5 (hI.cnt h6) n s).mono fun e w' hp=>?_
 obtain ⟨rfl,X',fQ,K',hq,hl,hR⟩:=hp
 have hi:=hI.qry h6 h5 hR
 obtain ⟨hX,_⟩:=hR
 subst hX
 obtain ⟨Fp',Fx',Fy',hj,hg,hf⟩:=hq
 exact ⟨rfl,⟨X',fQ,pa,d,K',Fp',Fx',Fy',hj,fun k hk=>⟨hg k hk,hj.here k hk⟩,fun k hk=>hk.2,rfl,hl,hi⟩,hf⟩
theorem KidPost2.more {PS:World→Value→YS→List Nat→(Nat→Prop)→Prop} {Q:ft→YS→List Nat→YS→List Nat→Prop} {I:YS→List Nat→fm→Prop} (hP:bi PS Q) {ae:Nat} {w:World} {B:Nat} {vD:Value} {nx:Nat} {ps:List ml} {i:Nat} {p:ml} (hi:i<ps.length) {e0:Ending} {wr:World} (h:KidPost2 PS I ae w B vD nx ps i p e0 wr) :
  ∃ G',PD2 PS I wr p.b p.made G'∧∀ w2,PD2 PS I w2 p.b p.made (n6 G' wr w2)→Fr wr w2 G'→KidPost2 PS I ae w B vD nx ps i p (.returned (.bool true)) w2:=by
 obtain ⟨_,hB,sj,r6,Fc,G',qd,hn,hg⟩:=h
 have hl:i<(ps.set i ⟨p.b,p.made,G'⟩).length:=by rw [List.length_set];exact hi
 have he:(ps.set i ⟨p.b,p.made,G'⟩)[i]=⟨p.b,p.made,G'⟩:=by simp
 have zJ:=hg.pd i hl
 rw [he] at zJ
 refine ⟨G',zJ,fun w2 h2 hf=>?_⟩
 have hb:=hg.baseG i hl
 rw [he] at hb
 have ht:=hg.turn hP hl (w':=w2) hf.size (by rw [he];exact fun k hk hn=>hf.block k hk hn) (made':=p.made) (G':=n6 G' wr w2) (by rw [he];exact h2) (by rw [he];exact fun k hk=>hk.1)
 rw [he,List.set_set] at ht
 exact ⟨rfl,hB.trans (hf.toBelow hg.baseW hb),sj,r6,Fc,_,qd,hn,ht⟩
section
variable {PS:World→Value→YS→List Nat→(Nat→Prop)→Prop} {Q:ft→YS→List Nat→YS→List Nat→Prop} {I:YS→List Nat→fm→Prop}
set_option maxRecDepth 100000 in
set_option maxHeartbeats 2000000 in
theorem Dm (hP:bi PS Q) (hI:i8 Q I) (ae:Nat) (w:World) (B:Nat) (vD vI vM:Value) (nx:Nat) (ps:List ml) (es:List vj) (h:GW2 PS I ae w B vD vI vM nx ps es) (i:Nat) (hi:i<ps.length) (wZ:nx≤274877906944) (n:Int) :
  Calls Tryz.prog 64 #[.pointer (some ⟨B,0,none⟩),.pointer (some ⟨ps[i].b,0,none⟩),.int .i64 n,.int .i64 11] w fun e w'=>KidPost2 PS I ae w B vD nx ps i ps[i] e w':=by
 have oa:Hid (GW2 PS I ae w B vD vI vM nx ps es):=h
 have HP:Hid (bi PS Q):=hP
 have HI:Hid (i8 Q I):=hI
 clear h hP hI
 go_enter Tryz.func64,Tryz.ntmps64
 go_wp2_with fail
 refine wp_loop_rounds 1 ?_
 rw [rounds_succ]
 go_wp2_with fail
 refine (nA HP.out ae w B vD vI vM nx ps es oa.out i hi wZ n).mono ?_
 intro e w1 hp
 have HE:Hid (KidPost2 PS I ae w B vD nx ps i ps[i] e w1):=hp
 obtain ⟨rfl,_⟩:=hp
 have HM:Hid (∀ {e0 wr},KidPost2 PS I ae w B vD nx ps i ps[i] e0 wr→∃ G',PD2 PS I wr ps[i].b ps[i].made G'∧∀ w2,PD2 PS I w2 ps[i].b ps[i].made (n6 G' wr w2)→Fr wr w2 G'→KidPost2 PS I ae w B vD nx ps i ps[i] (.returned (.bool true)) w2):=fun hk=>hk.more HP.out hi
 obtain ⟨p,yQ⟩:∃ p,ps[i]=p:=⟨_,rfl⟩
 have HEQ:Hid (ps[i]=p):=yQ
 rw [yQ] at HE HM ⊢
 clear yQ
 have fT:(⟨#[65,66,67,68,69,70,88,89,90]⟩:ByteArray).size=9:=rfl
 go_wp2_with fail
 go_loopg [9,11] 9 (fun gk okv pv wr=>∃ k:Nat,okv=.bool true∧pv=.int .i64 k∧k≤9∧9 - k≤gk∧Hid (KidPost2 PS I ae w B vD nx ps i p (.returned (.bool true)) wr))
 case atStart=>exact ⟨0,rfl,rfl,Nat.zero_le _,by omega,HE⟩
 case round=>
  obtain ⟨k,rfl,rfl,om,fK,HK⟩:=hrel
  by_cases aN:k<9
  ·have hd:decide ((k:Int)<9)=true:=by simp;omega
   have h1:(0:Int)≤(k:Int):=by omega
   have h2:(k:Int)+1≤9:=by omega
   have h3:(k:Int)≤(k:Int)+1:=by omega
   obtain ⟨G',zJ,Pm⟩:=HM.out HK.out
   have V5:Hid (PD2 PS I wr p.b p.made G'):=zJ
   have jl:Hid (∀ w2,PD2 PS I w2 p.b p.made (n6 G' wr w2)→Fr wr w2 G'→KidPost2 PS I ae w B vD nx ps i p (.returned (.bool true)) w2):=Pm
   clear zJ Pm HK
   go_wp2_with fail
   refine (Ip HP.out HI.out wr p.b p.made G' V5.out n _).mono ?_
   rintro e w2 ⟨rfl,VI,bo⟩
   have Uk:Hid (KidPost2 PS I ae w B vD nx ps i p (.returned (.bool true)) w2):=jl.out w2 VI bo
   clear VI bo
   go_wp2
   go_roundg (9 - (k+1))
   case measure=>omega
   case rel=>exact ⟨k+1,rfl,by go_num,by omega,Nat.le_refl _,Uk⟩
  ·have hd:decide ((k:Int)<9)=false:=by simp;omega
   go_wp2
   go_ret
   rw [HEQ.out]
   exact HK.out
def Pi (PS:World→Value→YS→List Nat→(Nat→Prop)→Prop) (I:YS→List Nat→fm→Prop) (ae:Nat) (w:World) (B:Nat) (vD:Value) (np M:Nat) (bs:List (Nat × Nat)) (wr:World) (c:Nat):Prop:=
 Below ae w wr∧∃ vI vM nx ps es,GW2 PS I ae wr B vD vI vM nx ps es∧ps.length=np∧(∀ p∈ps,p.made≤M)∧nx≤c∧ps.map (fun p=>(p.b,p.made))=bs
set_option maxRecDepth 100000 in
set_option maxHeartbeats 4000000 in
theorem Dx (hP:bi PS Q) (hI:i8 Q I) (ae:Nat) (w:World) (B:Nat) (aD:Option Addr) (cD np M:Nat) (bs:List (Nat × Nat)) (c:Nat) (h:Pi PS I ae w B (.slice aD np cD) np M bs w c) (hnp:np≤131072) (hM:M≤200000) (hc:c≤131072) :
  Calls Tryz.prog 34 #[.pointer (some ⟨B,0,none⟩),.int .i64 11] w fun e w'=>e=.returned (.bool true)∧∃ c',Pi PS I ae w B (.slice aD np cD) np M bs w' c'∧c'≤68719476736:=by
 have HP:Hid (bi PS Q):=hP
 have Uf:Hid (i8 Q I):=hI
 have H0:Hid (Pi PS I ae w B (.slice aD np cD) np M bs w (c+0*262144)):=by simpa [Hid] using h
 clear h hP hI
 go_enter Tryz.func34,Tryz.ntmps34
 go_wp2_with fail
 go_loopg [5] np (fun gk iv wr=>∃ i:Nat,iv=.int .i64 i∧i≤np∧np - i≤gk∧Hid (Pi PS I ae w B (.slice aD np cD) np M bs wr (c+i*262144)))
 case atStart=>exact ⟨0,rfl,Nat.zero_le _,by omega,H0⟩
 case round=>
  obtain ⟨i,rfl,jC,fK,HI⟩:=hrel
  have c0:wr.cell? ⟨B,0,none⟩=some (.slice aD np cD):=by
   obtain ⟨_,vI,vM,nx,ps,es,hg,_⟩:=HI.out
   exact aa hg.wb.blk rfl
  by_cases aN:i<np
  ·have hd:decide ((i:Int)<(np:Int))=true:=by simp;omega
   obtain ⟨b,m,HBM,hm⟩:∃ b m,Hid (bs[i]?=some (b,m))∧m≤M:=by
    obtain ⟨_,vI,vM,nx,ps,es,hg,hl,Vd,_,MY⟩:=HI.out
    have hi:i<ps.length:=by omega
    refine ⟨ps[i].b,ps[i].made,?_,Vd _ (List.getElem_mem hi)⟩
    unfold Hid
    rw [←MY,List.getElem?_map,List.getElem?_eq_getElem hi]
    rfl
   obtain ⟨gD,Wg,q⟩:∃ gD,aD=some ⟨gD,0,none⟩∧wr.cell? ⟨gD,i,none⟩=some (.pointer (some ⟨b,0,none⟩)):=by
    obtain ⟨_,vI,vM,nx,ps,es,hg,hl,Vd,_,MY⟩:=HI.out
    have hi:i<ps.length:=by omega
    have hb:ps[i].b=b:=by
     have h1:=HBM.out
     rw [←MY,List.getElem?_map,List.getElem?_eq_getElem hi] at h1
     simp at h1
     exact h1.1
    have fY:=hg.rowD
    rw [hl] at fY
    obtain ⟨g,I0,_,hc⟩:=aH fY (by omega)
    refine ⟨g,I0,hc i _ ?_⟩
    rw [List.getElem?_map,List.getElem?_eq_getElem hi,←hb]
    rfl
   subst Wg
   have JU:Hid (Pi PS I ae w B (.slice (some ⟨gD,0,none⟩) np cD) np M bs wr (c+i*262144+0)):=HI
   clear HI
   go_wp2_with fail
   clear c0 q
   go_loopg [8] (m+1) (fun H7 jv wq=>∃ n:Nat,jv=.int .i64 n∧n≤m+1∧m+1 - n≤H7∧Hid (Pi PS I ae w B (.slice (some ⟨gD,0,none⟩) np cD) np M bs wq (c+i*262144+n)))
   case atStart=>exact ⟨0,rfl,Nat.zero_le _,by omega,JU⟩
   case round=>
    obtain ⟨n,rfl,OL,r7,HJ⟩:=hrel
    obtain ⟨EE,vI,vM,nx,ps,es,hg,hl,Vd,wZ,MY⟩:=HJ.out
    have hi:i<ps.length:=by omega
    have HG:Hid (GW2 PS I ae wr B (.slice (some ⟨gD,0,none⟩) np cD) vI vM nx ps es):=hg
    have r8:Hid (Below ae w wr):=EE
    have hbm:ps[i].b=b∧ps[i].made=m:=by
     have h1:=HBM.out
     rw [←MY,List.getElem?_map,List.getElem?_eq_getElem hi] at h1
     simpa using h1
    obtain ⟨hb,KG⟩:=hbm
    have X0:Hid (∀ p∈ps,p.made≤M):=Vd
    have HBS:Hid (ps.map (fun p=>(p.b,p.made))=bs):=MY
    have HL:Hid (ps.length=np):=hl
    obtain ⟨d,q1,q2⟩:=(hg.pd i hi).told
    rw [hb] at q1
    rw [KG] at q2
    clear hg EE Vd MY hl HJ
    by_cases Cb:n≤m
    ·have iL:decide ((n:Int)≤(m:Int))=true:=by simp;omega
     go_wp2_with fail
     have oc:=Dm HP.out Uf.out ae wr B (.slice (some ⟨gD,0,none⟩) np cD) vI vM nx ps es HG.out i hi (by omega) (n:Int)
     rw [hb] at oc
     refine oc.mono ?_
     rintro e w1 ⟨rfl,oF,sj,r6,Fc,G',qd,ZE,vw⟩
     have Ua:Hid (Pi PS I ae w B (.slice (some ⟨gD,0,none⟩) np cD) np M bs w1 (c+i*262144+(n+1))):=by
      refine ⟨r8.out.trans oF,sj,r6,Fc,_,qd,vw,by rw [List.length_set];exact HL.out,fun p hp=>?_,by omega,?_⟩
      ·rcases List.mem_or_eq_of_mem_set hp with hp | rfl
       ·exact X0.out p hp
       ·show ps[i].made≤M
        exact X0.out _ (List.getElem_mem hi)
      ·rw [←HBS.out]
       apply List.ext_getElem?
       intro t
       rw [List.getElem?_map,List.getElem?_map,List.getElem?_set]
       by_cases ht:i=t
       ·subst ht
        rw [if_pos rfl,if_pos hi,List.getElem?_eq_getElem hi]
        rfl
       ·rw [if_neg ht]
     clear oF vw oc
     go_wp2
     go_roundg (m+1 - (n+1))
     case measure=>omega
     case rel=>exact ⟨n+1,by go_num,by omega,Nat.le_refl _,Ua⟩
    ·have iL:decide ((n:Int)≤(m:Int))=false:=by simp;omega
     have Ua:Hid (Pi PS I ae w B (.slice (some ⟨gD,0,none⟩) np cD) np M bs wr (c+(i+1)*262144)):=⟨r8.out,vI,vM,nx,ps,es,HG.out,HL.out,X0.out,by omega,HBS.out⟩
     go_wp2
     go_roundg (np - (i+1))
     case measure=>omega
     case rel=>exact ⟨i+1,by go_num,by omega,Nat.le_refl _,Ua⟩
  ·have hd:decide ((i:Int)<(np:Int))=false:=by simp;omega
   go_wp2
   go_ret
   exact ⟨rfl,_,HI.out,by omega⟩
end
end Go.Proofs.YtblfffbmklkhmaaGreat
namespace Go.Proofs.YtblfffbmklkhmaaGreat
open Go.RowKit
theorem GX {PS:World→Value→YS→List Nat→(Nat→Prop)→Prop} {I:YS→List Nat→fm→Prop} (w:World):GW2 PS I w.heap.size (w.alloc (.cells #[.slice none 0 0,.slice none 0 0,.slice none 0 0,.int .i64 0] 67)) w.heap.size (.slice none 0 0) (.slice none 0 0) (.slice none 0 0) 0 [] []:=by
 refine ⟨heap_alloc_new w _,World.ownsRow_nil _ _ _ _,World.ownsRow_nil _ _ _ _,World.ownsRow_nil _ _ _ _,fun e he=>(by cases he),fun e he=>(by cases he),fun i hi=>absurd hi (Nat.not_lt_zero i),fun i j hi=>absurd hi (Nat.not_lt_zero i),fun i hi=>absurd hi (Nat.not_lt_zero i),rfl,?_,fun i hi=>absurd hi (Nat.not_lt_zero i),by simp⟩
 rintro k (rfl | hk | hk | hk | ⟨e,he,_⟩)
 ·exact Nat.le_refl _
 ·simp [Value.ownBlock] at hk
 ·simp [Value.ownBlock] at hk
 ·simp [Value.ownBlock] at hk
 ·cases he
def PI2 (PS:World→Value→YS→List Nat→(Nat→Prop)→Prop) (I:YS→List Nat→fm→Prop) (w wr:World) (i:Nat):Prop:=
 Below w.heap.size w wr∧∃ vD vI vM nx ps es,GW2 PS I w.heap.size wr w.heap.size vD vI vM nx ps es∧nx≤i∧ps.length≤i∧∀ p∈ps,p.made≤i+1
theorem PI2.step {PS:World→Value→YS→List Nat→(Nat→Prop)→Prop} {I:YS→List Nat→fm→Prop} {w wr:World} {i nx np:Nat} {e:Ending} {w':World} (hb:Below w.heap.size w wr) (hn:nx≤i) (hp:np≤i) (h:lW PS I w.heap.size wr w.heap.size nx np (i+1) e w'):PI2 PS I w w' (i+1):=by
 obtain ⟨_,BY,vu,sj,r6,Fc,rP,qd,hg,h1,h2,h3⟩:=h
 exact ⟨hb.trans BY,vu,sj,r6,Fc,rP,qd,hg,by omega,by omega,h3⟩
theorem PI2.skip {PS:World→Value→YS→List Nat→(Nat→Prop)→Prop} {I:YS→List Nat→fm→Prop} {w wr:World} {i:Nat} (h:PI2 PS I w wr i):PI2 PS I w wr (i+1):=by
 obtain ⟨hb,vD,vI,vM,nx,ps,es,hg,h1,h2,h3⟩:=h
 exact ⟨hb,vD,vI,vM,nx,ps,es,hg,by omega,by omega,fun p hp=>Nat.le_succ_of_le (h3 p hp)⟩
section
variable {PS:World→Value→YS→List Nat→(Nat→Prop)→Prop} {Q:ft→YS→List Nat→YS→List Nat→Prop} {I:YS→List Nat→fm→Prop}
theorem DU (hP:bi PS Q) (hI:i8 Q I) (L8:∀ X v1 v2 v3,X.T=[(0,[])]→I X [0] ⟨v1,v2,v3,1,false,[0],[0],[]⟩) (w wr:World) (i:Nat) (h:PI2 PS I w wr i) (hi:i≤131072) (kd at' X Y Z:Int) (S Tt:ByteArray) (on:Bool) (hS:S.size≤maxLen) (vE:3≤kd) (iU:kd≤11) :
  Calls Tryz.prog 33 #[.pointer (some ⟨w.heap.size,0,none⟩),.agg #[.int .i64 kd,.int .i64 at',.int .i64 X,.int .i64 Y,.int .i64 Z,.string S,.string Tt,.bool on]] wr fun e w'=>e=.returned (.bool true)∧PI2 PS I w w' (i+1):=by
 obtain ⟨hb,vD,vI,vM,nx,ps,es,hg,h1,h2,h3⟩:=h
 by_cases hk:kd=3
 ·subst hk
  exact (CJ hP L8 w.heap.size wr w.heap.size vD vI vM nx ps es hg (i+1) h3 (by omega) at' X Y Z S Tt on hS).mono fun e w' hp=>⟨hp.1,PI2.step hb h1 h2 hp⟩
 ·exact (Dj hP hI w.heap.size wr w.heap.size vD vI vM nx ps es hg (i+1) h3 (by omega) (by omega) (by omega) kd at' X Y Z S Tt on hS (by omega)).mono fun e w' hp=>⟨hp.1,PI2.step hb h1 h2 hp⟩
theorem GS (hP:bi PS Q) (hI:i8 Q I) (w wr:World) (n:Nat) (h:PI2 PS I w wr n) (hn:n≤131072) :
  Calls Tryz.prog 34 #[.pointer (some ⟨w.heap.size,0,none⟩),.int .i64 11] wr fun e w'=>e=.returned (.bool true)∧Hid (Below w.heap.size w w'∧∃ vD vI vM nx es,LK w' w.heap.size vD vI vM nx es∧es.length≤1099511627776):=by
 obtain ⟨hb,vD,vI,vM,nx,ps,es,hg,h1,h2,h3⟩:=h
 obtain ⟨aD,cD,rfl⟩:=au hg.rowD
 refine (Dx hP hI w.heap.size wr w.heap.size aD cD ps.length (n+1) (ps.map fun p=>(p.b,p.made)) nx ⟨Below.refl _ _,vI,vM,nx,ps,es,hg,rfl,h3,Nat.le_refl _,rfl⟩ (by omega) (by omega) (by omega)).mono ?_
 rintro e w' ⟨he,c',⟨BY,sj,r6,Fc,rP,qd,vw,_,_,hc,_⟩,MB⟩
 refine ⟨he,hb.trans BY,_,sj,r6,Fc,qd,⟨vw.wb,vw.rowI,vw.rowM,vw.full⟩,?_⟩
 have:=vw.cnt
 omega
set_option maxRecDepth 100000 in
set_option maxHeartbeats 2000000 in
theorem yA (hP:bi PS Q) (hI:i8 Q I) (L8:∀ X v1 v2 v3,X.T=[(0,[])]→I X [0] ⟨v1,v2,v3,1,false,[0],[0],[]⟩) (w:World) (b off len fL:Nat) (K A X Y Z:Nat→Int) (S T:Nat→ByteArray) (O:Nat→Bool) (h:UT w b off len K A X Y Z S T O) (hm:len≤131072) :
  Calls Tryz.prog 15 #[.slice (some ⟨b,off,none⟩) len fL,.int .i64 3,.int .i64 11] w fun e w'=>mw w e w':=by
 have zM:=h.lt
 have HS:Hid (UT w b off len K A X Y Z S T O):=h
 have HP:Hid (bi PS Q):=hP
 have Uf:Hid (i8 Q I):=hI
 clear h hP hI
 have H0:Hid (PI2 PS I w (w.alloc (.cells #[.slice none 0 0,.slice none 0 0,.slice none 0 0,.int .i64 0] 67)) 0):=⟨(Below.refl _ _).alloc (Nat.le_refl _) _,_,_,_,_,_,_,GX w,Nat.le_refl _,Nat.le_refl _,fun p hp=>by cases hp⟩
 go_enter Tryz.func15,Tryz.ntmps15
 go_wp2_with fail
 go_loopg [8] len (fun gk iv wr=>∃ i:Nat,iv=.int .i64 i∧i≤len∧len - i≤gk∧Hid (PI2 PS I w wr i))
 case atStart=>exact ⟨0,rfl,Nat.zero_le _,by omega,H0⟩
 case round=>
  obtain ⟨i,rfl,hi,fK,HI⟩:=hrel
  have hB:=HI.out.1
  by_cases aN:i<len
  ·have hd:decide ((i:Int)<(len:Int))=true:=by simp;omega
   have q0:=(hB.cell (p:=⟨b,off+i*8,none⟩) zM).trans (HS.out.c0 i aN)
   have q1:=(hB.cell (p:=⟨b,off+i*8+1,none⟩) zM).trans (HS.out.c1 i aN)
   have q2:=(hB.cell (p:=⟨b,off+i*8+2,none⟩) zM).trans (HS.out.c2 i aN)
   have q3:=(hB.cell (p:=⟨b,off+i*8+3,none⟩) zM).trans (HS.out.c3 i aN)
   have q4:=(hB.cell (p:=⟨b,off+i*8+4,none⟩) zM).trans (HS.out.c4 i aN)
   have q5:=(hB.cell (p:=⟨b,off+i*8+5,none⟩) zM).trans (HS.out.c5 i aN)
   have q6:=(hB.cell (p:=⟨b,off+i*8+6,none⟩) zM).trans (HS.out.c6 i aN)
   have q7:=(hB.cell (p:=⟨b,off+i*8+7,none⟩) zM).trans (HS.out.c7 i aN)
   have MC:=HS.out.small i aN
   generalize K i=k0 at q0
   generalize A i=k1 at q1
   generalize X i=k2 at q2
   generalize Y i=k3 at q3
   generalize Z i=k4 at q4
   generalize S i=s at q5 MC
   generalize T i=t at q6
   generalize O i=o at q7
   have HSM:Hid (s.size≤maxLen):=MC
   clear MC
   by_cases vE:3≤k0
   ·have hd1:decide (3≤k0)=true:=by simpa using vE
    by_cases iU:k0≤11
    ·have iL:decide (k0≤11)=true:=by simpa using iU
     have HK:Hid (3≤k0∧k0≤11):=⟨vE,iU⟩
     clear vE iU
     go_wp2_with fail
     refine (DU HP.out Uf.out L8 w wr i HI.out (by omega) k0 k1 k2 k3 k4 s t o HSM.out HK.out.1 HK.out.2).mono ?_
     rintro e w2 ⟨rfl,Zo⟩
     have sd:Hid (PI2 PS I w w2 (i+1)):=Zo
     clear q0 q1 q2 q3 q4 q5 q6 q7 Zo hB HI
     go_wp2
     go_roundg (len - (i+1))
     case measure=>omega
     case rel=>exact ⟨i+1,by go_num,by omega,Nat.le_refl _,sd⟩
    ·have iL:decide (k0≤11)=false:=by simpa using iU
     have sd:Hid (PI2 PS I w wr (i+1)):=HI.out.skip
     clear vE iU
     go_wp2
     go_roundg (len - (i+1))
     case measure=>omega
     case rel=>exact ⟨i+1,by go_num,by omega,Nat.le_refl _,sd⟩
   ·have hd1:decide (3≤k0)=false:=by simpa using vE
    have sd:Hid (PI2 PS I w wr (i+1)):=HI.out.skip
    clear vE
    go_wp2
    go_roundg (len - (i+1))
    case measure=>omega
    case rel=>exact ⟨i+1,by go_num,by omega,Nat.le_refl _,sd⟩
  ·have hd:decide ((i:Int)<(len:Int))=false:=by simp;omega
   clear hB
   go_wp2_with fail
   refine (GS HP.out Uf.out w wr i HI.out (by omega)).mono ?_
   rintro e w2 ⟨rfl,HE⟩
   obtain ⟨EE,vD,vI,vM,nx,es,mB,Tu⟩:=HE.out
   have sI:Hid (LK w2 w.heap.size vD vI vM nx es∧es.length≤1099511627776):=⟨mB,Tu⟩
   have r8:Hid (Below w.heap.size w w2):=EE
   clear EE mB Tu HE HI
   go_wp2_with fail
   refine (D4 w2 w.heap.size vD vI vM nx es sI.out.1 sI.out.2).mono ?_
   rintro e w3 ⟨rfl,o9⟩
   have ji:Hid (Below w.heap.size w w3):=r8.out.trans (o9.below.mono r8.out.size)
   clear o9
   go_wp2_with fail
   go_ret
   exact ⟨rfl,ji.out⟩
set_option maxHeartbeats 1000000 in
theorem Ea (hP:bi PS Q) (hI:i8 Q I) (L8:∀ X v1 v2 v3,X.T=[(0,[])]→I X [0] ⟨v1,v2,v3,1,false,[0],[0],[]⟩) (w:World) (b off len fL:Nat) (K A X Y Z:Nat→Int) (S T:Nat→ByteArray) (O:Nat→Bool) (h:UT w b off len K A X Y Z S T O) (hm:len≤131072) :
  Calls Tryz.prog 6 #[.slice (some ⟨b,off,none⟩) len fL] w fun e w'=>mw w e w':=by
 have HS:Hid (UT w b off len K A X Y Z S T O):=h
 have HP:Hid (bi PS Q):=hP
 have Uf:Hid (i8 Q I):=hI
 clear h hP hI
 go_enter Tryz.func6,Tryz.ntmps6
 go_wp2_with fail
 refine (yA HP.out Uf.out L8 _ b off len fL K A X Y Z S T O HS.out hm).mono ?_
 rintro e w1 ⟨rfl,hb⟩
 go_wp2_with fail
 go_ret
 exact ⟨rfl,hb⟩
end
set_option maxHeartbeats 1000000 in
theorem yc (w:World) (ao:Option Addr) (fL:Nat) :
  Calls Tryz.prog 6 #[.slice ao 0 fL] w fun e w'=>mw w e w':=by
 go_enter Tryz.func6,Tryz.ntmps6
 go_wp2_with fail
 refine (AL _ ao fL 3 11).mono ?_
 rintro e w1 ⟨rfl,hb⟩
 go_wp2_with fail
 go_ret
 exact ⟨rfl,hb⟩
end Go.Proofs.YtblfffbmklkhmaaGreat
namespace Go.Proofs.YtblfffbmklkhmaaGreat
open Go.RowKit
def mS:Nat→Array Value
 | 0=>#[.int .i64 0,.int .i64 0,.int .i64 0,.int .i64 0,.int .i64 0,.int .i64 0,.int .i64 0,.int .i64 0,.int .i64 0]
 | 1=>#[.int .i64 1,.int .i64 0,.int .i64 0,.int .i64 0,.int .i64 0,.int .i64 0,.int .i64 0,.int .i64 0,.int .i64 0]
 | 2=>#[.int .i64 1,.int .i64 2,.int .i64 0,.int .i64 0,.int .i64 0,.int .i64 0,.int .i64 0,.int .i64 0,.int .i64 0]
 | 3=>#[.int .i64 1,.int .i64 2,.int .i64 3,.int .i64 0,.int .i64 0,.int .i64 0,.int .i64 0,.int .i64 0,.int .i64 0]
 | 4=>#[.int .i64 1,.int .i64 2,.int .i64 3,.int .i64 4,.int .i64 0,.int .i64 0,.int .i64 0,.int .i64 0,.int .i64 0]
 | 5=>#[.int .i64 1,.int .i64 2,.int .i64 3,.int .i64 4,.int .i64 5,.int .i64 0,.int .i64 0,.int .i64 0,.int .i64 0]
 | _=>#[.int .i64 1,.int .i64 2,.int .i64 3,.int .i64 4,.int .i64 5,.int .i64 6,.int .i64 0,.int .i64 0,.int .i64 0]
def VR (w:World) (l:List Int) (e:Ending) (w':World):Prop:=e=.returned (.agg (ai l).toArray)∧Below w.heap.size w w'
section
set_option maxRecDepth 100000
set_option maxHeartbeats 4000000
variable (w:World)
theorem pN:Calls Tryz.prog 83 #[] w fun e w'=>VR w dO e w':=by
 go_enter Tryz.func83,Tryz.ntmps83
 go_wp2_with fail
 go_loopg [3] 6 (fun gk iv wr=>∃ i:Nat,iv=.int .i64 i∧i≤6∧6 - i≤gk∧wr=(w.alloc (.cells (mS 0) 103)).alloc (.cells (mS i) 103))
 case atStart=>exact ⟨0,rfl,Nat.zero_le _,by omega,rfl⟩
 case round=>
  obtain ⟨i,rfl,hi,fK,rfl⟩:=hrel
  have hc:i=0∨i=1∨i=2∨i=3∨i=4∨i=5∨i=6:=by omega
  rcases hc with rfl | rfl | rfl | rfl | rfl | rfl | rfl
  ·simp only [mS]
   go_wp2
   go_roundg 5
   case measure=>omega
   case rel=>exact ⟨1,rfl,by omega,by omega,rfl⟩
  ·simp only [mS]
   go_wp2
   go_roundg 4
   case measure=>omega
   case rel=>exact ⟨2,rfl,by omega,by omega,rfl⟩
  ·simp only [mS]
   go_wp2
   go_roundg 3
   case measure=>omega
   case rel=>exact ⟨3,rfl,by omega,by omega,rfl⟩
  ·simp only [mS]
   go_wp2
   go_roundg 2
   case measure=>omega
   case rel=>exact ⟨4,rfl,by omega,by omega,rfl⟩
  ·simp only [mS]
   go_wp2
   go_roundg 1
   case measure=>omega
   case rel=>exact ⟨5,rfl,by omega,by omega,rfl⟩
  ·simp only [mS]
   go_wp2
   go_roundg 0
   case measure=>omega
   case rel=>exact ⟨6,rfl,by omega,by omega,rfl⟩
  ·have HR:Hid (Below w.heap.size w ((w.alloc (.cells (mS 6) 103)).alloc (.cells (mS 6) 103))):=((Below.refl _ _).alloc (Nat.le_refl _) _).alloc (by simp) _
   simp only [mS] at HR ⊢
   go_wp2
   exact bodyPost_ret (v:=.agg #[.int .i64 1,.int .i64 2,.int .i64 3,.int .i64 4,.int .i64 5,.int .i64 6,.int .i64 0,.int .i64 0,.int .i64 0]) (by simp [results,Tryz.results83,go_sem]) rfl ⟨rfl,HR.out⟩
theorem Tryz.sizeW:(Tryz.prog.info? 223).map (·.size)=some 63:=by kernel_rfl
theorem Tryz.sizeS:(Tryz.prog.info? 103).map (·.size)=some 9:=by kernel_rfl
theorem sizeW {W:List Clm} (h:W.length=9):(Tryz.prog.info? 223).map (·.size)=some (aF W).length:=by rw [fP,h];exact Tryz.sizeW
theorem sizeS {l:List Int} (h:l.length=9):(Tryz.prog.info? 103).map (·.size)=some (ai l).length:=by rw [List.length_map,h];exact Tryz.sizeS
theorem dY (w:World) (cs:List Value) (t:TypeId):(w.alloc (.cells cs.toArray t)).rangeAt w.heap.size 0 cs:=fun j v hv=>by
 rw [Nat.zero_add,cell_of_row _ _ j cs.toArray t (0,0) (heap_alloc_new w _)]
 simpa using hv
theorem sU {w w':World} {g o:Nat} {cs:List Value} (h:w.rangeAt g o cs) (hk:w'.heap[g]?=w.heap[g]?):w'.rangeAt g o cs:=fun j v hv=>by
 have:=h j v hv
 unfold World.cell? at this ⊢
 rw [hk]
 exact this
theorem yF {W:List Clm} {p k:Nat} (h:bA W p=some k):k<9:=by
 unfold bA at h
 split at h
 ·exact kw h
 ·cases h
theorem GN (W:List Clm) (hW:fw W) (p:Nat) (hp:p<9):Calls Tryz.prog 183 #[.agg (aF W).toArray,.int .i64 p] w fun e w'=>bh w (ix W p 3 (bA W p)) e w':=by
 have HF:Hid (fw W):=hW
 have rZ:Hid ((Tryz.prog.info? 223).map (·.size)=some (aF W).length):=sizeW hW.1
 have TS:Hid ((w.alloc (.cells (aF W).toArray 223)).rangeAt w.heap.size 0 (aF W)):=dY w _ _
 have ow:Hid (Below w.heap.size w (w.alloc (.cells (aF W).toArray 223))):=(Below.refl _ _).alloc (Nat.le_refl _) _
 have Wy:(w.alloc (.cells (aF W).toArray 223)).heap.size=w.heap.size+1:=by simp
 have HZ:Hid ((w.alloc (.cells (aF W).toArray 223)).heap.size=w.heap.size+1):=Wy
 clear hW Wy
 go_enter Tryz.func183,Tryz.ntmps183
 go_wp2_with (refine wpList_load_mid rfl 223 _ rfl w.heap.size 0 rfl (aF W) _ TS.out Tryz.underlying223 rfl rZ.out ?_)
 refine (qw _ W HF.out p hp).mono ?_
 rintro e w1 ⟨rfl,hB⟩
 have ed:Hid (Below (w.heap.size+1) (w.alloc (.cells (aF W).toArray 223)) w1):=hB.mono (by have:=HZ.out;omega)
 clear hB
 go_wp2_with fail
 go_loopg [5,6,13] 3 (fun gk pv gv iv wr=>∃ (i:Nat) (q:Option Nat),iv=.int .i64 i∧i≤3∧3 - i≤gk∧pv=.int .i64 ((q.getD 0:Nat):Int)∧gv=.bool q.isSome∧Hid (Below (w.heap.size+1) (w.alloc (.cells (aF W).toArray 223)) wr∧ix W p 3 (bA W p)=ix W p (3 - i) q∧∀ k,q=some k→k<9))
 case atStart=>exact ⟨0,bA W p,rfl,by omega,by omega,rfl,rfl,ed.out,rfl,fun k hk=>yF hk⟩
 case round=>
  obtain ⟨i,q,rfl,hi,fK,rfl,rfl,HN⟩:=hrel
  have A2:Hid (Below w.heap.size w wr):=ow.out.trans (HN.out.1.mono (by omega))
  by_cases aN:i<3
  ·have hd:decide ((i:Int)<3)=true:=by simp;omega
   cases q with
   | none=>
    have HR:Hid (bh w (ix W p 3 (bA W p)) (.returned (.bool false)) wr):=⟨by rw [HN.out.2.1,show 3 - i=(2 - i)+1 from by omega];rfl,A2.out⟩
    simp only [Option.getD_none,Option.isSome_none]
    go_wp2
    go_ret
    exact HR.out
   | some k=>
    have hk:k<9:=HN.out.2.2 k rfl
    simp only [Option.getD_some,Option.isSome_some]
    by_cases TF:k=p
    ·have HR:Hid (bh w (ix W p 3 (bA W p)) (.returned (.bool true)) wr):=⟨by rw [HN.out.2.1,show 3 - i=(2 - i)+1 from by omega];show _=Ending.returned (.bool (if k=p then true else _));rw [if_pos TF],A2.out⟩
     have H7:((k:Int)==(p:Int))=true:=by simp [TF]
     clear TF
     go_wp2
     go_ret
     exact HR.out
    ·have HQ:Hid (ix W p 3 (bA W p)=ix W p (3 - (i+1)) (bA W k)):=by
      unfold Hid
      rw [HN.out.2.1,show 3 - i=(3 - (i+1))+1 from by omega]
      show (if k=p then true else _)=_
      rw [if_neg TF]
     have H7:((k:Int)==(p:Int))=false:=by rw [beq_eq_false_iff_ne];omega
     have yD:Hid (wr.rangeAt w.heap.size 0 (aF W)):=ba HN.out.1 (by omega) TS.out
     have HBr:Hid (Below (w.heap.size+1) (w.alloc (.cells (aF W).toArray 223)) wr):=HN.out.1
     clear TF HN
     go_wp2_with (refine wpList_load_mid rfl 223 _ rfl w.heap.size 0 rfl (aF W) _ yD.out Tryz.underlying223 rfl rZ.out ?_)
     refine (qw _ W HF.out k hk).mono ?_
     rintro e w2 ⟨rfl,hB⟩
     have eL:Hid (Below (w.heap.size+1) (w.alloc (.cells (aF W).toArray 223)) w2∧ix W p 3 (bA W p)=ix W p (3 - (i+1)) (bA W k)∧∀ j,bA W k=some j→j<9):=⟨HBr.out.trans (hB.mono (by have:=HBr.out.size;have:=HZ.out;omega)),HQ.out,fun j hj=>yF hj⟩
     clear hB yD
     generalize bA W k=q2 at eL ⊢
     go_wp2
     go_roundg (3 - (i+1))
     case measure=>omega
     case rel=>exact ⟨i+1,q2,by go_num,by omega,Nat.le_refl _,rfl,rfl,eL⟩
  ·have hd:decide ((i:Int)<3)=false:=by simp;omega
   have HR:Hid (bh w (ix W p 3 (bA W p)) (.returned (.bool false)) wr):=⟨by rw [HN.out.2.1,show 3 - i=0 from by omega];rfl,A2.out⟩
   go_wp2
   go_ret
   exact HR.out
end
end Go.Proofs.YtblfffbmklkhmaaGreat
