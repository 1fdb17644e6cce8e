import Derived.Test.YtblfffbmklkhmaaGreatSt1
namespace Go.Proofs.YtblfffbmklkhmaaGreat
open Go.RowKit
set_option maxHeartbeats 1000000 in
theorem zq (w:World) (c:Nat):Calls Tryz.prog 187 #[.int .i64 16,.int .u8 c] w fun e w'=>e=.returned (.int .i64 (bC 16 c))∧w'=w:=by
 go_enter Tryz.func187,Tryz.ntmps187
 go_wp2_with fail
 refine (et _ c).mono ?_
 rintro e w1 ⟨rfl,rfl⟩
 go_wp2_with fail
 refine (bd _ c _ (by decide)).mono ?_
 rw [bG c]
 rintro e w2 ⟨rfl,rfl⟩
 go_wp2_with fail
 refine (rT _ c).mono ?_
 rintro e w3 ⟨rfl,rfl⟩
 go_wp2_with fail
 go_ret
 exact ⟨cf (by simp [bC]),rfl⟩
set_option maxHeartbeats 1000000 in
theorem lZ (w:World) (c:Nat):Calls Tryz.prog 187 #[.int .i64 15,.int .u8 c] w fun e w'=>e=.returned (.int .i64 (bC 15 c))∧w'=w:=by
 by_cases gu:c=33
 ·have JY:((c:Int)==33)=true:=by simp [gu]
  have H:Hid (c=33):=gu
  clear gu
  go_enter Tryz.func187,Tryz.ntmps187
  go_wp2_with fail
  refine (et _ c).mono ?_
  rintro e w1 ⟨rfl,rfl⟩
  go_wp2_with fail
  refine (bd _ c _ (by decide)).mono ?_
  rw [bG c]
  rintro e w2 ⟨rfl,rfl⟩
  go_wp2_with fail
  go_ret
  exact ⟨cf (by simp [bC,jA,H.out]),rfl⟩
 have JY:((c:Int)==33)=false:=by simp;omega
 have MP:Hid (¬ c=33):=gu
 clear gu
 go_enter Tryz.func187,Tryz.ntmps187
 go_wp2_with fail
 refine (et _ c).mono ?_
 rintro e w1 ⟨rfl,rfl⟩
 go_wp2_with fail
 refine (bd _ c _ (by decide)).mono ?_
 rw [bG c]
 rintro e w2 ⟨rfl,rfl⟩
 go_wp2_with fail
 refine (rT _ c).mono ?_
 rintro e w3 ⟨rfl,rfl⟩
 go_wp2_with fail
 go_ret
 exact ⟨cf (by simp [bC,jA,MP.out]),rfl⟩
set_option maxHeartbeats 1000000 in
theorem zk (w:World) (c:Nat):Calls Tryz.prog 187 #[.int .i64 13,.int .u8 c] w fun e w'=>e=.returned (.int .i64 (bC 13 c))∧w'=w:=by
 cases hD:fk c
 ·have HD:Hid (fk c=false):=hD
  go_enter Tryz.func187,Tryz.ntmps187
  go_wp2_with fail
  refine (et _ c).mono ?_
  rw [hD]
  clear hD
  rintro e w1 ⟨rfl,rfl⟩
  go_wp2_with fail
  refine (bd _ c _ (by decide)).mono ?_
  rw [bG c]
  rintro e w2 ⟨rfl,rfl⟩
  go_wp2_with fail
  refine (lZ _ c).mono ?_
  rintro e w3 ⟨rfl,rfl⟩
  go_wp2_with fail
  go_ret
  exact ⟨cf (by simp [bC,HD.out]),rfl⟩
 ·have HD:Hid (fk c=true):=hD
  go_enter Tryz.func187,Tryz.ntmps187
  go_wp2_with fail
  refine (et _ c).mono ?_
  rw [hD]
  clear hD
  rintro e w1 ⟨rfl,rfl⟩
  go_wp2_with fail
  refine (bd _ c _ (by decide)).mono ?_
  rw [bG c]
  rintro e w2 ⟨rfl,rfl⟩
  go_wp2_with fail
  go_ret
  exact ⟨cf (by simp [bC,HD.out]),rfl⟩
set_option maxHeartbeats 1000000 in
theorem yB (w:World) (c:Nat):Calls Tryz.prog 187 #[.int .i64 14,.int .u8 c] w fun e w'=>e=.returned (.int .i64 (bC 14 c))∧w'=w:=by
 cases hD:fk c
 ·have HD:Hid (fk c=false):=hD
  go_enter Tryz.func187,Tryz.ntmps187
  go_wp2_with fail
  refine (et _ c).mono ?_
  rw [hD]
  clear hD
  rintro e w1 ⟨rfl,rfl⟩
  go_wp2_with fail
  refine (bd _ c _ (by decide)).mono ?_
  rw [bG c]
  rintro e w2 ⟨rfl,rfl⟩
  go_wp2_with fail
  refine (lZ _ c).mono ?_
  rintro e w3 ⟨rfl,rfl⟩
  go_wp2_with fail
  go_ret
  exact ⟨cf (by simp [bC,HD.out]),rfl⟩
 ·have HD:Hid (fk c=true):=hD
  go_enter Tryz.func187,Tryz.ntmps187
  go_wp2_with fail
  refine (et _ c).mono ?_
  rw [hD]
  clear hD
  rintro e w1 ⟨rfl,rfl⟩
  go_wp2_with fail
  refine (bd _ c _ (by decide)).mono ?_
  rw [bG c]
  rintro e w2 ⟨rfl,rfl⟩
  go_wp2_with fail
  go_ret
  exact ⟨cf (by simp [bC,HD.out]),rfl⟩
set_option maxHeartbeats 1000000 in
theorem yt (w:World) (c:Nat):Calls Tryz.prog 187 #[.int .i64 10,.int .u8 c] w fun e w'=>e=.returned (.int .i64 (bC 10 c))∧w'=w:=by
 go_enter Tryz.func187,Tryz.ntmps187
 go_wp2_with fail
 refine (et _ c).mono ?_
 rintro e w1 ⟨rfl,rfl⟩
 go_wp2_with fail
 refine (bd _ c _ (by decide)).mono ?_
 rw [bG c]
 rintro e w2 ⟨rfl,rfl⟩
 go_wp2_with fail
 refine (cH _ (ua c) 11).mono ?_
 rintro e w3 ⟨rfl,rfl⟩
 go_wp2_with fail
 go_ret
 exact ⟨cf (by simp [bC,jS,wh]),rfl⟩
set_option maxHeartbeats 1000000 in
theorem zQ (w:World) (c:Nat):Calls Tryz.prog 187 #[.int .i64 9,.int .u8 c] w fun e w'=>e=.returned (.int .i64 (bC 9 c))∧w'=w:=by
 by_cases DL:c=125
 ·have Zc:((c:Int)==125)=true:=by simp [DL]
  have H:Hid (c=125):=DL
  clear DL
  go_enter Tryz.func187,Tryz.ntmps187
  go_wp2_with fail
  refine (et _ c).mono ?_
  rintro e w1 ⟨rfl,rfl⟩
  go_wp2_with fail
  refine (bd _ c _ (by decide)).mono ?_
  rw [bG c]
  rintro e w2 ⟨rfl,rfl⟩
  go_wp2_with fail
  go_ret
  exact ⟨cf (by simp [bC,H.out]),rfl⟩
 have Zc:((c:Int)==125)=false:=by simp;omega
 have Zk:Hid (¬ c=125):=DL
 clear DL
 go_enter Tryz.func187,Tryz.ntmps187
 go_wp2_with fail
 refine (et _ c).mono ?_
 rintro e w1 ⟨rfl,rfl⟩
 go_wp2_with fail
 refine (bd _ c _ (by decide)).mono ?_
 rw [bG c]
 rintro e w2 ⟨rfl,rfl⟩
 go_wp2_with fail
 refine (cH _ (ua c) 11).mono ?_
 rintro e w3 ⟨rfl,rfl⟩
 go_wp2_with fail
 go_ret
 exact ⟨cf (by simp [bC,jS,wh,Zk.out]),rfl⟩
set_option maxHeartbeats 1000000 in
theorem zr (w:World) (c:Nat):Calls Tryz.prog 187 #[.int .i64 11,.int .u8 c] w fun e w'=>e=.returned (.int .i64 (bC 11 c))∧w'=w:=by
 by_cases h58:c=58
 ·have ST:((c:Int)==58)=true:=by simp [h58]
  have H:Hid (c=58):=h58
  clear h58
  go_enter Tryz.func187,Tryz.ntmps187
  go_wp2_with fail
  refine (et _ c).mono ?_
  rintro e w1 ⟨rfl,rfl⟩
  go_wp2_with fail
  refine (bd _ c _ (by decide)).mono ?_
  rw [bG c]
  rintro e w2 ⟨rfl,rfl⟩
  go_wp2_with fail
  refine (cH _ true 12).mono ?_
  rintro e w3 ⟨rfl,rfl⟩
  go_wp2_with fail
  go_ret
  exact ⟨cf (by simp [bC,H.out]),rfl⟩
 have ST:((c:Int)==58)=false:=by simp;omega
 have H58:Hid (¬ c=58):=h58
 clear h58
 go_enter Tryz.func187,Tryz.ntmps187
 go_wp2_with fail
 refine (et _ c).mono ?_
 rintro e w1 ⟨rfl,rfl⟩
 go_wp2_with fail
 refine (bd _ c _ (by decide)).mono ?_
 rw [bG c]
 rintro e w2 ⟨rfl,rfl⟩
 go_wp2_with fail
 refine (cH _ false 12).mono ?_
 rintro e w3 ⟨rfl,rfl⟩
 go_wp2_with fail
 go_ret
 exact ⟨cf (by simp [bC,H58.out]),rfl⟩
set_option maxHeartbeats 1000000 in
theorem x7 (w:World) (c:Nat):Calls Tryz.prog 187 #[.int .i64 17,.int .u8 c] w fun e w'=>e=.returned (.int .i64 (bC 17 c))∧w'=w:=by
 by_cases h88:c=88
 ·have g88:((c:Int)==88)=true:=by simp [h88]
  have H:Hid (c=88):=h88
  clear h88
  go_enter Tryz.func187,Tryz.ntmps187
  go_wp2_with fail
  refine (et _ c).mono ?_
  rintro e w1 ⟨rfl,rfl⟩
  go_wp2_with fail
  refine (bd _ c _ (by decide)).mono ?_
  rw [bG c]
  rintro e w2 ⟨rfl,rfl⟩
  go_wp2_with fail
  refine (cH _ true 15).mono ?_
  rintro e w3 ⟨rfl,rfl⟩
  go_wp2_with fail
  go_ret
  exact ⟨cf (by simp [bC,qH,H.out]),rfl⟩
 have g88:((c:Int)==88)=false:=by simp;omega
 have H88:Hid (¬ c=88):=h88
 clear h88
 by_cases h89:c=89
 ·have g89:((c:Int)==89)=true:=by simp [h89]
  have H:Hid (c=89):=h89
  clear h89
  go_enter Tryz.func187,Tryz.ntmps187
  go_wp2_with fail
  refine (et _ c).mono ?_
  rintro e w1 ⟨rfl,rfl⟩
  go_wp2_with fail
  refine (bd _ c _ (by decide)).mono ?_
  rw [bG c]
  rintro e w2 ⟨rfl,rfl⟩
  go_wp2_with fail
  refine (cH _ true 15).mono ?_
  rintro e w3 ⟨rfl,rfl⟩
  go_wp2_with fail
  go_ret
  exact ⟨cf (by simp [bC,qH,H.out]),rfl⟩
 have g89:((c:Int)==89)=false:=by simp;omega
 have H89:Hid (¬ c=89):=h89
 clear h89
 by_cases h90:c=90
 ·have g90:((c:Int)==90)=true:=by simp [h90]
  have H:Hid (c=90):=h90
  clear h90
  go_enter Tryz.func187,Tryz.ntmps187
  go_wp2_with fail
  refine (et _ c).mono ?_
  rintro e w1 ⟨rfl,rfl⟩
  go_wp2_with fail
  refine (bd _ c _ (by decide)).mono ?_
  rw [bG c]
  rintro e w2 ⟨rfl,rfl⟩
  go_wp2_with fail
  refine (cH _ true 15).mono ?_
  rintro e w3 ⟨rfl,rfl⟩
  go_wp2_with fail
  go_ret
  exact ⟨cf (by simp [bC,qH,H.out]),rfl⟩
 have g90:((c:Int)==90)=false:=by simp;omega
 have H90:Hid (¬ c=90):=h90
 clear h90
 go_enter Tryz.func187,Tryz.ntmps187
 go_wp2_with fail
 refine (et _ c).mono ?_
 rintro e w1 ⟨rfl,rfl⟩
 go_wp2_with fail
 refine (bd _ c _ (by decide)).mono ?_
 rw [bG c]
 rintro e w2 ⟨rfl,rfl⟩
 go_wp2_with fail
 refine (cH _ false 15).mono ?_
 rintro e w3 ⟨rfl,rfl⟩
 go_wp2_with fail
 go_ret
 have hv:qH c=false:=by have:=H88.out;have:=H89.out;have:=H90.out;simp only [qH,decide_eq_false_iff_not];omega
 exact ⟨cf (by simp [bC,hv]),rfl⟩
set_option maxHeartbeats 1000000 in
theorem zb (w:World) (c:Nat):Calls Tryz.prog 187 #[.int .i64 12,.int .u8 c] w fun e w'=>e=.returned (.int .i64 (bC 12 c))∧w'=w:=by
 cases hD:fk c
 ·have HD:Hid (fk c=false):=hD
  by_cases sx:c=36
  ·have UY:((c:Int)==36)=true:=by simp [sx]
   have H:Hid (c=36):=sx
   clear sx
   go_enter Tryz.func187,Tryz.ntmps187
   go_wp2_with fail
   refine (et _ c).mono ?_
   rw [hD]
   clear hD
   rintro e w1 ⟨rfl,rfl⟩
   go_wp2_with fail
   refine (bd _ c _ (by decide)).mono ?_
   rw [bG c]
   rintro e w2 ⟨rfl,rfl⟩
   go_wp2_with fail
   go_ret
   exact ⟨cf (by simp [bC,fk,H.out]),rfl⟩
  have UY:((c:Int)==36)=false:=by simp;omega
  have H36:Hid (¬ c=36):=sx
  clear sx
  by_cases h105:c=105
  ·have QR:((c:Int)==105)=true:=by simp [h105]
   have H:Hid (c=105):=h105
   clear h105
   go_enter Tryz.func187,Tryz.ntmps187
   go_wp2_with fail
   refine (et _ c).mono ?_
   rw [hD]
   clear hD
   rintro e w1 ⟨rfl,rfl⟩
   go_wp2_with fail
   refine (bd _ c _ (by decide)).mono ?_
   rw [bG c]
   rintro e w2 ⟨rfl,rfl⟩
   go_wp2_with fail
   refine (cH _ true 15).mono ?_
   rintro e w3 ⟨rfl,rfl⟩
   go_wp2_with fail
   go_ret
   exact ⟨cf (by simp [bC,fk,H.out]),rfl⟩
  have QR:((c:Int)==105)=false:=by simp;omega
  have YV:Hid (¬ c=105):=h105
  clear h105
  by_cases h114:c=114
  ·have SF:((c:Int)==114)=true:=by simp [h114]
   have H:Hid (c=114):=h114
   clear h114
   go_enter Tryz.func187,Tryz.ntmps187
   go_wp2_with fail
   refine (et _ c).mono ?_
   rw [hD]
   clear hD
   rintro e w1 ⟨rfl,rfl⟩
   go_wp2_with fail
   refine (bd _ c _ (by decide)).mono ?_
   rw [bG c]
   rintro e w2 ⟨rfl,rfl⟩
   go_wp2_with fail
   refine (cH _ true 15).mono ?_
   rintro e w3 ⟨rfl,rfl⟩
   go_wp2_with fail
   go_ret
   exact ⟨cf (by simp [bC,fk,H.out]),rfl⟩
  have SF:((c:Int)==114)=false:=by simp;omega
  have Yh:Hid (¬ c=114):=h114
  clear h114
  by_cases ye:c=117
  ·have YW:((c:Int)==117)=true:=by simp [ye]
   have H:Hid (c=117):=ye
   clear ye
   go_enter Tryz.func187,Tryz.ntmps187
   go_wp2_with fail
   refine (et _ c).mono ?_
   rw [hD]
   clear hD
   rintro e w1 ⟨rfl,rfl⟩
   go_wp2_with fail
   refine (bd _ c _ (by decide)).mono ?_
   rw [bG c]
   rintro e w2 ⟨rfl,rfl⟩
   go_wp2_with fail
   refine (cH _ true 15).mono ?_
   rintro e w3 ⟨rfl,rfl⟩
   go_wp2_with fail
   go_ret
   exact ⟨cf (by simp [bC,fk,H.out]),rfl⟩
  have YW:((c:Int)==117)=false:=by simp;omega
  have Rk:Hid (¬ c=117):=ye
  clear ye
  go_enter Tryz.func187,Tryz.ntmps187
  go_wp2_with fail
  refine (et _ c).mono ?_
  rw [hD]
  clear hD
  rintro e w1 ⟨rfl,rfl⟩
  go_wp2_with fail
  refine (bd _ c _ (by decide)).mono ?_
  rw [bG c]
  rintro e w2 ⟨rfl,rfl⟩
  go_wp2_with fail
  refine (cH _ false 15).mono ?_
  rintro e w3 ⟨rfl,rfl⟩
  go_wp2_with fail
  go_ret
  exact ⟨cf (by simp [bC,HD.out,H36.out,YV.out,Yh.out,Rk.out]),rfl⟩
 ·have HD:Hid (fk c=true):=hD
  go_enter Tryz.func187,Tryz.ntmps187
  go_wp2_with fail
  refine (et _ c).mono ?_
  rw [hD]
  clear hD
  rintro e w1 ⟨rfl,rfl⟩
  go_wp2_with fail
  refine (bd _ c _ (by decide)).mono ?_
  rw [bG c]
  rintro e w2 ⟨rfl,rfl⟩
  go_wp2_with fail
  go_ret
  exact ⟨cf (by simp [bC,HD.out]),rfl⟩
set_option maxHeartbeats 2000000 in
theorem Jw (w:World) (m:Int) (c:Nat) (h0:0≤m) (h1:m≤17):Calls Tryz.prog 164 #[.int .i64 m,.int .u8 c] w fun e w'=>e=.returned (.int .i64 (bC m c))∧w'=w:=by
 have hm:m=0∨m=1∨m=2∨m=3∨m=4∨m=5∨m=6∨m=7∨m=8∨m=9∨m=10∨m=11∨m=12∨m=13∨m=14∨m=15∨m=16∨m=17:=by omega
 clear h0 h1
 rcases hm with rfl | rfl | rfl | rfl | rfl | rfl | rfl | rfl | rfl | rfl | rfl | rfl | rfl | rfl | rfl | rfl | rfl | rfl
 ·go_enter Tryz.func164,Tryz.ntmps164
  go_wp2_with fail
  refine (Bt _ c).mono ?_
  rintro e w3 ⟨rfl,rfl⟩
  go_wp2_with fail
  go_ret
  exact ⟨rfl,rfl⟩
 ·go_enter Tryz.func164,Tryz.ntmps164
  go_wp2_with fail
  refine (BX _ c).mono ?_
  rintro e w3 ⟨rfl,rfl⟩
  go_wp2_with fail
  go_ret
  exact ⟨rfl,rfl⟩
 ·go_enter Tryz.func164,Tryz.ntmps164
  go_wp2_with fail
  refine (rn _ c).mono ?_
  rintro e w3 ⟨rfl,rfl⟩
  go_wp2_with fail
  go_ret
  exact ⟨rfl,rfl⟩
 ·go_enter Tryz.func164,Tryz.ntmps164
  go_wp2_with fail
  refine (zY _ c).mono ?_
  rintro e w3 ⟨rfl,rfl⟩
  go_wp2_with fail
  go_ret
  exact ⟨rfl,rfl⟩
 ·go_enter Tryz.func164,Tryz.ntmps164
  go_wp2_with fail
  refine (Aq _ c).mono ?_
  rintro e w3 ⟨rfl,rfl⟩
  go_wp2_with fail
  go_ret
  exact ⟨rfl,rfl⟩
 ·go_enter Tryz.func164,Tryz.ntmps164
  go_wp2_with fail
  refine (AV _ c).mono ?_
  rintro e w3 ⟨rfl,rfl⟩
  go_wp2_with fail
  go_ret
  exact ⟨rfl,rfl⟩
 ·go_enter Tryz.func164,Tryz.ntmps164
  go_wp2_with fail
  refine (BR _ c).mono ?_
  rintro e w3 ⟨rfl,rfl⟩
  go_wp2_with fail
  go_ret
  exact ⟨rfl,rfl⟩
 ·go_enter Tryz.func164,Tryz.ntmps164
  go_wp2_with fail
  refine (AB _ c).mono ?_
  rintro e w3 ⟨rfl,rfl⟩
  go_wp2_with fail
  go_ret
  exact ⟨rfl,rfl⟩
 ·go_enter Tryz.func164,Tryz.ntmps164
  go_wp2_with fail
  refine (zO _ c).mono ?_
  rintro e w3 ⟨rfl,rfl⟩
  go_wp2_with fail
  go_ret
  exact ⟨rfl,rfl⟩
 ·go_enter Tryz.func164,Tryz.ntmps164
  go_wp2_with fail
  refine (zQ _ c).mono ?_
  rintro e w3 ⟨rfl,rfl⟩
  go_wp2_with fail
  go_ret
  exact ⟨rfl,rfl⟩
 ·go_enter Tryz.func164,Tryz.ntmps164
  go_wp2_with fail
  refine (yt _ c).mono ?_
  rintro e w3 ⟨rfl,rfl⟩
  go_wp2_with fail
  go_ret
  exact ⟨rfl,rfl⟩
 ·go_enter Tryz.func164,Tryz.ntmps164
  go_wp2_with fail
  refine (zr _ c).mono ?_
  rintro e w3 ⟨rfl,rfl⟩
  go_wp2_with fail
  go_ret
  exact ⟨rfl,rfl⟩
 ·go_enter Tryz.func164,Tryz.ntmps164
  go_wp2_with fail
  refine (zb _ c).mono ?_
  rintro e w3 ⟨rfl,rfl⟩
  go_wp2_with fail
  go_ret
  exact ⟨rfl,rfl⟩
 ·go_enter Tryz.func164,Tryz.ntmps164
  go_wp2_with fail
  refine (zk _ c).mono ?_
  rintro e w3 ⟨rfl,rfl⟩
  go_wp2_with fail
  go_ret
  exact ⟨rfl,rfl⟩
 ·go_enter Tryz.func164,Tryz.ntmps164
  go_wp2_with fail
  refine (yB _ c).mono ?_
  rintro e w3 ⟨rfl,rfl⟩
  go_wp2_with fail
  go_ret
  exact ⟨rfl,rfl⟩
 ·go_enter Tryz.func164,Tryz.ntmps164
  go_wp2_with fail
  refine (lZ _ c).mono ?_
  rintro e w3 ⟨rfl,rfl⟩
  go_wp2_with fail
  go_ret
  exact ⟨rfl,rfl⟩
 ·go_enter Tryz.func164,Tryz.ntmps164
  go_wp2_with fail
  refine (zq _ c).mono ?_
  rintro e w3 ⟨rfl,rfl⟩
  go_wp2_with fail
  go_ret
  exact ⟨rfl,rfl⟩
 ·go_enter Tryz.func164,Tryz.ntmps164
  go_wp2_with fail
  refine (x7 _ c).mono ?_
  rintro e w3 ⟨rfl,rfl⟩
  go_wp2_with fail
  go_ret
  exact ⟨rfl,rfl⟩
end Go.Proofs.YtblfffbmklkhmaaGreat
namespace Go.Proofs.YtblfffbmklkhmaaGreat
theorem Oo {p:Prop} [Decidable p] {a b:Int} (ha:-1≤a∧a≤17) (hb:-1≤b∧b≤17):-1≤(if p then a else b)∧(if p then a else b)≤17:=by
 split
 ·exact ha
 ·exact hb
theorem Iq (m:Int) (c:Nat):-1≤bC m c∧bC m c≤17:=by
 have hp:-1≤il c∧il c≤17:=by unfold il;(repeat' split)<;>omega
 have hc:-1≤ik c∧ik c≤17:=by unfold ik;(repeat' split)<;>omega
 have hm:-1≤jA c∧jA c≤17:=by unfold jA;(repeat' split)<;>omega
 have hq:-1≤jS c∧jS c≤17:=by unfold jS;(repeat' split)<;>omega
 have ho:-1≤iM c∧iM c≤17:=by unfold iM;(repeat' split)<;>omega
 have hr:-1≤gH c∧gH c≤17:=by unfold gH;(repeat' split)<;>omega
 have hw:∀ b n,-1≤n→n≤17→-1≤wh b n∧wh b n≤17:=by intro b n h1 h2;unfold wh;(repeat' split)<;>omega
 unfold bC
 repeat' (first | exact hp | exact hc | exact hm | exact hq | exact ho | exact hr | exact hw _ _ (by decide) (by decide) | refine Oo ?_ ?_ | exact ⟨by decide,by decide⟩)
def Acc (s:ByteArray) (m:Int) (k:Cn) (i:Nat) (M:Int):Prop:=V s m k i=(-1,M)
theorem Acc.lt {s:ByteArray} {m:Int} {k:Cn} {i:Nat} {M:Int} (h:Acc s m k i M) (hm:m≠0):i<s.size:=by
 by_cases hi:i<s.size
 ·exact hi
 ·unfold Acc at h
  rw [tK (by omega),if_neg hm] at h
  injection h with h1 _
  omega
theorem Acc.ok {s:ByteArray} {m:Int} {k:Cn} {i:Nat} {M:Int} (h:Acc s m k i M) (hi:i<s.size):bC m (bt s i)≠-1:=by
 intro e
 unfold Acc at h
 rw [tU hi e] at h
 injection h with h1 _
 omega
theorem Acc.step {s:ByteArray} {m:Int} {k:Cn} {i:Nat} {M:Int} (h:Acc s m k i M) (hi:i<s.size):Acc s (bC m (bt s i)) (cnt m (bt s i) i k) (i+1) M:=by
 have:=h.ok hi
 unfold Acc at h ⊢
 rw [←h,uy hi rfl this]
def fU (m:Int):Prop:=m=2∨m=3∨m=4∨m=5∨m=6∨m=7∨m=8
theorem BB (c:Nat):il c=-1∨il c=4∨il c=5:=by unfold il;(repeat' split)<;>omega
theorem uN {m:Int} {c:Nat} (hm:fU m) (hc:c≠123) (h:bC m c≠-1):fU (bC m c):=by
 have hp:=BB c
 unfold fU at *
 have ho:iM c=3∨iM c=8∨iM c=il c:=by unfold iM;(repeat' split)<;>omega
 have hr:gH c=8∨gH c=2∨gH c=il c:=by unfold gH;rw [if_neg hc];(repeat' split)<;>omega
 have hw:∀ b n,wh b n=-1∨wh b n=n:=by intro b n;unfold wh;(repeat' split)<;>omega
 have w2:=hw (fl c) 3
 have w3:=hw (decide (c=102∨c=108∨c=101)) 3
 have w4:=hw (fk c) 7
 have w5:=hw (fk c) 3
 rcases hm with rfl | rfl | rfl | rfl | rfl | rfl | rfl<;>simp only [bC] at h ⊢<;>simp only [Int.reduceEq,if_false,if_true] at h ⊢
 ·omega
 ·omega
 ·omega
 ·split at h<;>split<;>omega
 ·omega
 ·omega
 ·split at h<;>split<;>omega
theorem M5 {m:Int} {c i:Nat} {k:Cn} (hm:fU m) (hs:fM c=false) (hc:c≠44):cnt m c i k=k:=by
 unfold fU at hm
 rcases hm with rfl | rfl | rfl | rfl | rfl | rfl | rfl<;>simp [cnt,hs,hc]
theorem tY {m:Int} {c:Nat} (hm:fU m) (hc:fM c=true∨c=44∨c=123) (h:bC m c≠-1):m=3:=by
 have h0:c=32∨c=62∨c=43∨c=126∨c=44∨c=123:=by simp only [fM,decide_eq_true_eq] at hc;omega
 unfold fU at hm
 rcases hm with rfl | rfl | rfl | rfl | rfl | rfl | rfl<;>first | rfl | (exfalso;apply h;rcases h0 with rfl | rfl | rfl | rfl | rfl | rfl<;>decide)
theorem Iu {s:ByteArray} {M:Int}:∀ (n:Nat) {m:Int} {k:Cn} {p:Nat},s.size - p≤n→fU m→Acc s m k p M→∃ q,p≤q∧q<s.size∧bt s q=123:=by
 intro n
 induction n with
 | zero=>
  intro m k p hn hm h
  have:=h.lt (by unfold fU at hm;omega)
  omega
 | succ n ih=>
  intro m k p hn hm h
  have aN:=h.lt (by unfold fU at hm;omega)
  by_cases hc:bt s p=123
  ·exact ⟨p,Nat.le_refl _,aN,hc⟩
  ·obtain ⟨q,h1,h2,h3⟩:=ih (by omega) (uN hm hc (h.ok aN)) (h.step aN)
   exact ⟨q,by omega,h2,h3⟩
def jT (m:Int):Prop:=9≤m∧m≤17
theorem nP {m:Int} {c:Nat} (hm:jT m) (h:bC m c≠-1):(c=125→bC m c=0)∧(c=59→bC m c=10)∧(c≠125→jT (bC m c)):=by
 unfold jT at *
 have hc:ik c=-1∨(ik c=10∧c=59)∨(ik c=0∧c=125):=by unfold ik;(repeat' split)<;>omega
 have hk:jA c=-1∨(jA c=10∧c=59)∨(jA c=0∧c=125)∨(jA c=16∧c=33):=by unfold jA;(repeat' split)<;>omega
 have hq:jS c=-1∨(jS c=11∧c≠125∧c≠59):=by
  unfold jS;split
  ·rename_i hp;simp only [ua,qH,Bool.or_eq_true,decide_eq_true_eq] at hp;omega
  ·omega
 have hd:fk c=true→c≠125∧c≠59:=by intro hp;simp only [fk,decide_eq_true_eq] at hp;omega
 have hv:wh (qH c) 15=-1∨(wh (qH c) 15=15∧c≠125∧c≠59):=by
  unfold wh;split
  ·rename_i hp;simp only [qH,decide_eq_true_eq] at hp;omega
  ·omega
 have h1:wh (decide (c=58)) 12=-1∨(wh (decide (c=58)) 12=12∧c=58):=by unfold wh;split<;>simp_all
 have h2:wh (decide (c=105∨c=114∨c=117)) 15=-1∨(wh (decide (c=105∨c=114∨c=117)) 15=15∧(c=105∨c=114∨c=117)):=by
  unfold wh;split
  ·rename_i hp;simp only [decide_eq_true_eq] at hp;omega
  ·omega
 have o8:m=9∨m=10∨m=11∨m=12∨m=13∨m=14∨m=15∨m=16∨m=17:=by omega
 clear hm
 rcases o8 with rfl | rfl | rfl | rfl | rfl | rfl | rfl | rfl | rfl<;>simp only [bC] at h ⊢<;>simp only [Int.reduceEq,if_false,if_true] at h ⊢
 ·by_cases hx:c=125
  ·rw [if_pos hx] at h ⊢;omega
  ·rw [if_neg hx] at h ⊢;omega
 ·omega
 ·omega
 ·cases hD:fk c with
  | true=>have:=hd hD;simp;omega
  | false=>
   simp only [hD,Bool.false_eq_true,if_false] at h ⊢
   by_cases hx:c=36
   ·rw [if_pos hx] at h ⊢;omega
   ·rw [if_neg hx] at h ⊢;omega
 ·cases hD:fk c with
  | true=>have:=hd hD;simp;omega
  | false=>simp only [hD,Bool.false_eq_true,if_false] at h ⊢;omega
 ·cases hD:fk c with
  | true=>have:=hd hD;simp;omega
  | false=>simp only [hD,Bool.false_eq_true,if_false] at h ⊢;omega
 ·omega
 ·omega
 ·omega
theorem nf {m:Int} {c i:Nat} {k:Cn} (hm:jT m):cnt m c i k=k:=by
 unfold jT at hm
 unfold cnt
 rw [if_neg (by omega),if_neg (by omega),if_neg (by omega)]
theorem En {s:ByteArray} {M:Int}:∀ (n:Nat) {m:Int} {k:Cn} {p:Nat},s.size - p≤n→jT m→Acc s m k p M→∃ q,p≤q∧q<s.size∧bt s q=125:=by
 intro n
 induction n with
 | zero=>
  intro m k p hn hm h
  have:=h.lt (by unfold jT at hm;omega)
  omega
 | succ n ih=>
  intro m k p hn hm h
  have aN:=h.lt (by unfold jT at hm;omega)
  by_cases hc:bt s p=125
  ·exact ⟨p,Nat.le_refl _,aN,hc⟩
  ·obtain ⟨q,h1,h2,h3⟩:=ih (by omega) ((nP hm (h.ok aN)).2.2 hc) (h.step aN)
   exact ⟨q,by omega,h2,h3⟩
theorem tL {s:ByteArray} {M:Int} {k:Cn} {p r:Nat} (h:Acc s 9 k p M) (mm:∀ j,p≤j→j<r→bt s j≠125) (hr:r≤s.size) :
  ∀ (d:Nat),p+d≤r→∃ m,jT m∧Acc s m k (p+d) M∧(d=0→m=9)∧(0<d→bt s (p+d - 1)=59→m=10):=by
 intro d
 induction d with
 | zero=>intro _;exact ⟨9,⟨by omega,by omega⟩,h,fun _=>rfl,fun e=>by omega⟩
 | succ d ih=>
  intro hd
  obtain ⟨m,h1,h2,_,_⟩:=ih (by omega)
  have aN:p+d<s.size:=by omega
  have hn:=nP h1 (h2.ok aN)
  refine ⟨bC m (bt s (p+d)),hn.2.2 (mm _ (by omega) (by omega)),?_,fun e=>by omega,fun _ e=>hn.2.1 e⟩
  have:=h2.step aN
  rw [nf h1] at this
  exact this
theorem Ef {s:ByteArray} {M:Int} {k:Cn} {m:Int} {p:Nat} (hm:m=9∨m=10) (h:Acc s m k p M) (eV:bt s p≠125) :
  bt s p≠59∧bt s (p+1)≠59∧bt s (p+1)≠125∧bt s (p+2)≠59∧bt s (p+2)≠125∧p+2<s.size:=by
 have jF:jT m:=by unfold jT;omega
 have l0:=h.lt (by omega)
 have o0:=h.ok l0
 have hp:ua (bt s p)=true∧bC m (bt s p)=11:=by
  cases hp:ua (bt s p) with
  | true=>refine ⟨rfl,?_⟩;rcases hm with rfl | rfl<;>simp [bC,jS,hp,eV]
  | false=>exfalso;apply o0;rcases hm with rfl | rfl<;>simp [bC,jS,hp,eV]
 have h1:=h.step l0
 rw [hp.2,nf jF] at h1
 have l1:=h1.lt (by omega)
 have o1:=h1.ok l1
 have hq:bt s (p+1)=58:=by
  by_cases e:bt s (p+1)=58
  ·exact e
  ·exfalso;apply o1;simp [bC,wh,e]
 have h2:=h1.step l1
 rw [show bC 11 (bt s (p+1))=12 from by simp [bC,wh,hq],nf ⟨by omega,by omega⟩] at h2
 have l2:=h2.lt (by omega)
 have o2:=h2.ok l2
 have h3:bt s (p+2)≠59∧bt s (p+2)≠125:=by
  constructor
  ·intro e;apply o2;rw [e];decide
  ·intro e;apply o2;rw [e];decide
 have sB:=hp.1
 simp only [ua,qH,Bool.or_eq_true,decide_eq_true_eq] at sB
 exact ⟨by omega,by omega,by omega,h3.1,h3.2,l2⟩
end Go.Proofs.YtblfffbmklkhmaaGreat
namespace Go.Proofs.YtblfffbmklkhmaaGreat
open Go.RowKit
theorem gV (w:World) (r:Option Nat):w.grownBy w r:=⟨rfl,rfl,rfl,Nat.le_refl _,fun _ _ _=>rfl⟩
theorem fJ {a w:World} {r:Option Nat} (h:a.grownBy w r) (n:Nat):a.grownBy (w.drewN n) r:=⟨h.os,h.tape,h.output,h.size,h.block⟩
theorem kV {a b c:World} {r:Option Nat} (h:a.grownBy b r) (k:b.grownBy c r):a.grownBy c r:=
 ⟨k.os.trans h.os,k.tape.trans h.tape,k.output.trans h.output,Nat.le_trans h.size k.size,fun i hi hn=>(k.block i (Nat.lt_of_lt_of_le hi h.size) hn).trans (h.block i hi hn)⟩
theorem yo {a w:World} {b:Nat} (h:a.grownBy w (some b)) (o:Nat) (u:Value):a.grownBy (w.setCell ⟨b,o,none⟩ u) (some b):=
 kV h ⟨rfl,rfl,rfl,by simp [World.setCell],fun k _ hk=>Below.heap_setCell _ _ _ _ (fun e=>hk (by rw [e]))⟩
theorem uL {a w:World} {r:Option Nat} (h:a.grownBy w r) (o:Obj):a.grownBy (w.alloc o) r:=kV h (World.grownBy_alloc w o r)
theorem Rd.drewN {w:World} {b:Nat} {s:ByteArray} {i:Nat} {m:Int} (h:Rd w b s i m) (n:Nat):Rd (w.drewN n) b s i m:=⟨by simpa using h.blk,h.le,h.top,h.lo,h.hi⟩
theorem Rd.lt {w:World} {b:Nat} {s:ByteArray} {i:Nat} {m:Int} (h:Rd w b s i m):b<w.heap.size:=(Array.getElem?_eq_some_iff.1 h.blk).1
theorem aq {w:World} {b o:Nat} {cs:Array Value} {t:TypeId} {z:Nat × Nat} (h:w.heap[b]?=some (.cells cs t z)) (u:Value) :
  (w.setCell ⟨b,o,none⟩ u).heap[b]?=some (.cells (cs.setIfInBounds o u) t z):=by
 simp only [World.setCell,Array.getElem?_modify,if_true,h]
 rfl
theorem Rd.setAt {w:World} {b:Nat} {s:ByteArray} {i:Nat} {m:Int} (h:Rd w b s i m) {j:Nat} (hj:j≤s.size) {v:Int} (hv:v=j):Rd (w.setCell ⟨b,1,none⟩ (.int .i64 v)) b s j m:=by
 subst hv
 refine ⟨?_,hj,h.top,h.lo,h.hi⟩
 rw [aq h.blk]
 rfl
theorem Rd.setMany {w:World} {b:Nat} {s:ByteArray} {i:Nat} {m:Int} (h:Rd w b s i m):Rd (w.setCell ⟨b,2,none⟩ (.int .i64 i)) b s i i:=by
 refine ⟨?_,h.le,h.top,by omega,by have:=h.le;have:=h.top;omega⟩
 rw [aq h.blk]
 rfl
structure At (w w':World) (b:Nat) (s:ByteArray) (j:Nat) (m:Int):Prop where
 rd:Rd w' b s j m
 gb:w.grownBy w' (some b)
set_option maxHeartbeats 400000 in
theorem k9 (w:World) (b:Nat) (s:ByteArray) (i:Nat) (m:Int) (h:Rd w b s i m) :
  Calls Tryz.prog 122 #[.pointer (some ⟨b,0,none⟩)] w fun e w'=>e=.returned (.bool (decide (s.size≤i)))∧∃ n,w'=w.drewN n:=by
 have c0:=h.c0
 have c1:=h.c1
 have oz:=h.le
 have sN:=h.top
 go_enter Tryz.func122,Tryz.ntmps122
 go_wp2
 go_quiet (fail)
 go_wp2
 go_ret
 exact ⟨by simp,⟨_,rfl⟩⟩
set_option maxHeartbeats 400000 in
theorem jd (w:World) (b:Nat) (s:ByteArray) (i:Nat) (m:Int) (h:Rd w b s i m) :
  Calls Tryz.prog 204 #[.pointer (some ⟨b,0,none⟩)] w fun e w'=>e=.returned (.int .u8 (bt s i))∧∃ n,w'=w.drewN n:=by
 have c0:=h.c0
 have c1:=h.c1
 have oz:=h.le
 have sN:=h.top
 have h0:decide ((i:Int)<0)=false:=by simp
 by_cases aN:i<s.size
 ·have hd:decide (s.size≤i)=false:=by simpa using aN
  rw [bq s i aN]
  go_enter Tryz.func204,Tryz.ntmps204
  go_wp2
  go_quiet (fail)
  go_wp2
  go_quiet (fail)
  go_wp2
  go_ret
  exact ⟨by simp,⟨_,World.drewN_drewN _ _ _⟩⟩
 ·rw [qt s i (by omega)]
  have hd:s.size≤i:=by omega
  go_enter Tryz.func204,Tryz.ntmps204
  go_wp2
  go_quiet (fail)
  go_wp2
  go_ret
  exact ⟨by simp,⟨_,rfl⟩⟩
end Go.Proofs.YtblfffbmklkhmaaGreat
namespace Go.Proofs.YtblfffbmklkhmaaGreat
open Go.RowKit
set_option maxHeartbeats 400000 in
theorem pK (w:World) (b:Nat) (s:ByteArray) (i:Nat) (m:Int) (h:Rd w b s i m) :
  Calls Tryz.prog 123 #[.pointer (some ⟨b,0,none⟩)] w fun e w'=>e=.returned (.tuple #[])∧At w w' b s i (j9 m i):=by
 have c1:=h.c1
 have c2:=h.c2
 have f2:=h.fr 2
 by_cases hm:m=-1
 ·subst hm
  have hd:((-1:Int)==-1)=true:=rfl
  go_enter Tryz.func123,Tryz.ntmps123
  go_wp2
  go_end0
  exact ⟨rfl,by simpa [j9] using h.setMany,yo (gV _ _) _ _⟩
 ·have hd:(m==-1)=false:=by simp [hm]
  go_enter Tryz.func123,Tryz.ntmps123
  go_wp2
  go_end0
  exact ⟨rfl,by simpa [j9,hm] using h,gV _ _⟩
set_option maxHeartbeats 400000 in
theorem eX (w:World) (b:Nat) (s:ByteArray) (i:Nat) (m:Int) (lo hi:Int) (h:Rd w b s i m) (PK:1≤lo) :
  Calls Tryz.prog 191 #[.pointer (some ⟨b,0,none⟩),.int .u8 lo,.int .u8 hi] w fun e w'=>
   (e=.returned (.tuple #[.int .u8 (bt s i),.bool true])∧At w w' b s (i+1) m∧Hid (lo≤(bt s i:Int)∧(bt s i:Int)≤hi∧i<s.size))∨
    (e=.returned (.tuple #[.int .u8 0,.bool false])∧At w w' b s i m∧Hid (¬ (lo≤(bt s i:Int)∧(bt s i:Int)≤hi))):=by
 have c1:=h.c1
 have f1:=h.fr 1
 have oz:=h.le
 have sN:=h.top
 have hb:=xH s i
 by_cases aN:i<s.size
 ·have hd:decide (s.size≤i)=false:=by simpa using aN
  by_cases h1:lo≤(bt s i:Int)
  ·by_cases h2:(bt s i:Int)≤hi
   ·go_enter Tryz.func191,Tryz.ntmps191
    go_wp2_with fail
    refine (k9 _ b s i m (by exact h)).mono ?_
    rintro e w1 ⟨rfl,n1,rfl⟩
    go_wp2_with fail
    refine (jd _ b s i m (by exact h.drewN _)).mono ?_
    rintro e w2 ⟨rfl,n2,rfl⟩
    go_wp2_with fail
    go_ret2
    exact Or.inl ⟨rfl,⟨(by first | exact ((h.drewN _).drewN _).setAt (by omega) (by omega) | exact (h.drewN _).setAt (by omega) (by omega)),yo (by first | exact fJ (fJ (gV _ _) _) _ | exact fJ (gV _ _) _) _ _⟩,⟨h1,h2,aN⟩⟩
   ·go_enter Tryz.func191,Tryz.ntmps191
    go_wp2_with fail
    refine (k9 _ b s i m (by exact h)).mono ?_
    rintro e w1 ⟨rfl,n1,rfl⟩
    go_wp2_with fail
    refine (jd _ b s i m (by exact h.drewN _)).mono ?_
    rintro e w2 ⟨rfl,n2,rfl⟩
    go_wp2_with fail
    go_ret2
    exact Or.inr ⟨rfl,⟨(by first | exact ((h.drewN _).drewN _) | exact (h.drewN _)),(by first | exact fJ (fJ (gV _ _) _) _ | exact fJ (gV _ _) _)⟩,(by unfold Hid;omega)⟩
  ·go_enter Tryz.func191,Tryz.ntmps191
   go_wp2_with fail
   refine (k9 _ b s i m (by exact h)).mono ?_
   rintro e w1 ⟨rfl,n1,rfl⟩
   go_wp2_with fail
   refine (jd _ b s i m (by exact h.drewN _)).mono ?_
   rintro e w2 ⟨rfl,n2,rfl⟩
   go_wp2_with fail
   go_ret2
   exact Or.inr ⟨rfl,⟨(by first | exact ((h.drewN _).drewN _) | exact (h.drewN _)),(by first | exact fJ (fJ (gV _ _) _) _ | exact fJ (gV _ _) _)⟩,(by unfold Hid;omega)⟩
 ·have hd:s.size≤i:=by omega
  have h0:=qt s i hd
  have Ww:¬ (lo≤(bt s i:Int)∧(bt s i:Int)≤hi):=by omega
  clear h0
  go_enter Tryz.func191,Tryz.ntmps191
  go_wp2_with fail
  refine (k9 _ b s i m (by exact h)).mono ?_
  rintro e w1 ⟨rfl,n1,rfl⟩
  go_wp2_with fail
  go_ret2
  exact Or.inr ⟨rfl,⟨h.drewN _,fJ (gV _ _) _⟩,Ww⟩
end Go.Proofs.YtblfffbmklkhmaaGreat
