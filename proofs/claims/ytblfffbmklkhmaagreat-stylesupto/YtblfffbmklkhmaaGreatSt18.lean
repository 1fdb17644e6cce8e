import Derived.Test.YtblfffbmklkhmaaGreatSt17
import Derived.Test.YtblfffbmklkhmaaGreatSt15
namespace Go.Proofs.YtblfffbmklkhmaaGreat
open Go.RowKit
def JK (w:World) (s:ByteArray) (e:Ending) (w':World):Prop:=∃ c:Int,e=.returned (.tuple #[.int .u8 c,.bool (ax s)])∧Drew w w'∧(ax s=true→c=bt s 0)∧(s.size=0→c=0)
set_option maxHeartbeats 2000000 in
theorem pG (w:World) (s:ByteArray):Calls Tryz.prog 73 #[.string s] w fun e w'=>JK w s e w':=by
 by_cases h1:s.size=1
 ·have g1:((s.size:Int) != 1)=false:=by simp [h1]
  have h0:0<s.size:=by omega
  have hb:(bt s 0:Int)=(s[0].toNat:Int):=by rw [bq s 0 h0]
  have MO:Hid ((s[0].toNat:Int)=bt s 0):=hb.symm
  by_cases h2:(97:Int)≤bt s 0
  ·by_cases h3:(bt s 0:Int)≤122
   ·have HR:Hid (ax s=true):=by unfold Hid ax fl;simp only [h1,decide_true,Bool.true_and,decide_eq_true_eq];omega
    rw [hb] at h2 h3
    have iL:decide ((97:Int)≤(s[0].toNat:Int))=true:=by simpa using h2
    have Bi:decide ((s[0].toNat:Int)≤122)=true:=by simpa using h3
    clear hb h1
    go_enter Tryz.func73,Tryz.ntmps73
    go_upto_region 3 with fail
    go_quiet (fail)
    go_wp2
    go_ret2
    unfold JK
    rw [HR.out]
    exact ⟨_,rfl,⟨_,rfl⟩,fun _=>MO.out,fun h=>by omega⟩
   ·have HR:Hid (ax s=false):=by unfold Hid ax fl;simp only [h1,decide_true,Bool.true_and,decide_eq_false_iff_not];omega
    rw [hb] at h2 h3
    have iL:decide ((97:Int)≤(s[0].toNat:Int))=true:=by simpa using h2
    have Bi:decide ((s[0].toNat:Int)≤122)=false:=by simpa using h3
    clear hb h1
    go_enter Tryz.func73,Tryz.ntmps73
    go_upto_region 3 with fail
    go_quiet (fail)
    go_wp2
    go_ret2
    unfold JK
    rw [HR.out]
    exact ⟨_,rfl,⟨_,rfl⟩,fun _=>MO.out,fun h=>by omega⟩
  ·have HR:Hid (ax s=false):=by unfold Hid ax fl;simp only [h1,decide_true,Bool.true_and,decide_eq_false_iff_not];omega
   rw [hb] at h2
   have iL:decide ((97:Int)≤(s[0].toNat:Int))=false:=by simpa using h2
   clear hb h1
   go_enter Tryz.func73,Tryz.ntmps73
   go_upto_region 3 with fail
   go_quiet (fail)
   go_wp2
   go_ret2
   unfold JK
   rw [HR.out]
   exact ⟨_,rfl,⟨_,rfl⟩,fun _=>MO.out,fun h=>by omega⟩
 ·have g1:((s.size:Int) != 1)=true:=by rw [bne_iff_ne];omega
  have HR:Hid (ax s=false):=by unfold Hid ax;simp only [h1,decide_false,Bool.false_and]
  clear h1
  go_enter Tryz.func73,Tryz.ntmps73
  go_wp2
  go_ret2
  unfold JK
  rw [HR.out]
  exact ⟨0,rfl,⟨0,rfl⟩,fun h=>(by cases h),fun _=>rfl⟩
abbrev dF (c:Int):List Value:=[.int .u8 c,.bool false,.bool false,.bool false,.bool false,.bool false,.bool false,.bool false,.bool false,.bool false,.bool false,.bool false,.bool false,.bool false,.bool false,.bool false,.bool false,.bool false,.bool false,.bool false,.bool false,.bool false,.bool false,.bool false,.bool false,.bool false,.bool false,.int .u8 0,.bool false]
theorem CL (c:Int):dF c=.int .u8 c :: (List.replicate 26 (Value.bool false)++[.int .u8 0,.bool false]):=rfl
theorem rO (c:Int) {i:Nat} (hi:i<26):(dF c)[1+i]?=some (.bool false):=by
 rw [CL,Nat.add_comm,List.getElem?_cons_succ,List.getElem?_append_left (by simpa using hi),List.getElem?_replicate,if_pos hi]
theorem Ly (n:Nat) (p c:Int):PEl.ok ⟨n,p,dF c⟩:=by
 refine ⟨rfl,fun u hu=>?_⟩
 simp only [List.mem_cons,List.not_mem_nil,or_false] at hu
 rcases hu with rfl | hu
 ·rfl
 ·have:u=.bool false∨u=.int .u8 0∨u=.bool false:=by simpa using hu
  rcases this with rfl | rfl | rfl<;>rfl
theorem Fl (n:Nat) (p c:Int):Shp ⟨n,p,dF c⟩:=⟨⟨c,rfl⟩,fun _ hi=>⟨false,rO c hi⟩,⟨0,rfl⟩,⟨false,rfl⟩⟩
theorem Ko (n:Nat) (p:Int) {c:Int} {kind:ByteArray} (hc:c=bt kind 0):je ⟨n,p,dF c⟩=(dK kind).kd∧(∀ i,i<26→dT ⟨n,p,dF c⟩ i=(dK kind).cl i)∧iA ⟨n,p,dF c⟩=(dK kind).nm:=by
 refine ⟨hc,fun i hi=>?_,rfl⟩
 unfold dT
 show (match (dF c)[1+i]? with | some (.bool b)=>b | _=>false)=_
 rw [rO c hi]
 rfl
abbrev mb (vS:Value × Value) (v:Value) (made:Nat):Obj:=.cells #[vS.1,v,.int .i64 made,vS.2] 90 (0,0)
structure PB3 (w:World) (b:Nat) (vS:Value × Value) (v:Value) (els:List PEl) (T:aA) (made:Nat):Prop where
 doc:w.heap[b]?=some (mb vS v made)
 pl:PL w v els
 pt:PT els T
 few:els.length≤24
theorem PB3.c1 {w:World} {b:Nat} {vS:Value × Value} {v:Value} {els:List PEl} {T:aA} {made:Nat} (h:PB3 w b vS v els T made):w.cell? ⟨b,1,none⟩=some v:=aa h.doc rfl
theorem PB3.c2 {w:World} {b:Nat} {vS:Value × Value} {v:Value} {els:List PEl} {T:aA} {made:Nat} (h:PB3 w b vS v els T made):w.cell? ⟨b,2,none⟩=some (.int .i64 made):=aa h.doc rfl
theorem PB3.below {w w':World} {b:Nat} {vS:Value × Value} {v:Value} {els:List PEl} {T:aA} {made:Nat} (h:PB3 w b vS v els T made) (hB:Below w.heap.size w w'):PB3 w' b vS v els T made:=
 ⟨(hB.block b (Array.getElem?_eq_some_iff.1 h.doc).1).trans h.doc,⟨aQ h.pl.row hB,h.pl.ok⟩,h.pt,h.few⟩
theorem PB3.set {w w':World} {b:Nat} {vS:Value × Value} {v:Value} {els:List PEl} {T:aA} {made:Nat} (h:PB3 w b vS v els T made) (hB:Below w.heap.size w w') {v':Value} {bm:List PEl} {T':aA} {ae:Nat} (ho:w'.ownsRow ae 134 31 v' bm.length (fh bm)) (oE:∀ e∈bm,e.ok) (ht:PT bm T') (hf:bm.length≤24):PB3 (w'.setCell ⟨b,1,none⟩ v') b vS v' bm T' made:=by
 have Y6:w'.heap[b]?=some (mb vS v made):=(hB.block b (Array.getElem?_eq_some_iff.1 h.doc).1).trans h.doc
 refine ⟨?_,⟨aX (aG ho (Nat.zero_le _)) (aj ho Y6 (by decide)) _,oE⟩,ht,hf⟩
 rw [aq Y6];rfl
theorem PB3.count {w:World} {b:Nat} {vS:Value × Value} {v:Value} {els:List PEl} {T:aA} {made:Nat} (h:PB3 w b vS v els T made):PB3 (w.setCell ⟨b,2,none⟩ (.int .i64 ((made:Int)+1))) b vS v els T (made+1):=by
 refine ⟨?_,⟨aX h.pl.row (aj h.pl.row h.doc (by decide)) _,h.pl.ok⟩,h.pt,h.few⟩
 rw [aq h.doc];rfl
def ut (w:World) (b:Nat) (vS:Value × Value) (v:Value) (els:List PEl) (T:aA) (made:Nat) (par at':Int) (kind:ByteArray) (e:Ending) (w':World):Prop:=
 ∃ y T' made' n v' bm,e=.returned (.tuple #[.int .i64 n,.int .i64 y])∧TIns T made par at' kind y T' made' n∧PB3 w' b vS v' bm T' made'∧Fr w w' (fun k=>k=b)∧(∀ j,v'.ownBlock=some j→v.ownBlock=some j∨w.heap.size≤j)∧∀ M,MkO els M→MkO bm (if y=0 then bQ M made (dK kind) else M)
theorem Jm {T:aA} {par at':Int} {kind:ByteArray} (h:bn T par=none):iD T par at' kind=5:=by unfold iD;rw [h]
theorem E3 {els:List PEl} (h:∀ e∈els,e.ok) {x:PEl} (hx:x.ok) (place:Nat):∀ e∈cY els place x,e.ok:=fun e he=>(eD.1 he).elim (fun h1=>h1▸hx) (h e)
theorem zN (els:List PEl) (place:Nat) (x:PEl):(cY els place x).length=els.length+1:=by
 unfold cY
 simp
 omega
set_option maxRecDepth 100000 in
set_option maxHeartbeats 4000000 in
theorem LB (w:World) (b:Nat) (vS:Value × Value) (v:Value) (els:List PEl) (T:aA) (made:Nat) (par at':Int) (kind:ByteArray) (h:PB3 w b vS v els T made) (hw:TW T made) (lz:made≤4611686018427387904) :
  Calls Tryz.prog 65 #[.pointer (some ⟨b,1,none⟩),.int .i64 par,.int .i64 at',.string kind] w fun e w'=>ut w b vS v els T made par at' kind e w':=by
 have HB:Hid (PB3 w b vS v els T made):=h
 have HW:Hid (TW T made):=hw
 have bw:=h.few
 have hTl:els.length=T.length:=h.pt.len hw
 have HTL:Hid (els.length=T.length):=hTl
 clear h hw hTl
 have lY:Hid (∀ (y:Int) (w':World),Below w.heap.size w w'→y≠0→iD T par at' kind=y→ut w b vS v els T made par at' kind (.returned (.tuple #[.int .i64 0,.int .i64 y])) w'):=fun y w' hb hy he=>
  ⟨y,T,made,0,v,els,rfl,⟨he.symm,Or.inl ⟨hy,rfl,rfl,rfl⟩⟩,HB.out.below hb,(Fr.refl w _).below hb,fun j hj=>Or.inl hj,fun M hM=>by rw [if_neg hy];exact hM⟩
 go_enter Tryz.func65,Tryz.ntmps65
 go_wp2_with fail
 refine (dq w b v els par HB.out.c1 HB.out.pl bw).mono ?_
 rintro e w1 ⟨cF,⟨hf,rfl⟩ | ⟨ip,xp,_,hf,rfl⟩⟩
 ·have HE:=lY.out 5 w1 cF (by decide) (Jm (HB.out.pt.find_none hf))
  clear hf
  go_wp2
  go_ret2
  exact HE
 ·obtain ⟨Jz,KP,eg⟩:=HB.out.pt.find_some HW.out hf
  have HT:Hid (bn T par=some (az els par)∧(xp.num,az els par)∈T∧par=xp.num):=⟨Jz,KP,eg⟩
  clear hf Jz KP eg
  have oj:=(HB.out.below cF).c1
  go_wp2_with fail
  refine (sW w1 v els par at' (HB.out.below cF).pl bw).mono ?_
  rintro e w2 ⟨dp,⟨place,rfl,kL,om⟩ | ⟨n,rfl,jE⟩⟩
  ·have To:Below w.heap.size w w2:=cF.trans (dp.mono cF.size)
   have HK:Hid (((az (els.take place) par).length:Int)=at'):=om
   clear cF dp oj om
   go_wp2_with fail
   refine (pG w2 kind).mono ?_
   rintro e w3 ⟨c,rfl,o9,zo,_⟩
   have ZF:Hid (ax kind=true→c=bt kind 0):=zo
   clear zo
   have eS:Below w.heap.size w w3:=To.trans (o9.below.mono To.size)
   clear To o9
   have y9:Hid (¬ (at'<0∨((az els par).length:Int)<at')):=by
    have h1:=HK.out
    have h2:(az (els.take place) par).length≤(az els par).length:=by
     have h3:az els par=az (els.take place) par++az (els.drop place) par:=by rw [←dV,List.take_append_drop]
     rw [h3,List.length_append]
     omega
    intro h3
    omega
   cases hl:ax kind with
   | false=>
    have HE:=lY.out 4 w3 eS (by decide) (by unfold iD;rw [HT.out.1];show (if _ then _ else _)=_;rw [if_neg y9.out,if_pos hl])
    clear hl
    go_wp2
    go_ret2
    exact HE
   | true=>
    have oj:=(HB.out.below eS).c1
    have yI:=(HB.out.below eS).c2
    obtain ⟨av,cv,KN⟩:=HB.out.pl.shape
    subst KN
    by_cases NG:24≤els.length
    ·have g24:decide ((24:Int)≤(els.length:Int))=true:=by simp;omega
     have HE:=lY.out 9 w3 eS (by decide) (by unfold iD;rw [HT.out.1];show (if _ then _ else _)=_;rw [if_neg y9.out,if_neg (by rw [hl];decide),if_pos (by rw [←HTL.out];exact NG)])
     clear hl NG
     go_wp2
     go_ret2
     exact HE
    ·have g24:decide ((24:Int)≤(els.length:Int))=false:=by simp;omega
     have Ph:Hid (iD T par at' kind=0):=by unfold Hid iD;rw [HT.out.1];show (if _ then _ else _)=_;rw [if_neg y9.out,if_neg (by rw [hl];decide),if_neg (by rw [←HTL.out];exact NG)]
     have H24:Hid (els.length<24):=by unfold Hid;omega
     have MZ:Hid (∀ M,MkO els M→MkO (cY els place ⟨made,par,dF c⟩) (bQ M made (dK kind))):=fun M hM=>hM.more (x:=⟨made,par,dF c⟩) place (Fl _ _ _) (Ko _ _ (ZF.out hl)) (fun e he=>by
      obtain ⟨l,Si⟩:=HB.out.pt.to' e he
      have:e.num<made:=HW.out.lt _ Si
      show e.num≠made
      omega)
     have ez:∀ k,w3.frozen? ⟨b,k,none⟩=false:=fun _=>ag (HB.out.below eS).doc
     have AJ:Hid (PB3 (w3.setCell ⟨b,2,none⟩ (.int .i64 ((made:Int)+1))) b vS (.slice av els.length cv) els T (made+1)):=(HB.out.below eS).count
     clear hl NG
     go_upto_region 14 with fail
     have Tw:Hid (Fr w (w3.setCell ⟨b,2,none⟩ (.int .i64 ((made:Int)+1))) (fun k=>k=b)):=((Fr.refl w (fun k=>k=b)).below eS).set (p:=⟨b,2,none⟩) (Or.inl rfl) _
     obtain ⟨W4,Ac⟩:∃ W4,W4=w3.setCell ⟨b,2,none⟩ (.int .i64 ((made:Int)+1)):=⟨_,rfl⟩
     rw [←Ac] at AJ Tw ⊢
     clear Ac oj yI ez eS
     have oj:=AJ.out.c1
     go_wp2_with fail
     have RU:Hid (PEl.ok ⟨made,par,dF c⟩):=Ly _ _ _
     refine (xS W4 _ els place ⟨made,par,dF c⟩ AJ.out.pl RU.out kL bw).mono ?_
     generalize dF c=rst at RU MZ
     rintro e w5 ⟨a5,c5,rfl,cX,ww⟩
     have XH:Hid (PT (cY els place ⟨made,par,rst⟩) (jG T xp.num (az (els.take place) par).length made)):=by
      have hp:=HT.out.2.2
      have:=HB.out.pt.ins HW.out (p:=xp.num) (k:=(az (els.take place) par).length) (place:=place) ⟨_,HT.out.2.1⟩ rst (by rw [hp])
      rw [←hp] at this
      exact this
     have vO:Hid (PB3 (w5.setCell ⟨b,1,none⟩ (.slice a5 (cY els place ⟨made,par,rst⟩).length c5)) b vS (.slice a5 (cY els place ⟨made,par,rst⟩).length c5) (cY els place ⟨made,par,rst⟩) (jG T xp.num (az (els.take place) par).length made) (made+1)):=
      AJ.out.set ww cX (E3 AJ.out.pl.ok RU.out place) XH.out (by rw [zN];have:=H24.out;omega)
     have e1:w5.cell? ⟨b,1,none⟩=some (.slice av els.length cv):=(AJ.out.below ww).c1
     have ez:∀ k,w5.frozen? ⟨b,k,none⟩=false:=fun _=>ag (AJ.out.below ww).doc
     have HE:Hid (ut w b vS (.slice av els.length cv) els T made par at' kind (.returned (.tuple #[.int .i64 made,.int .i64 0])) (w5.setCell ⟨b,1,none⟩ (.slice a5 (cY els place ⟨made,par,rst⟩).length c5))):=by
      refine ⟨0,_,made+1,made,_,_,rfl,⟨Ph.out.symm,Or.inr ⟨rfl,rfl,rfl,xp.num,(az (els.take place) par).length,HT.out.2.2,HK.out.symm,⟨_,HT.out.2.1,?_⟩,rfl⟩⟩,vO.out,(Tw.out.below ww).set (p:=⟨b,1,none⟩) (Or.inl rfl) _,fun j hj=>Or.inr ?_,fun M hM=>by rw [if_pos rfl];exact MZ.out M hM⟩
      ·have h3:az els par=az (els.take place) par++az (els.drop place) par:=by rw [←dV,List.take_append_drop]
       rw [h3,List.length_append]
       omega
      ·have:=(cX.lt j hj).1
       have:=Tw.out.size
       omega
     clear cX ww oj
     generalize (cY els place ⟨made,par,rst⟩).length=n5 at HE vO ⊢
     go_wp2
     go_ret2
     exact HE.out
  ·have HE:=lY.out 8 w2 (cF.trans (dp.mono cF.size)) (by decide) (by unfold iD;rw [HT.out.1];show (if _ then _ else _)=_;rw [if_pos jE])
   clear jE cF dp oj
   go_wp2
   go_ret2
   exact HE
end Go.Proofs.YtblfffbmklkhmaaGreat
namespace Go.Proofs.YtblfffbmklkhmaaGreat
open Go.RowKit
theorem qG {els:List PEl} {T:aA} {made:Nat} (h:PT els T) (hw:TW T made) {x:PEl} (hx:x∈els) {a:Int} (ha:0≤a):(∃ k,k<els.length∧upP els k x.num=a)↔dR T a x.num:=by
 obtain ⟨l,hl⟩:=h.to' x hx
 rw [hw.short ha ⟨l,hl⟩,h.len hw]
 constructor
 ·rintro ⟨k,h1,h2⟩
  exact ⟨k,h1,by rw [←h.upP hw];exact h2⟩
 ·rintro ⟨k,h1,h2⟩
  exact ⟨k,h1,by rw [h.upP hw];exact h2⟩
noncomputable def kK (T:aA) (a:Int) (els:List PEl):List PEl:=els.filter fun e=>!bI T a e.num
theorem KR {els:List PEl} {i:Nat} (T:aA) (a:Int) (h:i<els.length):kK T a (els.take (i+1))=if bI T a els[i].num=true then kK T a (els.take i) else kK T a (els.take i)++[els[i]]:=by
 unfold kK
 rw [List.take_succ_eq_append_getElem h,List.filter_append]
 cases hu:bI T a els[i].num<;>simp [hu]
theorem Oi (T:aA) (a:Int) (els:List PEl):(kK T a els).length≤els.length:=List.length_filter_le _ _
theorem TW.par_neg {T:aA} {made:Nat} (h:TW T made) {a:Nat} {l:List Nat} (ha:(a,l)∈T):aU T a<0↔a=0:=by
 constructor
 ·intro h1
  by_cases h0:a=0
  ·exact h0
  ·obtain ⟨q,_,_,hq⟩:=h.up ha h0
   omega
 ·rintro rfl
  have:=h.root_par
  show aU T ((0:Nat):Int)<0
  have e:aU T ((0:Nat):Int)=aU T 0:=rfl
  omega
def sL (w:World) (b:Nat) (vS:Value × Value) (v:Value) (els:List PEl) (T:aA) (made:Nat) (n:Int) (e:Ending) (w':World):Prop:=
 ∃ y T' v' bm,e=.returned (.int .i64 y)∧TRem T n y T'∧PB3 w' b vS v' bm T' made∧Fr w w' (fun k=>k=b)∧(∀ j,v'.ownBlock=some j→v.ownBlock=some j∨w.heap.size≤j)∧∀ M,MkO els M→MkO bm M
set_option maxRecDepth 100000 in
set_option maxHeartbeats 4000000 in
theorem JE (w:World) (b:Nat) (vS:Value × Value) (v:Value) (els:List PEl) (T:aA) (made:Nat) (n:Int) (h:PB3 w b vS v els T made) (hw:TW T made) :
  Calls Tryz.prog 155 #[.pointer (some ⟨b,1,none⟩),.int .i64 n] w fun e w'=>sL w b vS v els T made n e w':=by
 obtain ⟨i0,z0,hi,iz,is,ib,G6⟩:=Tryz.infoE
 have HB:Hid (PB3 w b vS v els T made):=h
 have HW:Hid (TW T made):=hw
 have bw:=h.few
 clear h hw
 have lY:Hid (∀ (y:Int) (w':World),Below w.heap.size w w'→y≠0→jD T n=y→sL w b vS v els T made n (.returned (.int .i64 y)) w'):=fun y w' hb hy he=>
  ⟨y,T,v,els,rfl,⟨he.symm,Or.inl ⟨hy,rfl⟩⟩,HB.out.below hb,(Fr.refl w _).below hb,fun j hj=>Or.inl hj,fun M hM=>hM⟩
 go_enter Tryz.func155,Tryz.ntmps155
 go_wp2_with fail
 refine (dq w b v els n HB.out.c1 HB.out.pl bw).mono ?_
 rintro e w1 ⟨cF,⟨hf,rfl⟩ | ⟨ip,xp,_,hf,rfl⟩⟩
 ·have HE:=lY.out 5 w1 cF (by decide) (by unfold jD;rw [HB.out.pt.find_none hf])
  clear hf
  go_wp2
  go_ret
  exact HE
 ·obtain ⟨Jz,KP,eg⟩:=HB.out.pt.find_some HW.out hf
  have HT:Hid (bn T n=some (az els n)∧(xp.num,az els n)∈T∧n=xp.num):=⟨Jz,KP,eg⟩
  clear hf Jz KP eg
  by_cases h0:n=0
  ·have g0:(n==0)=true:=by simp [h0]
   have HE:=lY.out 6 w1 cF (by decide) (by
    unfold jD
    rw [HT.out.1]
    show (if _ then _ else _)=_
    have h1:=HT.out.2.2
    rw [if_pos (by rw [h1];exact (HW.out.par_neg HT.out.2.1).2 (by omega))])
   clear h0
   go_wp2
   go_ret
   exact HE
  ·have g0:(n==0)=false:=by simp [h0]
   have H0:Hid (xp.num≠0):=by have h1:=HT.out.2.2;unfold Hid;omega
   have Ph:Hid (jD T n=0):=by
    unfold Hid jD
    rw [HT.out.1]
    show (if _ then _ else _)=_
    have h1:=HT.out.2.2
    rw [if_neg (by rw [h1];exact fun hx=>H0.out ((HW.out.par_neg HT.out.2.1).1 hx))]
   clear h0
   have ed:Hid (PB3 w1 b vS v els T made):=HB.out.below cF
   have A2:Hid (Below w.heap.size w w1):=cF
   have oj:=ed.out.c1
   have jI:b<w1.heap.size:=(Array.getElem?_eq_some_iff.1 ed.out.doc).1
   obtain ⟨a,c,hv⟩:=HB.out.pl.shape
   subst hv
   have ES:Hid (WI w1.heap.size w1 w1 (.slice none 0 0) (kK T n (els.take 0))):=⟨World.ownsRow_nil _ _ _ _,Below.refl _ _⟩
   clear cF
   go_wp2_with fail
   go_loopg [7,25] els.length (fun gk v iv wr=>∃ i:Nat,iv=.int .i64 i∧i≤els.length∧els.length - i≤gk∧Hid (WI w1.heap.size w1 wr v (kK T n (els.take i))))
   case atStart=>exact ⟨0,rfl,Nat.zero_le _,by omega,ES⟩
   case round=>
    obtain ⟨i,rfl,jC,fK,HN⟩:=hrel
    obtain ⟨a2,c2,jr⟩:=au HN.out.own
    subst jr
    have EA:(kK T n (els.take i)).length≤24:=by
     have h1:=Oi T n (els.take i)
     have h2:(els.take i).length≤els.length:=List.length_take_le' _ _
     omega
    have iS:=HN.out.below.size
    by_cases aN:i<els.length
    ·have hd:decide ((i:Int)<(els.length:Int))=true:=by simp;omega
     obtain ⟨g,hg,db,he⟩:=ed.out.pl.el aN
     subst hg
     have HE:Hid (ElAt wr g (i*31) els[i].cells els[i].num els[i].par):=he.below HN.out.below db
     have gA:Hid (kK T n (els.take (i+1))=if bI T n els[i].num=true then kK T n (els.take i) else kK T n (els.take i)++[els[i]]):=KR T n aN
     have Xw:Hid ((∃ k,k<els.length∧upP els k els[i].num=n)↔bI T n els[i].num=true):=by
      unfold Hid
      rw [bE]
      exact qG HB.out.pt HW.out (List.getElem_mem aN) (a:=n) (by have:=HT.out.2.2;omega)
     clear he
     generalize els[i]=y at HE gA Xw
     obtain ⟨cs,jy⟩:∃ cs,y.cells=cs:=⟨_,rfl⟩
     have PO:Hid (y.cells=cs):=jy
     rw [jy] at HE
     clear jy
     have c0:cs[0]?=some (.int .i64 y.num):=HE.out.c0
     generalize kK T n (els.take i)=L at HN gA EA ⊢
     have jo:Hid (ElAt (wr.alloc (.cells cs.toArray 134)) wr.heap.size 0 cs y.num y.par):=HE.out.new wr
     have ea:Hid (PB3 (wr.alloc (.cells cs.toArray 134)) b vS (.slice (some ⟨g,0,none⟩) els.length c) els T made):=ed.out.below (HN.out.below.alloc iS _)
     go_wp2_with (first | (refine wpList_load_mid rfl 134 _ rfl g (i*31) rfl cs _ HE.out.rng Tryz.underlying134 rfl HE.out.size ?_) | (refine aw rfl 134 _ _ rfl _ cs.toArray 134 rfl rfl HE.out.size' HE.out.same HE.out.all ?_))
     refine (nC (wr.alloc (.cells cs.toArray 134)) b _ els y.num n ea.out.c1 ea.out.pl bw).mono ?_
     rintro e w3 ⟨eS,r,rfl,hr⟩
     have EK:wr.heap.size+1≤w3.heap.size:=by have:=eS.size;simpa using this
     have ji:Hid (Below (wr.heap.size+1) (wr.alloc (.cells cs.toArray 134)) w3):=by simpa [Hid] using eS
     have nR:Hid (WI w1.heap.size w1 w3 (.slice a2 L.length c2) L):=⟨aQ (HN.out.own.alloc _) eS,(HN.out.below.alloc iS _).trans (eS.mono (by simp;omega))⟩
     have iB:Hid (ElAt w3 wr.heap.size 0 cs y.num y.par):=jo.out.below ji.out (by omega)
     have HR:Hid (r=true↔bI T n y.num=true):=hr.trans Xw.out
     clear eS hr HN jo HE ji ea c0
     cases r with
     | true=>
      have vk:Hid (WI w1.heap.size w1 w3 (.slice a2 L.length c2) (kK T n (els.take (i+1)))):=by
       rw [gA.out,if_pos (HR.out.1 rfl)]
       exact nR.out
      clear gA HR
      go_wp2
      go_roundg (els.length - (i+1))
      case measure=>omega
      case rel=>exact ⟨i+1,by go_num,by omega,Nat.le_refl _,vk⟩
     | false=>
      have fD:Hid (kK T n (els.take (i+1))=L++[y]):=by
       unfold Hid
       rw [gA.out,if_neg (fun hx=>by have:=HR.out.2 hx;cases this)]
      clear gA HR
      go_wp2_with (first | (refine wpList_load_mid rfl 134 _ rfl (wr.heap.size) (0) rfl cs _ iB.out.rng Tryz.underlying134 rfl iB.out.size ?_) | (refine bW w3.heap.size rfl rfl 83 134 _ rfl cs.toArray rfl i0 z0 Tryz.underlying83 hi iz (iB.out.info is) (iB.out.pos) (iB.out.small) ?_) | (at_builtin;refine wpList_append_own _ rfl (.tmp 35) (.tmp 37) 83 rfl (w1.heap.size) 134 i0 z0 31 48 Tryz.underlying83 hi iz is ib G6 (by decide) _ _ _ rfl (nR.out.own.alloc _) ⟨w3.heap.size,0,none⟩ 1 1 cs rfl iB.out.len1 ?c1 iB.out.one ?c3 ?c4 ?c5 ?_))
      case c1=>exact aO w3 _ rfl _ _ _ (by simp)
      case c3=>unfold maxLen;omega
      case c4=>omega
      case c5=>simp;omega
      intro v5 w5 cX kG _
      have vk:Hid (WI w1.heap.size w1 w5 v5 (kK T n (els.take (i+1)))):=by
       rw [fD.out]
       exact nR.out.app (nR.out.below.alloc (by omega) _) (by simp;omega) kG (by rw [PO.out];exact cX)
      clear cX kG nR iB
      go_wp2
      go_roundg (els.length - (i+1))
      case measure=>omega
      case rel=>exact ⟨i+1,by go_num,by omega,Nat.le_refl _,vk⟩
    ·have hd:decide ((i:Int)<(els.length:Int))=false:=by simp;omega
     obtain rfl:i=els.length:=by omega
     rw [List.take_length] at HN EA ⊢
     have XH:Hid (PT (kK T n els) (oR T xp.num)):=by
      have h1:=HT.out.2.2
      have:=HB.out.pt.rem HW.out HT.out.2.1 H0.out
      rw [←h1] at this
      exact this
     have vO:Hid (PB3 (wr.setCell ⟨b,1,none⟩ (.slice a2 (kK T n els).length c2)) b vS (.slice a2 (kK T n els).length c2) (kK T n els) (oR T xp.num) made):=
      ed.out.set HN.out.below HN.out.own (fun e he=>HB.out.pl.ok e (List.mem_filter.1 he).1) XH.out EA
     have e1:wr.cell? ⟨b,1,none⟩=some (.slice a els.length c):=(ed.out.below HN.out.below).c1
     have ez:∀ k,wr.frozen? ⟨b,k,none⟩=false:=fun _=>ag (ed.out.below HN.out.below).doc
     have HE:Hid (sL w b vS (.slice a els.length c) els T made n (.returned (.int .i64 0)) (wr.setCell ⟨b,1,none⟩ (.slice a2 (kK T n els).length c2))):=by
      refine ⟨0,_,_,_,rfl,⟨Ph.out.symm,Or.inr ⟨rfl,xp.num,HT.out.2.2,H0.out,⟨_,HT.out.2.1⟩,rfl⟩⟩,vO.out,?_,fun j hj=>Or.inr ?_,fun M hM=>hM.sub (fun x hx=>(List.mem_filter.1 hx).1)⟩
      ·exact (((Fr.refl w (fun k=>k=b)).below A2.out).below HN.out.below).set (p:=⟨b,1,none⟩) (Or.inl rfl) _
      ·have:=(HN.out.own.lt j hj).1
       have:=A2.out.size
       omega
     clear oj
     generalize (kK T n els).length=n5 at HE vO EA ⊢
     go_wp2
     go_ret
     exact HE.out
end Go.Proofs.YtblfffbmklkhmaaGreat
namespace Go.Proofs.YtblfffbmklkhmaaGreat
open Go.RowKit
def tm (w:World) (b:Nat) (vS:Value × Value) (v:Value) (els:List PEl) (T:aA) (made:Nat) (n m at':Int) (e:Ending) (w':World):Prop:=
 ∃ y T' v' bm,e=.returned (.int .i64 y)∧TMov T n m at' y T'∧PB3 w' b vS v' bm T' made∧Fr w w' (fun k=>k=b)∧(∀ j,v'.ownBlock=some j→v.ownBlock=some j∨w.heap.size≤j)∧∀ M,MkO els M→MkO bm M
theorem AM {T:aA} {n m at':Int} (h:bn T n=none∨bn T m=none):gU T n m at'=5:=by
 unfold gU
 rcases h with h | h
 ·rw [h]
 ·rw [h]
  cases bn T n<;>rfl
theorem KW {T:aA} {n m at':Int} {l l':List Nat} (h:bn T n=some l') (h2:bn T m=some l):gU T n m at'=if aU T n<0 then 6 else if bI T n m=true then 7 else if at'<0∨((af n l).length:Int)<at' then 8 else 0:=by
 unfold gU
 rw [h,h2]
theorem IL {els:List PEl} {i:Nat}:(els.eraseIdx i).length≤els.length:=List.length_eraseIdx_le _ _
set_option maxRecDepth 100000 in
set_option maxHeartbeats 4000000 in
theorem Lg (w:World) (b:Nat) (vS:Value × Value) (v:Value) (els:List PEl) (T:aA) (made:Nat) (n m at':Int) (h:PB3 w b vS v els T made) (hw:TW T made) :
  Calls Tryz.prog 156 #[.pointer (some ⟨b,1,none⟩),.int .i64 n,.int .i64 m,.int .i64 at'] w fun e w'=>tm w b vS v els T made n m at' e w':=by
 have HB:Hid (PB3 w b vS v els T made):=h
 have HW:Hid (TW T made):=hw
 have bw:=h.few
 clear h hw
 have lY:Hid (∀ (y:Int) (w':World),Below w.heap.size w w'→y≠0→gU T n m at'=y→tm w b vS v els T made n m at' (.returned (.int .i64 y)) w'):=fun y w' hb hy he=>
  ⟨y,T,v,els,rfl,⟨he.symm,Or.inl ⟨hy,rfl⟩⟩,HB.out.below hb,(Fr.refl w _).below hb,fun j hj=>Or.inl hj,fun M hM=>hM⟩
 go_enter Tryz.func156,Tryz.ntmps156
 go_wp2_with fail
 refine (dq w b v els n HB.out.c1 HB.out.pl bw).mono ?_
 rintro e w1 ⟨cF,⟨hf,rfl⟩ | ⟨ip,xp,nK,hf,rfl⟩⟩
 ·have HE:=lY.out 5 w1 cF (by decide) (AM (Or.inl (HB.out.pt.find_none hf)))
  clear hf
  go_wp2
  go_ret
  exact HE
 ·obtain ⟨Jz,KP,eg⟩:=HB.out.pt.find_some HW.out hf
  have HT:Hid (bn T n=some (az els n)∧(xp.num,az els n)∈T∧n=xp.num):=⟨Jz,KP,eg⟩
  have MU:Hid (els[ip]?=some xp):=nK
  have nZ:ip<els.length:=(List.getElem?_eq_some_iff.1 nK).1
  clear hf Jz KP eg nK
  have oj:=(HB.out.below cF).c1
  go_wp2_with fail
  refine (dq w1 b v els m oj (HB.out.below cF).pl bw).mono ?_
  rintro e w2 ⟨N5,⟨hf,rfl⟩ | ⟨iq,xq,_,hf,rfl⟩⟩
  ·have dp:Below w.heap.size w w2:=cF.trans (N5.mono cF.size)
   have HE:=lY.out 5 w2 dp (by decide) (AM (Or.inr (HB.out.pt.find_none hf)))
   clear hf N5 cF oj
   go_wp2
   go_ret
   exact HE
  ·have dp:Below w.heap.size w w2:=cF.trans (N5.mono cF.size)
   clear cF N5 oj
   obtain ⟨Jz,KP,eg⟩:=HB.out.pt.find_some HW.out hf
   have hxq:=(du hf).1
   have HQ:Hid (bn T m=some (az els m)∧(xq.num,az els m)∈T∧m=xq.num∧xq∈els):=⟨Jz,KP,eg,hxq⟩
   clear hf Jz KP eg hxq
   have IR:Hid (gU T n m at'=if aU T n<0 then 6 else if bI T n m=true then 7 else if at'<0∨((af n (az els m)).length:Int)<at' then 8 else 0):=KW HT.out.1 HQ.out.1
   by_cases h0:n=0
   ·have g0:(n==0)=true:=by simp [h0]
    have HE:=lY.out 6 w2 dp (by decide) (by
     have h1:=HT.out.2.2
     rw [IR.out,if_pos (by rw [h1];exact (HW.out.par_neg HT.out.2.1).2 (by omega))])
    clear h0
    go_wp2
    go_ret
    exact HE
   ·have g0:(n==0)=false:=by simp [h0]
    have H0:Hid (xp.num≠0):=by have h1:=HT.out.2.2;unfold Hid;omega
    have XM:Hid (0≤aU T n):=by
     have h1:=HT.out.2.2
     unfold Hid
     rw [h1]
     exact Int.not_lt.1 fun hx=>H0.out ((HW.out.par_neg HT.out.2.1).1 hx)
    clear h0
    have oj:=(HB.out.below dp).c1
    have Xw:Hid ((∃ k,k<els.length∧upP els k m=n)↔bI T n m=true):=by
     unfold Hid
     have h1:=HQ.out.2.2.1
     rw [bE,h1]
     exact qG HB.out.pt HW.out HQ.out.2.2.2 (a:=n) (by have:=HT.out.2.2;omega)
    go_wp2_with fail
    refine (nC w2 b v els m n oj (HB.out.below dp).pl bw).mono ?_
    rintro e w3 ⟨UE,r,rfl,hr⟩
    have eS:Below w.heap.size w w3:=dp.trans (UE.mono dp.size)
    have HR:Hid (r=true↔bI T n m=true):=hr.trans Xw.out
    clear dp UE hr oj
    cases r with
    | true=>
     have HE:=lY.out 7 w3 eS (by decide) (by rw [IR.out,if_neg (Int.not_lt.2 XM.out),if_pos (HR.out.1 rfl)])
     go_wp2
     go_ret
     exact HE
    | false=>
     have Qt:Hid (¬ bI T n m=true):=fun hx=>by have:=HR.out.2 hx;cases this
     clear HR
     have oj:=(HB.out.below eS).c1
     have ji:Hid (PB3 w3 b vS v els T made):=HB.out.below eS
     go_wp2_with fail
     refine (zp w3 v els ip ji.out.pl bw).mono ?_
     rintro e w4 ⟨a4,c4,rfl,Kh,Wl⟩
     have Ub:Below w.heap.size w w4:=eS.trans (Wl.mono eS.size)
     have T3:Hid (els.eraseIdx ip=els.filter fun x=>decide (x.num≠xp.num)):=HB.out.pt.without MU.out
     have Qx:Hid (az (els.eraseIdx ip) m=af n (az els m)):=by
      unfold Hid
      rw [T3.out,qi,HT.out.2.2]
     have yM:Hid (PL w4 (.slice a4 (els.eraseIdx ip).length c4) (els.eraseIdx ip)):=⟨aG Kh (Nat.zero_le _),fun e he=>HB.out.pl.ok e (List.mem_of_mem_eraseIdx he)⟩
     have hH:(els.eraseIdx ip).length≤24:=Nat.le_trans IL bw
     clear eS Wl Kh oj ji
     generalize els.eraseIdx ip=R at T3 Qx yM hH ⊢
     go_wp2_with fail
     refine (sW w4 _ R m at' yM.out hH).mono ?_
     rintro e w5 ⟨Mz,⟨place,rfl,kL,om⟩ | ⟨n',rfl,jE⟩⟩
     ·have ww:Below w.heap.size w w5:=Ub.trans (Mz.mono Ub.size)
      have Qd:Hid (PL w5 (.slice a4 R.length c4) R):=⟨aQ yM.out.row Mz,yM.out.ok⟩
      have HK:Hid (((az (R.take place) m).length:Int)=at'):=om
      have rE:Hid (PB3 w5 b vS v els T made):=HB.out.below ww
      obtain ⟨av,cv,KN⟩:=HB.out.pl.shape
      subst KN
      obtain ⟨g,hg,db,he⟩:=rE.out.pl.el nZ
      have mZ:els[ip]=xp:=(List.getElem?_eq_some_iff.1 MU.out).2
      rw [mZ] at he
      subst hg
      have TT:Hid (ElAt w5 g (ip*31) xp.cells xp.num xp.par):=he
      have Tw:Hid (Fr w w5 (fun k=>k=b)):=(Fr.refl w _).below ww
      have oj:=rE.out.c1
      clear Ub Mz om he mZ yM ww
      have jC:(ip:Int)<(els.length:Int):=by omega
      go_upto_region 16 with (first | (refine wpList_load_mid rfl 134 _ rfl g (ip*31) rfl xp.cells _ TT.out.rng Tryz.underlying134 rfl TT.out.size ?_) | (refine aw rfl 134 _ _ rfl _ xp.cells.toArray 134 rfl rfl TT.out.size' TT.out.same TT.out.all ?_))
      go_upto_region 17 with fail
      have WG:Hid (PEl.ok ⟨xp.num,m,xp.rest⟩):=HB.out.pl.ok xp (List.mem_of_getElem? MU.out)
      have J2:xp.cells.set 1 (.int .i64 m)=(PEl.mk xp.num m xp.rest).cells:=rfl
      rw [J2]
      clear J2
      have HYM:Hid (∀ k,(az (R.take place) m).length=k→PT (cY R place ⟨xp.num,m,xp.rest⟩) (jY T xp.num xq.num k)):=fun k hk=>by
       have h1:=HQ.out.2.2.1
       have:=HB.out.pt.mov HW.out (p:=xq.num) (k:=k) (place:=place) HT.out.2.1 H0.out xp.rest (by rw [←T3.out,←h1];exact hk)
       rw [←T3.out,←h1] at this
       exact this
      have TN:=zN R place ⟨xp.num,m,xp.rest⟩
      have HRL:Hid (R.length+1≤els.length):=by
       unfold Hid
       have h1:=HT.out.2.1
       have h2:R.length<els.length:=by
        rw [T3.out]
        have h3:(els.filter fun x=>decide (x.num≠xp.num)).length+1≤els.length:=by
         have h4:=List.length_eraseIdx_of_lt nZ
         rw [HB.out.pt.without MU.out] at h4
         omega
        omega
       omega
      have MZ:Hid (∀ M,MkO els M→MkO (cY R place ⟨xp.num,m,xp.rest⟩) M):=fun M hM=>by
       have EJ:xp∈els:=List.mem_of_getElem? MU.out
       have hR:∀ e∈R,e∈els∧e.num≠xp.num:=fun e he=>by
        rw [T3.out,List.mem_filter,decide_eq_true_eq] at he
        exact he
       have h1:=(hM.sub (fun e he=>(hR e he).1):MkO R M).more (x:=⟨xp.num,m,xp.rest⟩) (m:=M xp.num) place ⟨(hM.2 xp EJ).kind,(hM.2 xp EJ).cls,(hM.2 xp EJ).name,(hM.2 xp EJ).shown⟩ (hM.1 xp EJ) (fun e he=>(hR e he).2)
       refine h1.ext (fun e _=>?_)
       unfold bQ
       split
       ·rename_i h2
        rw [h2]
       ·rfl
      generalize PEl.mk xp.num m xp.rest=yp at WG HYM MZ TN ⊢
      have Zm:Hid (ElAt (w5.alloc (.cells yp.cells.toArray 134)) w5.heap.size 0 yp.cells yp.num yp.par):=Dp WG.out w5
      have vO:Hid (PB3 (w5.alloc (.cells yp.cells.toArray 134)) b vS (.slice (some ⟨g,0,none⟩) els.length cv) els T made):=rE.out.below ((Below.refl _ _).alloc (Nat.le_refl _) _)
      have NH:Hid (PL (w5.alloc (.cells yp.cells.toArray 134)) (.slice a4 R.length c4) R):=⟨Qd.out.row.alloc _,Qd.out.ok⟩
      have Rc:Hid (Fr w (w5.alloc (.cells yp.cells.toArray 134)) (fun k=>k=b)):=Tw.out.alloc _
      obtain ⟨W6,FE⟩:∃ W6,W6=w5.alloc (.cells yp.cells.toArray 134):=⟨_,rfl⟩
      rw [←FE] at Zm vO NH Rc ⊢
      clear FE oj TT rE Qd Tw
      have oj:=vO.out.c1
      go_wp2_with (first | (refine wpList_load_mid rfl 134 _ rfl w5.heap.size 0 rfl yp.cells _ Zm.out.rng Tryz.underlying134 rfl Zm.out.size ?_))
      refine (xS W6 _ R place yp NH.out WG.out kL hH).mono ?_
      rintro e w7 ⟨a7,c7,rfl,yk,V6⟩
      have HB8:Hid (PB3 (w7.setCell ⟨b,1,none⟩ (.slice a7 (cY R place yp).length c7)) b vS (.slice a7 (cY R place yp).length c7) (cY R place yp) (jY T xp.num xq.num (az (R.take place) m).length) made):=
       vO.out.set V6 yk (E3 NH.out.ok WG.out place) (HYM.out _ rfl) (by rw [TN];have:=HRL.out;omega)
      have e1:w7.cell? ⟨b,1,none⟩=some (.slice (some ⟨g,0,none⟩) els.length cv):=(vO.out.below V6).c1
      have ez:∀ k,w7.frozen? ⟨b,k,none⟩=false:=fun _=>ag (vO.out.below V6).doc
      have y9:Hid (¬ (at'<0∨((af n (az els m)).length:Int)<at')):=by
       have h1:=HK.out
       have h2:(az (R.take place) m).length≤(az R m).length:=by
        have h3:az R m=az (R.take place) m++az (R.drop place) m:=by rw [←dV,List.take_append_drop]
        rw [h3,List.length_append]
        omega
       rw [Qx.out] at h2
       intro h3
       omega
      have HE:Hid (tm w b vS (.slice (some ⟨g,0,none⟩) els.length cv) els T made n m at' (.returned (.int .i64 0)) (w7.setCell ⟨b,1,none⟩ (.slice a7 (cY R place yp).length c7))):=by
       refine ⟨0,_,_,_,rfl,⟨?_,Or.inr ⟨rfl,xp.num,xq.num,(az (R.take place) m).length,HT.out.2.2,HQ.out.2.2.1,HK.out.symm,H0.out,⟨_,HT.out.2.1⟩,⟨_,HQ.out.2.1,?_⟩,?_,rfl⟩⟩,HB8.out,(Rc.out.below V6).set (p:=⟨b,1,none⟩) (Or.inl rfl) _,fun j hj=>Or.inr ?_,MZ.out⟩
       ·rw [IR.out,if_neg (Int.not_lt.2 XM.out),if_neg Qt.out,if_neg y9.out]
       ·have h1:=y9.out
        have h2:=HK.out
        rw [←HT.out.2.2]
        omega
       ·have h1:=Qt.out
        rw [bE,HT.out.2.2,HQ.out.2.2.1] at h1
        exact h1
       ·have:=(yk.lt j hj).1
        have:=Rc.out.size
        omega
      clear yk V6 oj
      generalize (cY R place yp).length=n7 at HE HB8 TN ⊢
      clear TN
      go_wp2
      go_ret
      exact HE.out
     ·have HE:=lY.out 8 w5 (Ub.trans (Mz.mono Ub.size)) (by decide) (by rw [IR.out,if_neg (Int.not_lt.2 XM.out),if_neg Qt.out,if_pos (by rw [←Qx.out];exact jE)])
      clear jE Ub Mz
      go_wp2
      go_ret
      exact HE
end Go.Proofs.YtblfffbmklkhmaaGreat
