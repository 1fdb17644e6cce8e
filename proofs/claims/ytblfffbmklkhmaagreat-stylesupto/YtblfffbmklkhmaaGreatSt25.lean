import Derived.Test.YtblfffbmklkhmaaGreatSt19
import Derived.Test.YtblfffbmklkhmaaGreatSt20
import Derived.Test.YtblfffbmklkhmaaGreatSt21
import Derived.Test.YtblfffbmklkhmaaGreatSt22
import Derived.Test.YtblfffbmklkhmaaGreatSt24
import Derived.Test.YtblfffbmklkhmaaGreatSt10
import Derived.Test.YtblfffbmklkhmaaGreatSt15
import Derived.JoinedCond
import Derived.Test.YtblfffbmklkhmaaGreatSt14
namespace Go.Proofs.YtblfffbmklkhmaaGreat
open Go.RowKit
structure DM (w:World) (b:Nat) (vS:Value × Value) (v:Value) (els:List PEl) (T:aA) (made:Nat) (M:Nat→Mk) (rs:List cQ) (kl:List (Int × List Int)) (G:Nat→Prop):Prop where
 pb:PB3 w b vS v els T made
 tw:TW T made
 mks:MkO els M
 sh:SheetIn w G vS.1 rs
 kp:KL w vS.2 kl
 few:kl.length≤24
 gl:∀ k,G k→k<w.heap.size
 gb:¬ G b
 gv:∀ j,v.ownBlock=some j→¬ G j
 gk:∀ j,vS.2.ownBlock=some j→¬ G j
theorem iu {w w':World} {e:TypeId} {sz:Nat} {v:Value} {n:Nat} {xs:List Value} (h:w.ownsRow 0 e sz v n xs) (hk:∀ k,v.ownBlock=some k→k<w.heap.size→w'.heap[k]?=w.heap[k]?):w'.ownsRow 0 e sz v n xs:=by
 refine ⟨h.1,?_⟩
 rcases h.2 with hn | ⟨g,fL,eU,hv,hb,hg,rest⟩
 ·exact Or.inl hn
 ·exact Or.inr ⟨g,fL,eU,hv,hb,(hk g (by rw [hv];rfl) (Array.getElem?_eq_some_iff.1 hg).1).trans hg,rest⟩
theorem PB3.drop {w:World} {b:Nat} {vS:Value × Value} {v:Value} {els:List PEl} {T:aA} {made:Nat} (h:PB3 w b vS v els T made) (u:Value):PB3 (w.setCell ⟨b,3,none⟩ u) b (vS.1,u) v els T made:=by
 refine ⟨?_,⟨aX h.pl.row (aj h.pl.row h.doc (by decide)) _,h.pl.ok⟩,h.pt,h.few⟩
 rw [aq h.doc];rfl
section
variable {w w':World} {b:Nat} {vS:Value × Value} {v:Value} {els:List PEl} {T:aA} {made:Nat} {M:Nat→Mk} {rs:List cQ} {kl:List (Int × List Int)} {G:Nat→Prop}
theorem DM.lt (h:DM w b vS v els T made M rs kl G):b<w.heap.size:=(Array.getElem?_eq_some_iff.1 h.pb.doc).1
theorem DM.below (h:DM w b vS v els T made M rs kl G) (hB:Below w.heap.size w w'):DM w' b vS v els T made M rs kl G:=
 ⟨h.pb.below hB,h.tw,h.mks,h.sh.keep (fun k _ hl=>hB.block k hl) hB.size,h.kp.below hB,h.few,fun k hk=>Nat.lt_of_lt_of_le (h.gl k hk) hB.size,h.gb,h.gv,h.gk⟩
theorem DM.trd {a:Option Addr} {c:Nat} (h:DM w b vS (.slice a els.length c) els T made M rs kl G):TRd w b a c els:=⟨h.pb.c1,h.pb.pl,h.pb.few,h.pb.pt.nums,h.mks.2⟩
theorem DM.kept_ne (h:DM w b vS v els T made M rs kl G):vS.2.ownBlock≠some b:=aj h.kp.row h.pb.doc (by decide)
theorem DM.tree (h:DM w b vS v els T made M rs kl G) {v':Value} {bm:List PEl} {T':aA} {made':Nat} {M':Nat→Mk} (hp:PB3 w' b vS v' bm T' made') (hw:TW T' made') (hm:MkO bm M') (hf:Fr w w' (fun k=>k=b)) (hv:∀ j,v'.ownBlock=some j→v.ownBlock=some j∨w.heap.size≤j):DM w' b vS v' bm T' made' M' rs kl G:=by
 refine ⟨hp,hw,hm,h.sh.keep (fun k hg hl=>hf.block k hl (fun e=>h.gb (e▸hg))) hf.size,⟨iu h.kp.row (fun k hk hl=>hf.block k hl (fun e=>h.kept_ne (e▸hk))),h.kp.nine⟩,h.few,fun k hk=>Nat.lt_of_lt_of_le (h.gl k hk) hf.size,h.gb,fun j hj hg=>?_,h.gk⟩
 rcases hv j hj with h1 | h1
 ·exact h.gv j h1 hg
 ·have:=h.gl j hg;omega
theorem DM.inpl (h:DM w b vS v els T made M rs kl G) {bm:List PEl} {M':Nat→Mk} (hp:PB3 w' b vS v bm T made) (hm:MkO bm M') (hf:Fr w w' (fun k=>v.ownBlock=some k)):DM w' b vS v bm T made M' rs kl G:=by
 refine ⟨hp,h.tw,hm,h.sh.keep (fun k hg hl=>hf.block k hl (fun e=>h.gv k e hg)) hf.size,⟨iu h.kp.row (fun k hk hl=>hf.block k hl (fun e=>?_)),h.kp.nine⟩,h.few,fun k hk=>Nat.lt_of_lt_of_le (h.gl k hk) hf.size,h.gb,h.gv,h.gk⟩
 obtain ⟨a,c,rfl⟩:=h.pb.pl.shape
 cases a with
 | none=>cases e
 | some p=>
  obtain ⟨g,o,z⟩:=p
  have hz:∃ g' fL eU,(Value.slice (some ⟨g,o,z⟩) els.length c)=.slice (some ⟨g',0,none⟩) els.length fL∧w.heap[g']?=some (.cells eU 134 (0,0)):=by
   rcases h.pb.pl.row.2 with ⟨h1,_⟩ | ⟨g',fL,eU,hv,_,hg,_⟩
   ·cases h1
   ·exact ⟨g',fL,eU,hv,hg⟩
  obtain ⟨g',fL,eU,hv,hg⟩:=hz
  injection hv with h1 _ _
  injection h1 with h1
  injection h1 with h1 _ _
  have e2:some g=some k:=e
  injection e2 with e2
  exact aj h.kp.row hg (by decide) (by rw [hk,←e2,h1])
theorem DM.dropped (h:DM w b vS v els T made M rs kl G) {L:List Int} {e:Ending} (hd:qM w b (dD L kl) e w'):e=.returned (.tuple #[])∧∃ v2,DM w' b (vS.1,v2) v els T made M rs (dD L kl) G∧Fr w w' (fun k=>k=b)∧∀ j,v2.ownBlock=some j→w.heap.size≤j:=by
 obtain ⟨rfl,w1,a,c,hB,ho,rfl⟩:=hd
 have h1:=h.below hB
 have aN:=h.lt
 have NX:∀ j,(Value.slice a (dD L kl).length c).ownBlock=some j→w.heap.size≤j:=fun j hj=>(ho.lt j hj).1
 refine ⟨rfl,_,⟨h1.pb.drop _,h.tw,h.mks,h1.sh.keep (fun k hg _=>Below.heap_setCell w1 ⟨b,3,none⟩ _ k (fun e=>h.gb (by rw [←(show k=b from e)];exact hg))) (by simp),⟨aX (aG ho (Nat.zero_le _)) (fun e=>?_) _,fun x hx=>h.kp.nine x (List.mem_filter.1 hx).1⟩,Nat.le_trans (xv _ _) h.few,fun k hk=>by simpa using h1.gl k hk,h.gb,h.gv,fun j hj hg=>?_⟩,((Fr.refl w (fun k=>k=b)).below hB).set (p:=⟨b,3,none⟩) (Or.inl rfl) _,NX⟩
 ·have:=NX b e
  omega
 ·have h2:=NX j hj
  have h3:=h.gl j hg
  omega
theorem lx (h:PT els T) (hw:TW T made) {p:Nat} {l:List Nat} (hp:(p,l)∈T) {x:Int × List Int} (hx:x∈dD (cR els p) kl) {j:Nat} {lj:List Nat} (hj:x.1=(j:Int)) (FO:(j,lj)∈T):¬ kH T p j:=fun hr=>by
 have h1:=DZ h.nums (J4 h hw hp FO hr)
 have h2:=(List.mem_filter.1 hx).2
 rw [hj] at h2
 have h3:(cR els p).contains (j:Int)=true:=List.contains_iff_mem.2 h1
 rw [h3] at h2
 exact absurd h2 (by decide)
theorem dy (L:List Int) (kl:List (Int × List Int)):(dD L kl).Sublist kl:=List.filter_sublist
end
section
set_option maxRecDepth 100000
set_option maxHeartbeats 2000000
variable (w:World) (b:Nat) (vS:Value × Value) (v:Value) (els:List PEl) (T:aA) (made:Nat) (M:Nat→Mk) (rs:List cQ) (kl:List (Int × List Int)) (G:Nat→Prop)
def oH (n:Int) (e:Ending) (w':World):Prop:=
 e=.returned (.tuple #[])∧∃ v2,DM w' b (vS.1,v2) v els T made M rs (dD (cR els n) kl) G∧Fr w w' (fun k=>k=b)∧∀ j,v2.ownBlock=some j→w.heap.size≤j
theorem iw (n:Int) (h:DM w b vS v els T made M rs kl G):Calls Tryz.prog 41 #[.pointer (some ⟨b,0,none⟩),.int .i64 n] w fun e w'=>oH w b vS v els T made M rs kl G n e w':=by
 obtain ⟨a,c,hv⟩:=h.pb.pl.shape
 subst hv
 have HD:Hid (DM w b vS (.slice a els.length c) els T made M rs kl G):=h
 have MX:=uh h.pb.few n
 clear h
 go_enter Tryz.func41,Tryz.ntmps41
 go_wp2_with fail
 refine (tS w b a c els n HD.out.trd).mono ?_
 rintro e w1 ⟨al,cl,rfl,fY,hB⟩
 have ju:Hid (DM w1 b vS (.slice a els.length c) els T made M rs kl G):=HD.out.below hB
 have Xe:Hid (RowI w1 al (cR els n)):=RowI.own fY
 have ed:Hid (Below w.heap.size w w1):=hB
 clear fY hB
 go_wp2_with fail
 refine (wW w1 b _ vS.2 kl al cl (cR els n) ju.out.pb.doc rfl ju.out.kp ju.out.few Xe.out MX).mono ?_
 intro e w2 hd
 obtain ⟨rfl,v2,h1,h2,h3⟩:=ju.out.dropped hd
 have HE:Hid (oH w b vS (.slice a els.length c) els T made M rs kl G n (.returned (.tuple #[])) w2):=⟨rfl,v2,h1,((Fr.refl w (fun k=>k=b)).below ed.out).trans h2,fun j hj=>Nat.le_trans ed.out.size (h3 j hj)⟩
 clear hd h1 h2 h3
 go_wp2
 go_end0
 exact HE.out
end
def DSk (w:World) (px:Value) (T:aA) (made:Nat) (M:Nat→Mk) (rs:List cQ) (kl:List (Int × List Int)) (F:Nat→Prop):Prop:=
 ∃ b vS v els G,px=.pointer (some ⟨b,0,none⟩)∧DM w b vS v els T made M rs kl G∧KOK T M rs kl∧F b∧(∀ j,v.ownBlock=some j→F j)∧(∀ j,vS.2.ownBlock=some j→F j)∧(∀ k,G k→F k)
section
variable {w w':World} {px:Value} {T:aA} {made:Nat} {M M':Nat→Mk} {rs:List cQ} {kl:List (Int × List Int)} {F:Nat→Prop}
theorem DSk.keep (h:DSk w px T made M rs kl F) (hk:∀ k,F k→k<w.heap.size→w'.heap[k]?=w.heap[k]?) (hz:w.heap.size≤w'.heap.size):DSk w' px T made M rs kl F:=by
 obtain ⟨b,vS,v,els,G,h1,h2,h3,h4,h5,h6,h7⟩:=h
 exact ⟨b,vS,v,els,G,h1,⟨⟨(hk b h4 h2.lt).trans h2.pb.doc,⟨iu h2.pb.pl.row (fun k iU hl=>hk k (h5 k iU) hl),h2.pb.pl.ok⟩,h2.pb.pt,h2.pb.few⟩,h2.tw,h2.mks,h2.sh.keep (fun k hg hl=>hk k (h7 k hg) hl) hz,⟨iu h2.kp.row (fun k iU hl=>hk k (h6 k iU) hl),h2.kp.nine⟩,h2.few,fun k hg=>Nat.lt_of_lt_of_le (h2.gl k hg) hz,h2.gb,h2.gv,h2.gk⟩,h3,h4,h5,h6,h7⟩
theorem DSk.here (h:DSk w px T made M rs kl F):DSk w px T made M rs kl (fun k=>F k∧k<w.heap.size):=by
 obtain ⟨b,vS,v,els,G,h1,h2,h3,h4,h5,h6,h7⟩:=h
 exact ⟨b,vS,v,els,G,h1,h2,h3,⟨h4,h2.lt⟩,fun j hj=>⟨h5 j hj,(h2.pb.pl.row.lt j hj).2⟩,fun j hj=>⟨h6 j hj,(h2.kp.row.lt j hj).2⟩,fun k hk=>⟨h7 k hk,h2.gl k hk⟩⟩
theorem DSk.mark (h:DSk w px T made M rs kl F) (hm:∀ k l,(k,l)∈T→M k=M' k):DSk w px T made M' rs kl F:=by
 obtain ⟨b,vS,v,els,G,h1,h2,h3,h4⟩:=h
 exact ⟨b,vS,v,els,G,h1,⟨h2.pb,h2.tw,h2.mks.ext (fun x hx=>by
  obtain ⟨l,hl⟩:=h2.pb.pt.to' x hx
  exact hm x.num l hl),h2.sh,h2.kp,h2.few,h2.gl,h2.gb,h2.gv,h2.gk⟩,h3.marks h2.tw hm,h4⟩
theorem DSk.tw (h:DSk w px T made M rs kl F):TW T made:=by
 obtain ⟨b,vS,v,els,G,h1,h2,h3⟩:=h
 exact h2.tw
end
section
set_option maxRecDepth 100000
set_option maxHeartbeats 2000000
variable (w:World) (px:Value) (T:aA) (made:Nat) (M:Nat→Mk) (rs:List cQ) (kl:List (Int × List Int)) (F:Nat→Prop)
def tA (par at':Int) (kind:ByteArray) (e:Ending) (w':World):Prop:=
 ∃ y T' made' n iN,e=.returned (.tuple #[.int .i64 n,.int .i64 y])∧TIns T made par at' kind y T' made' n∧DSk w' px T' made' (if y=0 then bQ M made (dK kind) else M) rs iN (bu F w)∧Fr w w' F∧iN.Sublist kl
theorem KT (par at':Int) (kind:ByteArray) (h:DSk w px T made M rs kl F) (lz:made≤4611686018427387904):Calls Tryz.prog 36 #[px,.int .i64 par,.int .i64 at',.string kind] w fun e w'=>tA w px T made M rs kl F par at' kind e w':=by
 obtain ⟨b,vS,v,els,G,rfl,h2,h3,h4,h5,h6,h7⟩:=h
 have HB:Hid (DM w b vS v els T made M rs kl G∧KOK T M rs kl∧F b∧(∀ j,v.ownBlock=some j→F j)∧(∀ j,vS.2.ownBlock=some j→F j)∧∀ k,G k→F k):=⟨h2,h3,h4,h5,h6,h7⟩
 clear h2 h3 h4 h5 h6 h7
 go_enter Tryz.func36,Tryz.ntmps36
 go_wp2_with fail
 refine (LB w b vS v els T made par at' kind HB.out.1.pb HB.out.1.tw lz).mono ?_
 rintro e w1 ⟨y,T',made',n,v',bm,rfl,ht,hp,hf,hv,hm⟩
 by_cases hy:y=0
 ·have gy:(y==0)=true:=by simp [hy]
  have fi:made'=made+1∧∃ (p k:Nat) (l:List Nat),par=(p:Int)∧(p,l)∈T∧T'=jG T p k made:=by
   rcases ht.2 with ⟨h1,_⟩ | ⟨_,_,h1,p,k,h2,_,⟨l,h3,_⟩,h4⟩
   ·exact absurd hy h1
   ·exact ⟨h1,p,k,l,h2,h3,h4⟩
  have HC:Hid (made'=made+1∧∃ (p k:Nat) (l:List Nat),par=(p:Int)∧(p,l)∈T∧T'=jG T p k made):=fi
  have we:TW T' made':=by
   obtain ⟨h1,p,k,l,_,h3,h4⟩:=fi
   rw [h1,h4]
   exact HB.out.1.tw.ins ⟨l,h3⟩
  have o8:=hm M HB.out.1.mks
  rw [if_pos hy] at o8
  have ju:Hid (DM w1 b vS v' bm T' made' (bQ M made (dK kind)) rs kl G):=HB.out.1.tree hp we o8 hf hv
  have HT:Hid (TIns T made par at' kind y T' made' n∧Fr w w1 (fun k=>k=b)∧(∀ j,v'.ownBlock=some j→v.ownBlock=some j∨w.heap.size≤j)):=⟨ht,hf,hv⟩
  have HY:Hid (y=0):=hy
  clear ht hp hf hv hm o8 we fi hy
  go_wp2_with fail
  refine (iw w1 b vS v' bm T' made' _ rs kl G par ju.out).mono ?_
  rintro e w2 ⟨rfl,v2,iL,bo,jr⟩
  have HE:Hid (tA w (.pointer (some ⟨b,0,none⟩)) T made M rs kl F par at' kind (.returned (.tuple #[.int .i64 n,.int .i64 y])) w2):=by
   obtain ⟨h1,p,k,l,h2,h3,h4⟩:=HC.out
   have MW:=iL.pb.pt
   have hw2:=iL.tw
   refine ⟨y,T',made',n,dD (cR bm par) kl,rfl,HT.out.1,⟨b,(vS.1,v2),v',bm,G,rfl,?_,?_,Or.inl HB.out.2.2.1,fun j hj=>(HT.out.2.2 j hj).imp (HB.out.2.2.2.1 j) id,fun j hj=>Or.inr (Nat.le_trans HT.out.2.1.size (jr j hj)),fun k hk=>Or.inl (HB.out.2.2.2.2.2 k hk)⟩,(HT.out.2.1.trans bo).mono (fun k hk=>hk▸HB.out.2.2.1),dy _ _⟩
   ·rw [if_pos HY.out]
    exact iL
   ·rw [if_pos HY.out]
    subst h4 h2
    refine HB.out.2.1.ins HB.out.1.tw h3 _ (dy _ _) (fun x hx j hj=>?_)
    obtain ⟨j',lj,sb,FO⟩:=HB.out.2.1.els x ((dy _ _).subset hx)
    have:j'=j:=by omega
    subst this
    exact lx MW hw2 (cj.2 (Or.inl ⟨(p,l),h3,rfl,rfl⟩):(p,if p=p then bN l k made else l)∈_) hx hj (cj.2 (Or.inl ⟨(j',lj),FO,rfl,rfl⟩):(j',if j'=p then bN lj k made else lj)∈_)
  clear iL bo jr HT ju
  go_wp2
  go_ret2
  exact HE.out
 ·have gy:(y==0)=false:=by simp [hy]
  have fi:T'=T∧made'=made:=by
   rcases ht.2 with ⟨_,_,h1,h2⟩ | ⟨h1,_⟩
   ·exact ⟨h1,h2⟩
   ·exact absurd h1 hy
  have HE:Hid (tA w (.pointer (some ⟨b,0,none⟩)) T made M rs kl F par at' kind (.returned (.tuple #[.int .i64 n,.int .i64 y])) w1):=by
   obtain ⟨h1,h2⟩:=fi
   subst h1 h2
   have o8:=hm M HB.out.1.mks
   refine ⟨y,T',made',n,kl,rfl,ht,⟨b,vS,v',bm,G,rfl,?_,?_,Or.inl HB.out.2.2.1,fun j hj=>(hv j hj).imp (HB.out.2.2.2.1 j) id,fun j hj=>Or.inl (HB.out.2.2.2.2.1 j hj),fun k hk=>Or.inl (HB.out.2.2.2.2.2 k hk)⟩,hf.mono (fun k hk=>hk▸HB.out.2.2.1),List.Sublist.refl _⟩
   ·rw [if_neg hy] at o8 ⊢
    exact HB.out.1.tree hp HB.out.1.tw o8 hf hv
   ·rw [if_neg hy]
    exact HB.out.2.1
  clear ht hp hf hv hm fi hy
  go_wp2
  go_ret2
  exact HE.out
def vi (n:Int) (e:Ending) (w':World):Prop:=
 ∃ y T' iN,e=.returned (.int .i64 y)∧TRem T n y T'∧DSk w' px T' made M rs iN (bu F w)∧Fr w w' F∧iN.Sublist kl
theorem Kf (n:Int) (h:DSk w px T made M rs kl F):Calls Tryz.prog 116 #[px,.int .i64 n] w fun e w'=>vi w px T made M rs kl F n e w':=by
 obtain ⟨b,vS,v,els,G,rfl,h2,h3,h4,h5,h6,h7⟩:=h
 obtain ⟨a,c,KN⟩:=h2.pb.pl.shape
 subst KN
 have HB:Hid (DM w b vS (.slice a els.length c) els T made M rs kl G∧KOK T M rs kl∧F b∧(∀ j,(Value.slice a els.length c).ownBlock=some j→F j)∧(∀ j,vS.2.ownBlock=some j→F j)∧∀ k,G k→F k):=⟨h2,h3,h4,h5,h6,h7⟩
 have bw:=h2.pb.few
 clear h2 h3 h4 h5 h6 h7
 go_enter Tryz.func116,Tryz.ntmps116
 go_wp2_with fail
 refine (gI w b _ els n HB.out.1.pb.c1 HB.out.1.pb.pl bw).mono ?_
 rintro e w1 ⟨rfl,cF⟩
 have ju:Hid (DM w1 b vS (.slice a els.length c) els T made M rs kl G):=HB.out.1.below cF
 have HP:Hid (parP els n=aU T n):=HB.out.1.pb.pt.parP HB.out.1.tw n
 have ed:Hid (Below w.heap.size w w1):=cF
 clear cF
 generalize parP els n=par at HP ⊢
 have MX:=uh bw par
 go_wp2_with fail
 refine (tS w1 b a c els par ju.out.trd).mono ?_
 rintro e w2 ⟨al,cl,rfl,fY,dp⟩
 have n9:Hid (DM w2 b vS (.slice a els.length c) els T made M rs kl G):=ju.out.below dp
 have ea:Hid (Below w.heap.size w w2):=ed.out.trans (dp.mono ed.out.size)
 have Ht:Hid (w2.ownsRow w1.heap.size 3 1 (.slice al (cR els par).length cl) (cR els par).length (ai (cR els par))):=fY
 clear fY dp
 go_wp2_with fail
 refine (JE w2 b vS _ els T made n n9.out.pb n9.out.tw).mono ?_
 rintro e w3 ⟨y,T',v',bm,rfl,ht,hp,hf,hv,hm⟩
 have H9:Hid (Fr w w3 (fun k=>k=b)):=((Fr.refl w (fun k=>k=b)).below ea.out).trans hf
 have HV:Hid (∀ j,v'.ownBlock=some j→(Value.slice a els.length c).ownBlock=some j∨w.heap.size≤j):=fun j hj=>(hv j hj).imp id (fun h=>Nat.le_trans ea.out.size h)
 have we:TW T' made:=by
  rcases ht.2 with ⟨_,h1⟩ | ⟨_,x,_,h0,⟨l,hl⟩,h1⟩
  ·rw [h1];exact HB.out.1.tw
  ·rw [h1];exact HB.out.1.tw.rem hl h0
 have MF:Hid (DM w3 b vS v' bm T' made M rs kl G):=n9.out.tree hp we (hm M HB.out.1.mks) hf hv
 have Xe:Hid (RowI w3 al (cR els par)):=by
  refine RowI.own (iu (aG Ht.out (Nat.zero_le _)) (fun k hk hl=>hf.block k hl (fun e=>?_)))
  have h1:=(Ht.out.lt k hk).1
  have h2:=ju.out.lt
  omega
 have HT:Hid (TRem T n y T'):=ht
 clear ht hp hf hv hm we
 by_cases hy:y=0
 ·have gy:(y==0)=true:=by simp [hy]
  have HY:Hid (y=0):=hy
  clear hy
  go_wp2_with fail
  refine (wW w3 b _ vS.2 kl al cl (cR els par) MF.out.pb.doc rfl MF.out.kp MF.out.few Xe.out MX).mono ?_
  intro e w4 hd
  obtain ⟨rfl,v2,iL,bo,jr⟩:=MF.out.dropped hd
  have HE:Hid (vi w (.pointer (some ⟨b,0,none⟩)) T made M rs kl F n (.returned (.int .i64 y)) w4):=by
   refine ⟨y,T',dD (cR els par) kl,rfl,HT.out,⟨b,(vS.1,v2),v',bm,G,rfl,iL,?_,Or.inl HB.out.2.2.1,fun j hj=>(HV.out j hj).imp (HB.out.2.2.2.1 j) id,fun j hj=>Or.inr (Nat.le_trans H9.out.size (jr j hj)),fun k hk=>Or.inl (HB.out.2.2.2.2.2 k hk)⟩,(H9.out.trans bo).mono (fun k hk=>hk▸HB.out.2.2.1),dy _ _⟩
   rcases HT.out.2 with ⟨h1,_⟩ | ⟨_,x,hn,h0,⟨l,hl⟩,h1⟩
   ·exact absurd HY.out h1
   ·obtain ⟨q,hq,hmq,lC⟩:=HB.out.1.tw.up hl h0
    have eg:par=(q.1:Int):=by rw [HP.out,hn,lC]
    rw [h1]
    refine HB.out.2.1.rem HB.out.1.tw hl h0 hq hmq (dy _ _) (fun z hz j hj=>?_)
    obtain ⟨j',lj,sb,FO⟩:=HB.out.2.1.els z ((dy _ _).subset hz)
    have:j'=j:=by omega
    subst this
    rw [eg] at hz
    exact lx HB.out.1.pb.pt HB.out.1.tw (p:=q.1) (l:=q.2) hq hz hj FO
  clear hd iL bo jr MF Xe Ht n9
  go_wp2
  go_ret
  exact HE.out
 ·have gy:(y==0)=false:=by simp [hy]
  have HE:Hid (vi w (.pointer (some ⟨b,0,none⟩)) T made M rs kl F n (.returned (.int .i64 y)) w3):=by
   refine ⟨y,T',kl,rfl,HT.out,⟨b,vS,v',bm,G,rfl,MF.out,?_,Or.inl HB.out.2.2.1,fun j hj=>(HV.out j hj).imp (HB.out.2.2.2.1 j) id,fun j hj=>Or.inl (HB.out.2.2.2.2.1 j hj),fun k hk=>Or.inl (HB.out.2.2.2.2.2 k hk)⟩,H9.out.mono (fun k hk=>hk▸HB.out.2.2.1),List.Sublist.refl _⟩
   rcases HT.out.2 with ⟨_,h1⟩ | ⟨h1,_⟩
   ·rw [h1];exact HB.out.2.1
   ·exact absurd h1 hy
  clear hy
  go_wp2
  go_ret
  exact HE.out
def ug (n m at':Int) (e:Ending) (w':World):Prop:=
 ∃ y T' iN,e=.returned (.int .i64 y)∧TMov T n m at' y T'∧DSk w' px T' made M rs iN (bu F w)∧Fr w w' F∧iN.Sublist kl
theorem Lx (n m at':Int) (h:DSk w px T made M rs kl F):Calls Tryz.prog 119 #[px,.int .i64 n,.int .i64 m,.int .i64 at'] w fun e w'=>ug w px T made M rs kl F n m at' e w':=by
 obtain ⟨b,vS,v,els,G,rfl,h2,h3,h4,h5,h6,h7⟩:=h
 obtain ⟨a,c,KN⟩:=h2.pb.pl.shape
 subst KN
 have HB:Hid (DM w b vS (.slice a els.length c) els T made M rs kl G∧KOK T M rs kl∧F b∧(∀ j,(Value.slice a els.length c).ownBlock=some j→F j)∧(∀ j,vS.2.ownBlock=some j→F j)∧∀ k,G k→F k):=⟨h2,h3,h4,h5,h6,h7⟩
 have bw:=h2.pb.few
 clear h2 h3 h4 h5 h6 h7
 go_enter Tryz.func119,Tryz.ntmps119
 go_wp2_with fail
 refine (gI w b _ els n HB.out.1.pb.c1 HB.out.1.pb.pl bw).mono ?_
 rintro e w1 ⟨rfl,cF⟩
 have ju:Hid (DM w1 b vS (.slice a els.length c) els T made M rs kl G):=HB.out.1.below cF
 have HP:Hid (parP els n=aU T n):=HB.out.1.pb.pt.parP HB.out.1.tw n
 have ed:Hid (Below w.heap.size w w1):=cF
 clear cF
 generalize parP els n=par at HP ⊢
 go_wp2_with fail
 refine (Lg w1 b vS _ els T made n m at' ju.out.pb ju.out.tw).mono ?_
 rintro e w3 ⟨y,T',v',bm,rfl,ht,hp,hf,hv,hm⟩
 have H9:Hid (Fr w w3 (fun k=>k=b)):=((Fr.refl w (fun k=>k=b)).below ed.out).trans hf
 have HV:Hid (∀ j,v'.ownBlock=some j→(Value.slice a els.length c).ownBlock=some j∨w.heap.size≤j):=fun j hj=>(hv j hj).imp id (fun h=>Nat.le_trans ed.out.size h)
 have we:TW T' made:=by
  rcases ht.2 with ⟨_,h1⟩ | ⟨_,x,p,k,_,_,_,h0,⟨l,hl⟩,⟨lp,NL,_⟩,MJ,h1⟩
  ·rw [h1];exact HB.out.1.tw
  ·rw [h1];exact HB.out.1.tw.mov hl h0 NL MJ
 have MF:Hid (DM w3 b vS v' bm T' made M rs kl G):=ju.out.tree hp we (hm M HB.out.1.mks) hf hv
 have HT:Hid (TMov T n m at' y T'):=ht
 clear ht hp hf hv hm we
 by_cases hy:y=0
 ·have gy:(y==0)=true:=by simp [hy]
  have HY:Hid (y=0):=hy
  clear hy
  go_wp2_with fail
  refine (iw w3 b vS v' bm T' made M rs kl G par MF.out).mono ?_
  rintro e w4 ⟨rfl,v4,NW,gY,hv4⟩
  have SN:Hid (DM w4 b (vS.1,v4) v' bm T' made M rs (dD (cR bm par) kl) G∧Fr w3 w4 (fun k=>k=b)):=⟨NW,gY⟩
  clear NW gY hv4
  go_wp2_with fail
  refine (iw w4 b (vS.1,v4) v' bm T' made M rs _ G m SN.out.1).mono ?_
  rintro e w5 ⟨rfl,v5,Lt,CE,OM⟩
  have HE:Hid (ug w (.pointer (some ⟨b,0,none⟩)) T made M rs kl F n m at' (.returned (.int .i64 y)) w5):=by
   have tN:(dD (cR bm m) (dD (cR bm par) kl)).Sublist kl:=(dy _ _).trans (dy _ _)
   refine ⟨y,T',dD (cR bm m) (dD (cR bm par) kl),rfl,HT.out,⟨b,(vS.1,v5),v',bm,G,rfl,Lt,?_,Or.inl HB.out.2.2.1,fun j hj=>(HV.out j hj).imp (HB.out.2.2.2.1 j) id,fun j hj=>Or.inr (Nat.le_trans H9.out.size (Nat.le_trans SN.out.2.size (OM j hj))),fun k hk=>Or.inl (HB.out.2.2.2.2.2 k hk)⟩,((H9.out.trans SN.out.2).trans CE).mono (fun k hk=>hk▸HB.out.2.2.1),tN⟩
   rcases HT.out.2 with ⟨h1,_⟩ | ⟨_,x,p,k,hn,hmp,_,h0,⟨l,hl⟩,⟨lp,NL,_⟩,MJ,h1⟩
   ·exact absurd HY.out h1
   ·obtain ⟨q,hq,hmq,lC⟩:=HB.out.1.tw.up hl h0
    have eg:par=(q.1:Int):=by rw [HP.out,hn,lC]
    have MW:=Lt.pb.pt
    have hw5:=Lt.tw
    subst h1
    refine HB.out.2.1.mov HB.out.1.tw hl h0 NL MJ hq hmq tN (fun z hz j hj=>?_)
    obtain ⟨j',lj,sb,FO⟩:=HB.out.2.1.els z (tN.subset hz)
    have:j'=j:=by omega
    subst this
    have mem:∀ i li,(i,li)∈T→∃ l,(i,l)∈jY T x p k:=fun i li hi=>⟨if i=p then bN (af x (if i=q.1 then af x li else li)) k x else if i=q.1 then af x li else li,(dP lC).2 ⟨(i,li),hi,rfl,rfl⟩⟩
    obtain ⟨lq',zF⟩:=mem q.1 q.2 hq
    obtain ⟨lp',sB⟩:=mem p lp NL
    obtain ⟨lj',US⟩:=mem j' lj FO
    rw [eg,hmp] at hz
    exact ⟨lx MW hw5 zF ((dy _ _).subset hz) hj US,lx MW hw5 sB hz hj US⟩
  clear Lt CE OM SN MF
  go_wp2
  go_ret
  exact HE.out
 ·have gy:(y==0)=false:=by simp [hy]
  have HE:Hid (ug w (.pointer (some ⟨b,0,none⟩)) T made M rs kl F n m at' (.returned (.int .i64 y)) w3):=by
   refine ⟨y,T',kl,rfl,HT.out,⟨b,vS,v',bm,G,rfl,MF.out,?_,Or.inl HB.out.2.2.1,fun j hj=>(HV.out j hj).imp (HB.out.2.2.2.1 j) id,fun j hj=>Or.inl (HB.out.2.2.2.2.1 j hj),fun k hk=>Or.inl (HB.out.2.2.2.2.2 k hk)⟩,H9.out.mono (fun k hk=>hk▸HB.out.2.2.1),List.Sublist.refl _⟩
   rcases HT.out.2 with ⟨_,h1⟩ | ⟨h1,_⟩
   ·rw [h1];exact HB.out.2.1
   ·exact absurd h1 hy
  clear hy
  go_wp2
  go_ret
  exact HE.out
end
end Go.Proofs.YtblfffbmklkhmaaGreat
namespace Go.Proofs.YtblfffbmklkhmaaGreat
open Go.RowKit
section
set_option maxRecDepth 100000
set_option maxHeartbeats 2000000
theorem OJ {x:PEl} (h1:x.num=0) (h2:x.par=-1):PT [x] [(0,[])]:=by
 refine ⟨by simp,fun e he=>?_,fun n l hl=>?_,fun n l hl=>?_,fun e he _=>?_⟩
 ·rw [List.mem_singleton] at he
  rw [he,h1]
  exact ⟨[],by simp⟩
 ·rw [List.mem_singleton] at hl
  injection hl with hl _
  exact ⟨x,by simp,by rw [h1,hl]⟩
 ·rw [List.mem_singleton] at hl
  injection hl with hl Si
  subst hl Si
  rw [nW,if_neg (by rw [h2];decide)]
 ·rw [List.mem_singleton] at he
  rw [he]
  exact h2
def J1 (w:World) (s root:ByteArray) (e:Ending) (w':World):Prop:=
 Below w.heap.size w w'∧((dH s root≠0∧e=.returned (.tuple #[.pointer none,.int .i64 (dH s root)]))∨(dH s root=0∧∃ px,e=.returned (.tuple #[px,.int .i64 0])∧DSk w' px [(0,[])] 1 (fun _=>dK root) (dQ s) [] (fun k=>w.heap.size≤k)))
theorem Jv (w:World) (s root:ByteArray) (hs:s.size≤maxLen):Calls Tryz.prog 24 #[.string s,.string root] w fun e w'=>J1 w s root e w':=by
 go_enter Tryz.func24,Tryz.ntmps24
 go_wp2_with fail
 refine (uk w s hs).mono ?_
 rintro e w1 ⟨a,n,c,rfl,cF,q9⟩
 by_cases hc:(fa s).1=0
 ·have HN:Hid (dH s root=if ax root=false then 4 else 0):=by unfold Hid dH;rw [if_neg (fun h=>h hc)]
  have Fn:Hid (SheetIn w1 (fun k=>w.heap.size≤k∧k<w1.heap.size) (.slice a n c) (dQ s)):=by
   obtain ⟨rs,xs,h1,h2,h3,h4⟩:=q9 hc
   exact AA hc h1 h2 h3 h4
  clear q9
  rw [hc]
  clear hc
  generalize (fa s).2=place
  go_wp2_with fail
  refine (Jy _ root).mono ?_
  rintro e w3 ⟨eS,fi⟩
  have hB:Below w.heap.size w w3:=(cF.alloc cF.size _).trans (eS.mono (by have:=cF.size;simp;omega))
  have q6:w3.cell? ⟨w1.heap.size,0,none⟩=some (.slice a n c):=(eS.cell (p:=⟨w1.heap.size,0,none⟩) (by simp)).trans (aa (heap_alloc_new w1 _) rfl)
  have EK:w1.heap.size<w3.heap.size:=by have:=eS.size;simp at this;omega
  have ji:Hid (Below w1.heap.size w1 w3):=((Below.refl _ _).alloc (Nat.le_refl _) _).trans (eS.mono (by simp))
  clear eS
  rcases fi with ⟨hl,rfl⟩ | ⟨hl,g,x,rfl,Xz,Ce,EJ,kL,hg⟩
  ·have HE:Hid (dH s root=4):=by unfold Hid;rw [HN.out,if_pos hl]
   clear hl HN
   go_wp2
   go_ret2
   refine ⟨hB.alloc hB.size _,Or.inl ⟨by rw [HE.out];decide,by rw [HE.out];rfl⟩⟩
  ·have HE:Hid (dH s root=0):=by unfold Hid;rw [HN.out,if_neg (by rw [hl];decide)]
   have HX:Hid (PL w3 (.slice (some ⟨g,0,none⟩) 1 1) [x]∧PT [x] [(0,[])]∧w1.heap.size≤g∧MkO [x] (fun _=>dK root)):=⟨kL,OJ Xz Ce,by simp at hg;omega,(EJ (fun _=>dK root)).ext (fun y _=>by unfold bQ;split<;>rfl)⟩
   have NB:Hid (∀ w',Below w1.heap.size w1 w'→SheetIn w' (fun k=>w.heap.size≤k∧k<w1.heap.size) (.slice a n c) (dQ s)):=fun w' hb=>Fn.out.keep (fun k hk _=>hb.block k hk.2) hb.size
   have Vp:Hid (Below w1.heap.size w1 w3):=ji.out
   clear hl HN Xz Ce kL hg EJ
   go_wp2
   go_ret2
   have hz:=hB.size
   have YN:=Vp.out.size
   have e1:(w3.alloc (.cells #[.slice (some ⟨g,0,none⟩) 1 1,.int .i64 1] 85)).heap.size=w3.heap.size+1:=by simp
   have I0:=HX.out.2.2.1
   have hw1:=cF.size
   have db:g<w3.heap.size:=(HX.out.1.row.lt g rfl).2
   refine ⟨(hB.alloc hz _).alloc (by simp;omega) _,Or.inr ⟨HE.out,_,rfl,w3.heap.size+1,(.slice a n c,.slice none 0 0),.slice (some ⟨g,0,none⟩) 1 1,[x],fun k=>w.heap.size≤k∧k<w1.heap.size,rfl,⟨⟨?_,⟨(HX.out.1.row.alloc _).alloc _,HX.out.1.ok⟩,HX.out.2.1,by simp⟩,FL,HX.out.2.2.2,NB.out _ ((Vp.out.alloc YN _).alloc (by simp;omega) _),⟨World.ownsRow_nil _ _ _ _,fun x hx=>by cases hx⟩,by simp,fun k hk=>by have:=hk.2;simp;omega,fun hk=>by have:=hk.2;omega,fun j hj hk=>?_,fun j hj=>by simp [Value.ownBlock] at hj⟩,FD,by show w.heap.size≤_;omega,fun j hj=>?_,fun j hj=>by simp [Value.ownBlock] at hj,fun k hk=>hk.1⟩⟩
   ·rw [←e1]
    exact heap_alloc_new _ _
   ·simp [Value.ownBlock] at hj
    have:=hk.2
    omega
   ·simp [Value.ownBlock] at hj
    show w.heap.size≤j
    omega
 ·have HN:Hid (dH s root=(fa s).1):=by unfold Hid dH;rw [if_pos hc]
  have HC:Hid (¬ (fa s).1=0):=hc
  generalize (fa s).2=place
  generalize (fa s).1=y at HN HC hc ⊢
  have gy:(y != 0)=true:=by simp [hc]
  clear hc
  go_wp2
  go_ret2
  exact ⟨cF.alloc cF.size _,Or.inl ⟨by rw [HN.out];exact HC.out,by rw [HN.out];rfl⟩⟩
end
end Go.Proofs.YtblfffbmklkhmaaGreat
namespace Go.Proofs.YtblfffbmklkhmaaGreat
open Go.ChangeShapes Go.WideShapes Go.ChangeAt Go.RowKit
theorem Lm {H:Type} (d:DataW H):1≤Rows.uptoBulk d:=by
 cases d with
 | lit l=>cases l<;>simp [Rows.uptoBulk]
 | _=>simp [Rows.uptoBulk]
theorem qX {H:Type} {k:Nat}:∀ (l:List (DataW H)),(∀ d∈l,k≤Rows.uptoBulk d)→k*l.length≤Rows.uptoBulkAll l
 | [],_=>by simp
 | d :: l,h=>by
  have h1:=h d List.mem_cons_self
  have h2:=qX l (fun x hx=>h x (List.mem_cons_of_mem _ hx))
  rw [List.length_cons,Nat.mul_succ]
  simp only [Rows.uptoBulkAll]
  omega
theorem yd {H:Type} {enc:TypeId × Value→H} {W:World} {a0:Option Addr} {len fL GC:Nat} {x:DataW H × List MemPlace} (h:DataW.trod enc Tryz.prog W 0 (fun _=>true) true GC 22 [.slice a0 len fL]=some x) (hb:Rows.uptoBulk x.1≤1048576):len≤131072:=by
 rcases Go.Deep.open_slice Tryz.underlying22 h with ⟨jy,_⟩ | ⟨a,ZY,Zl,m,n,D,Pl,jy,_,hl,_,KG,rfl,hx⟩
 ·simp only [List.cons.injEq,Value.slice.injEq,and_true] at jy
  omega
 ·simp only [List.cons.injEq,Value.slice.injEq,and_true] at jy
  obtain ⟨_,rfl,rfl⟩:=jy
  simp only [if_true] at KG
  have h9:∀ d∈(List.range len).map D,9≤Rows.uptoBulk d:=by
   intro d hd
   obtain ⟨i,hi,rfl⟩:=List.mem_map.1 hd
   rw [List.mem_range] at hi
   obtain ⟨SZ,_,h2⟩:=hx i (by omega)
   obtain ⟨xs,k,_,hd,_,SP,_⟩:=DataW.trod_struct Tryz.underlying69 h2
   injection hd with hd _
   rw [hd]
   have h8:=qX (k:=1) (xs.map (·.1)) (fun d _=>Lm d)
   rw [List.length_map,SP] at h8
   simp only [Rows.uptoBulk]
   have:(1:Nat)*8≤Rows.uptoBulkAll (xs.map (·.1)):=h8
   omega
  have h3:=qX _ h9
  rw [List.length_map,List.length_range] at h3
  simp only [Rows.uptoBulk] at hb
  omega
end Go.Proofs.YtblfffbmklkhmaaGreat
namespace Go.Proofs.YtblfffbmklkhmaaGreat
open Go.RowKit
def dE (p:Nat):Int:=if 5<p then 0 else (p:Int)+1
def ii (p:Nat):Bool:=decide (p<3)||decide (5<p)
set_option maxHeartbeats 1000000 in
theorem km (w:World) (p:Nat) (hp:p<9):Calls Tryz.prog 169 #[.int .i64 p] w fun e w'=>e=.returned (.int .i64 (dE p))∧w'=w:=by
 by_cases h:5<p
 ·have HE:Hid (dE p=0):=by unfold Hid dE;rw [if_pos h]
  have hd:decide ((5:Int)<(p:Int))=true:=by simp;omega
  clear h
  go_enter Tryz.func169,Tryz.ntmps169
  go_wp2
  go_ret
  rw [HE.out]
  exact ⟨rfl,rfl⟩
 ·have HE:Hid (dE p=(p:Int)+1):=by unfold Hid dE;rw [if_neg h]
  have hd:decide ((5:Int)<(p:Int))=false:=by simp;omega
  clear h
  go_enter Tryz.func169,Tryz.ntmps169
  go_wp2
  go_ret
  rw [HE.out]
  exact ⟨rfl,rfl⟩
set_option maxHeartbeats 1000000 in
theorem wM (w:World) (p:Nat) (hp:p<9):Calls Tryz.prog 189 #[.int .i64 p] w fun e w'=>e=.returned (.bool (ii p))∧w'=w:=by
 by_cases h3:p<3
 ·have HE:Hid (ii p=true):=by unfold Hid ii;simp [h3]
  have hd:decide ((p:Int)<3)=true:=by simp;omega
  clear h3
  go_enter Tryz.func189,Tryz.ntmps189
  go_wp2
  go_ret
  rw [HE.out]
  exact ⟨rfl,rfl⟩
 ·have hd:decide ((p:Int)<3)=false:=by simp;omega
  by_cases h:5<p
  ·have HE:Hid (ii p=true):=by unfold Hid ii;simp [h]
   have iL:decide ((5:Int)<(p:Int))=true:=by simp;omega
   clear h h3
   go_enter Tryz.func189,Tryz.ntmps189
   go_wp2
   go_ret
   rw [HE.out]
   exact ⟨by simp,rfl⟩
  ·have HE:Hid (ii p=false):=by unfold Hid ii;simp [h,h3]
   have iL:decide ((5:Int)<(p:Int))=false:=by simp;omega
   clear h h3
   go_enter Tryz.func189,Tryz.ntmps189
   go_wp2
   go_ret
   rw [HE.out]
   exact ⟨by simp,rfl⟩
def JI (at' a b:Nat):Prop:=∃ k,k≤at'∧a*k+b=at'
open Classical in
noncomputable def j3 (at' a b:Nat):Bool:=decide (JI at' a b)
theorem oM {at' a b:Nat}:j3 at' a b=true↔JI at' a b:=by simp [j3]
set_option maxRecDepth 100000 in
set_option maxHeartbeats 2000000 in
theorem BN (w:World) (at' a b:Nat) (zC:at'≤24) (ha:a≤9) (hb:b≤9):Calls Tryz.prog 218 #[.int .i64 at',.int .i64 a,.int .i64 b] w fun e w'=>e=.returned (.bool (j3 at' a b))∧w'=w:=by
 go_enter Tryz.func218,Tryz.ntmps218
 go_wp2
 go_loop [7] (fun iv=>∃ i:Nat,iv=.int .i64 i∧i≤at'+1∧Hid (∀ k,k<i→a*k+b≠at')) (fun iv=>at'+1 - (intOf iv).toNat)
 case atStart=>exact ⟨0,rfl,Nat.zero_le _,fun k hk=>by omega⟩
 case round=>
  obtain ⟨i,rfl,hi,HN⟩:=hrel
  by_cases aN:i≤at'
  ·have hd:decide ((i:Int)≤(at':Int))=true:=by simp;omega
   have hm:a*i≤9*24:=Nat.mul_le_mul ha (by omega)
   have HM:Hid (∀ m,a*i=m→(a*i+b=at'↔m+b=at')):=fun m h=>by rw [h]
   have hmi:(a:Int)*(i:Int)=((a*i:Nat):Int):=by push_cast;rfl
   by_cases he:a*i+b=at'
   ·have HE:Hid (j3 at' a b=true):=oM.2 ⟨i,aN,he⟩
    have ge:(((a*i:Nat):Int)+(b:Int)==(at':Int))=true:=by rw [beq_iff_eq];omega
    clear he
    generalize a*i=m at hm hmi ge
    go_wp2
    go_ret
    rw [HE.out]
    exact ⟨rfl,rfl⟩
   ·have ge:(((a*i:Nat):Int)+(b:Int)==(at':Int))=false:=by rw [beq_eq_false_iff_ne];omega
    have eL:Hid (∀ k,k<i+1→a*k+b≠at'):=fun k hk=>by
     by_cases e:k=i
     ·subst e;exact he
     ·exact HN.out k (by omega)
    clear he
    generalize a*i=m at hm hmi ge
    go_wp2
    go_round
    case rel=>exact ⟨i+1,by go_num,by omega,eL⟩
    case measure=>simp [intOf];omega
  ·have hd:decide ((i:Int)≤(at':Int))=false:=by simp;omega
   have HE:Hid (j3 at' a b=false):=by
    unfold Hid
    cases hr:j3 at' a b with
    | false=>rfl
    | true=>
     obtain ⟨k,hk,h⟩:=oM.1 hr
     exact absurd h (HN.out k (by omega))
   go_wp2
   go_ret
   rw [HE.out]
   exact ⟨rfl,rfl⟩
def eh (c:Nat):Option Nat:=if 65≤c∧c≤70 then some (c - 65) else if 88≤c∧c≤90 then some (c - 82) else none
abbrev nine:ByteArray:=⟨#[65,66,67,68,69,70,88,89,90]⟩
theorem Ii:nine.size=9:=rfl
theorem yw {r:Nat} (h:r<9):(r<6∧bt nine r=65+r)∨(6≤r∧bt nine r=82+r):=by
 have:r=0∨r=1∨r=2∨r=3∨r=4∨r=5∨r=6∨r=7∨r=8:=by omega
 rcases this with rfl | rfl | rfl | rfl | rfl | rfl | rfl | rfl | rfl
 ·exact Or.inl ⟨by omega,rfl⟩
 ·exact Or.inl ⟨by omega,rfl⟩
 ·exact Or.inl ⟨by omega,rfl⟩
 ·exact Or.inl ⟨by omega,rfl⟩
 ·exact Or.inl ⟨by omega,rfl⟩
 ·exact Or.inl ⟨by omega,rfl⟩
 ·exact Or.inr ⟨by omega,rfl⟩
 ·exact Or.inr ⟨by omega,rfl⟩
 ·exact Or.inr ⟨by omega,rfl⟩
theorem K8 {c r:Nat} (h:SR nine 0 c r):(r<9∧eh c=some r)∨(r=9∧eh c=none):=by
 obtain ⟨_,h2,h3,h4⟩:=h
 rw [Ii] at h2 h4
 by_cases hr:r<9
 ·left
  refine ⟨hr,?_⟩
  have hc:=h4 hr
  unfold eh
  rcases yw hr with ⟨h5,h6⟩ | ⟨h5,h6⟩
  ·rw [if_pos (by omega)]
   congr 1
   omega
  ·rw [if_neg (by omega),if_pos (by omega)]
   congr 1
   omega
 ·right
  refine ⟨by omega,?_⟩
  unfold eh
  rw [if_neg,if_neg]
  ·intro hc
   have h7:=h3 (c - 82) (by omega) (by omega)
   rcases yw (r:=c - 82) (by omega) with ⟨h5,h6⟩ | ⟨h5,h6⟩<;>omega
  ·intro hc
   have h7:=h3 (c - 65) (by omega) (by omega)
   rcases yw (r:=c - 65) (by omega) with ⟨h5,h6⟩ | ⟨h5,h6⟩<;>omega
def UA (w:World) (c:Nat) (e:Ending) (w':World):Prop:=∃ r:Nat,e=.returned (.int .i64 r)∧w'=w∧Hid ((r<9∧eh c=some r)∨(r=9∧eh c=none))
theorem nL (w:World) (c:Nat):Calls Tryz.prog 131 #[.string nine,.int .i64 0,.int .u8 c] w fun e w'=>UA w c e w':=
 (kP w nine 0 c (by decide) (by decide)).mono fun _ _ ⟨r,h1,h2,h3⟩=>⟨r,h1,h2,K8 h3⟩
def jW (s:ByteArray):Option Nat:=if s.size=1 then eh (bt s 0) else none
def wJ (o:Option Nat):Int:=match o with | some p=>p | none=>-1
set_option maxHeartbeats 1000000 in
theorem vH (w:World) (s:ByteArray):Calls Tryz.prog 139 #[.string s] w fun e w'=>e=.returned (.int .i64 (wJ (jW s)))∧w'=w:=by
 by_cases h1:s.size=1
 ·have g1:((s.size:Int) != 1)=false:=by simp [h1]
  have h0:0<s.size:=by omega
  have hb:(s[0].toNat:Int)=(bt s 0:Int):=by rw [bq s 0 h0]
  have HP:Hid (jW s=eh (bt s 0)):=by unfold Hid jW;rw [if_pos h1]
  clear h1
  go_enter Tryz.func139,Tryz.ntmps139
  go_wp2_with fail
  have oc:=nL w (bt s 0)
  refine oc.mono ?_
  rintro e w1 ⟨r,rfl,rfl,HR⟩
  rcases HR.out with ⟨hr,hp⟩ | ⟨hr,hp⟩
  ·have HE:Hid (wJ (jW s)=r):=by unfold Hid;rw [HP.out,hp];rfl
   have g9:((r:Int)==9)=false:=by rw [beq_eq_false_iff_ne];omega
   clear hp hb oc
   go_wp2
   go_ret
   rw [HE.out]
   exact ⟨rfl,rfl⟩
  ·have HE:Hid (wJ (jW s)=-1):=by unfold Hid;rw [HP.out,hp];rfl
   subst hr
   clear hp hb oc
   go_wp2
   go_ret
   rw [HE.out]
   exact ⟨rfl,rfl⟩
 ·have g1:((s.size:Int) != 1)=true:=by rw [bne_iff_ne];omega
  have HE:Hid (wJ (jW s)=-1):=by unfold Hid jW;rw [if_neg h1];rfl
  clear h1
  go_enter Tryz.func139,Tryz.ntmps139
  go_wp2
  go_ret
  rw [HE.out]
  exact ⟨rfl,rfl⟩
end Go.Proofs.YtblfffbmklkhmaaGreat
