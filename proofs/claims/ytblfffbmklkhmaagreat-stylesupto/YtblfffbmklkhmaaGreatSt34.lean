import Derived.Test.YtblfffbmklkhmaaGreatSt33
import Derived.Test.YtblfffbmklkhmaaGreatSt15
import Derived.Test.YtblfffbmklkhmaaGreatSt23
namespace Go.Proofs.YtblfffbmklkhmaaGreat
open Go.RowKit
structure ClsOK (s:ByteArray):Prop where
 let':∀ i,i<s.size→fl (bt s i)=true
 one:∀ i j,i<j→j<s.size→bt s i≠bt s j
theorem ClsOK.few {s:ByteArray} (h:ClsOK s):s.size≤26:=by
 have h1:((List.range s.size).map fun i=>bt s i).Nodup:=by
  rw [List.nodup_iff_pairwise_ne,List.pairwise_map]
  refine List.Pairwise.imp_of_mem ?_ (List.pairwise_lt_range (n:=s.size))
  intro a b _ hb IZ
  exact h.one a b IZ (List.mem_range.1 hb)
 have h2:=fc h1 (m:=(List.range 26).map fun i=>97+i) (fun k hk=>by
  obtain ⟨i,hi,rfl⟩:=List.mem_map.1 hk
  have:=GF (h.let' i (List.mem_range.1 hi))
  exact List.mem_map.2 ⟨bt s i - 97,List.mem_range.2 (by omega),by omega⟩)
 simpa using h2
theorem Kv:ClsOK ⟨#[]⟩:=⟨fun i hi=>absurd hi (Nat.not_lt_zero i),fun _ j _ hj=>absurd hj (Nat.not_lt_zero j)⟩
def BS (f:Nat→Bool) (k:Nat) (b:Bool):Nat→Bool:=fun j=>if j=k then b else f j
structure RE (els:List REl) (M:Nat→Mk) (shn:Nat→Bool):Prop where
 rm:RM els M
 shw:∀ y∈els,y.sh=shn y.num
 cls:∀ y∈els,ClsOK y.cl
section
variable {els:List REl} {M:Nat→Mk} {shn:Nat→Bool}
theorem RE.sub (h:RE els M shn) {l:List REl} (hl:∀ y∈l,∃ x∈els,y.num=x.num∧y.kd=x.kd∧y.cl=x.cl∧y.nm=x.nm∧y.sh=x.sh):RE l M shn:=by
 refine ⟨⟨fun y hy=>?_,fun y hy=>?_,fun y hy=>?_⟩,fun y hy=>?_,fun y hy=>?_⟩
 all_goals obtain ⟨x,hx,h1,h2,h3,h4,h5⟩:=hl y hy
 ·rw [h1,h2];exact h.rm.kd x hx
 ·rw [h1,h3];exact h.rm.cl x hx
 ·rw [h1,h4];exact h.rm.nm x hx
 ·rw [h1,h5];exact h.shw x hx
 ·rw [h3];exact h.cls x hx
theorem BE (b:Nat) (kids:List Nat) (ks:Value) (x:REl):(cP b kids ks x).num=x.num∧(cP b kids ks x).kd=x.kd∧(cP b kids ks x).cl=x.cl∧(cP b kids ks x).nm=x.nm∧(cP b kids ks x).sh=x.sh:=by
 unfold cP
 split<;>exact ⟨rfl,rfl,rfl,rfl,rfl⟩
theorem RE.upd (h:RE els M shn) {l:List REl} (hl:∀ y∈l,y∈els) (b:Nat) (kids:List Nat) (ks:Value):RE (l.map (cP b kids ks)) M shn:=h.sub (fun y hy=>by
 obtain ⟨x,hx,rfl⟩:=List.mem_map.1 hy
 exact ⟨x,hl x hx,BE b kids ks x⟩)
theorem JG (c:Nat):qy c ⟨#[]⟩=false:=by
 unfold qy
 rw [decide_eq_false_iff_not]
 rintro ⟨k,hk,_⟩
 exact absurd hk (Nat.not_lt_zero k)
theorem RE.new (h:RE els M shn) {made:Nat} (hn:∀ y∈els,y.num≠made) {kind:ByteArray} (hk:ax kind=true) (b:Nat):RE (els++[fE b made kind]) (bQ M made (dK kind)) (BS shn made false):=by
 have e1:∀ y∈els,bQ M made (dK kind) y.num=M y.num:=fun y hy=>by unfold bQ;rw [if_neg (hn y hy)]
 have e2:bQ M made (dK kind) made=dK kind:=by unfold bQ;rw [if_pos rfl]
 refine ⟨⟨fun y hy=>?_,fun y hy=>?_,fun y hy=>?_⟩,fun y hy=>?_,fun y hy=>?_⟩
 all_goals rcases List.mem_append.1 hy with hy | hy
 ·rw [e1 y hy];exact h.rm.kd y hy
 ·rw [List.mem_singleton] at hy
  subst hy
  show ax kind=true∧(bQ M made (dK kind) made).kd=bt kind 0
  rw [e2]
  exact ⟨hk,rfl⟩
 ·rw [e1 y hy];exact h.rm.cl y hy
 ·rw [List.mem_singleton] at hy
  subst hy
  intro c
  show qy c ⟨#[]⟩=(decide (97≤c∧c≤122)&&(bQ M made (dK kind) made).cl (c - 97))
  rw [e2,JG]
  show false=(_&&false)
  rw [Bool.and_false]
 ·rw [e1 y hy];exact h.rm.nm y hy
 ·rw [List.mem_singleton] at hy
  subst hy
  left
  refine ⟨rfl,?_⟩
  show (bQ M made (dK kind) made).nm=0
  rw [e2]
  rfl
 ·show y.sh=(if y.num=made then false else shn y.num)
  rw [if_neg (hn y hy)]
  exact h.shw y hy
 ·rw [List.mem_singleton] at hy
  subst hy
  show false=(if made=made then false else shn made)
  rw [if_pos rfl]
 ·exact h.cls y hy
 ·rw [List.mem_singleton] at hy
  subst hy
  exact Kv
end
structure RX (w:World) (d:Nat) (els:List REl) (made:Nat) (hp:Option Addr) (vT:Value) (aR:Bool) (vL:Value) (Rr:List dx) (Gs:Nat→Prop) (M:Nat→Mk) (shn:Nat→Bool) (rs:List cQ):Prop where
 rd:RD w d els made hp vT aR vL
 tw:TW (aB els) made
 re:RE els M shn
 sh:ShIn w Gs hp Rr
 rel:Rel2 vC Rr rs
 few:Rr.length≤400
 tb:aR=true→∃ Tb,w.ownsRow 0 234 9 vT els.length (kn Tb els.length)∧TabR els M rs Tb
 gl:∀ k,Gs k→k<w.heap.size
 ga:∀ k,Gs k→¬ gQ d els vL k
def RSd (w:World) (d:Nat) (T:aA) (made:Nat) (M:Nat→Mk) (shn:Nat→Bool) (rs:List cQ) (F:Nat→Prop):Prop:=
 ∃ els hp vT aR vL Rr Gs,RX w d els made hp vT aR vL Rr Gs M shn rs∧T=aB els∧(∀ k,gQ d els vL k→F k)∧(∀ k,Gs k→F k)∧(aR=true→∀ k,vT.ownBlock=some k→F k)
section
variable {w w':World} {d:Nat} {els:List REl} {made:Nat} {hp:Option Addr} {vT:Value} {aR:Bool} {vL:Value} {Rr:List dx} {Gs:Nat→Prop} {M:Nat→Mk} {shn:Nat→Bool} {rs:List cQ} {T:aA} {F:Nat→Prop}
theorem CV (h:RD w d els made hp vT aR vL):∀ k,gQ d els vL k→k<w.heap.size:=by
 rintro k (rfl | ⟨e,he,rfl⟩ | hk | ⟨e,he,hk⟩)
 ·exact (Array.getElem?_eq_some_iff.1 h.doc).1
 ·exact (Array.getElem?_eq_some_iff.1 (h.el e he)).1
 ·exact (h.row.lt k hk).2
 ·exact ((h.kid e he).lt k hk).2
theorem RX.keep (h:RX w d els made hp vT aR vL Rr Gs M shn rs) (hk:∀ k,gQ d els vL k∨Gs k∨(aR=true∧vT.ownBlock=some k)→k<w.heap.size→w'.heap[k]?=w.heap[k]?) (hz:w.heap.size≤w'.heap.size):RX w' d els made hp vT aR vL Rr Gs M shn rs:=
 ⟨h.rd.keep (fun k hf hl=>hk k (Or.inl hf) hl),h.tw,h.re,h.sh.keep (fun k hg hl=>hk k (Or.inr (Or.inl hg)) hl) hz,h.rel,h.few,fun hh=>by
  obtain ⟨Tb,h1,h2⟩:=h.tb hh
  refine ⟨Tb,?_,h2⟩
  refine ⟨h1.1,?_⟩
  rcases h1.2 with hn | ⟨g,fL,eU,hv,hb,hg,rest⟩
  ·exact Or.inl hn
  ·exact Or.inr ⟨g,fL,eU,hv,hb,(hk g (Or.inr (Or.inr ⟨hh,by rw [hv];rfl⟩)) (Array.getElem?_eq_some_iff.1 hg).1).trans hg,rest⟩,fun k hg=>Nat.lt_of_lt_of_le (h.gl k hg) hz,h.ga⟩
theorem RSd.keep (h:RSd w d T made M shn rs F) (hk:∀ k,F k→k<w.heap.size→w'.heap[k]?=w.heap[k]?) (hz:w.heap.size≤w'.heap.size):RSd w' d T made M shn rs F:=by
 obtain ⟨els,hp,vT,aR,vL,Rr,Gs,h1,h2,h3,h4,h5⟩:=h
 refine ⟨els,hp,vT,aR,vL,Rr,Gs,h1.keep (fun k hf hl=>hk k ?_ hl) hz,h2,h3,h4,h5⟩
 rcases hf with hf | hf | ⟨hh,hf⟩
 ·exact h3 k hf
 ·exact h4 k hf
 ·exact h5 hh k hf
theorem RSd.here (h:RSd w d T made M shn rs F):RSd w d T made M shn rs (fun k=>F k∧k<w.heap.size):=by
 obtain ⟨els,hp,vT,aR,vL,Rr,Gs,h1,h2,h3,h4,h5⟩:=h
 refine ⟨els,hp,vT,aR,vL,Rr,Gs,h1,h2,fun k hk=>⟨h3 k hk,CV h1.rd k hk⟩,fun k hk=>⟨h4 k hk,h1.gl k hk⟩,fun hh k hk=>⟨h5 hh k hk,?_⟩⟩
 obtain ⟨Tb,h6,_⟩:=h1.tb hh
 exact (h6.lt k hk).2
theorem RSd.wide (h:RSd w d T made M shn rs F) {F':Nat→Prop} (hs:∀ k,F k→F' k):RSd w d T made M shn rs F':=by
 obtain ⟨els,hp,vT,aR,vL,Rr,Gs,h1,h2,h3,h4,h5⟩:=h
 exact ⟨els,hp,vT,aR,vL,Rr,Gs,h1,h2,fun k hk=>hs k (h3 k hk),fun k hk=>hs k (h4 k hk),fun hh k hk=>hs k (h5 hh k hk)⟩
theorem RSd.tw (h:RSd w d T made M shn rs F):TW T made:=by
 obtain ⟨els,hp,vT,aR,vL,Rr,Gs,h1,rfl,_⟩:=h
 exact h1.tw
theorem RSd.few (h:RSd w d T made M shn rs F):T.length≤24:=by
 obtain ⟨els,hp,vT,aR,vL,Rr,Gs,h1,rfl,_⟩:=h
 rw [pR]
 exact h1.rd.few
theorem RX.turn (h:RX w d els made hp vT aR vL Rr Gs M shn rs) (hf:Fr w w' (gQ d els vL)) {bm:List REl} {made':Nat} {vL':Value} {M':Nat→Mk} {Kp:Nat→Bool} (hR:RD w' d bm made' hp vT false vL') (hw:TW (aB bm) made') (he:RE bm M' Kp) (o7:∀ k,gQ d bm vL' k→gQ d els vL k∨w.heap.size≤k):RX w' d bm made' hp vT false vL' Rr Gs M' Kp rs:=
 ⟨hR,hw,he,h.sh.keep (fun k hg hl=>hf.block k hl (h.ga k hg)) hf.size,h.rel,h.few,fun hh=>(by cases hh),fun k hg=>Nat.lt_of_lt_of_le (h.gl k hg) hf.size,fun k hg hx=>by
  rcases o7 k hx with h1 | h1
  ·exact h.ga k hg h1
  ·have:=h.gl k hg;omega⟩
theorem RX.rsd (h:RX w d els made hp vT aR vL Rr Gs M shn rs) (h3:∀ k,gQ d els vL k→F k) (h4:∀ k,Gs k→F k) (h5:aR=true→∀ k,vT.ownBlock=some k→F k):RSd w d (aB els) made M shn rs F:=⟨els,hp,vT,aR,vL,Rr,Gs,h,rfl,h3,h4,h5⟩
end
section
variable (w:World) (d:Nat) (T:aA) (made:Nat) (M:Nat→Mk) (shn:Nat→Bool) (rs:List cQ) (F:Nat→Prop)
def ID (par at':Int) (kind:ByteArray) (e:Ending) (w':World):Prop:=
 ∃ y T' made' n,e=.returned (.tuple #[.int .i64 n,.int .i64 y])∧TIns T made par at' kind y T' made' n∧RSd w' d T' made' (if y=0 then bQ M made (dK kind) else M) (if y=0 then BS shn made false else shn) rs (bu F w)∧Fr w w' F
theorem AU (par at':Int) (kind:ByteArray) (h:RSd w d T made M shn rs F) (lz:made≤1099511627776) :
  Calls Tryz.prog 142 #[.pointer (some ⟨d,0,none⟩),.int .i64 par,.int .i64 at',.string kind] w fun e w'=>ID w d T made M shn rs F par at' kind e w':=by
 have pX:=h.wide (F':=bu F w) (fun k hk=>Or.inl hk)
 obtain ⟨els,hp,vT,aR,vL,Rr,Gs,hX,rfl,hF,hG,_⟩:=h
 have hR:=hX.rd
 have hw:=hX.tw
 have bR:∀ e∈els,e.kids.length<els.length:=fun e he=>by
  have:=hw.len (e:=(e.num,e.kids)) (List.mem_map.2 ⟨e,he,rfl⟩)
  rw [pR] at this
  exact this
 refine (vQ w d els made hp vT aR vL par at' kind hR bR lz).mono ?_
 rintro e w' (⟨y,rfl,hy,he,rfl⟩ | ⟨p,k,ks,b,vL',rfl,he,hf,zC,hk,O7,O5,hb,qj,sX⟩)
 ·rw [FU] at he
  refine ⟨y,aB els,made,0,rfl,⟨he.symm,Or.inl ⟨hy,rfl,rfl,rfl⟩⟩,?_,Fr.refl _ _⟩
  rw [if_neg hy,if_neg hy]
  exact pX
 ·have jH:ax kind=true:=by
   unfold gW at he
   rw [hf] at he
   by_cases hl:ax kind=true
   ·exact hl
   ·have Up:ax kind=false:=by simpa using hl
    have QB:(if at'<0∨(p.kids.length:Int)<at' then (8:Int) else if ax kind=false then 4 else if 24≤els.length then 9 else 0)=0:=he
    rw [if_neg (by omega),if_pos Up] at QB
    cases QB
  rw [FU] at he
  obtain ⟨fp,pc⟩:=cg hf
  have T6:=hR.apart (by rw [←kR];exact hw.nums)
  have M7:(p.num,p.kids)∈aB els:=List.mem_map.2 ⟨p,fp,rfl⟩
  have zP:aB (els.map (cP p.blk (bN p.kids k made) ks)++[fE b made kind])=jG (aB els) p.num k made:=by
   unfold jG
   rw [←sE hw.nums M7 (fun e he=>he) (fun l=>bN l k made),←pg T6 (fun e he=>he) fp _ ks]
   unfold aB
   rw [List.map_append]
   rfl
  have o7:∀ j,gQ d (els.map (cP p.blk (bN p.kids k made) ks)++[fE b made kind]) vL' j→gQ d els vL j∨w.heap.size≤j:=by
   intro j hj
   have EU:=sG (b:=p.blk) (kids:=bN p.kids k made) (ks:=ks) (vL':=vL') (S:=fun j=>gQ d els vL j∨w.heap.size≤j) (fun k hk=>Or.inl hk) (fun k hk=>Or.inr (qj k hk)) (fun k hk=>(sX k hk).elim (fun x=>Or.inl (Or.inr (Or.inr (Or.inl x)))) Or.inr)
   rcases hj with rfl | ⟨e,he,rfl⟩ | hj | ⟨e,he,hj⟩
   ·exact EU _ (Or.inl rfl)
   ·rcases List.mem_append.1 he with he | he
    ·exact EU _ (Or.inr (Or.inl ⟨e,he,rfl⟩))
    ·rw [List.mem_singleton] at he
     subst he
     exact Or.inr hb
   ·exact EU _ (Or.inr (Or.inr (Or.inl hj)))
   ·rcases List.mem_append.1 he with he | he
    ·exact EU _ (Or.inr (Or.inr (Or.inr ⟨e,he,hj⟩)))
    ·rw [List.mem_singleton] at he
     subst he
     simp [fE,Value.ownBlock] at hj
  have B7:=(hX.re.upd (fun _ h=>h) p.blk (bN p.kids k made) ks).new (made:=made) (fun y hy e=>by
   obtain ⟨x,hx,rfl⟩:=List.mem_map.1 hy
   rw [(BE _ _ _ x).1] at e
   have:=hw.lt _ (iE hx)
   have h2:x.num<made:=this
   omega) jH b
  have Us:=hX.turn O5 O7 (by rw [zP];exact hw.ins ⟨p.kids,M7⟩) B7 o7
  refine ⟨0,jG (aB els) p.num k made,made+1,made,rfl,⟨he.symm,Or.inr ⟨rfl,rfl,rfl,p.num,k,pc.symm,zC,⟨p.kids,M7,hk⟩,rfl⟩⟩,?_,O5.mono hF⟩
  rw [if_pos rfl,if_pos rfl,←zP]
  exact Us.rsd (fun j hj=>(o7 j hj).imp (hF j) id) (fun j hj=>Or.inl (hG j hj)) (fun hh=>by cases hh)
def Is (n:Int) (e:Ending) (w':World):Prop:=∃ y T',e=.returned (.int .i64 y)∧TRem T n y T'∧RSd w' d T' made M shn rs (bu F w)∧Fr w w' F
theorem Bn (n:Int) (h:RSd w d T made M shn rs F) :
  Calls Tryz.prog 145 #[.pointer (some ⟨d,0,none⟩),.int .i64 n] w fun e w'=>Is w d T made M shn rs F n e w':=by
 have pX:=h.wide (F':=bu F w) (fun k hk=>Or.inl hk)
 obtain ⟨els,hp,vT,aR,vL,Rr,Gs,hX,rfl,hF,hG,_⟩:=h
 have hR:=hX.rd
 have hw:=hX.tw
 obtain ⟨rk,PZ⟩:=pL hw
 refine (vU w d els made hp vT aR vL n hR rk PZ).mono ?_
 rintro e w' (⟨hf,rfl,rfl⟩ | ⟨⟨y,hf⟩,eg,rfl,rfl⟩ | ⟨p,ks,vL',⟨y,hf⟩,eg,zK,rfl,O7,O5,qj,sX⟩)
 ·refine ⟨5,aB els,rfl,⟨?_,Or.inl ⟨by decide,rfl⟩⟩,pX,Fr.refl _ _⟩
  unfold jD
  rw [co hf]
 ·refine ⟨6,aB els,rfl,⟨?_,Or.inl ⟨by decide,rfl⟩⟩,pX,Fr.refl _ _⟩
  unfold jD
  rw [bT hf,dk]
  exact (if_pos eg).symm
 ·obtain ⟨Ku,xE⟩:=cg hf
  obtain ⟨fp,pc⟩:=cg zK
  have T6:=hR.apart (by rw [←kR];exact hw.nums)
  have M7:(p.num,p.kids)∈aB els:=List.mem_map.2 ⟨p,fp,rfl⟩
  have We:(y.num,y.kids)∈aB els:=List.mem_map.2 ⟨y,Ku,rfl⟩
  have h0:y.num≠0:=fun e=>by
   have h1:=hw.root_par
   rw [dk] at h1
   rw [←xE,e] at eg
   have:aJ els ((0:Nat):Int)=aJ els 0:=rfl
   omega
  have tN:∀ e∈bD els n els,e∈els:=fun e he=>(List.mem_filter.1 he).1
  have zP:aB ((bD els n els).map (cP p.blk (af n p.kids) ks))=oR (aB els) y.num:=by
   unfold oR
   have KX:(aU (aB els) (y.num:Int)).toNat=p.num:=by rw [dk,xE];omega
   rw [pg T6 tN fp,KX,Ha,xE,sE hw.nums M7 (fun e he=>(List.mem_filter.1 he).1) (af n)]
  have o7:∀ j,gQ d ((bD els n els).map (cP p.blk (af n p.kids) ks)) vL' j→gQ d els vL j∨w.heap.size≤j:=by
   refine sG (vL:=vL) ?_ (fun k hk=>Or.inr (qj k hk)) (fun k hk=>Or.inr (sX k hk))
   rintro k (rfl | ⟨e,he,rfl⟩ | hk | ⟨e,he,hk⟩)
   ·exact Or.inl (Or.inl rfl)
   ·exact Or.inl (Or.inr (Or.inl ⟨e,(List.mem_filter.1 he).1,rfl⟩))
   ·exact Or.inl (Or.inr (Or.inr (Or.inl hk)))
   ·exact Or.inl (Or.inr (Or.inr (Or.inr ⟨e,(List.mem_filter.1 he).1,hk⟩)))
  have Us:=hX.turn O5 O7 (by rw [zP];exact hw.rem We h0) (hX.re.upd tN _ _ _) o7
  refine ⟨0,oR (aB els) y.num,rfl,⟨?_,Or.inr ⟨rfl,y.num,xE.symm,h0,⟨_,We⟩,rfl⟩⟩,?_,O5.mono hF⟩
  ·unfold jD
   rw [bT hf,dk]
   exact (if_neg (by omega)).symm
  ·rw [←zP]
   exact Us.rsd (fun j hj=>(o7 j hj).imp (hF j) id) (fun j hj=>Or.inl (hG j hj)) (fun hh=>by cases hh)
def Iz (n m at':Int) (e:Ending) (w':World):Prop:=∃ y T',e=.returned (.int .i64 y)∧TMov T n m at' y T'∧RSd w' d T' made M shn rs (bu F w)∧Fr w w' F
theorem IG (n m at':Int) (h:RSd w d T made M shn rs F) :
  Calls Tryz.prog 147 #[.pointer (some ⟨d,0,none⟩),.int .i64 n,.int .i64 m,.int .i64 at'] w fun e w'=>Iz w d T made M shn rs F n m at' e w':=by
 have pX:=h.wide (F':=bu F w) (fun k hk=>Or.inl hk)
 obtain ⟨els,hp,vT,aR,vL,Rr,Gs,hX,rfl,hF,hG,_⟩:=h
 have hR:=hX.rd
 have hw:=hX.tw
 obtain ⟨rk,PZ⟩:=pL hw
 have bR:∀ e∈els,e.kids.length<els.length:=fun e he=>by
  have:=hw.len (e:=(e.num,e.kids)) (List.mem_map.2 ⟨e,he,rfl⟩)
  rw [pR] at this
  exact this
 refine (AN w d els made hp vT aR vL n m at' hR rk PZ bR).mono ?_
 rintro e w' (⟨hf,rfl,rfl⟩ | ⟨y,p,hf,zK,⟨eg,rfl,rfl⟩ | ⟨eg,hu,rfl,rfl⟩ | ⟨eg,hu,zC,rfl,O7,hB⟩ | ⟨q,k,k1,k2,eg,hu,zC,hk,VT,rfl,O7,O5,vE,iU⟩⟩)
 ·refine ⟨5,aB els,rfl,⟨?_,Or.inl ⟨by decide,rfl⟩⟩,pX,Fr.refl _ _⟩
  unfold gU
  rcases hf with hf | hf
  ·rw [co hf]
  ·rw [co hf]
   cases bn (aB els) n<;>rfl
 ·refine ⟨6,aB els,rfl,⟨?_,Or.inl ⟨by decide,rfl⟩⟩,pX,Fr.refl _ _⟩
  unfold gU
  rw [bT hf,bT zK,dk]
  exact (if_pos eg).symm
 ·refine ⟨7,aB els,rfl,⟨?_,Or.inl ⟨by decide,rfl⟩⟩,pX,Fr.refl _ _⟩
  unfold gU
  rw [bT hf,bT zK,dk]
  show _=if _ then _ else _
  rw [if_neg (by omega),if_pos (bE.2 ((lB els n m).2 hu))]
 ·refine ⟨8,aB els,rfl,⟨?_,Or.inl ⟨by decide,rfl⟩⟩,pX.keep (fun k _ hl=>hB.block k hl) hB.size,(Fr.refl w F).below hB⟩
  unfold gU
  rw [bT hf,bT zK,dk]
  show _=if _ then _ else _
  rw [if_neg (by omega),if_neg (fun x=>hu ((lB els n m).1 (bE.1 x))),if_pos zC]
 ·obtain ⟨Ku,xE⟩:=cg hf
  obtain ⟨fp,pc⟩:=cg zK
  obtain ⟨KV,hqn⟩:=cg VT
  have T6:=hR.apart (by rw [←kR];exact hw.nums)
  have M7:(p.num,p.kids)∈aB els:=List.mem_map.2 ⟨p,fp,rfl⟩
  have hqT:(q.num,q.kids)∈aB els:=List.mem_map.2 ⟨q,KV,rfl⟩
  have We:(y.num,y.kids)∈aB els:=List.mem_map.2 ⟨y,Ku,rfl⟩
  have h0:y.num≠0:=fun e=>by
   have h1:=hw.root_par
   rw [dk] at h1
   rw [←xE,e] at eg
   have:aJ els ((0:Nat):Int)=aJ els 0:=rfl
   omega
  have MJ:¬ dR (aB els) y.num p.num:=fun x=>hu (by rw [←xE,←pc];exact (lB els _ _).1 x)
  have zP:aB ((els.map (cP q.blk (af n q.kids) k1)).map (cP p.blk (bN (af n p.kids) k y.num) k2))=jY (aB els) y.num p.num k:=by
   have YK:AC (els.map (cP q.blk (af n q.kids) k1)):=by
    intro e he f N4
    obtain ⟨e',QB,rfl⟩:=List.mem_map.1 he
    obtain ⟨f',X3,rfl⟩:=List.mem_map.1 N4
    rw [jf,jf,vg,vg]
    exact T6 e' QB f' X3
   have Xq:cP q.blk (af n q.kids) k1 p∈els.map (cP q.blk (af n q.kids) k1):=List.mem_map.2 ⟨p,fp,rfl⟩
   have h1:=pg YK (fun e he=>he) Xq (bN (af n p.kids) k y.num) k2
   rw [jf,vg] at h1
   rw [h1,pg T6 (fun e he=>he) KV,sE hw.nums hqT (fun e he=>he) (af n)]
   unfold jY
   have KX:(aU (aB els) (y.num:Int)).toNat=q.num:=by rw [dk,xE];omega
   rw [KX,xE]
   have jF:(p.num,if p.num=q.num then af n p.kids else p.kids)∈pW q.num (af n) (aB els):=kQ.2 ⟨_,M7,rfl,rfl⟩
   rw [←sE (by rw [iQ];exact hw.nums) jF (fun e he=>he) (fun l=>bN (af n l) k y.num)]
   congr 1
   funext _
   show _=bN (af n (if _ then _ else _)) k y.num
   split
   ·rw [pB]
   ·rfl
  have o7:∀ j,gQ d ((els.map (cP q.blk (af n q.kids) k1)).map (cP p.blk (bN (af n p.kids) k y.num) k2)) vL j→gQ d els vL j∨w.heap.size≤j:=
   sG (vL:=vL) (sG (vL:=vL) (fun k hk=>Or.inl hk) (fun k hk=>Or.inr (vE k hk)) (fun k hk=>Or.inl (Or.inr (Or.inr (Or.inl hk))))) (fun k hk=>Or.inr (iU k hk)) (fun k hk=>Or.inl (Or.inr (Or.inr (Or.inl hk))))
  have Us:=hX.turn O5 O7 (by rw [zP];exact hw.mov We h0 M7 MJ) ((hX.re.upd (fun _ h=>h) _ _ _).upd (fun _ h=>h) _ _ _) o7
  refine ⟨0,jY (aB els) y.num p.num k,rfl,⟨?_,Or.inr ⟨rfl,y.num,p.num,k,xE.symm,pc.symm,zC,h0,⟨_,We⟩,⟨_,M7,by rw [xE];exact hk⟩,MJ,rfl⟩⟩,?_,O5.mono hF⟩
  ·unfold gU
   rw [bT hf,bT zK,dk]
   show _=if _ then _ else _
   rw [if_neg (by omega),if_neg (fun x=>hu ((lB els n m).1 (bE.1 x))),if_neg (by omega)]
  ·rw [←zP]
   exact Us.rsd (fun j hj=>(o7 j hj).imp (hF j) id) (fun j hj=>Or.inl (hG j hj)) (fun hh=>by cases hh)
end
end Go.Proofs.YtblfffbmklkhmaaGreat
namespace Go.Proofs.YtblfffbmklkhmaaGreat
open Go.RowKit
def sJ (s:ByteArray):List Nat:=(List.range s.size).map fun i=>bt s i
theorem kh (s:ByteArray):(sJ s).length=s.size:=by unfold sJ;simp
theorem rj {s:ByteArray} {i:Nat} (h:i<s.size):(sJ s)[i]?=some (bt s i):=by unfold sJ;rw [List.getElem?_map,List.getElem?_range h];rfl
theorem P1 {a b:ByteArray} (i:Nat) (h:i<a.size+b.size):bt (a++b) i=if i<a.size then bt a i else bt b (i - a.size):=by
 have hz:(a++b).size=a.size+b.size:=ByteArray.size_append
 rw [bq (a++b) i (by omega)]
 by_cases h1:i<a.size
 ·rw [if_pos h1,bq a i h1,ByteArray.getElem_append_left h1]
 ·rw [if_neg h1,bq b _ (by omega),ByteArray.getElem_append_right (by omega)]
theorem E0 (a b:ByteArray):sJ (a++b)=sJ a++sJ b:=by
 have hz:(a++b).size=a.size+b.size:=ByteArray.size_append
 apply List.ext_getElem?
 intro i
 by_cases h:i<a.size+b.size
 ·rw [rj (by omega),P1 i h]
  by_cases h1:i<a.size
  ·rw [if_pos h1,List.getElem?_append_left (by rw [kh];exact h1),rj h1]
  ·rw [if_neg h1,List.getElem?_append_right (by rw [kh];omega),kh,rj (by omega)]
 ·rw [List.getElem?_eq_none (by rw [kh];omega),List.getElem?_eq_none (by rw [List.length_append,kh,kh];omega)]
theorem N9 {s:ByteArray} {i:Nat} (h:i+1≤s.size):sJ (s.extract i (i+1))=[bt s i]:=by
 have hz:(s.extract i (i+1)).size=1:=by rw [cW h];omega
 unfold sJ
 rw [hz]
 show [bt (s.extract i (i+1)) 0]=_
 rw [aV h (by omega)]
 rfl
theorem EN {c:Nat} {s:ByteArray}:qy c s=true↔c∈sJ s:=by
 unfold qy sJ
 rw [decide_eq_true_eq,List.mem_map]
 constructor
 ·rintro ⟨k,h1,h2⟩;exact ⟨k,List.mem_range.2 h1,h2⟩
 ·rintro ⟨k,h1,h2⟩;exact ⟨k,List.mem_range.1 h1,h2⟩
theorem E1 {s:ByteArray}:ClsOK s↔(sJ s).Nodup∧∀ c∈sJ s,fl c=true:=by
 constructor
 ·intro h
  refine ⟨?_,fun c hc=>?_⟩
  ·unfold sJ
   rw [List.nodup_iff_pairwise_ne,List.pairwise_map]
   refine List.Pairwise.imp_of_mem ?_ (List.pairwise_lt_range (n:=s.size))
   intro a b _ hb IZ
   exact h.one a b IZ (List.mem_range.1 hb)
  ·obtain ⟨i,hi,rfl⟩:=List.mem_map.1 hc
   exact h.let' i (List.mem_range.1 hi)
 ·rintro ⟨h1,h2⟩
  refine ⟨fun i hi=>h2 _ (List.mem_map.2 ⟨i,List.mem_range.2 hi,rfl⟩),fun i j hij hj e=>?_⟩
  have g1:(sJ s)[i]?=some (bt s i):=rj (by omega)
  have g2:(sJ s)[j]?=some (bt s j):=rj hj
  obtain ⟨k1,e1⟩:=List.getElem?_eq_some_iff.1 g1
  obtain ⟨k2,e2⟩:=List.getElem?_eq_some_iff.1 g2
  exact absurd (e1.trans (e.trans e2.symm)) (List.pairwise_iff_getElem.1 h1 i j k1 k2 hij)
def gG (s:ByteArray) (c:Nat):Nat→ByteArray
 | 0=>⟨#[]⟩
 | i+1=>if bt s i=c then gG s c i else gG s c i++s.extract i (i+1)
theorem CU {s:ByteArray} {c:Nat}:∀ i,i≤s.size→sJ (gG s c i)=((sJ s).take i).filter fun x=>decide (x≠c)
 | 0,_=>by rw [List.take_zero];rfl
 | i+1,h=>by
  have hg:(sJ s)[i]?=some (bt s i):=rj (by omega)
  obtain ⟨k1,e1⟩:=List.getElem?_eq_some_iff.1 hg
  rw [List.take_succ_eq_append_getElem k1,List.filter_append,←CU i (by omega),e1]
  show sJ (if bt s i=c then gG s c i else gG s c i++s.extract i (i+1))=_
  by_cases hc:bt s i=c
  ·rw [if_pos hc,hc]
   simp
  ·rw [if_neg hc,E0,N9 (by omega)]
   simp [hc]
theorem E7 {s:ByteArray} {c:Nat} {i:Nat} (h:i≤s.size):(gG s c i).size≤i:=by
 have h1:=congrArg List.length (CU (s:=s) (c:=c) i h)
 rw [kh] at h1
 rw [h1]
 exact Nat.le_trans (List.length_filter_le _ _) (by rw [List.length_take];omega)
def it (cl s:ByteArray) (on:Bool):ByteArray:=if on=true then gG cl (bt s 0) cl.size++s else gG cl (bt s 0) cl.size
theorem oI {s:ByteArray} (h:ax s=true):sJ s=[bt s 0]∧fl (bt s 0)=true:=by
 unfold ax at h
 rw [Bool.and_eq_true,decide_eq_true_eq] at h
 refine ⟨?_,h.2⟩
 unfold sJ
 rw [h.1]
 rfl
theorem rg {cl s:ByteArray} (hs:ax s=true) (on:Bool):sJ (it cl s on)=((sJ cl).filter fun x=>decide (x≠bt s 0))++if on=true then [bt s 0] else []:=by
 have h1:=CU (s:=cl) (c:=bt s 0) cl.size (Nat.le_refl _)
 rw [List.take_of_length_le (by rw [kh];exact Nat.le_refl _)] at h1
 unfold it
 cases on with
 | true=>rw [if_pos rfl,if_pos rfl,E0,h1,(oI hs).1]
 | false=>rw [if_neg (by simp),if_neg (by simp),h1,List.append_nil]
theorem JR {cl s:ByteArray} (hs:ax s=true) (on:Bool) (h:ClsOK cl):ClsOK (it cl s on):=by
 obtain ⟨h1,h2⟩:=E1.1 h
 refine E1.2 ⟨?_,fun c hc=>?_⟩
 ·rw [rg hs,List.nodup_append]
  refine ⟨h1.filter _,by split<;>simp,fun a ha b hb e=>?_⟩
  have BY:b=bt s 0:=by
   split at hb
   ·simpa using hb
   ·cases hb
  have cN:=(List.mem_filter.1 ha).2
  rw [e,BY] at cN
  simp at cN
 ·rw [rg hs,List.mem_append] at hc
  rcases hc with hc | hc
  ·exact h2 c (List.mem_filter.1 hc).1
  ·split at hc
   ·rw [List.mem_singleton] at hc
    rw [hc]
    exact (oI hs).2
   ·cases hc
theorem Hw {cl s:ByteArray} (hs:ax s=true) (on:Bool) (c:Nat):qy c (it cl s on)=if c=bt s 0 then on else qy c cl:=by
 rw [Bool.eq_iff_iff,EN,rg hs,List.mem_append,List.mem_filter]
 by_cases hc:c=bt s 0
 ·rw [if_pos hc]
  constructor
  ·rintro (⟨_,h⟩ | h)
   ·simp [hc] at h
   ·split at h
    ·assumption
    ·cases h
  ·intro h
   right
   rw [if_pos h,hc]
   simp
 ·rw [if_neg hc,EN]
  constructor
  ·rintro (⟨h,_⟩ | h)
   ·exact h
   ·split at h
    ·simp at h;exact absurd h hc
    ·cases h
  ·intro h
   exact Or.inl ⟨h,by simpa using hc⟩
set_option maxRecDepth 100000 in
set_option maxHeartbeats 2000000 in
theorem tp (w:World) (s c:ByteArray) (hs:s.size≤400) (hc:c.size=1):Calls Tryz.prog 175 #[.string s,.string c] w fun e w'=>e=.returned (.string (gG s (bt c 0) s.size))∧w'=w:=by
 have HC:Hid (c.size=1):=hc
 clear hc
 go_enter Tryz.func175,Tryz.ntmps175
 go_wp2_with fail
 go_loopg [5,6] s.size (fun gk tv iv wr=>∃ (i:Nat) (t:ByteArray),iv=.int .i64 i∧tv=.string t∧i≤s.size∧s.size - i≤gk∧t.size≤400∧wr=w∧Hid (t=gG s (bt c 0) i))
 case atStart=>exact ⟨0,⟨#[]⟩,rfl,rfl,Nat.zero_le _,by omega,by decide,rfl,rfl⟩
 case round=>
  obtain ⟨i,t,rfl,rfl,hi,fK,Zt,rfl,HT⟩:=hrel
  by_cases aN:i<s.size
  ·have hd:decide ((i:Int)<(s.size:Int))=true:=by simp;omega
   have fO:(s.extract i (i+1)).size=1:=by rw [cW (by omega)];omega
   have h1:(0:Int)≤(i:Int):=by omega
   have h2:(i:Int)+1≤(s.size:Int):=by omega
   have h3:(i:Int)≤(i:Int)+1:=by omega
   have mr:bt (s.extract i (i+1)) 0=bt s i:=by rw [aV (by omega) (by omega)];rfl
   by_cases hbc:bt s i=bt c 0
   ·have ge:(!((s.extract i (i+1)).toList==c.toList))=false:=by
     have:=yE fO HC.out
     rw [mr] at this
     rw [this,hbc]
     simp
    have n8:Hid (t=gG s (bt c 0) (i+1)):=by
     unfold Hid gG
     rw [if_pos hbc]
     exact HT.out
    clear hbc HT mr
    go_wp2
    go_roundg (s.size - (i+1))
    case measure=>omega
    case rel=>exact ⟨i+1,t,by go_num,rfl,by omega,Nat.le_refl _,Zt,rfl,n8⟩
   ·have ge:(!((s.extract i (i+1)).toList==c.toList))=true:=by
     have:=yE fO HC.out
     rw [mr] at this
     rw [this]
     simp
     omega
    have ae8:t.size≤i:=by rw [HT.out];exact E7 hi
    have n8:Hid (t++s.extract i (i+1)=gG s (bt c 0) (i+1)∧(t++s.extract i (i+1)).size≤400):=by
     refine ⟨?_,by rw [ByteArray.size_append,fO];omega⟩
     unfold gG
     rw [if_neg hbc,HT.out]
    clear hbc HT mr
    go_wp2
    go_roundg (s.size - (i+1))
    case measure=>omega
    case rel=>exact ⟨i+1,_,by go_num,rfl,by omega,Nat.le_refl _,n8.out.2,rfl,n8.out.1⟩
  ·have hd:decide ((i:Int)<(s.size:Int))=false:=by simp;omega
   obtain rfl:i=s.size:=by omega
   have HR:Hid (Ending.returned (.string t)=.returned (.string (gG s (bt c 0) s.size))):=by unfold Hid;rw [HT.out]
   clear HT
   go_wp2
   go_ret
   exact ⟨HR.out,rfl⟩
def eu (b:Nat) (f:REl→REl) (x:REl):REl:=if x.blk=b then f x else x
structure PH (f:REl→REl):Prop where
 blk:∀ x,(f x).blk=x.blk
 num:∀ x,(f x).num=x.num
 kids:∀ x,(f x).kids=x.kids
 ks:∀ x,(f x).ks=x.ks
section
variable {w w':World} {d:Nat} {els:List REl} {made:Nat} {hp:Option Addr} {vT:Value} {aR:Bool} {vL:Value} {Rr:List dx} {Gs:Nat→Prop} {M:Nat→Mk} {shn:Nat→Bool} {rs:List cQ}
theorem fb {f:REl→REl} (hf:PH f) (b:Nat) (x:REl):(eu b f x).blk=x.blk∧(eu b f x).num=x.num∧(eu b f x).kids=x.kids∧(eu b f x).ks=x.ks:=by
 unfold eu
 split
 ·exact ⟨hf.blk x,hf.num x,hf.kids x,hf.ks x⟩
 ·exact ⟨rfl,rfl,rfl,rfl⟩
theorem ts {f:REl→REl} (hf:PH f) (b:Nat):aB (els.map (eu b f))=aB els:=by
 unfold aB
 rw [List.map_map]
 apply List.map_congr_left
 intro x _
 obtain ⟨_,h2,h3,_⟩:=fb hf b x
 show ((eu b f x).num,(eu b f x).kids)=_
 rw [h2,h3]
theorem yb {f:REl→REl} (hf:PH f) (b:Nat) (k:Nat):gQ d (els.map (eu b f)) vL k↔gQ d els vL k:=by
 unfold gQ
 constructor
 ·rintro (h | ⟨e,he,h⟩ | h | ⟨e,he,h⟩)
  ·exact Or.inl h
  ·obtain ⟨x,hx,rfl⟩:=List.mem_map.1 he
   exact Or.inr (Or.inl ⟨x,hx,by rw [h,(fb hf b x).1]⟩)
  ·exact Or.inr (Or.inr (Or.inl h))
  ·obtain ⟨x,hx,rfl⟩:=List.mem_map.1 he
   exact Or.inr (Or.inr (Or.inr ⟨x,hx,by rw [←(fb hf b x).2.2.2];exact h⟩))
 ·rintro (h | ⟨x,hx,h⟩ | h | ⟨x,hx,h⟩)
  ·exact Or.inl h
  ·exact Or.inr (Or.inl ⟨_,List.mem_map.2 ⟨x,hx,rfl⟩,by rw [h,(fb hf b x).1]⟩)
  ·exact Or.inr (Or.inr (Or.inl h))
  ·exact Or.inr (Or.inr (Or.inr ⟨_,List.mem_map.2 ⟨x,hx,rfl⟩,by rw [(fb hf b x).2.2.2];exact h⟩))
theorem RD.setE (h:RD w d els made hp vT aR vL) (hn:(els.map REl.num).Nodup) {p:REl} (yQ:p∈els) {f:REl→REl} (hf:PH f) {o:Nat} {u:Value} (hc:p.cells.setIfInBounds o u=(f p).cells):RD (w.setCell ⟨p.blk,o,none⟩ u) d (els.map (eu p.blk f)) made hp vT aR vL:=by
 have Cc:=h.el p yQ
 refine ⟨?_,?_,?_,?_,by simpa using h.few,?_⟩
 ·rw [Below.heap_setCell]
  ·exact h.doc
  ·intro eq
   rw [←show d=p.blk from eq,h.doc] at Cc
   injection Cc with h3
   injection h3 with _ h4 _
   exact absurd h4 (by decide)
 ·have hr:=h.row
  have hm:(els.map (eu p.blk f)).map (fun e=>Value.pointer (some ⟨e.blk,0,none⟩))=els.map fun e=>Value.pointer (some ⟨e.blk,0,none⟩):=by
   rw [List.map_map]
   refine List.map_congr_left fun e _=>?_
   show Value.pointer (some ⟨(eu p.blk f e).blk,0,none⟩)=_
   rw [(fb hf p.blk e).1]
  rw [hm,List.length_map]
  exact aX hr (aj hr Cc (by decide)) _
 ·intro e he
  obtain ⟨x,hx,rfl⟩:=List.mem_map.1 he
  rw [(fb hf p.blk x).1]
  by_cases hb:x.blk=p.blk
  ·have nK:x=p:=C5 hn hx yQ (h.same hx yQ hb)
   subst nK
   rw [aq Cc]
   unfold eu
   rw [if_pos rfl,hc]
  ·rw [Below.heap_setCell _ _ _ _ (by exact hb)]
   unfold eu
   rw [if_neg hb]
   exact h.el x hx
 ·intro e he
  obtain ⟨x,hx,rfl⟩:=List.mem_map.1 he
  obtain ⟨_,_,h3,h4⟩:=fb hf p.blk x
  rw [h3,h4]
  exact aX (h.kid x hx) (aj (h.kid x hx) Cc (by decide)) _
 ·intro e he
  obtain ⟨x,hx,rfl⟩:=List.mem_map.1 he
  rw [(fb hf p.blk x).2.2.1]
  exact h.kfew x hx
end
end Go.Proofs.YtblfffbmklkhmaaGreat
