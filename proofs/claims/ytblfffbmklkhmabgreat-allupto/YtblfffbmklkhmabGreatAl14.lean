/- Own work. -/
import Derived.Test.YtblfffbmklkhmabGreatAl13
set_option maxRecDepth 100000
set_option maxHeartbeats 40000000
namespace Go.Proofs.YtblfffbmklkhmabGreat
open Go.RowKit Go.Proofs.Tryz
section
variable {l:List REl}
structure ClsOK (s:ByteArray):Prop where
 let':∀i,i<s.size->gN (bt s i)=true
 one:∀i j,i<j->j<s.size->bt s i≠bt s j
theorem ClsOK.few {s:ByteArray}(h:ClsOK s):s.size<=26:=by
 have h1:((List.range s.size).map λi=>bt s i).Nodup:=by
  rw[List.nodup_iff_pairwise_ne,List.pairwise_map];refine List.Pairwise.imp_of_mem ?_ (List.pairwise_lt_range (n:=s.size));intro a b _ hb KH;exact h.one a b KH (List.mem_range.1 hb)
 have h2:=dG h1 (m:=(List.range 26).map λi=>97+i) (λk hk=>by
  obtain⟨i,hi,rfl⟩:=bx.1 hk;have:=J4 (h.let' i (List.mem_range.1 hi));exact bx.2 ⟨bt s i - 97,List.mem_range.2 (by omega),by omega⟩)
 simpa using h2
theorem Oi:ClsOK ⟨#[]⟩:=⟨λi hi=>absurd hi (Nat.not_lt_zero i),λ_ j _ hj=>absurd hj (Nat.not_lt_zero j)⟩
def mQ (f:Nat->Bool)(k:Nat)(b:Bool):Nat->Bool:=λj=>if j=k then b else f j
structure RE (els:List REl)(M:Nat->Mk)(shn:Nat->Bool):Prop where
 rm:RM els M
 shw:∀y∈els,y.sh=shn y.num
 cls:∀y∈els,ClsOK y.cl
section
variable {aa:List REl}{M:Nat->Mk}{shn:Nat->Bool}
theorem RE.sub (h:RE aa M shn)(hl:∀y∈l,∃x∈aa,y.num=x.num/\y.kd=x.kd/\y.cl=x.cl/\y.nm=x.nm/\y.sh=x.sh):RE l M shn:=by
 refine⟨⟨λy hy=>?_,λy hy=>?_,λy hy=>?_⟩,λy hy=>?_,λy hy=>?_⟩
 all_goals obtain⟨x,hx,h1,h2,h3,h4,h5⟩:=hl y hy
 ·rw[h1,h2];exact h.rm.kd x hx
 ·rw[h1,h3];exact h.rm.cl x hx
 ·rw[h1,h4];exact h.rm.nm x hx
 ·rw[h1,h5];exact h.shw x hx
 ·rw[h3];exact h.cls x hx
theorem Fu (b:Nat)(kids:List Nat)(ks:Value)(x:REl):(et b kids ks x).num=x.num/\(et b kids ks x).kd=x.kd/\(et b kids ks x).cl=x.cl/\(et b kids ks x).nm=x.nm/\(et b kids ks x).sh=x.sh:=by
 unfold et;split<;>exact⟨rfl,rfl,rfl,rfl,rfl⟩
theorem RE.upd (h:RE aa M shn)(hl:∀y∈l,y∈aa)(b:Nat)(kids:List Nat)(ks:Value):RE (l.map (et b kids ks)) M shn:=h.sub (λy hy=>by
 obtain⟨x,hx,rfl⟩:=bx.1 hy;exact⟨x,hl x hx,Fu b kids ks x⟩)
theorem Nq (c:Nat):ta c ⟨#[]⟩=false:=by
 unfold ta;rw[ii];rintro⟨k,hk,_⟩;exact absurd hk (Nat.not_lt_zero k)
theorem RE.new (h:RE aa M shn){ae:Nat}(hn:∀y∈aa,y.num≠ae){aj:ByteArray}(hk:aQ aj=true)(b:Nat):RE (aa++[iU b ae aj]) (bU M ae (eh aj)) (mQ shn ae false):=by
 have e1:∀y∈aa,bU M ae (eh aj) y.num=M y.num:=λy hy=>by unfold bU;rw[aA (hn y hy)]
 have e2:bU M ae (eh aj) ae=eh aj:=by unfold bU;rw[aE rfl]
 refine⟨⟨λy hy=>?_,λy hy=>?_,λy hy=>?_⟩,λy hy=>?_,λy hy=>?_⟩
 all_goals rcases List.mem_append.1 hy with hy | hy
 ·rw[e1 y hy];exact h.rm.kd y hy
 ·rw[ft] at hy;subst hy;show aQ aj=true/\(bU M ae (eh aj) ae).kd=bt aj 0;rw[e2];exact⟨hk,rfl⟩
 ·rw[e1 y hy];exact h.rm.cl y hy
 ·rw[ft] at hy;subst hy;intro c;show ta c ⟨#[]⟩=(decide (97<=c/\c<=122)&&(bU M ae (eh aj) ae).cl (c - 97));rw[e2,Nq];show false=(_&&false);rw[Bool.and_false]
 ·rw[e1 y hy];exact h.rm.nm y hy
 ·rw[ft] at hy;subst hy;left;refine⟨rfl,?_⟩;show(bU M ae (eh aj) ae).nm=0;rw[e2];rfl
 ·show y.sh=(if y.num=ae then false else shn y.num);rw[aA (hn y hy)];exact h.shw y hy
 ·rw[ft] at hy;subst hy;show false=(if ae=ae then false else shn ae);rw[aE rfl]
 ·exact h.cls y hy
 ·rw[ft] at hy;subst hy;exact Oi
end
structure RX (w:World)(d:Nat)(els:List REl)(made:Nat)(hp:Option Addr)(vT:Value)(br:Bool)(vL:Value)(Rr:List eI)(Gs:Nat->Prop)(M:Nat->Mk)(shn:Nat->Bool)(rs:List dx):Prop where
 rd:RD w d els made hp vT br vL
 tw:TW (aW els) made
 re:RE els M shn
 sh:ShIn w Gs hp Rr
 rel:Rel2 y9 Rr rs
 few:Rr.length<=400
 tb:br=true->∃Tb,w.ownsRow 0 168 9 vT els.length (mi Tb els.length)/\TabR els M rs Tb
 gl:∀k,Gs k->k<w.heap.size
 ga:∀k,Gs k->¬jX d els vL k
def RSd (w:World)(d:Nat)(T:aU)(ae:Nat)(M:Nat->Mk)(shn:Nat->Bool)(rs:List dx)(F:Nat->Prop):Prop:=
 ∃aa hp vT br vL Rr Gs,RX w d aa ae hp vT br vL Rr Gs M shn rs/\T=aW aa/\(∀k,jX d aa vL k->F k)/\(∀k,Gs k->F k)/\(br=true->∀k,vT.ownBlock=some k->F k)
section
variable {w w':World}{d:Nat}{aa:List REl}{ae:Nat}{hp:Option Addr}{vT:Value}{br:Bool}{vL:Value}{Rr:List eI}{Gs:Nat->Prop}{M:Nat->Mk}{shn:Nat->Bool}{rs:List dx}{T:aU}{F:Nat->Prop}
theorem GC (h:RD w d aa ae hp vT br vL):∀k,jX d aa vL k->k<w.heap.size:=by
 rintro k (rfl | ⟨e,he,rfl⟩ | hk | ⟨e,he,hk⟩)
 ·exact(bG.1 h.doc).1
 ·exact(bG.1 (h.el e he)).1
 ·exact(h.row.lt k hk).2
 ·exact((h.kid e he).lt k hk).2
theorem RX.keep (h:RX w d aa ae hp vT br vL Rr Gs M shn rs)(hk:∀k,jX d aa vL k∨Gs k∨(br=true/\vT.ownBlock=some k)->k<w.heap.size->w'.heap[k]?=w.heap[k]?)(hz:w.heap.size<=w'.heap.size):RX w' d aa ae hp vT br vL Rr Gs M shn rs:=
 ⟨h.rd.keep (λk hf hl=>hk k (ax hf) hl),h.tw,h.re,h.sh.keep (λk hg hl=>hk k (az (ax hg)) hl) hz,h.rel,h.few,λhh=>by
  obtain⟨Tb,h1,h2⟩:=h.tb hh;refine⟨Tb,?_,h2⟩;refine⟨h1.1,?_⟩;rcases h1.2 with hn | ⟨g,ij,gu,hv,hb,hg,rest⟩
  ·exact ax hn
  ·exact az ⟨g,ij,gu,hv,hb,(hk g (az (az ⟨hh,by rw[hv];rfl⟩)) (bG.1 hg).1).trans hg,rest⟩,λk hg=>Nat.lt_of_lt_of_le (h.gl k hg) hz,h.ga⟩
theorem RSd.keep (h:RSd w d T ae M shn rs F)(hk:∀k,F k->k<w.heap.size->w'.heap[k]?=w.heap[k]?)(hz:w.heap.size<=w'.heap.size):RSd w' d T ae M shn rs F:=by
 obtain⟨aa,hp,vT,br,vL,Rr,Gs,h1,h2,h3,h4,h5⟩:=h;refine⟨aa,hp,vT,br,vL,Rr,Gs,h1.keep (λk hf hl=>hk k ?_ hl) hz,h2,h3,h4,h5⟩;rcases hf with hf | hf | ⟨hh,hf⟩
 ·exact h3 k hf
 ·exact h4 k hf
 ·exact h5 hh k hf
theorem RSd.here (h:RSd w d T ae M shn rs F):RSd w d T ae M shn rs (λk=>F k/\k<w.heap.size):=by
 obtain⟨aa,hp,vT,br,vL,Rr,Gs,h1,h2,h3,h4,h5⟩:=h;refine⟨aa,hp,vT,br,vL,Rr,Gs,h1,h2,λk hk=>⟨h3 k hk,GC h1.rd k hk⟩,λk hk=>⟨h4 k hk,h1.gl k hk⟩,λhh k hk=>⟨h5 hh k hk,?_⟩⟩;obtain⟨Tb,h6,_⟩:=h1.tb hh;exact(h6.lt k hk).2
theorem RSd.wide (h:RSd w d T ae M shn rs F){F':Nat->Prop}(hs:∀k,F k->F' k):RSd w d T ae M shn rs F':=by
 obtain⟨aa,hp,vT,br,vL,Rr,Gs,h1,h2,h3,h4,h5⟩:=h;exact⟨aa,hp,vT,br,vL,Rr,Gs,h1,h2,λk hk=>hs k (h3 k hk),λk hk=>hs k (h4 k hk),λhh k hk=>hs k (h5 hh k hk)⟩
theorem RSd.tw (h:RSd w d T ae M shn rs F):TW T ae:=by
 obtain⟨aa,hp,vT,br,vL,Rr,Gs,h1,rfl,_⟩:=h;exact h1.tw
theorem RSd.few (h:RSd w d T ae M shn rs F):T.length<=24:=by
 obtain⟨aa,hp,vT,br,vL,Rr,Gs,h1,rfl,_⟩:=h;rw[rQ];exact h1.rd.few
theorem RX.turn (h:RX w d aa ae hp vT br vL Rr Gs M shn rs)(hf:Fr w w' (jX d aa vL)){bX:List REl}{made':Nat}{vL':Value}{M':Nat->Mk}{QM:Nat->Bool}(hR:RD w' d bX made' hp vT false vL')(hw:TW (aW bX) made')(he:RE bX M' QM)(rC:∀k,jX d bX vL' k->jX d aa vL k∨w.heap.size<=k):RX w' d bX made' hp vT false vL' Rr Gs M' QM rs:=
 ⟨hR,hw,he,h.sh.keep (λk hg hl=>hf.block k hl (h.ga k hg)) hf.size,h.rel,h.few,λhh=>(by cases hh),λk hg=>Nat.lt_of_lt_of_le (h.gl k hg) hf.size,λk hg hx=>by
  rcases rC k hx with h1 | h1
  ·exact h.ga k hg h1
  ·have:=h.gl k hg;omega⟩
theorem RX.rsd (h:RX w d aa ae hp vT br vL Rr Gs M shn rs)(h3:∀k,jX d aa vL k->F k)(h4:∀k,Gs k->F k)(h5:br=true->∀k,vT.ownBlock=some k->F k):RSd w d (aW aa) ae M shn rs F:=⟨aa,hp,vT,br,vL,Rr,Gs,h,rfl,h3,h4,h5⟩
end
section
variable (w:World)(d:Nat)(T:aU)(ae:Nat)(M:Nat->Mk)(shn:Nat->Bool)(rs:List dx)(F:Nat->Prop)
def JR (an af:Int)(aj:ByteArray)(e:Ending)(w':World):Prop:=
 ∃y T' made' n,e=.returned (.tuple #[.int .i64 n,.int .i64 y])/\TIns T ae an af aj y T' made' n/\RSd w' d T' made' (if y=0 then bU M ae (eh aj) else M) (if y=0 then mQ shn ae false else shn) rs (cV F w)/\Fr w w' F
theorem EJ (an af:Int)(aj:ByteArray)(h:RSd w d T ae M shn rs F)(nA:ae<=1099511627776):
  Calls prog 68 #[.pointer (some ⟨d,0,none⟩),.int .i64 an,.int .i64 af,.string aj] w λe w'=>JR w d T ae M shn rs F an af aj e w':=by
 have se:=h.wide (F':=cV F w) (λk hk=>ax hk);obtain⟨aa,hp,vT,br,vL,Rr,Gs,hX,rfl,hF,hG,_⟩:=h;have hR:=hX.rd;have hw:=hX.tw
 have bT:∀e∈aa,e.kids.length<aa.length:=λe he=>by
  have:=hw.len (e:=(e.num,e.kids)) (bx.2 ⟨e,he,rfl⟩);rw[rQ] at this;exact this
 refine(zC w d aa ae hp vT br vL an af aj hR bT nA).mono ?_;rintro e w' (⟨y,rfl,hy,he,rfl⟩ | ⟨p,k,ks,b,vL',rfl,he,hf,B1,hk,UB,Uy,hb,te,vq⟩)
 ·rw[I6] at he;refine⟨y,aW aa,ae,0,rfl,⟨he.symm,ax ⟨hy,rfl,rfl,rfl⟩⟩,?_,Fr.refl _ _⟩;rw[aA hy,aA hy];exact se
 ·have lf:aQ aj=true:=by
   unfold jw at he;rw[hf] at he
   by_cases hl:aQ aj=true
   ·exact hl
   ·have Wz:aQ aj=false:=by simpa using hl
    have Ws:(if af<0∨(p.kids.length:Int)<af then(8:Int) else if aQ aj=false then 4 else if 24<=aa.length then 9 else 0)=0:=he;rw[aA (by omega),aE Wz] at Ws;cases Ws
  rw[I6] at he;obtain⟨fJ,qW⟩:=cY hf;have XF:=hR.apart (by rw[<-mU];exact hw.nums);have Ta:(p.num,p.kids)∈aW aa:=bx.2 ⟨p,fJ,rfl⟩
  have DW:aW (aa.map (et p.blk (dp p.kids k ae) ks)++[iU b ae aj])=lT (aW aa) p.num k ae:=by
   unfold lT;rw[<-vP hw.nums Ta (λe he=>he) (λl=>dp l k ae),<-rR XF (λe he=>he) fJ _ ks];unfold aW;rw[List.map_append];rfl
  have rC:∀j,jX d (aa.map (et p.blk (dp p.kids k ae) ks)++[iU b ae aj]) vL' j->jX d aa vL j∨w.heap.size<=j:=by
   intro j hj;have IX:=vC (b:=p.blk) (kids:=dp p.kids k ae) (ks:=ks) (vL':=vL') (S:=λj=>jX d aa vL j∨w.heap.size<=j) (λk hk=>ax hk) (λk hk=>az (te k hk)) (λk hk=>(vq k hk).elim (λx=>ax (az (az (ax x)))) az);rcases hj with rfl | ⟨e,he,rfl⟩ | hj | ⟨e,he,hj⟩
   ·exact IX _ (ax rfl)
   ·rcases List.mem_append.1 he with he | he
    ·exact IX _ (az (ax ⟨e,he,rfl⟩))
    ·rw[ft] at he;subst he;exact az hb
   ·exact IX _ (az (az (ax hj)))
   ·rcases List.mem_append.1 he with he | he
    ·exact IX _ (az (az (az ⟨e,he,hj⟩)))
    ·rw[ft] at he;subst he;simp[iU,Value.ownBlock] at hj
  have yU:=(hX.re.upd (λ_ h=>h) p.blk (dp p.kids k ae) ks).new (ae:=ae) (λy hy e=>by
   obtain⟨x,hx,rfl⟩:=bx.1 hy;rw[(Fu _ _ _ x).1] at e;have:=hw.lt _ (jR hx);have h2:x.num<ae:=this;omega) lf b
  have Wl:=hX.turn Uy UB (by rw[DW];exact hw.ins ⟨p.kids,Ta⟩) yU rC;refine⟨0,lT (aW aa) p.num k ae,ae+1,ae,rfl,⟨he.symm,az ⟨rfl,rfl,rfl,p.num,k,qW.symm,B1,⟨p.kids,Ta,hk⟩,rfl⟩⟩,?_,Uy.mono hF⟩;rw[aE rfl,aE rfl,<-DW];exact Wl.rsd (λj hj=>(rC j hj).imp (hF j) id) (λj hj=>ax (hG j hj)) (λhh=>by cases hh)
def JT (n:Int)(e:Ending)(w':World):Prop:=∃y T',e=.returned (.int .i64 y)/\TRem T n y T'/\RSd w' d T' ae M shn rs (cV F w)/\Fr w w' F
theorem EL (n:Int)(h:RSd w d T ae M shn rs F):
  Calls prog 72 #[.pointer (some ⟨d,0,none⟩),.int .i64 n] w λe w'=>JT w d T ae M shn rs F n e w':=by
 have se:=h.wide (F':=cV F w) (λk hk=>ax hk);obtain⟨aa,hp,vT,br,vL,Rr,Gs,hX,rfl,hF,hG,_⟩:=h;have hR:=hX.rd;have hw:=hX.tw;obtain⟨rk,Td⟩:=pN hw;refine(zD w d aa ae hp vT br vL n hR rk Td).mono ?_;rintro e w' (⟨hf,rfl,rfl⟩ | ⟨⟨y,hf⟩,fi,rfl,rfl⟩ | ⟨p,ks,vL',⟨y,hf⟩,fi,CQ,rfl,UB,Uy,te,vq⟩)
 ·refine⟨5,aW aa,rfl,⟨?_,ax ⟨by decide,rfl⟩⟩,se,Fr.refl _ _⟩;unfold lh;rw[cW hf]
 ·refine⟨6,aW aa,rfl,⟨?_,ax ⟨by decide,rfl⟩⟩,se,Fr.refl _ _⟩;unfold lh;rw[cU hf,ea];exact(aE fi).symm
 ·obtain⟨Pq,As⟩:=cY hf;obtain⟨fJ,qW⟩:=cY CQ;have XF:=hR.apart (by rw[<-mU];exact hw.nums);have Ta:(p.num,p.kids)∈aW aa:=bx.2 ⟨p,fJ,rfl⟩;have hyT:(y.num,y.kids)∈aW aa:=bx.2 ⟨y,Pq,rfl⟩
  have h0:y.num≠0:=λe=>by
   have h1:=hw.root_par;rw[ea] at h1;rw[<-As,e] at fi;have:bn aa ((0:Nat):Int)=bn aa 0:=rfl;omega
  have zk:∀e∈dL aa n aa,e∈aa:=λe he=>(dJ.1 he).1
  have DW:aW ((dL aa n aa).map (et p.blk (aG n p.kids) ks))=kj (aW aa) y.num:=by
   unfold kj;have Pf:(bi (aW aa) (y.num:Int)).toNat=p.num:=by rw[ea,As];omega
   rw[rR XF zk fJ,Pf,Kc,As,vP hw.nums Ta (λe he=>(dJ.1 he).1) (aG n)]
  have rC:∀j,jX d ((dL aa n aa).map (et p.blk (aG n p.kids) ks)) vL' j->jX d aa vL j∨w.heap.size<=j:=by
   refine vC (vL:=vL) ?_ (λk hk=>az (te k hk)) (λk hk=>az (vq k hk));rintro k (rfl | ⟨e,he,rfl⟩ | hk | ⟨e,he,hk⟩)
   ·exact ax (ax rfl)
   ·exact ax (az (ax ⟨e,(dJ.1 he).1,rfl⟩))
   ·exact ax (az (az (ax hk)))
   ·exact ax (az (az (az ⟨e,(dJ.1 he).1,hk⟩)))
  have Wl:=hX.turn Uy UB (by rw[DW];exact hw.rem hyT h0) (hX.re.upd zk _ _ _) rC;refine⟨0,kj (aW aa) y.num,rfl,⟨?_,az ⟨rfl,y.num,As.symm,h0,⟨_,hyT⟩,rfl⟩⟩,?_,Uy.mono hF⟩
  ·unfold lh;rw[cU hf,ea];exact(aA (by omega)).symm
  ·rw[<-DW];exact Wl.rsd (λj hj=>(rC j hj).imp (hF j) id) (λj hj=>ax (hG j hj)) (λhh=>by cases hh)
def JS (n m af:Int)(e:Ending)(w':World):Prop:=∃y T',e=.returned (.int .i64 y)/\TMov T n m af y T'/\RSd w' d T' ae M shn rs (cV F w)/\Fr w w' F
theorem LE (n m af:Int)(h:RSd w d T ae M shn rs F):
  Calls prog 75 #[.pointer (some ⟨d,0,none⟩),.int .i64 n,.int .i64 m,.int .i64 af] w λe w'=>JS w d T ae M shn rs F n m af e w':=by
 have se:=h.wide (F':=cV F w) (λk hk=>ax hk);obtain⟨aa,hp,vT,br,vL,Rr,Gs,hX,rfl,hF,hG,_⟩:=h;have hR:=hX.rd;have hw:=hX.tw;obtain⟨rk,Td⟩:=pN hw
 have bT:∀e∈aa,e.kids.length<aa.length:=λe he=>by
  have:=hw.len (e:=(e.num,e.kids)) (bx.2 ⟨e,he,rfl⟩);rw[rQ] at this;exact this
 refine(EQ w d aa ae hp vT br vL n m af hR rk Td bT).mono ?_;rintro e w' (⟨hf,rfl,rfl⟩ | ⟨y,p,hf,CQ,⟨fi,rfl,rfl⟩ | ⟨fi,hu,rfl,rfl⟩ | ⟨fi,hu,B1,rfl,UB,hB⟩ | ⟨q,k,k1,k2,fi,hu,B1,hk,hqf,rfl,UB,Uy,qa,gg⟩⟩)
 ·refine⟨5,aW aa,rfl,⟨?_,ax ⟨by decide,rfl⟩⟩,se,Fr.refl _ _⟩;unfold jo;rcases hf with hf | hf
  ·rw[cW hf]
  ·rw[cW hf];cases bF (aW aa) n<;>rfl
 ·refine⟨6,aW aa,rfl,⟨?_,ax ⟨by decide,rfl⟩⟩,se,Fr.refl _ _⟩;unfold jo;rw[cU hf,cU CQ,ea];exact(aE fi).symm
 ·refine⟨7,aW aa,rfl,⟨?_,ax ⟨by decide,rfl⟩⟩,se,Fr.refl _ _⟩;unfold jo;rw[cU hf,cU CQ,ea];show _=if _ then _ else _
  rw[aA (by omega),aE (bC.2 ((mV aa n m).2 hu))]
 ·refine⟨8,aW aa,rfl,⟨?_,ax ⟨by decide,rfl⟩⟩,se.keep (λk _ hl=>hB.block k hl) hB.size,(Fr.refl w F).below hB⟩;unfold jo;rw[cU hf,cU CQ,ea];show _=if _ then _ else _
  rw[aA (by omega),aA (λx=>hu ((mV aa n m).1 (bC.1 x))),aE B1]
 ·obtain⟨Pq,As⟩:=cY hf;obtain⟨fJ,qW⟩:=cY CQ;obtain⟨Ph,hqn⟩:=cY hqf;have XF:=hR.apart (by rw[<-mU];exact hw.nums);have Ta:(p.num,p.kids)∈aW aa:=bx.2 ⟨p,fJ,rfl⟩;have hqT:(q.num,q.kids)∈aW aa:=bx.2 ⟨q,Ph,rfl⟩;have hyT:(y.num,y.kids)∈aW aa:=bx.2 ⟨y,Pq,rfl⟩
  have h0:y.num≠0:=λe=>by
   have h1:=hw.root_par;rw[ea] at h1;rw[<-As,e] at fi;have:bn aa ((0:Nat):Int)=bn aa 0:=rfl;omega
  have KU:¬dM (aW aa) y.num p.num:=λx=>hu (by rw[<-As,<-qW];exact(mV aa _ _).1 x)
  have DW:aW ((aa.map (et q.blk (aG n q.kids) k1)).map (et p.blk (dp (aG n p.kids) k y.num) k2))=lU (aW aa) y.num p.num k:=by
   have adL:CU (aa.map (et q.blk (aG n q.kids) k1)):=by
    intro e he f SV;obtain⟨e',Ws,rfl⟩:=bx.1 he;obtain⟨f',hf'',rfl⟩:=bx.1 SV;rw[kI,kI,yJ,yJ];exact XF e' Ws f' hf''
   have hp1:et q.blk (aG n q.kids) k1 p∈aa.map (et q.blk (aG n q.kids) k1):=bx.2 ⟨p,fJ,rfl⟩;have h1:=rR adL (λe he=>he) hp1 (dp (aG n p.kids) k y.num) k2;rw[kI,yJ] at h1;rw[h1,rR XF (λe he=>he) Ph,vP hw.nums hqT (λe he=>he) (aG n)];unfold lU;have Pf:(bi (aW aa) (y.num:Int)).toNat=q.num:=by rw[ea,As];omega
   rw[Pf,As];have jZ:(p.num,if p.num=q.num then aG n p.kids else p.kids)∈sU q.num (aG n) (aW aa):=nF.2 ⟨_,Ta,rfl,rfl⟩;rw[<-vP (by rw[km];exact hw.nums) jZ (λe he=>he) (λl=>dp (aG n l) k y.num)]
   congr 1
   funext _;show _=dp (aG n (if _ then _ else _)) k y.num;split
   ·rw[sB]
   ·rfl
  have rC:∀j,jX d ((aa.map (et q.blk (aG n q.kids) k1)).map (et p.blk (dp (aG n p.kids) k y.num) k2)) vL j->jX d aa vL j∨w.heap.size<=j:=
   vC (vL:=vL) (vC (vL:=vL) (λk hk=>ax hk) (λk hk=>az (qa k hk)) (λk hk=>ax (az (az (ax hk))))) (λk hk=>az (gg k hk)) (λk hk=>ax (az (az (ax hk))))
  have Wl:=hX.turn Uy UB (by rw[DW];exact hw.mov hyT h0 Ta KU) ((hX.re.upd (λ_ h=>h) _ _ _).upd (λ_ h=>h) _ _ _) rC;refine⟨0,lU (aW aa) y.num p.num k,rfl,⟨?_,az ⟨rfl,y.num,p.num,k,As.symm,qW.symm,B1,h0,⟨_,hyT⟩,⟨_,Ta,by rw[As];exact hk⟩,KU,rfl⟩⟩,?_,Uy.mono hF⟩
  ·unfold jo;rw[cU hf,cU CQ,ea];show _=if _ then _ else _
   rw[aA (by omega),aA (λx=>hu ((mV aa n m).1 (bC.1 x))),aA (by omega)]
  ·rw[<-DW];exact Wl.rsd (λj hj=>(rC j hj).imp (hF j) id) (λj hj=>ax (hG j hj)) (λhh=>by cases hh)
end
end
section
variable {c i:Nat}{cl s:ByteArray}{f:REl->REl}
def rA (s:ByteArray):List Nat:=(List.range s.size).map λi=>bt s i
theorem jl (s:ByteArray):(rA s).length=s.size:=by unfold rA;simp
theorem tD (h:i<s.size):(rA s)[i]?=some (bt s i):=by unfold rA;rw[List.getElem?_map,List.getElem?_range h];rfl
theorem NA {a b:ByteArray}(i:Nat)(h:i<a.size+b.size):bt (a++b) i=if i<a.size then bt a i else bt b (i - a.size):=by
 have hz:(a++b).size=a.size+b.size:=ByteArray.size_append;rw[bV (a++b) i (by omega)]
 by_cases h1:i<a.size
 ·rw[aE h1,bV a i h1,ByteArray.getElem_append_left h1]
 ·rw[aA h1,bV b _ (by omega),ByteArray.getElem_append_right (by omega)]
theorem Ix (a b:ByteArray):rA (a++b)=rA a++rA b:=by
 have hz:(a++b).size=a.size+b.size:=ByteArray.size_append;apply List.ext_getElem?;intro i
 by_cases h:i<a.size+b.size
 ·rw[tD (by omega),NA i h]
  by_cases h1:i<a.size
  ·rw[aE h1,List.getElem?_append_left (by rw[jl];exact h1),tD h1]
  ·rw[aA h1,List.getElem?_append_right (by rw[jl];omega),jl,tD (by omega)]
 ·rw[List.getElem?_eq_none (by rw[jl];omega),List.getElem?_eq_none (by rw[List.length_append,jl,jl];omega)]
theorem Sr (h:i+1<=s.size):rA (s.extract i (i+1))=[bt s i]:=by
 have hz:(s.extract i (i+1)).size=1:=by rw[dP h];omega
 unfold rA;rw[hz];show[bt (s.extract i (i+1)) 0]=_;rw[bj h (by omega)];rfl
theorem vB:ta c s=true↔c∈rA s:=by
 unfold ta rA;rw[bO,bx];constructor
 ·rintro⟨k,h1,h2⟩;exact⟨k,List.mem_range.2 h1,h2⟩
 ·rintro⟨k,h1,h2⟩;exact⟨k,List.mem_range.1 h1,h2⟩
theorem IB:ClsOK s↔(rA s).Nodup/\∀c∈rA s,gN c=true:=by
 constructor
 ·intro h;refine⟨?_,λc hc=>?_⟩
  ·unfold rA;rw[List.nodup_iff_pairwise_ne,List.pairwise_map];refine List.Pairwise.imp_of_mem ?_ (List.pairwise_lt_range (n:=s.size));intro a b _ hb KH;exact h.one a b KH (List.mem_range.1 hb)
  ·obtain⟨i,hi,rfl⟩:=bx.1 hc;exact h.let' i (List.mem_range.1 hi)
 ·rintro⟨h1,h2⟩;refine⟨λi hi=>h2 _ (bx.2 ⟨i,List.mem_range.2 hi,rfl⟩),λi j Wu hj e=>?_⟩;have g1:(rA s)[i]?=some (bt s i):=tD (by omega);have g2:=tD hj;obtain⟨k1,e1⟩:=ee.1 g1;obtain⟨k2,e2⟩:=ee.1 g2;exact absurd (e1.trans (e.trans e2.symm)) (List.pairwise_iff_getElem.1 h1 i j k1 k2 Wu)
def i5 (s:ByteArray)(c:Nat):Nat->ByteArray
 | 0=>⟨#[]⟩
 | i+1=>if bt s i=c then i5 s c i else i5 s c i++s.extract i (i+1)
theorem BF:∀i,i<=s.size->rA (i5 s c i)=((rA s).take i).filter λx=>decide (x≠c)
 | 0,_=>by rw[List.take_zero];rfl
 | i+1,h=>by
  have hg:(rA s)[i]?=some (bt s i):=tD (by omega);obtain⟨k1,e1⟩:=ee.1 hg;rw[gj k1,List.filter_append,<-BF i (by omega),e1];show rA (if bt s i=c then i5 s c i else i5 s c i++s.extract i (i+1))=_
  by_cases hc:bt s i=c
  ·rw[aE hc,hc];simp
  ·rw[aA hc,Ix,Sr (by omega)];simp[hc]
theorem JJ (h:i<=s.size):(i5 s c i).size<=i:=by
 have h1:=congrArg List.length (BF (s:=s) (c:=c) i h);rw[jl] at h1;rw[h1];exact Nat.le_trans (List.length_filter_le _ _) (by rw[List.length_take];omega)
def je (cl s:ByteArray)(on:Bool):ByteArray:=if on=true then i5 cl (bt s 0) cl.size++s else i5 cl (bt s 0) cl.size
theorem qQ (h:aQ s=true):rA s=[bt s 0]/\gN (bt s 0)=true:=by
 unfold aQ at h;rw[Bool.and_eq_true,bO] at h;refine⟨?_,h.2⟩;unfold rA;rw[h.1];rfl
theorem tG (hs:aQ s=true)(on:Bool):rA (je cl s on)=((rA cl).filter λx=>decide (x≠bt s 0))++if on=true then[bt s 0] else[]:=by
 have h1:=BF (s:=cl) (c:=bt s 0) cl.size aF;rw[List.take_of_length_le (by rw[jl];exact aF)] at h1;unfold je;cases on with
 | true=>rw[aE rfl,aE rfl,Ix,h1,(qQ hs).1]
 | false=>rw[aA (by simp),aA (by simp),h1,List.append_nil]
theorem Oh (hs:aQ s=true)(on:Bool)(h:ClsOK cl):ClsOK (je cl s on):=by
 obtain⟨h1,h2⟩:=IB.1 h;refine IB.2 ⟨?_,λc hc=>?_⟩
 ·rw[tG hs,List.nodup_append];refine⟨h1.filter _,by split<;>simp,λa ha b hb e=>?_⟩
  have oW:b=bt s 0:=by
   split at hb
   ·simpa using hb
   ·cases hb
  have dK:=(dJ.1 ha).2;rw[e,oW] at dK;simp at dK
 ·rw[tG hs,List.mem_append] at hc;rcases hc with hc | hc
  ·exact h2 c (dJ.1 hc).1
  ·split at hc
   ·rw[ft] at hc;rw[hc];exact(qQ hs).2
   ·cases hc
theorem Kl (hs:aQ s=true)(on:Bool)(c:Nat):ta c (je cl s on)=if c=bt s 0 then on else ta c cl:=by
 rw[Bool.eq_iff_iff,vB,tG hs,List.mem_append,dJ]
 by_cases hc:c=bt s 0
 ·rw[aE hc];constructor
  ·rintro(⟨_,h⟩ | h)
   ·simp[hc] at h
   ·split at h
    ·assumption
    ·cases h
  ·intro h;right;rw[aE h,hc];simp
 ·rw[aA hc,vB];constructor
  ·rintro(⟨h,_⟩ | h)
   ·exact h
   ·split at h
    ·simp at h;exact absurd h hc
    ·cases h
  ·intro h;exact ax ⟨h,by simpa using hc⟩
theorem yf (w:World)(s c:ByteArray)(hs:s.size<=400)(hc:c.size=1):Calls prog 118 #[.string s,.string c] w λe w'=>e=.returned (.string (i5 s (bt c 0) s.size))/\w'=w:=by
 have HC:=aw hc;clear hc;go_enter func118,ntmps118;go_wp2_with fail
 go_loopg [5,6] s.size (λgk tv iv wr=>∃(i:Nat) (t:ByteArray),iv=.int .i64 i/\tv=.string t/\i<=s.size/\s.size - i<=gk/\t.size<=400/\wr=w/\Hid (t=i5 s (bt c 0) i))
 case atStart=>exact⟨0,⟨#[]⟩,rfl,rfl,bm,by omega,by decide,rfl,rfl⟩
 case round=>
  obtain⟨i,t,rfl,rfl,hi,fT,htz,rfl,HT⟩:=hrel
  by_cases bc:i<s.size
  ·have hd:decide ((i:Int)<(s.size:Int))=true:=by simp;omega
   have gA:(s.extract i (i+1)).size=1:=by rw[dP (by omega)];omega
   have h1:(0:Int)<=(i:Int):=by omega
   have h2:(i:Int)+1<=(s.size:Int):=by omega
   have h3:(i:Int)<=(i:Int)+1:=by omega
   have lW:bt (s.extract i (i+1)) 0=bt s i:=by rw[bj (by omega) (by omega)];rfl
   by_cases hbc:bt s i=bt c 0
   ·have ge:(!((s.extract i (i+1)).toList==c.toList))=false:=by
     have:=Ci gA HC.out;rw[lW] at this;rw[this,hbc];simp
    have oR:Hid (t=i5 s (bt c 0) (i+1)):=by
     unfold Hid i5;rw[aE hbc];exact HT.out
    clear hbc HT lW;go_wp2;go_roundg (s.size - (i+1))
    case measure=>omega
    case rel=>exact⟨i+1,t,by go_num,rfl,by omega,aF,htz,rfl,oR⟩
   ·have ge:(!((s.extract i (i+1)).toList==c.toList))=true:=by
     have:=Ci gA HC.out;rw[lW] at this;rw[this];simp;omega
    have ajB:t.size<=i:=by rw[HT.out];exact JJ hi
    have oR:Hid (t++s.extract i (i+1)=i5 s (bt c 0) (i+1)/\(t++s.extract i (i+1)).size<=400):=by
     refine⟨?_,by rw[ByteArray.size_append,gA];omega⟩;unfold i5;rw[aA hbc,HT.out]
    clear hbc HT lW;go_wp2;go_roundg (s.size - (i+1))
    case measure=>omega
    case rel=>exact⟨i+1,_,by go_num,rfl,by omega,aF,oR.out.2,rfl,oR.out.1⟩
  ·have hd:decide ((i:Int)<(s.size:Int))=false:=by simp;omega
   obtain rfl:i=s.size:=by omega
   have HR:Hid (Ending.returned (.string t)=.returned (.string (i5 s (bt c 0) s.size))):=by unfold Hid;rw[HT.out]
   clear HT;go_wp2;go_ret;exact⟨HR.out,rfl⟩
def fH (b:Nat)(f:REl->REl)(x:REl):REl:=if x.blk=b then f x else x
structure RV (f:REl->REl):Prop where
 blk:∀x,(f x).blk=x.blk
 num:∀x,(f x).num=x.num
 kids:∀x,(f x).kids=x.kids
 ks:∀x,(f x).ks=x.ks
section
variable {w w':World}{d:Nat}{aa:List REl}{ae:Nat}{hp:Option Addr}{vT:Value}{br:Bool}{vL:Value}{Rr:List eI}{Gs:Nat->Prop}{M:Nat->Mk}{shn:Nat->Bool}{rs:List dx}
theorem gf (hf:RV f)(b:Nat)(x:REl):(fH b f x).blk=x.blk/\(fH b f x).num=x.num/\(fH b f x).kids=x.kids/\(fH b f x).ks=x.ks:=by
 unfold fH;split
 ·exact⟨hf.blk x,hf.num x,hf.kids x,hf.ks x⟩
 ·exact⟨rfl,rfl,rfl,rfl⟩
theorem mW (hf:RV f)(b:Nat):aW (aa.map (fH b f))=aW aa:=by
 unfold aW;rw[List.map_map];apply List.map_congr_left;intro x _;obtain⟨_,h2,h3,_⟩:=gf hf b x;show((fH b f x).num,(fH b f x).kids)=_;rw[h2,h3]
theorem rZ (hf:RV f)(b:Nat)(k:Nat):jX d (aa.map (fH b f)) vL k↔jX d aa vL k:=by
 unfold jX;constructor
 ·rintro(h | ⟨e,he,h⟩ | h | ⟨e,he,h⟩)
  ·exact ax h
  ·obtain⟨x,hx,rfl⟩:=bx.1 he;exact az (ax ⟨x,hx,by rw[h,(gf hf b x).1]⟩)
  ·exact az (az (ax h))
  ·obtain⟨x,hx,rfl⟩:=bx.1 he;exact az (az (az ⟨x,hx,by rw[<-(gf hf b x).2.2.2];exact h⟩))
 ·rintro(h | ⟨x,hx,h⟩ | h | ⟨x,hx,h⟩)
  ·exact ax h
  ·exact az (ax ⟨_,bx.2 ⟨x,hx,rfl⟩,by rw[h,(gf hf b x).1]⟩)
  ·exact az (az (ax h))
  ·exact az (az (az ⟨_,bx.2 ⟨x,hx,rfl⟩,by rw[(gf hf b x).2.2.2];exact h⟩))
theorem RD.setE (h:RD w d aa ae hp vT br vL)(hn:(aa.map REl.num).Nodup){p:REl}(CP:p∈aa)(hf:RV f){o:Nat}{u:Value}(hc:p.cells.setIfInBounds o u=(f p).cells):RD (w.setCell ⟨p.blk,o,none⟩ u) d (aa.map (fH p.blk f)) ae hp vT br vL:=by
 have FW:=h.el p CP;refine⟨?_,?_,?_,?_,by simpa using h.few,?_⟩
 ·rw[Below.heap_setCell]
  ·exact h.doc
  ·intro eq;rw[<-show d=p.blk from eq,h.doc] at FW;injection FW with h3
   injection h3 with _ h4 _
   exact absurd h4 (by decide)
 ·have hr:=h.row
  have hm:(aa.map (fH p.blk f)).map (λe=>Value.pointer (some ⟨e.blk,0,none⟩))=aa.map λe=>Value.pointer (some ⟨e.blk,0,none⟩):=by
   rw[List.map_map];refine List.map_congr_left λe _=>?_;show Value.pointer (some ⟨(fH p.blk f e).blk,0,none⟩)=_;rw[(gf hf p.blk e).1]
  rw[hm,List.length_map];exact bw hr (aN hr FW (by decide)) _
 ·intro e he;obtain⟨x,hx,rfl⟩:=bx.1 he;rw[(gf hf p.blk x).1]
  by_cases hb:x.blk=p.blk
  ·have oN:=Gx hn hx CP (h.same hx CP hb);subst oN;rw[aP FW];unfold fH;rw[aE rfl,hc]
  ·rw[Below.heap_setCell _ _ _ _ (by exact hb)];unfold fH;rw[aA hb];exact h.el x hx
 ·intro e he;obtain⟨x,hx,rfl⟩:=bx.1 he;obtain⟨_,_,h3,h4⟩:=gf hf p.blk x;rw[h3,h4];exact bw (h.kid x hx) (aN (h.kid x hx) FW (by decide)) _
 ·intro e he;obtain⟨x,hx,rfl⟩:=bx.1 he;rw[(gf hf p.blk x).2.2.1];exact h.kfew x hx
end
end
section
variable {f:REl->REl}{p:REl}
section
variable {w w':World}{d:Nat}{aa:List REl}{ae:Nat}{hp:Option Addr}{vT:Value}{br:Bool}{vL:Value}{Rr:List eI}{Gs:Nat->Prop}{M:Nat->Mk}{shn:Nat->Bool}{rs:List dx}
theorem RX.nums (h:RX w d aa ae hp vT br vL Rr Gs M shn rs):(aa.map REl.num).Nodup:=by have:=h.tw.nums;rw[mU] at this;exact this
theorem RX.apart (h:RX w d aa ae hp vT br vL Rr Gs M shn rs):CU aa:=h.rd.apart h.nums
theorem RX.ne (h:RX w d aa ae hp vT br vL Rr Gs M shn rs)(uF:p∈aa):p.blk≠d:=λe=>by
 have h1:=h.rd.el p uF;rw[e,h.rd.doc] at h1;injection h1 with h1
 injection h1 with _ h2 _
 exact absurd h2 (by decide)
theorem RE.mark (h:RE aa M shn)(ha:CU aa)(hn:(aa.map REl.num).Nodup)(uF:p∈aa)(hf:RV f){m:Mk}{b:Bool}(h1:aQ (f p).kd=true/\m.kd=bt (f p).kd 0)(h2:∀c,ta c (f p).cl=(decide (97<=c/\c<=122)&&m.cl (c - 97)))(h3:((f p).nm.size=0/\m.nm=0)∨(aQ (f p).nm=true/\m.nm=bt (f p).nm 0))(h4:(f p).sh=b)(h5:ClsOK (f p).cl):RE (aa.map (fH p.blk f)) (bU M p.num m) (mQ shn p.num b):=by
 have nY:∀y∈aa.map (fH p.blk f),(y=f p/\y.num=p.num)∨(y∈aa/\y.num≠p.num):=λy hy=>by
  obtain⟨x,hx,rfl⟩:=bx.1 hy
  by_cases e:x.blk=p.blk
  ·have oN:=Gx hn hx uF ((ha x hx p uF).1 e);subst oN;left;unfold fH;rw[aE rfl];exact⟨rfl,hf.num x⟩
  ·right;unfold fH;rw[aA e];exact⟨hx,λe2=>e ((ha x hx p uF).2 e2)⟩
 have e1:bU M p.num m p.num=m:=by unfold bU;rw[aE rfl]
 have e2:∀k,k≠p.num->bU M p.num m k=M k:=λk hk=>by unfold bU;rw[aA hk]
 refine⟨⟨λy hy=>?_,λy hy=>?_,λy hy=>?_⟩,λy hy=>?_,λy hy=>?_⟩
 all_goals rcases nY y hy with⟨g1,g2⟩ | ⟨g1,g2⟩
 ·rw[g2,e1,g1];exact h1
 ·rw[e2 _ g2];exact h.rm.kd y g1
 ·rw[g2,e1,g1];exact h2
 ·rw[e2 _ g2];exact h.rm.cl y g1
 ·rw[g2,e1,g1];exact h3
 ·rw[e2 _ g2];exact h.rm.nm y g1
 ·show y.sh=if y.num=p.num then b else shn y.num
  rw[aE g2,g1];exact h4
 ·show y.sh=if y.num=p.num then b else shn y.num
  rw[aA g2];exact h.shw y g1
 ·rw[g1];exact h5
 ·exact h.cls y g1
theorem A5 (shn:Nat->Bool)(k:Nat):mQ shn k (shn k)=shn:=by
 funext j;unfold mQ;split
 ·rename_i h;rw[h]
 ·rfl
theorem RX.mark (h:RX w d aa ae hp vT br vL Rr Gs M shn rs)(hf:RV f)(fF:Fr w w' (jX d aa vL))(hR:RD w' d (aa.map (fH p.blk f)) ae hp vT false vL){M':Nat->Mk}{QM:Nat->Bool}(yU:RE (aa.map (fH p.blk f)) M' QM):RX w' d (aa.map (fH p.blk f)) ae hp vT false vL Rr Gs M' QM rs:=
 h.turn fF hR (by rw[mW hf];exact h.tw) yU (λk hk=>ax ((rZ hf p.blk k).1 hk))
end
section
variable (w:World)(d:Nat)(aa:List REl)(ae:Nat)(hp:Option Addr)(vT:Value)(br:Bool)(vL:Value)(Rr:List eI)(Gs:Nat->Prop)(M:Nat->Mk)(shn:Nat->Bool)(rs:List dx)
def jq (c:ByteArray)(x:REl):REl:={x with cl:=c}
def aba (c:ByteArray)(x:REl):REl:={x with nm:=c}
def abl (b:Bool)(x:REl):REl:={x with sh:=b}
theorem oc (c:ByteArray):RV (jq c):=⟨λ_=>rfl,λ_=>rfl,λ_=>rfl,λ_=>rfl⟩
theorem sA (c:ByteArray):RV (aba c):=⟨λ_=>rfl,λ_=>rfl,λ_=>rfl,λ_=>rfl⟩
theorem mA (b:Bool):RV (abl b):=⟨λ_=>rfl,λ_=>rfl,λ_=>rfl,λ_=>rfl⟩
theorem Mi (p:Nat)(a b:ByteArray)(aa:List REl):(aa.map (fH p (jq a))).map (fH p (jq b))=aa.map (fH p (jq b)):=by
 rw[List.map_map];apply List.map_congr_left;intro x _;show fH p (jq b) (fH p (jq a) x)=fH p (jq b) x
 by_cases h:x.blk=p
 ·have e1:fH p (jq a) x=jq a x:=aE h;have e2:fH p (jq b) x=jq b x:=aE h;have h2:(jq a x).blk=p:=h;have e3:fH p (jq b) (jq a x)=jq b (jq a x):=aE h2;rw[e1,e2,e3];rfl
 ·have e1:fH p (jq a) x=x:=aA h;rw[e1]
def jc (n:Int)(s:ByteArray)(on:Bool)(e:Ending)(w':World):Prop:=
 (cA (aW aa) n s≠0/\e=.returned (.int .i64 (cA (aW aa) n s))/\w'=w)∨
 (cA (aW aa) n s=0/\e=.returned (.int .i64 0)/\∃p,bR aa n=some p/\aQ s=true/\RX w' d (aa.map (fH p.blk (jq (je p.cl s on)))) ae hp vT false vL Rr Gs (bU M n.toNat (kA (M n.toNat) s on)) shn rs/\Fr w w' (jX d aa vL))
theorem x9 (n:Int)(s:ByteArray)(on:Bool)(h:RX w d aa ae hp vT br vL Rr Gs M shn rs):
  Calls prog 77 #[.pointer (some ⟨d,0,none⟩),.int .i64 n,.string s,.bool on] w λe w'=>jc w d aa ae hp vT vL Rr Gs M shn rs n s on e w':=by
 have HX:=aw h;clear h;go_enter func77,ntmps77;go_wp2_with fail;refine(eJ w d aa ae hp vT br vL n HX.out.rd).mono ?_;rintro e w1 ⟨rfl,rfl⟩;obtain⟨w,rfl⟩:∃w,w=w1:=⟨_,rfl⟩;cases hf:bR aa n with
 | none=>
  have he:fk none=.pointer none:=rfl;rw[he]
  have HE:Hid (jc w d aa ae hp vT vL Rr Gs M shn rs n s on (.returned (.int .i64 5)) w):=by
   have hc:cA (aW aa) n s=5:=by unfold cA;rw[cW hf]
   exact ax ⟨by rw[hc];decide,by rw[hc],rfl⟩
  clear he hf;go_wp2;go_ret;exact HE.out
 | some p=>
  have he:fk (some p)=.pointer (some ⟨p.blk,0,none⟩):=rfl;rw[he];have HF:=aw hf;clear he hf;go_wp2_with fail;refine(om w s).mono ?_;rintro e w1 ⟨rfl,rfl⟩;obtain⟨w,rfl⟩:∃w,w=w1:=⟨_,rfl⟩;cases hl:aQ s with
  | false=>
   have HE:Hid (jc w d aa ae hp vT vL Rr Gs M shn rs n s on (.returned (.int .i64 4)) w):=by
    have hc:cA (aW aa) n s=4:=by unfold cA;rw[cU HF.out];exact aE hl
    exact ax ⟨by rw[hc];decide,by rw[hc],rfl⟩
   clear hl;go_wp2;go_ret;exact HE.out
  | true=>
   have HL:=aw hl;clear hl;obtain⟨fJ,qW⟩:=cY HF.out;have tl:=bZ fJ qW;have d4:w.cell? ⟨d,4,none⟩=some (.bool br):=au HX.out.rd.doc rfl;have d4f:w.frozen? ⟨d,4,none⟩=false:=aH HX.out.rd.doc;have Rp:=(bG.1 HX.out.rd.doc).1;have ml:=(bG.1 (HX.out.rd.el p fJ)).1;have fG:=HX.out.ne fJ;have kJ:Hid (RD (w.setCell ⟨d,4,none⟩ (.bool false)) d aa ae hp vT false vL):=HX.out.rd.setDoc' rfl;have zJ:Hid (Fr w (w.setCell ⟨d,4,none⟩ (.bool false)) (jX d aa vL)):=(Fr.refl w _).set (p:=⟨d,4,none⟩) (ax (ax rfl)) _;have adU:=(HX.out.re.cls p fJ).few
   have il:s.size=1:=by
    have:=HL.out;unfold aQ at this;rw[Bool.and_eq_true,bO] at this;exact this.1
   clear qW;go_upto_region 8 with fail;generalize w.setCell ⟨d,4,none⟩ (.bool false)=W1 at kJ zJ ⊢;have p2:W1.cell? ⟨p.blk,2,none⟩=some (.string p.cl):=au (kJ.out.el p fJ) rfl;have p2f:W1.frozen? ⟨p.blk,2,none⟩=false:=aH (kJ.out.el p fJ);have ajk:=(bG.1 (kJ.out.el p fJ)).1;clear d4 d4f;go_wp2_with fail;refine(yf W1 p.cl s (by omega) il).mono ?_;rintro e w2 ⟨rfl,rfl⟩;obtain⟨W1,rfl⟩:∃W1,W1=w2:=⟨_,rfl⟩;have oG:Hid (RD (W1.setCell ⟨p.blk,2,none⟩ (.string (i5 p.cl (bt s 0) p.cl.size))) d (aa.map (fH p.blk (jq (i5 p.cl (bt s 0) p.cl.size)))) ae hp vT false vL):=kJ.out.setE HX.out.nums fJ (oc _) rfl;have tj:Hid (Fr w (W1.setCell ⟨p.blk,2,none⟩ (.string (i5 p.cl (bt s 0) p.cl.size))) (jX d aa vL)):=zJ.out.set (p:=⟨p.blk,2,none⟩) (ax (az (ax ⟨p,fJ,rfl⟩))) _;have hwz:(i5 p.cl (bt s 0) p.cl.size).size<=26:=Nat.le_trans (JJ aF) adU;go_upto_region 9 with fail;generalize W1.setCell ⟨p.blk,2,none⟩ (.string (i5 p.cl (bt s 0) p.cl.size))=W2 at oG tj ⊢;have Ug:Hid (fH p.blk (jq (i5 p.cl (bt s 0) p.cl.size)) p∈aa.map (fH p.blk (jq (i5 p.cl (bt s 0) p.cl.size)))):=bx.2 ⟨p,fJ,rfl⟩;have Bv:Hid (fH p.blk (jq (i5 p.cl (bt s 0) p.cl.size)) p=jq (i5 p.cl (bt s 0) p.cl.size) p):=aE rfl
   have MU:Hid (W2.heap[p.blk]?=some (.cells (jq (i5 p.cl (bt s 0) p.cl.size) p).cells 93 (0,0))):=by
    have:=oG.out.el _ Ug.out;rw[Bv.out] at this;exact this
   have q2:W2.cell? ⟨p.blk,2,none⟩=some (.string (i5 p.cl (bt s 0) p.cl.size)):=au MU.out rfl;have q2f:W2.frozen? ⟨p.blk,2,none⟩=false:=aH MU.out;have aek:=(bG.1 MU.out).1
   have fC:Hid (∀W3,RD W3 d (aa.map (fH p.blk (jq (je p.cl s on)))) ae hp vT false vL->Fr w W3 (jX d aa vL)->jc w d aa ae hp vT vL Rr Gs M shn rs n s on (.returned (.int .i64 0)) W3):=λW3 hr fF=>by
    have hc:cA (aW aa) n s=0:=by unfold cA;rw[cU HF.out];exact aA (by rw[HL.out];simp)
    have FV:n.toNat=p.num:=by have:=tl.out.2;omega
    refine az ⟨hc,rfl,p,HF.out,HL.out,?_,fF⟩;rw[FV];have yU:=HX.out.re;have hk:=yU.rm.kd p fJ
    have hm:=HX.out.re.mark HX.out.apart HX.out.nums fJ (oc (je p.cl s on)) (m:=kA (M p.num) s on) (b:=shn p.num) hk (λc=>by
     show ta c (je p.cl s on)=(decide (97<=c/\c<=122)&&(if c - 97+97=bt s 0 then on else(M p.num).cl (c - 97)));rw[Kl HL.out,yU.rm.cl p fJ c];have hsb:=J4 (qQ HL.out).2
     by_cases e1:c=bt s 0
     ·rw[aE e1,aE (by omega),decide_eq_true (by omega)];rfl
     ·rw[aA e1]
      by_cases e2:97<=c/\c<=122
      ·rw[aA (by omega)]
      ·rw[decide_eq_false e2];rfl) (yU.rm.nm p fJ) (yU.shw p fJ) (Oh HL.out on (yU.cls p fJ))
    rw[A5] at hm;exact HX.out.mark (oc _) fF hr hm
   clear p2 p2f kJ zJ;cases on with
   | false=>
    have HE:=aw (fC.out W2 oG.out tj.out);clear oG tj fC MU Ug Bv;go_wp2;go_ret;exact HE.out
   | true=>
    have HE:Hid (jc w d aa ae hp vT vL Rr Gs M shn rs n s true (.returned (.int .i64 0)) (W2.setCell ⟨p.blk,2,none⟩ (.string (i5 p.cl (bt s 0) p.cl.size++s)))):=by
     refine fC.out _ ?_ (tj.out.set (p:=⟨p.blk,2,none⟩) (ax (az (ax ⟨p,fJ,rfl⟩))) _)
     have Am:((aa.map (fH p.blk (jq (i5 p.cl (bt s 0) p.cl.size)))).map REl.num).Nodup:=by
      rw[List.map_map];have:(aa.map (REl.num ∘ fH p.blk (jq (i5 p.cl (bt s 0) p.cl.size))))=aa.map REl.num:=List.map_congr_left λx _=>(gf (oc _) p.blk x).2.1;rw[this];exact HX.out.nums
     have h1:=oG.out.setE Am Ug.out (oc (i5 p.cl (bt s 0) p.cl.size++s)) (o:=2) (u:=.string (i5 p.cl (bt s 0) p.cl.size++s)) (by rw[Bv.out];rfl);rw[Bv.out] at h1;have h2:(jq (i5 p.cl (bt s 0) p.cl.size) p).blk=p.blk:=rfl;rw[h2,Mi] at h1;exact h1
    clear oG tj fC MU Ug Bv;go_wp2;go_ret;exact HE.out
end
end
section
variable (w:World)(d:Nat)(aa:List REl)(ae:Nat)(hp:Option Addr)(vT:Value)(br:Bool)(vL:Value)(Rr:List eI)(Gs:Nat->Prop)(M:Nat->Mk)(shn:Nat->Bool)(rs:List dx)
def jN (n:Int)(s:ByteArray)(e:Ending)(w':World):Prop:=
 (cJ (aW aa) n s≠0/\e=.returned (.int .i64 (cJ (aW aa) n s))/\w'=w)∨
 (cJ (aW aa) n s=0/\e=.returned (.int .i64 0)/\∃p,bR aa n=some p/\(s.size=0∨aQ s=true)/\RX w' d (aa.map (fH p.blk (aba s))) ae hp vT false vL Rr Gs (bU M n.toNat (fW (M n.toNat) s)) shn rs/\Fr w w' (jX d aa vL))
theorem AW (n:Int)(s:ByteArray)(h:RX w d aa ae hp vT br vL Rr Gs M shn rs):
  Calls prog 80 #[.pointer (some ⟨d,0,none⟩),.int .i64 n,.string s] w λe w'=>jN w d aa ae hp vT vL Rr Gs M shn rs n s e w':=by
 have HX:=aw h;clear h;go_enter func80,ntmps80;go_wp2_with fail;refine(eJ w d aa ae hp vT br vL n HX.out.rd).mono ?_;rintro e w1 ⟨rfl,rfl⟩;obtain⟨w,rfl⟩:∃w,w=w1:=⟨_,rfl⟩;cases hf:bR aa n with
 | none=>
  have he:fk none=.pointer none:=rfl;rw[he]
  have HE:Hid (jN w d aa ae hp vT vL Rr Gs M shn rs n s (.returned (.int .i64 5)) w):=by
   have hc:cJ (aW aa) n s=5:=by unfold cJ;rw[cW hf]
   exact ax ⟨by rw[hc];decide,by rw[hc],rfl⟩
  clear he hf;go_wp2;go_ret;exact HE.out
 | some p=>
  have he:fk (some p)=.pointer (some ⟨p.blk,0,none⟩):=rfl;rw[he];have HF:=aw hf;clear he hf;obtain⟨fJ,qW⟩:=cY HF.out;have tl:=bZ fJ qW;have d4:w.cell? ⟨d,4,none⟩=some (.bool br):=au HX.out.rd.doc rfl;have d4f:w.frozen? ⟨d,4,none⟩=false:=aH HX.out.rd.doc;have Rp:=(bG.1 HX.out.rd.doc).1;have fG:=HX.out.ne fJ;have kJ:Hid (RD (w.setCell ⟨d,4,none⟩ (.bool false)) d aa ae hp vT false vL):=HX.out.rd.setDoc' rfl;have zJ:Hid (Fr w (w.setCell ⟨d,4,none⟩ (.bool false)) (jX d aa vL)):=(Fr.refl w _).set (p:=⟨d,4,none⟩) (ax (ax rfl)) _
  have fC:Hid (∀W1,RD W1 d aa ae hp vT false vL->Fr w W1 (jX d aa vL)->(s.size=0∨aQ s=true)->jN w d aa ae hp vT vL Rr Gs M shn rs n s (.returned (.int .i64 0)) (W1.setCell ⟨p.blk,3,none⟩ (.string s))):=λW1 hr fF hs=>by
   have hc:cJ (aW aa) n s=0:=by
    unfold cJ;rw[cU HF.out];refine aA ?_;rintro⟨h1,h2⟩;rcases hs with hs | hs
    ·exact h1 hs
    ·rw[hs] at h2;cases h2
   have FV:n.toNat=p.num:=by have:=tl.out.2;omega
   refine az ⟨hc,rfl,p,HF.out,hs,?_,fF.set (p:=⟨p.blk,3,none⟩) (ax (az (ax ⟨p,fJ,rfl⟩))) _⟩;rw[FV];have yU:=HX.out.re
   have hm:=HX.out.re.mark HX.out.apart HX.out.nums fJ (sA s) (m:=fW (M p.num) s) (b:=shn p.num) (yU.rm.kd p fJ) (yU.rm.cl p fJ) (by
    rcases hs with hs | hs
    ·left;refine⟨hs,?_⟩;show(if s.size=0 then(0:Int) else(bt s 0:Int))=0;rw[aE hs]
    ·right;refine⟨hs,?_⟩;show(if s.size=0 then(0:Int) else(bt s 0:Int))=(bt s 0:Int)
     have hz:s.size=1:=by
      unfold aQ at hs;rw[Bool.and_eq_true,bO] at hs;exact hs.1
     rw[aA (by omega)]) (yU.shw p fJ) (yU.cls p fJ)
   rw[A5] at hm;exact HX.out.mark (sA _) (fF.set (p:=⟨p.blk,3,none⟩) (ax (az (ax ⟨p,fJ,rfl⟩))) _) (hr.setE HX.out.nums fJ (sA s) rfl) hm
  have rx:Hid (∀W1,RD W1 d aa ae hp vT false vL->W1.cell? ⟨p.blk,3,none⟩=some (.string p.nm)/\W1.frozen? ⟨p.blk,3,none⟩=false/\p.blk<W1.heap.size):=λW1 hr=>⟨au (hr.el p fJ) rfl,aH (hr.el p fJ),(bG.1 (hr.el p fJ)).1⟩;clear qW;go_wp2_with fail;refine(om w s).mono ?_;rintro e w1 ⟨rfl,rfl⟩;obtain⟨w,rfl⟩:∃w,w=w1:=⟨_,rfl⟩;cases hl:aQ s with
  | false=>
   by_cases hz:s.size=0
   ·have HL:Hid (s.size=0∨aQ s=true):=ax hz;have US:=eS hz;have gz:s.toList.isEmpty=true:=by rw[US];unfold ByteArray.toList;unfold ByteArray.toList.loop;rw[aA (by decide)];rfl
    clear hl hz US;go_upto_region 8 with fail;generalize w.setCell ⟨d,4,none⟩ (.bool false)=W1 at kJ zJ ⊢;obtain⟨p3,p3f,ml⟩:=rx.out W1 kJ.out;have HE:=fC.out W1 kJ.out zJ.out HL.out;have X0:=aw HE;clear HE d4 d4f fC rx kJ zJ gz;go_wp2;go_ret;exact X0.out
   ·have HE:Hid (jN w d aa ae hp vT vL Rr Gs M shn rs n s (.returned (.int .i64 4)) w):=by
     have hc:cJ (aW aa) n s=4:=by unfold cJ;rw[cU HF.out];exact aE ⟨hz,hl⟩
     exact ax ⟨by rw[hc];decide,by rw[hc],rfl⟩
    have gz:=hE s (by omega);clear hl hz fC rx kJ zJ;go_wp2;go_ret;exact HE.out
  | true=>
   have HL:Hid (s.size=0∨aQ s=true):=az hl;clear hl;go_upto_region 8 with fail;generalize w.setCell ⟨d,4,none⟩ (.bool false)=W1 at kJ zJ ⊢;obtain⟨p3,p3f,ml⟩:=rx.out W1 kJ.out;have HE:=fC.out W1 kJ.out zJ.out HL.out;have X0:=aw HE;clear HE d4 d4f fC rx kJ zJ;go_wp2;go_ret;exact X0.out
def wC (n:Int)(on:Bool)(e:Ending)(w':World):Prop:=
 (bR aa n=none/\e=.returned (.int .i64 5)/\w'=w)∨
 (e=.returned (.int .i64 0)/\∃p,bR aa n=some p/\RX w' d (aa.map (fH p.blk (abl on))) ae hp vT br vL Rr Gs M (mQ shn n.toNat on) rs/\Fr w w' (jX d aa vL))
theorem LJ (n:Int)(on:Bool)(h:RX w d aa ae hp vT br vL Rr Gs M shn rs):
  Calls prog 45 #[.pointer (some ⟨d,0,none⟩),.int .i64 n,.bool on] w λe w'=>wC w d aa ae hp vT br vL Rr Gs M shn rs n on e w':=by
 have HX:=aw h;clear h;go_enter func45,ntmps45;go_wp2_with fail;refine(eJ w d aa ae hp vT br vL n HX.out.rd).mono ?_;rintro e w1 ⟨rfl,rfl⟩;obtain⟨w,rfl⟩:∃w,w=w1:=⟨_,rfl⟩;cases hf:bR aa n with
 | none=>
  have he:fk none=.pointer none:=rfl;rw[he];have HE:Hid (wC w d aa ae hp vT br vL Rr Gs M shn rs n on (.returned (.int .i64 5)) w):=ax ⟨hf,rfl,rfl⟩;clear he hf;go_wp2;go_ret;exact HE.out
 | some p=>
  have he:fk (some p)=.pointer (some ⟨p.blk,0,none⟩):=rfl;rw[he];obtain⟨fJ,qW⟩:=cY hf
  have HE:Hid (wC w d aa ae hp vT br vL Rr Gs M shn rs n on (.returned (.int .i64 0)) (w.setCell ⟨p.blk,5,none⟩ (.bool on))):=by
   have hX:=HX.out;have fF:Fr w (w.setCell ⟨p.blk,5,none⟩ (.bool on)) (jX d aa vL):=(Fr.refl w _).set (p:=⟨p.blk,5,none⟩) (ax (az (ax ⟨p,fJ,rfl⟩))) _;refine az ⟨rfl,p,hf,?_,fF⟩;have FV:n.toNat=p.num:=by omega
   rw[FV];have yU:=hX.re;have hm:=yU.mark hX.apart hX.nums fJ (mA on) (m:=M p.num) (b:=on) (yU.rm.kd p fJ) (yU.rm.cl p fJ) (yU.rm.nm p fJ) rfl (yU.cls p fJ)
   have FX:bU M p.num (M p.num)=M:=by
    funext j;unfold bU;split
    ·rename_i h;rw[h]
    ·rfl
   rw[FX] at hm;refine⟨hX.rd.setE hX.nums fJ (mA on) rfl,by rw[mW (mA on)];exact hX.tw,hm,hX.sh.keep (λk hg hl=>fF.block k hl (hX.ga k hg)) fF.size,hX.rel,hX.few,λhh=>?_,λk hg=>Nat.lt_of_lt_of_le (hX.gl k hg) fF.size,λk hg hx=>hX.ga k hg ((rZ (mA on) p.blk k).1 hx)⟩;obtain⟨Tb,h1,h2⟩:=hX.tb hh;refine⟨Tb,?_,?_⟩
   ·rw[List.length_map];exact bw h1 (aN h1 (hX.rd.el p fJ) (by decide)) _
   ·intro i y hy q hq;rw[mW (mA on)];rw[List.getElem?_map] at hy;cases hx:aa[i]? with
    | none=>rw[hx] at hy;cases hy
    | some x=>
     rw[hx] at hy;injection hy with hy
     rw[<-hy,(gf (mA on) p.blk x).2.1];exact h2 i x hx q hq
  have p5:w.cell? ⟨p.blk,5,none⟩=some (.bool p.sh):=au (HX.out.rd.el p fJ) rfl;have p5f:w.frozen? ⟨p.blk,5,none⟩=false:=aH (HX.out.rd.el p fJ);have ml:=(bG.1 (HX.out.rd.el p fJ)).1;clear he hf qW;go_wp2;go_ret;exact HE.out
def rJ (s:ByteArray)(e:Ending)(w':World):Prop:=
 e=.returned (.int .i64 (eH s).1)/\(((eH s).1≠0/\Below w.heap.size w w')∨
 ((eH s).1=0/\∃pa Rr',RX w' d aa ae pa vT false vL Rr' (λk=>w.heap.size<=k/\k<w'.heap.size) M shn (eQ s)/\Fr w w' (jX d aa vL)))
theorem Hp (s:ByteArray)(hs:s.size<=maxLen)(h:RX w d aa ae hp vT br vL Rr Gs M shn rs):
  Calls prog 42 #[.pointer (some ⟨d,0,none⟩),.string s] w λe w'=>rJ w d aa ae vT vL M shn s e w':=by
 have HX:=aw h;clear h;go_enter func42,ntmps42;go_wp2_with fail;refine(mw _ s hs).mono ?_;intro e w1 dn
 by_cases hc:(eH s).1=0
 ·obtain⟨pa,Rr',rfl,hB,hSh,aas,bJ⟩:=ye hs dn hc;have kJ:Hid (RD w1 d aa ae hp vT br vL):=HX.out.rd.keep (λk _ hl=>hB.block k hl);have oG:Hid (RD (w1.setCell ⟨d,0,none⟩ (.pointer pa)) d aa ae pa vT br vL):=kJ.out.setDoc' rfl;have Rp:=(bG.1 kJ.out.doc).1;have c0:w1.cell? ⟨d,0,none⟩=some (.pointer hp):=au kJ.out.doc rfl;have c4:w1.cell? ⟨d,4,none⟩=some (.bool br):=au kJ.out.doc rfl;have df:∀k,w1.frozen? ⟨d,k,none⟩=false:=λk=>aH kJ.out.doc
  have HE:Hid (rJ w d aa ae vT vL M shn s (.returned (.int .i64 0)) ((w1.setCell ⟨d,0,none⟩ (.pointer pa)).setCell ⟨d,4,none⟩ (.bool false))):=by
   refine⟨by rw[hc],az ⟨hc,pa,Rr',?_,?_⟩⟩
   ·have hX:=HX.out;have uB:=GC hX.rd;have hdw:d<w.heap.size:=uB d (ax rfl)
    have hk:∀k,(w.heap.size<=k/\k<w1.heap.size)->k<w1.heap.size->((w1.setCell ⟨d,0,none⟩ (.pointer pa)).setCell ⟨d,4,none⟩ (.bool false)).heap[k]?=w1.heap[k]?:=λk hk _=>
     (Below.heap_setCell _ _ _ _ (by show k≠d;omega)).trans (Below.heap_setCell _ _ _ _ (by show k≠d;omega))
    have hz:((w1.setCell ⟨d,0,none⟩ (.pointer pa)).setCell ⟨d,4,none⟩ (.bool false)).heap.size=w1.heap.size:=by simp
    refine⟨oG.out.setDoc' rfl,hX.tw,hX.re,?_,aas,bJ,λhh=>(by cases hh),λk hk=>hk.2,λk hk hx=>?_⟩
    ·have:=hSh.keep hk (by omega);rw[<-hz] at this;exact this
    ·have:=uB k hx;omega
   ·exact(((Fr.refl w _).below hB).set (p:=⟨d,0,none⟩) (ax (ax rfl)) _).set (p:=⟨d,4,none⟩) (ax (ax rfl)) _
  generalize (eH s).2=c2;clear hB hSh aas bJ dn kJ oG hc;go_wp2;go_ret;exact HE.out
 ·obtain⟨pa,rfl,hB,_⟩:=dn;have HE:Hid (rJ w d aa ae vT vL M shn s (.returned (.int .i64 (eH s).1)) w1):=⟨rfl,ax ⟨hc,hB⟩⟩;have gc:((eH s).1==0)=false:=by simp[hc]
  generalize (eH s).2=c2;generalize (eH s).1=c1 at gc hc HE ⊢;clear hB;go_wp2;go_ret;exact HE.out
end
section
variable (w:World)(b:Nat)(a:Option Addr)(c:Nat)(aa:List PEl)(n:Int)
theorem Ks {aa:List PEl}{n:Int}(h:∀j (_:j<aa.length),¬aa[j].par=n):iY aa n=(dB aa n).isSome:=by
 unfold iY
 have:(aa.all λy=>decide (¬y.par=n))=true:=by
  rw[List.all_eq_true];intro y hy;obtain⟨j,hj,rfl⟩:=List.getElem_of_mem hy;simpa using h j hj
 rw[this,Bool.true_and]
theorem OC {aa:List PEl}{n:Int}{j:Nat}(hj:j<aa.length)(h:aa[j].par=n):iY aa n=false:=by
 unfold iY
 have:(aa.all λy=>decide (¬y.par=n))=false:=by
  rw[List.all_eq_false];exact⟨aa[j],bN hj,by simp[h]⟩
 rw[this,Bool.false_and]
theorem Hj (h:TRd w b a c aa):Calls prog 192 #[.pointer (some ⟨b,1,none⟩),.int .i64 n] w λe w'=>bK w (iY aa n) e w':=by
 have HT:=aw h;have bJ:=h.few;have q0:=h.cell;clear h;go_enter func192,ntmps192;go_wp2_with fail
 go_loopg [12] aa.length (λgk iv wr=>∃(i:Nat),iv=.int .i64 i/\i<=aa.length/\aa.length - i<=gk/\Hid (Below w.heap.size w wr/\∀j (_:j<aa.length),j<i->¬aa[j].par=n))
 case atStart=>exact⟨0,rfl,bm,by omega,bo,λj _ h=>by omega⟩
 case round=>
  obtain⟨i,rfl,jQ,fT,HN⟩:=hrel
  by_cases bc:i<aa.length
  ·have hd:decide ((i:Int)<(aa.length:Int))=true:=by simp;omega
   obtain⟨g,hg,di,he⟩:=HT.out.pl.el bc;subst hg;have HE:=aw (he.below HN.out.1 di);have HY:Hid (aa[i].par=n->iY aa n=false):=λh=>OC bc h
   have iQ:Hid (¬aa[i].par=n->∀j (_:j<aa.length),j<i+1->¬aa[j].par=n):=λhm j hj h1=>by
    by_cases e:j=i
    ·subst e;exact hm
    ·exact HN.out.2 j hj (by omega)
   clear he q0;generalize aa[i].par=py at HE HY iQ;generalize aa[i].num=ny at HE;generalize aa[i].cells=cs at HE;have c1:cs[1]?=some (.int .i64 py):=HE.out.c1;have eM:Hid (Below w.heap.size w (wr.alloc (.cells cs.toArray 156))):=HN.out.1.alloc HN.out.1.size _
   by_cases hp:py=n
   ·have gp:(py==n)=true:=by simp[hp]
    have HR:Hid (bK w (iY aa n) (.returned (.bool false)) (wr.alloc (.cells cs.toArray 156))):=⟨by rw[HY.out hp],eM.out⟩;clear hp;go_wp2_with (first | (refine wpList_load_mid rfl 156 _ rfl g (i*31) rfl cs _ HE.out.rng underlying156 rfl HE.out.size ?_) | (refine aO rfl 156 _ _ rfl _ cs.toArray 156 rfl rfl HE.out.size' HE.out.same HE.out.all ?_));go_ret;exact HR.out
   ·have gp:(py==n)=false:=by simp[hp]
    have oF:Hid (Below w.heap.size w (wr.alloc (.cells cs.toArray 156))/\∀j (_:j<aa.length),j<i+1->¬aa[j].par=n):=⟨eM.out,iQ.out hp⟩;clear hp;go_wp2_with (first | (refine wpList_load_mid rfl 156 _ rfl g (i*31) rfl cs _ HE.out.rng underlying156 rfl HE.out.size ?_) | (refine aO rfl 156 _ _ rfl _ cs.toArray 156 rfl rfl HE.out.size' HE.out.same HE.out.all ?_));go_roundg (aa.length - (i+1))
    case measure=>omega
    case rel=>exact⟨i+1,by go_num,by omega,aF,oF⟩
  ·have hd:decide ((i:Int)<(aa.length:Int))=false:=by simp;omega
   have HY:Hid (iY aa n=(dB aa n).isSome):=Ks (λj hj=>HN.out.2 j hj (by omega));have MG:=aw (HT.out.below HN.out.1);have i8:=HN.out.1.size;clear q0;go_wp2_with fail;refine(EC wr b a c aa n MG.out).mono ?_;rintro e w1 ⟨rfl,cH⟩;have HR:Hid (bK w (iY aa n) (.returned (.bool (dB aa n).isSome)) w1):=⟨by rw[HY.out],HN.out.1.trans (cH.mono i8)⟩;clear cH;generalize (dB aa n).isSome=r at HR ⊢;go_wp2;go_ret;exact HR.out
theorem Qm (place st sr:Int)(h1:0<=place/\place<=100)(h2:-48<=st/\st<=207)(h3:-48<=sr/\sr<=207):Calls prog 193 #[.int .i64 place,.int .i64 st,.int .i64 sr] w λe w'=>bK w (nH place st sr) e w':=by
 obtain⟨h1a,h1b⟩:=h1;obtain⟨h2a,h2b⟩:=h2;obtain⟨h3a,h3b⟩:=h3
 by_cases hs:st<=0
 ·have HR:Hid (nH place st sr=(place==sr)):=by unfold Hid nH;rw[aE (ax hs)]
  have d1:decide (st<=0)=true:=by simpa using hs
  clear hs;have HE:Hid (∀r,(place==sr)=r->bK w (nH place st sr) (.returned (.bool r)) w):=λr hr=>⟨by rw[HR.out,hr],bo⟩;go_enter func193,ntmps193;go_wp2;go_ret;exact HE.out _ rfl
 have d1:decide (st<=0)=false:=by simpa using hs
 by_cases hp:place<sr
 ·have HR:Hid (nH place st sr=(place==sr)):=by unfold Hid nH;rw[aE (az hp)]
  have d2:decide (place<sr)=true:=by simpa using hp
  clear hs hp;have HE:Hid (∀r,(place==sr)=r->bK w (nH place st sr) (.returned (.bool r)) w):=λr hr=>⟨by rw[HR.out,hr],bo⟩;go_enter func193,ntmps193;go_wp2;go_ret;exact HE.out _ rfl
 ·have d2:decide (place<sr)=false:=by simpa using hp
  have HR:Hid (nH place st sr=((place - sr) % st==0)):=by
   unfold Hid nH;rw[aA (by omega)]
  have Ec:(st==0)=false:=by rw[fq];omega
  have aju:st≠0:=by omega
  have ajv:(st==-1)=false:=by rw[fq];omega
  have HE:Hid (∀r,((place - sr) % st==0)=r->bK w (nH place st sr) (.returned (.bool r)) w):=λr hr=>⟨by rw[HR.out,hr],bo⟩;clear hs;go_enter func193,ntmps193;go_wp2;go_ret;exact HE.out _ rfl
theorem AS (a2:Option Addr)(l:List Int)(c2:Nat)(hl:l.length<=24)(hc:l.length<=c2)(zf:c2<=maxLen)(h:RowI w a2 l):Calls prog 185 #[.slice a2 l.length c2] w λe w'=>lA w (l.take 1) e w':=by
 have HL:=aw h;clear h;have HM:=aw zf;unfold maxLen at zf;cases l with
 | nil=>
  have HE:Hid (lA w (([]:List Int).take 1) (.returned (.slice none 0 0)) w):=⟨none,0,rfl,aF,bm,λi hi=>absurd hi (by simp),bo⟩;have hz:(([]:List Int).length:Int)=0:=rfl;go_enter func185,ntmps185;go_wp2;go_ret;exact HE.out
 | cons x l=>
  obtain⟨g,hg,di,hq⟩:=HL.out 0 (by simp);subst hg
  have HE:Hid (lA w ((x :: l).take 1) (.returned (.slice (some ⟨g,0,none⟩) 1 c2)) w):=⟨some ⟨g,0,none⟩,c2,rfl,by simp at hc ⊢;omega,HM.out,λi hi=>⟨g,rfl,di,by
   obtain rfl:i=0:=by simpa using hi
   exact hq⟩,bo⟩
  simp only[List.length_cons] at hl hc ⊢;generalize l.length=k at hl hc ⊢;have hz:(((k+1:Nat):Int)==0)=false:=by rw[fq];omega
  clear hq;go_enter func185,ntmps185;go_wp2;go_ret;exact HE.out
end
section
variable (w:World)(b:Nat)(a:Option Addr)(c:Nat)(aa:List PEl)(n:Int)
theorem EG (sg:Int)(h:TRd w b a c aa):Calls prog 180 #[.int .u8 sg,.pointer (some ⟨b,1,none⟩),.int .i64 n] w λe w'=>lA w (dS aa sg n) e w':=by
 have HT:=aw h;have bJ:=h.few;clear h
 have hal:(bY aa aa.length n).length<=24:=by
  have:∀k m,(bY aa k m).length<=k:=by
   intro k
   induction k with
   | zero=>intro m;simp[bY]
   | succ k ih=>
    intro m;show(if parP aa m=-1 then[] else _).length<=_;split
    ·simp
    ·have:=ih (parP aa m);simp;omega
  have:=this aa.length n;omega
 have hhl:=oa aa n
 by_cases h1:sg=32
 ·have g1:(sg==32)=true:=by simp[h1]
  have HR:Hid (dS aa sg n=bY aa aa.length n):=by unfold Hid dS;rw[aE h1]
  clear h1;go_enter func180,ntmps180;go_wp2_with fail;refine(xR w b a c aa n HT.out).mono ?_;rintro e w1 ⟨a2,c2,rfl,k1,k2,k3,hB⟩;have HE:Hid (lA w (dS aa sg n) (.returned (.slice a2 (bY aa aa.length n).length c2)) w1):=by unfold Hid;rw[HR.out];exact⟨a2,c2,rfl,k1,k2,k3,hB⟩
  clear k1 k2 k3 hB;go_wp2;go_ret;exact HE.out
 have g1:(sg==32)=false:=by simp[h1]
 by_cases h2:sg=62
 ·have g2:(sg==62)=true:=by simp[h2]
  have HR:Hid (dS aa sg n=(bY aa aa.length n).take 1):=by unfold Hid dS;rw[aA h1,aE h2]
  clear h1 h2;go_enter func180,ntmps180;go_wp2_with fail;refine(xR w b a c aa n HT.out).mono ?_;rintro e w1 ⟨a2,c2,rfl,k1,k2,k3,hB⟩;have HK:=uz k1 k2 k3 hB;clear k1 k2 k3 hB;go_wp2_with fail;refine(AS w1 a2 (bY aa aa.length n) c2 hal HK.out.1 HK.out.2.1 HK.out.2.2.1).mono ?_;rintro e w2 ⟨a3,c3,rfl,k1,k2,k3,hB⟩;have HE:Hid (lA w (dS aa sg n) (.returned (.slice a3 ((bY aa aa.length n).take 1).length c3)) w2):=by unfold Hid;rw[HR.out];exact⟨a3,c3,rfl,k1,k2,k3,HK.out.2.2.2.trans (hB.mono HK.out.2.2.2.size)⟩
  clear k1 k2 k3 hB;generalize ((bY aa aa.length n).take 1).length=m at HE ⊢;go_wp2;go_ret;exact HE.out
 have g2:(sg==62)=false:=by simp[h2]
 by_cases h3:sg=126
 ·have g3:(sg==126)=true:=by simp[h3]
  have HR:Hid (dS aa sg n=cO aa n):=by unfold Hid dS;rw[aA h1,aA h2,aE h3]
  clear h1 h2 h3;go_enter func180,ntmps180;go_wp2_with fail;refine(rg w b a c aa n HT.out).mono ?_;rintro e w1 ⟨a2,c2,rfl,k1,k2,k3,hB⟩;have HE:Hid (lA w (dS aa sg n) (.returned (.slice a2 (cO aa n).length c2)) w1):=by unfold Hid;rw[HR.out];exact⟨a2,c2,rfl,k1,k2,k3,hB⟩
  clear k1 k2 k3 hB;go_wp2;go_ret;exact HE.out
 have g3:(sg==126)=false:=by simp[h3]
 by_cases h4:sg=43
 ·have g4:(sg==43)=true:=by simp[h4]
  have HR:Hid (dS aa sg n=(cO aa n).take 1):=by unfold Hid dS;rw[aA h1,aA h2,aA h3,aE h4]
  clear h1 h2 h3 h4;go_enter func180,ntmps180;go_wp2_with fail;refine(rg w b a c aa n HT.out).mono ?_;rintro e w1 ⟨a2,c2,rfl,k1,k2,k3,hB⟩;have HK:=uz k1 k2 k3 hB;clear k1 k2 k3 hB;go_wp2_with fail;refine(AS w1 a2 (cO aa n) c2 (by omega) HK.out.1 HK.out.2.1 HK.out.2.2.1).mono ?_;rintro e w2 ⟨a3,c3,rfl,k1,k2,k3,hB⟩;have HE:Hid (lA w (dS aa sg n) (.returned (.slice a3 ((cO aa n).take 1).length c3)) w2):=by unfold Hid;rw[HR.out];exact⟨a3,c3,rfl,k1,k2,k3,HK.out.2.2.2.trans (hB.mono HK.out.2.2.2.size)⟩
  clear k1 k2 k3 hB;generalize ((cO aa n).take 1).length=m at HE ⊢;go_wp2;go_ret;exact HE.out
 ·have g4:(sg==43)=false:=by simp[h4]
  have HR:Hid (dS aa sg n=[]):=by unfold Hid dS;rw[aA h1,aA h2,aA h3,aA h4]
  clear h1 h2 h3 h4;have HE:Hid (lA w (dS aa sg n) (.returned (.slice none 0 0)) w):=by unfold Hid;rw[HR.out];exact⟨none,0,rfl,aF,bm,λi hi=>absurd hi (by simp),bo⟩
  go_enter func180,ntmps180;go_wp2;go_ret;exact HE.out
theorem Lx (h:TRd w b a c aa):Calls prog 191 #[.pointer (some ⟨b,1,none⟩),.int .i64 n] w λe w'=>bK w (kE aa n) e w':=by
 have HT:=aw h;have bJ:=h.few;clear h;go_enter func191,ntmps191;go_wp2_with fail;refine(dX w b _ aa n HT.out.cell HT.out.pl HT.out.few).mono ?_;rintro e w1 ⟨hB,⟨hf,rfl⟩ | ⟨ip,x,hx,hf,rfl⟩⟩
 ·have HE:Hid (bK w (kE aa n) (.returned (.bool false)) w1):=by unfold kE;rw[hf];exact⟨rfl,hB⟩
  clear hf hB;go_wp2;go_ret;exact HE.out
 ·have nW:=(ee.1 hx).1;have oM:=(ee.1 hx).2
  have HA:Hid (kE aa n=(aa.drop (ip+1)).all λy=>decide (¬y.par=x.par)):=by
   unfold Hid kE;rw[hf];have h1:=(dQ hf).2;have h2:=qX HT.out.nums hx;rw[h1] at h2;show((aa.drop (nB aa n+1)).all λy=>decide (¬y.par=x.par))=_;rw[h2]
  have T1:=HT.out.below hB;have KK:=mp T1.pl.row;have IS:=nJ T1.pl.row;obtain⟨g,hg,di,he⟩:=T1.pl.el nW;subst hg;have q1:=he.cell1;rw[oM] at q1;have q0:=T1.cell;have jQ:(ip:Int)<(aa.length:Int):=by omega
  have eu:=aw hB;have il:(prog.info? 156).map (·.size)=some 31:=Tryz.size156;unfold maxLen at IS;clear hf hB hx oM he T1;generalize x.par=an at HA q1;have jM:=HT.out.lt
  have hgw:g<w.heap.size:=by
   obtain⟨g2,iD,l9,_⟩:=HT.out.pl.el nW;injection iD with iD
   injection iD with iD _ _
   subst iD;exact l9
  have HQ:Hid (w.cell? ⟨g,ip*31+1,none⟩=some (.int .i64 an)):=(eu.out.cell (p:=⟨g,ip*31+1,none⟩) hgw).symm.trans q1;go_wp2_with fail
  case inl=>
   rename_i KM;have qU:aa.length=ip+1:=by omega
   have HR:Hid (bK w (kE aa n) (.returned (.bool true)) w1):=⟨by rw[HA.out,List.drop_of_length_le (by omega)];rfl,eu.out⟩;have e0:aa.length - (ip+1)=0:=by omega
   rw[e0];clear qU e0 jQ nW KK HA
   go_loopg [25] 0 (λgk iv wr=>iv=.int .i64 0/\wr=w1)
   case atStart=>exact⟨rfl,rfl⟩
   case round=>
    obtain⟨rfl,rfl⟩:=hrel;go_wp2;go_ret;exact HR.out
  case inr=>
   rename_i KM;obtain⟨m,hm⟩:∃m,aa.length - (ip+1)=m:=⟨_,rfl⟩;have hml:m<=24:=by omega
   have HM:=aw hm;rw[hm];clear hm q0 q1
   go_loopg [25] m (λgk iv wr=>∃i:Nat,iv=.int .i64 i/\i<=m/\m - i<=gk/\Hid (Below w.heap.size w wr/\∀j (hj:ip+1+j<aa.length),j<i->¬aa[ip+1+j].par=an))
   case atStart=>exact⟨0,rfl,bm,by omega,eu.out,λj _ h=>by omega⟩
   case round=>
    obtain⟨i,rfl,hi,fT,HN⟩:=hrel
    by_cases bc:i<m
    ·have hd:decide ((i:Int)<(m:Int))=true:=by simp;omega
     have GY:ip+1+i<aa.length:=by have:=HM.out;omega
     obtain⟨g2,iD,l9,he⟩:=HT.out.pl.el GY;injection iD with iD
     injection iD with iD _ _
     subst iD
     have HE:Hid (ElAt wr g ((ip+1)*31+i*31) aa[ip+1+i].cells aa[ip+1+i].num aa[ip+1+i].par):=by
      rw[show(ip+1)*31+i*31=(ip+1+i)*31 from by omega];exact he.below HN.out.1 l9
     have q0:wr.cell? ⟨b,1,none⟩=some (.slice (some ⟨g,0,none⟩) aa.length c):=(HN.out.1.cell (p:=⟨b,1,none⟩) jM).trans HT.out.cell;have q1:wr.cell? ⟨g,ip*31+1,none⟩=some (.int .i64 an):=(HN.out.1.cell (p:=⟨g,ip*31+1,none⟩) hgw).trans HQ.out;have i8:=HN.out.1.size;have Wp:b<wr.heap.size:=by omega
     have aiS:g<wr.heap.size:=by omega
     have HY:Hid (aa[ip+1+i].par=an->kE aa n=false):=λh=>by
      rw[HA.out,List.all_eq_false];refine⟨aa[ip+1+i],?_,by simp[h]⟩;rw[List.mem_iff_getElem];exact⟨i,by simp;omega,by simp⟩
     have iQ:Hid (¬aa[ip+1+i].par=an->∀j (hj:ip+1+j<aa.length),j<i+1->¬aa[ip+1+j].par=an):=λhm j hj h1=>by
      by_cases e:j=i
      ·subst e;exact hm
      ·exact HN.out.2 j hj (by omega)
     clear he;generalize aa[ip+1+i].par=py at HE HY iQ;generalize aa[ip+1+i].num=ny at HE;generalize aa[ip+1+i].cells=cs at HE;have c1:cs[1]?=some (.int .i64 py):=HE.out.c1;have eM:Hid (∀k,Below w.heap.size w ((wr.alloc (.cells cs.toArray 156)).drewN k)):=λk=>dE (HN.out.1.alloc i8 _) k
     by_cases hp:py=an
     ·have gp:(py==an)=true:=by simp[hp]
      have HR:Hid (∀k,bK w (kE aa n) (.returned (.bool false)) ((wr.alloc (.cells cs.toArray 156)).drewN k)):=λk=>⟨by rw[HY.out hp],eM.out k⟩;clear hp;go_upto_region 7 with(first | (refine wpList_load_mid rfl 156 _ rfl g ((ip+1)*31+i*31) rfl cs _ HE.out.rng underlying156 rfl HE.out.size ?_) | (refine aO rfl 156 _ _ rfl _ cs.toArray 156 rfl rfl HE.out.size' HE.out.same HE.out.all ?_))
      go_quiet (fail);go_wp2;go_ret;exact HR.out _
     ·have gp:(py==an)=false:=by simp[hp]
      have oF:Hid (∀k,Below w.heap.size w ((wr.alloc (.cells cs.toArray 156)).drewN k)/\∀j (hj:ip+1+j<aa.length),j<i+1->¬aa[ip+1+j].par=an):=λk=>⟨eM.out k,iQ.out hp⟩;clear hp;go_upto_region 7 with(first | (refine wpList_load_mid rfl 156 _ rfl g ((ip+1)*31+i*31) rfl cs _ HE.out.rng underlying156 rfl HE.out.size ?_) | (refine aO rfl 156 _ _ rfl _ cs.toArray 156 rfl rfl HE.out.size' HE.out.same HE.out.all ?_))
      go_quiet (fail);go_wp2;go_roundg (m - (i+1))
      case measure=>omega
      case rel=>exact⟨i+1,by go_num,by omega,aF,oF.out _⟩
    ·have hd:decide ((i:Int)<(m:Int))=false:=by simp;omega
     have HR:Hid (bK w (kE aa n) (.returned (.bool true)) wr):=by
      refine⟨?_,HN.out.1⟩
      have:kE aa n=true:=by
       rw[HA.out,List.all_eq_true];intro y hy;rw[List.mem_iff_getElem] at hy;obtain⟨j,hj,rfl⟩:=hy;simp only[List.length_drop] at hj;rw[List.getElem_drop];simpa using HN.out.2 j (by omega) (by have:=HM.out;omega)
      rw[this]
     go_wp2;go_ret;exact HR.out
end
section
variable (w:World)(b:Nat)(a:Option Addr)(c:Nat)(aa:List PEl)(n:Int)
theorem uM (nt:Bool)(kd lt st sr:Int)(h:TRd w b a c aa)(hp:PPt.fine ⟨nt,kd,lt,st,sr⟩):Calls prog 184 #[.agg #[.bool nt,.int .i64 kd,.int .u8 lt,.int .i64 st,.int .i64 sr],.pointer (some ⟨b,1,none⟩),.int .i64 n] w λe w'=>bK w (dT aa ⟨nt,kd,lt,st,sr⟩ n) e w':=by
 have HT:Hid (TRd (w.alloc (.cells #[.bool nt,.int .i64 kd,.int .u8 lt,.int .i64 st,.int .i64 sr] 151)) b a c aa):=h.below (bo.alloc aF _);have HF:=aw hp;have bJ:=h.few;have hhl:=oa aa n;have HB:Hid (∀(r:Bool) w1,dT aa ⟨nt,kd,lt,st,sr⟩ n=r->Below (w.heap.size+1) (w.alloc (.cells #[.bool nt,.int .i64 kd,.int .u8 lt,.int .i64 st,.int .i64 sr] 151)) w1->bK w (dT aa ⟨nt,kd,lt,st,sr⟩ n) (.returned (.bool r)) w1):=λr w1 hr hb=>⟨by rw[hr],(bo.alloc aF _).trans (hb.mono (by omega))⟩
 have HS:Hid (dT aa ⟨nt,kd,lt,st,sr⟩ n=if kd=1 then ec aa n lt else if kd=2 then ex aa n lt else if kd=3 then gV aa n lt
  else if kd=4 then decide (((cO aa n).length:Int)+1=1) else if kd=5 then kE aa n else if kd=6 then iY aa n
  else if kd=7 then nH (((cO aa n).length:Int)+1) st sr else false):=rfl
 clear h hp
 by_cases h1:kd=1
 ·have HR:Hid (dT aa ⟨nt,kd,lt,st,sr⟩ n=ec aa n lt):=by unfold Hid;rw[HS.out,aE h1]
  have g1:(kd==1)=true:=by simp[h1]
  clear h1 HS;go_enter func184,ntmps184;go_wp2_with fail;refine(sJ _ b a c aa n lt HT.out).mono ?_;rintro e w1 ⟨rfl,hB⟩;have HE:=HB.out _ w1 HR.out (hB.mono (by simp));clear hB;generalize ec aa n lt=r at HE ⊢;go_wp2;go_ret;exact HE
 have g1:(kd==1)=false:=by simp[h1]
 by_cases h2:kd=2
 ·have HR:Hid (dT aa ⟨nt,kd,lt,st,sr⟩ n=ex aa n lt):=by unfold Hid;rw[HS.out,aA h1,aE h2]
  have g2:(kd==2)=true:=by simp[h2]
  clear h1 h2 HS;go_enter func184,ntmps184;go_wp2_with fail;refine(zt _ b a c aa n lt HT.out).mono ?_;rintro e w1 ⟨rfl,hB⟩;have HE:=HB.out _ w1 HR.out (hB.mono (by simp));clear hB;generalize ex aa n lt=r at HE ⊢;go_wp2;go_ret;exact HE
 have g2:(kd==2)=false:=by simp[h2]
 by_cases h3:kd=3
 ·have HR:Hid (dT aa ⟨nt,kd,lt,st,sr⟩ n=gV aa n lt):=by unfold Hid;rw[HS.out,aA h1,aA h2,aE h3]
  have g3:(kd==3)=true:=by simp[h3]
  clear h1 h2 h3 HS;go_enter func184,ntmps184;go_wp2_with fail;refine(Cp _ b a c aa n lt HT.out).mono ?_;rintro e w1 ⟨rfl,hB⟩;have HE:=HB.out _ w1 HR.out (hB.mono (by simp));clear hB;generalize gV aa n lt=r at HE ⊢;go_wp2;go_ret;exact HE
 have g3:(kd==3)=false:=by simp[h3]
 by_cases h4:kd=4
 ·have HR:Hid (dT aa ⟨nt,kd,lt,st,sr⟩ n=((((cO aa n).length:Int)+1)==1)):=by unfold Hid;rw[HS.out,aA h1,aA h2,aA h3,aE h4];rfl
  have g4:(kd==4)=true:=by simp[h4]
  clear h1 h2 h3 h4 HS;go_enter func184,ntmps184;go_wp2_with fail;refine(sM _ b a c aa n HT.out).mono ?_;rintro e w1 ⟨rfl,hB⟩;have HE:=HB.out _ w1 HR.out (hB.mono (by simp));clear hB HR;obtain⟨r,hr⟩:∃r,(((cO aa n).length:Int)+1)=r:=⟨_,rfl⟩;rw[hr] at HE ⊢;clear hr;go_wp2;go_ret;exact HE
 have g4:(kd==4)=false:=by simp[h4]
 by_cases h5:kd=5
 ·have HR:Hid (dT aa ⟨nt,kd,lt,st,sr⟩ n=kE aa n):=by unfold Hid;rw[HS.out,aA h1,aA h2,aA h3,aA h4,aE h5]
  have g5:(kd==5)=true:=by simp[h5]
  clear h1 h2 h3 h4 h5 HS;go_enter func184,ntmps184;go_wp2_with fail;refine(Lx _ b a c aa n HT.out).mono ?_;rintro e w1 ⟨rfl,hB⟩;have HE:=HB.out _ w1 HR.out (hB.mono (by simp));clear hB;generalize kE aa n=r at HE ⊢;go_wp2;go_ret;exact HE
 have g5:(kd==5)=false:=by simp[h5]
 by_cases h6:kd=6
 ·have HR:Hid (dT aa ⟨nt,kd,lt,st,sr⟩ n=iY aa n):=by unfold Hid;rw[HS.out,aA h1,aA h2,aA h3,aA h4,aA h5,aE h6]
  have g6:(kd==6)=true:=by simp[h6]
  clear h1 h2 h3 h4 h5 h6 HS;go_enter func184,ntmps184;go_wp2_with fail;refine(Hj _ b a c aa n HT.out).mono ?_;rintro e w1 ⟨rfl,hB⟩;have HE:=HB.out _ w1 HR.out (hB.mono (by simp));clear hB;generalize iY aa n=r at HE ⊢;go_wp2;go_ret;exact HE
 have g6:(kd==6)=false:=by simp[h6]
 by_cases h7:kd=7
 ·have HR:Hid (dT aa ⟨nt,kd,lt,st,sr⟩ n=nH (((cO aa n).length:Int)+1) st sr):=by unfold Hid;rw[HS.out,aA h1,aA h2,aA h3,aA h4,aA h5,aA h6,aE h7]
  have g7:(kd==7)=true:=by simp[h7]
  clear h1 h2 h3 h4 h5 h6 h7 HS;go_enter func184,ntmps184;go_wp2_with fail;refine(sM _ b a c aa n HT.out).mono ?_;rintro e w1 ⟨rfl,hB⟩;have gA:w.heap.size<w1.heap.size:=by have:=hB.size;simp at this;omega
  have q3:w1.cell? ⟨w.heap.size,3,none⟩=some (.int .i64 st):=(hB.cell (p:=⟨w.heap.size,3,none⟩) (by simp)).trans (au (heap_alloc_new w _) rfl);have q4:w1.cell? ⟨w.heap.size,4,none⟩=some (.int .i64 sr):=(hB.cell (p:=⟨w.heap.size,4,none⟩) (by simp)).trans (au (heap_alloc_new w _) rfl);have eu:Hid (Below (w.heap.size+1) (w.alloc (.cells #[.bool nt,.int .i64 kd,.int .u8 lt,.int .i64 st,.int .i64 sr] 151)) w1):=hB.mono (by simp);have i8:=eu.out.size;clear hB;have ml:0<=(((cO aa n).length:Int)+1)/\(((cO aa n).length:Int)+1)<=100:=by omega
  go_wp2_with fail;refine(Qm w1 _ st sr ml HF.out.1.1 HF.out.1.2).mono ?_;rintro e w2 ⟨rfl,dk⟩;have HE:=HB.out _ w2 HR.out (eu.out.trans (dk.mono (by omega)));clear dk;generalize nH (((cO aa n).length:Int)+1) st sr=r at HE ⊢;go_wp2;go_ret;exact HE
 ·have HR:Hid (dT aa ⟨nt,kd,lt,st,sr⟩ n=false):=by unfold Hid;rw[HS.out,aA h1,aA h2,aA h3,aA h4,aA h5,aA h6,aA h7]
  have g7:(kd==7)=false:=by simp[h7]
  clear h1 h2 h3 h4 h5 h6 h7 HS;have HE:=HB.out _ _ HR.out bo;go_enter func184,ntmps184;go_wp2;go_ret;exact HE
end
end Go.Proofs.YtblfffbmklkhmabGreat
