import Derived.Test.YtblfffbmklkhmaaGreatSt43
import Derived.Test.YtblfffbmklkhmaaGreatSt15
import Derived.Test.YtblfffbmklkhmaaGreatSt40
namespace Go.Proofs.YtblfffbmklkhmaaGreat
open Go.RowKit
structure GW2 (PS:World→Value→YS→List Nat→(Nat→Prop)→Prop) (I:YS→List Nat→fm→Prop) (ae:Nat) (w:World) (B:Nat) (vD vI vM:Value) (nx:Nat) (ps:List ml) (es:List vj):Prop where
 wb:WB w B vD vI vM nx
 rowD:w.ownsRow 0 112 1 vD ps.length (ps.map fun p=>.pointer (some ⟨p.b,0,none⟩))
 rowI:w.ownsRow 0 40 1 vI es.length (es.map vj.v)
 rowM:w.ownsRow 0 3 1 vM es.length (es.map fun e=>.int .i64 e.m)
 full:∀ e∈es,Full w e.v e.n (.int .i64 e.m)∧e.n≤1099511627776
 ent:∀ e∈es,∀ j,e.v.ownBlock=some j→j<w.heap.size∧j≠B∧vD.ownBlock≠some j∧vI.ownBlock≠some j∧vM.ownBlock≠some j
 pd:∀ i (hi:i<ps.length),PD2 PS I w ps[i].b ps[i].made ps[i].G
 sep:∀ i j (hi:i<ps.length) (hj:j<ps.length),i≠j→∀ k,ps[i].G k→¬ ps[j].G k
 out:∀ i (hi:i<ps.length) k,rX B vD vI vM es k→¬ ps[i].G k
 cnt:es.length=4*nx
 baseM:∀ k,rX B vD vI vM es k→ae≤k
 baseG:∀ i (hi:i<ps.length) k,ps[i].G k→ae≤k
 baseW:ae≤w.heap.size
section
variable {PS:World→Value→YS→List Nat→(Nat→Prop)→Prop} {Q:ft→YS→List Nat→YS→List Nat→Prop} {I:YS→List Nat→fm→Prop} {ae:Nat} {w:World} {B:Nat} {vD vI vM:Value} {nx:Nat} {ps:List ml} {es:List vj}
theorem GW2.ltM (h:GW2 PS I ae w B vD vI vM nx ps es):∀ k,rX B vD vI vM es k→k<w.heap.size:=by
 rintro k (rfl | hk | hk | hk | ⟨e,he,hk⟩)
 ·exact (Array.getElem?_eq_some_iff.1 h.wb.blk).1
 ·exact (h.rowD.lt k hk).2
 ·exact (h.rowI.lt k hk).2
 ·exact (h.rowM.lt k hk).2
 ·exact (h.ent e he k hk).1
theorem GW2.turn (hP:bi PS Q) (h:GW2 PS I ae w B vD vI vM nx ps es) {i:Nat} (hi:i<ps.length) {w':World} (fT:w.heap.size≤w'.heap.size) (hH:∀ k,k<w.heap.size→¬ ps[i].G k→w'.heap[k]?=w.heap[k]?) {made':Nat} {G':Nat→Prop}
  (zJ:PD2 PS I w' ps[i].b made' G') (hG:∀ k,G' k→ps[i].G k∨w.heap.size≤k):GW2 PS I ae w' B vD vI vM nx (ps.set i ⟨ps[i].b,made',G'⟩) es:=by
 have hm:∀ k,rX B vD vI vM es k→w'.heap[k]?=w.heap[k]?:=fun k hk=>hH k (h.ltM k hk) (h.out i hi k hk)
 have bR:(ps.set i ⟨ps[i].b,made',G'⟩).length=ps.length:=List.length_set
 have tg:∀ j (hj:j<ps.length),j≠i→∀ k,ps[j].G k→w'.heap[k]?=w.heap[k]?:=fun j hj hn k hk=>hH k ((h.pd j hj).lt k hk) (fun x=>h.sep j i hj hi hn k hk x)
 have ur:∀ j (hj:j<(ps.set i ⟨ps[i].b,made',G'⟩).length),(ps.set i ⟨ps[i].b,made',G'⟩)[j]=if i=j then ⟨ps[i].b,made',G'⟩ else ps[j]'(by rw [bR] at hj;exact hj):=fun j hj=>List.getElem_set hj
 have WM:∀ j (hj:j<ps.length),j≠i→∀ k,G' k→¬ ps[j].G k:=fun j hj hn k hk hx=>by
  rcases hG k hk with hk | hk
  ·exact h.sep j i hj hi hn k hx hk
  ·have:=(h.pd j hj).lt k hx
   omega
 refine ⟨(hm B (Or.inl rfl)).trans h.wb,?_,bZ h.rowI (fun k hk _=>hm k (Or.inr (Or.inr (Or.inl hk)))),bZ h.rowM (fun k hk _=>hm k (Or.inr (Or.inr (Or.inr (Or.inl hk))))),fun e he=>⟨(h.full e he).1.blk (fun g hg _=>hm g (Or.inr (Or.inr (Or.inr (Or.inr ⟨e,he,hg⟩))))),(h.full e he).2⟩,fun e he j hj=>?_,fun j hj=>?_,fun j l hj hl hn k hk=>?_,fun j hj k hk=>?_,h.cnt,h.baseM,fun j hj k hk=>?_,Nat.le_trans h.baseW fT⟩
 ·have XE:(ps.set i ⟨ps[i].b,made',G'⟩).map (fun p=>Value.pointer (some ⟨p.b,0,none⟩))=ps.map fun p=>Value.pointer (some ⟨p.b,0,none⟩):=by
   rw [List.map_set]
   have:(ps.map fun p=>Value.pointer (some ⟨p.b,0,none⟩))[i]?=some (Value.pointer (some ⟨ps[i].b,0,none⟩)):=by rw [List.getElem?_map,List.getElem?_eq_getElem hi];rfl
   apply List.ext_getElem?
   intro j
   rw [List.getElem?_set]
   by_cases e:i=j
   ·subst e
    rw [if_pos rfl,this,if_pos (by simpa using hi)]
   ·rw [if_neg e]
  rw [bR,XE]
  exact bZ h.rowD (fun k hk _=>hm k (Or.inr (Or.inl hk)))
 ·obtain ⟨h1,h2⟩:=h.ent e he j hj
  exact ⟨Nat.lt_of_lt_of_le h1 fT,h2⟩
 ·rw [ur j hj]
  split
  ·exact zJ
  ·rename_i hn
   rw [bR] at hj
   exact (h.pd j hj).keep hP fT (tg j hj (fun e=>hn e.symm))
 ·rw [ur j hj] at hk
  rw [ur l hl]
  rw [bR] at hj hl
  split at hk<;>split
  ·rename_i h1 h2
   exact absurd (h1.symm.trans h2) hn
  ·rename_i h1 h2
   exact WM l hl (fun e=>h2 e.symm) k hk
  ·rename_i h1 h2
   exact fun hx=>WM j hj (fun e=>h1 e.symm) k hx hk
  ·exact h.sep j l hj hl hn k hk
 ·rw [ur j hj]
  rw [bR] at hj
  split
  ·intro hx
   rcases hG k hx with hx | hx
   ·exact h.out i hi k hk hx
   ·have:=h.ltM k hk
    omega
  ·exact h.out j hj k hk
 ·rw [ur j hj] at hk
  rw [bR] at hj
  split at hk
  ·rcases hG k hk with hk | hk
   ·exact h.baseG i hi k hk
   ·have:=h.baseW
    omega
  ·exact h.baseG j hj k hk
theorem GW2.keep (hP:bi PS Q) (h:GW2 PS I ae w B vD vI vM nx ps es) {w':World} (hB:Below w.heap.size w w'):GW2 PS I ae w' B vD vI vM nx ps es:=by
 have hm:∀ k,rX B vD vI vM es k→w'.heap[k]?=w.heap[k]?:=fun k hk=>hB.block k (h.ltM k hk)
 exact ⟨(hm B (Or.inl rfl)).trans h.wb,bZ h.rowD (fun k hk _=>hm k (Or.inr (Or.inl hk))),bZ h.rowI (fun k hk _=>hm k (Or.inr (Or.inr (Or.inl hk)))),bZ h.rowM (fun k hk _=>hm k (Or.inr (Or.inr (Or.inr (Or.inl hk))))),fun e he=>⟨(h.full e he).1.blk (fun g hg _=>hm g (Or.inr (Or.inr (Or.inr (Or.inr ⟨e,he,hg⟩))))),(h.full e he).2⟩,fun e he j hj=>⟨Nat.lt_of_lt_of_le (h.ent e he j hj).1 hB.size,(h.ent e he j hj).2⟩,fun i hi=>(h.pd i hi).keep hP hB.size (fun k hk=>hB.block k ((h.pd i hi).lt k hk)),h.sep,h.out,h.cnt,h.baseM,h.baseG,Nat.le_trans h.baseW hB.size⟩
theorem GW2.own (hP:bi PS Q) (h:GW2 PS I ae w B vD vI vM nx ps es) {v:Value} {n:Nat} {xs:List Value} (fY:w.ownsRow 0 3 1 v n xs) (hn:n≤24) (hv:∀ j,v.ownBlock=some j→ae≤j∧¬ rX B vD vI vM es j∧∀ i (hi:i<ps.length),¬ ps[i].G j) {e:Ending} {w':World}
  (hp:sC w B vD vI vM nx v n es.length es.length (es.map vj.v) (es.map fun e=>.int .i64 e.m) e w'):∃ sj r6 qd,GW2 PS I ae w' B vD sj r6 (nx+1) ps qd:=by
 obtain ⟨_,sj,r6,v1,v2,v3,wb',rI',rM',f0,f1,f2,f3,fr,nb,nI,nM,YL⟩:=hp
 let mk:Int:=-((nx:Int)+1)
 have Rv:B<w.heap.size:=(Array.getElem?_eq_some_iff.1 h.wb.blk).1
 have hw:=fr.size
 have same:∀ k,k<w.heap.size→k≠B→v.ownBlock≠some k→vI.ownBlock≠some k→vM.ownBlock≠some k→w'.heap[k]?=w.heap[k]?:=fun k hk h1 h2 h3 h4=>fr.block k hk (fun x=>x.elim h1 (fun x=>x.elim h2 (fun x=>x.elim h3 h4)))
 have hDn:∀ k,vD.ownBlock=some k→w'.heap[k]?=w.heap[k]?:=by
  intro k hk
  refine same k (h.rowD.lt k hk).2 (fun e=>aj h.rowD h.wb.blk (by decide) (e▸hk)) (fun e=>(hv k e).2.1 (Or.inr (Or.inl hk))) (fun e=>?_) (fun e=>?_)
  ·rcases h.rowI.2 with ⟨h1,_⟩ | ⟨g,_,eU,h1,_,hg,_⟩
   ·rw [h1] at e;simp [Value.ownBlock] at e
   ·rw [h1] at e
    simp [Value.ownBlock] at e
    subst e
    exact aj h.rowD hg (by decide) hk
  ·rcases h.rowM.2 with ⟨h1,_⟩ | ⟨g,_,eU,h1,_,hg,_⟩
   ·rw [h1] at e;simp [Value.ownBlock] at e
   ·rw [h1] at e
    simp [Value.ownBlock] at e
    subst e
    exact aj h.rowD hg (by decide) hk
 have hEn:∀ x∈es,∀ k,x.v.ownBlock=some k→w'.heap[k]?=w.heap[k]?:=fun x hx k hk=>
  same k (h.ent x hx k hk).1 (h.ent x hx k hk).2.1 (fun e=>(hv k e).2.1 (Or.inr (Or.inr (Or.inr (Or.inr ⟨x,hx,hk⟩))))) (h.ent x hx k hk).2.2.2.1 (h.ent x hx k hk).2.2.2.2
 have WM:∀ i (hi:i<ps.length) k,ps[i].G k→w'.heap[k]?=w.heap[k]?:=fun i hi k hk=>
  same k ((h.pd i hi).lt k hk) (fun e=>h.out i hi k (Or.inl e) hk) (fun e=>(hv k e).2.2 i hi hk) (fun e=>h.out i hi k (Or.inr (Or.inr (Or.inl e))) hk) (fun e=>h.out i hi k (Or.inr (Or.inr (Or.inr (Or.inl e)))) hk)
 let qd:List vj:=es++[⟨v,n,mk⟩,⟨v1,n+1,mk⟩,⟨v2,n+2,mk⟩,⟨v3,n+3,mk⟩]
 have jF:∀ x∈qd,x∈es∨x=⟨v,n,mk⟩∨x=⟨v1,n+1,mk⟩∨x=⟨v2,n+2,mk⟩∨x=⟨v3,n+3,mk⟩:=fun x hx=>by
  rcases List.mem_append.1 hx with hx | hx
  ·exact Or.inl hx
  ·simp only [List.mem_cons,List.not_mem_nil,or_false] at hx
   exact Or.inr hx
 have Vj:∀ x∈qd,x∈es∨∀ j,x.v.ownBlock=some j→(v.ownBlock=some j∨w.heap.size≤j)∧j<w'.heap.size∧sj.ownBlock≠some j∧r6.ownBlock≠some j:=fun x hx=>by
  rcases jF x hx with hx | rfl | rfl | rfl | rfl
  ·exact Or.inl hx
  ·refine Or.inr fun j hj=>⟨Or.inl hj,Nat.lt_of_lt_of_le (fY.lt j hj).2 hw,fun e=>?_,fun e=>?_⟩
   ·rcases nI j e with e | e
    ·exact (hv j hj).2.1 (Or.inr (Or.inr (Or.inl e)))
    ·have:=(fY.lt j hj).2;omega
   ·rcases nM j e with e | e
    ·exact (hv j hj).2.1 (Or.inr (Or.inr (Or.inr (Or.inl e))))
    ·have:=(fY.lt j hj).2;omega
  ·exact Or.inr fun j hj=>⟨nb v1 (Or.inl rfl) j hj,f1.lt (by omega) j hj,YL v1 (Or.inl rfl) j hj⟩
  ·exact Or.inr fun j hj=>⟨nb v2 (Or.inr (Or.inl rfl)) j hj,f2.lt (by omega) j hj,YL v2 (Or.inr (Or.inl rfl)) j hj⟩
  ·exact Or.inr fun j hj=>⟨nb v3 (Or.inr (Or.inr rfl)) j hj,f3.lt (by omega) j hj,YL v3 (Or.inr (Or.inr rfl)) j hj⟩
 have xn:∀ k,rX B vD sj r6 qd k→rX B vD vI vM es k∨v.ownBlock=some k∨w.heap.size≤k:=by
  rintro k (hk | hk | hk | hk | ⟨x,hx,hk⟩)
  ·exact Or.inl (Or.inl hk)
  ·exact Or.inl (Or.inr (Or.inl hk))
  ·exact (nI k hk).elim (fun x=>Or.inl (Or.inr (Or.inr (Or.inl x)))) (fun x=>Or.inr (Or.inr x))
  ·exact (nM k hk).elim (fun x=>Or.inl (Or.inr (Or.inr (Or.inr (Or.inl x))))) (fun x=>Or.inr (Or.inr x))
  ·rcases Vj x hx with hx | hx
   ·exact Or.inl (Or.inr (Or.inr (Or.inr (Or.inr ⟨x,hx,hk⟩))))
   ·exact Or.inr (hx k hk).1
 refine ⟨sj,r6,qd,wb',bZ h.rowD (fun k hk _=>hDn k hk),?_,?_,fun x hx=>?_,fun x hx j hj=>?_,fun i hi=>(h.pd i hi).keep hP hw (WM i hi),h.sep,fun i hi k hk hx=>?_,?_,fun k hk=>?_,h.baseG,Nat.le_trans h.baseW hw⟩
 ·have h1:qd.length=es.length+4:=by simp [qd]
  have h2:qd.map vj.v=es.map vj.v++[v,v1,v2,v3]:=by simp [qd]
  rw [h1,h2]
  exact rI'
 ·have h1:qd.length=es.length+4:=by simp [qd]
  have h2:(qd.map fun e=>Value.int .i64 e.m)=(es.map fun e=>Value.int .i64 e.m)++List.replicate 4 (.int .i64 mk):=by simp [qd,List.replicate]
  rw [h1,h2]
  exact rM'
 ·rcases jF x hx with hx | rfl | rfl | rfl | rfl
  ·exact ⟨(h.full x hx).1.blk (fun g hg _=>hEn x hx g hg),(h.full x hx).2⟩
  ·exact ⟨f0,by show n≤_;omega⟩
  ·exact ⟨f1,by show n+1≤_;omega⟩
  ·exact ⟨f2,by show n+2≤_;omega⟩
  ·exact ⟨f3,by show n+3≤_;omega⟩
 ·rcases Vj x hx with hx | hx
  ·obtain ⟨h1,h2,h3,h4,h5⟩:=h.ent x hx j hj
   refine ⟨Nat.lt_of_lt_of_le h1 hw,h2,h3,fun e=>?_,fun e=>?_⟩
   ·exact (nI j e).elim h4 (fun x=>by omega)
   ·exact (nM j e).elim h5 (fun x=>by omega)
  ·obtain ⟨h1,h2,h3,h4⟩:=hx j hj
   refine ⟨h2,fun e=>?_,fun e=>?_,h3,h4⟩
   ·rcases h1 with h1 | h1
    ·exact (hv j h1).2.1 (Or.inl e)
    ·omega
   ·rcases h1 with h1 | h1
    ·exact (hv j h1).2.1 (Or.inr (Or.inl e))
    ·have:=(h.rowD.lt j e).2
     omega
 ·rcases xn k hk with hk | hk | hk
  ·exact h.out i hi k hk hx
  ·exact (hv k hk).2.2 i hi hx
  ·have:=(h.pd i hi).lt k hx
   omega
 ·have:=h.cnt
  show (es++_).length=_
  simp
  omega
 ·rcases xn k hk with hk | hk | hk
  ·exact h.baseM k hk
  ·exact (hv k hk).1
  ·have:=h.baseW
   omega
end
end Go.Proofs.YtblfffbmklkhmaaGreat
namespace Go.Proofs.YtblfffbmklkhmaaGreat
open Go.RowKit
def KidPost2 (PS:World→Value→YS→List Nat→(Nat→Prop)→Prop) (I:YS→List Nat→fm→Prop) (ae:Nat) (w:World) (B:Nat) (vD:Value) (nx:Nat) (ps:List ml) (i:Nat) (p:ml) (e:Ending) (w':World):Prop:=
 e=.returned (.bool true)∧Below ae w w'∧∃ sj r6 Fc G' qd,Fc≤nx+1∧GW2 PS I ae w' B vD sj r6 Fc (ps.set i ⟨p.b,p.made,G'⟩) qd
set_option maxRecDepth 100000 in
set_option maxHeartbeats 2000000 in
theorem nA {PS:World→Value→YS→List Nat→(Nat→Prop)→Prop} {Q:ft→YS→List Nat→YS→List Nat→Prop} {I:YS→List Nat→fm→Prop} (hP:bi PS Q) (ae:Nat) (w:World) (B:Nat) (vD vI vM:Value) (nx:Nat) (ps:List ml) (es:List vj) (h:GW2 PS I ae w B vD vI vM nx ps es) (i:Nat) (hi:i<ps.length) (wZ:nx≤274877906944) (n:Int) :
  Calls Tryz.prog 59 #[.pointer (some ⟨B,0,none⟩),.pointer (some ⟨ps[i].b,0,none⟩),.int .i64 n] w fun e w'=>KidPost2 PS I ae w B vD nx ps i ps[i] e w':=by
 have zJ:=h.pd i hi
 have oa:Hid (GW2 PS I ae w B vD vI vM nx ps es):=h
 have HP:Hid (bi PS Q):=hP
 have J2:ps.set i ⟨ps[i].b,ps[i].made,ps[i].G⟩=ps:=List.set_getElem_self hi
 have yK:Hid (ps.set i ⟨ps[i].b,ps[i].made,ps[i].G⟩=ps):=J2
 clear h J2
 generalize ps[i]=p at zJ yK ⊢
 obtain ⟨X,st,pa,d,K,Fp,Fx,Fy,h1,h2,h3,h4,h5,h6⟩:=zJ
 have Cc:=h1.pb
 have b0:w.cell? ⟨p.b,0,none⟩=some (.pointer (some pa)):=aa Cc.blk rfl
 obtain ⟨els,hp,vT,aR,vL,Rr,Gs,hX,Pq,_⟩:=h1.rs
 have HX:Hid (RX w d els X.made hp vT aR vL Rr Gs X.M X.shn X.rs∧X.T=aB els):=⟨hX,Pq⟩
 have HPB:Hid (PB w p.b (.pointer (some pa)) d K.vm K.vy K.cnt K.vs K.held):=Cc
 have zH:Hid (PS w (.pointer (some pa)) X st Fx):=h1.ps
 clear h1 h2 h3 h4 h5 h6 hP hX Pq Cc
 go_enter Tryz.func59,Tryz.ntmps59
 go_wp2_with fail
 refine (HP.out.chi w (.pointer (some pa)) X st Fx n zH.out).mono ?_
 rintro e w1 ⟨cF,fi⟩
 have ed:Hid (Below w.heap.size w w1):=cF
 have U7:Hid (GW2 PS I ae w1 B vD vI vM nx ps es):=oa.out.keep HP.out cF
 have b1:w1.cell? ⟨p.b,1,none⟩=some (.pointer (some ⟨d,0,none⟩)):=aa ((cF.block p.b (Array.getElem?_eq_some_iff.1 HPB.out.blk).1).trans HPB.out.blk) rfl
 have HR:Hid (RD w1 d els X.made hp vT aR vL):=HX.out.1.rd.keep (fun k _ hl=>cF.block k hl)
 clear b0 cF
 rcases fi with ⟨Fb,rfl⟩ | ⟨l,a,c,rR,rfl,bL⟩
 ·have HE:Hid (KidPost2 PS I ae w B vD nx ps i p (.returned (.bool true)) w1):=⟨rfl,ed.out.mono oa.out.baseW,vI,vM,nx,p.G,es,Nat.le_succ _,by rw [yK.out];exact U7.out⟩
  have hfn:aZ els n=none:=by
   rw [HX.out.2] at Fb
   cases bo:aZ els n with
   | none=>rfl
   | some x=>rw [bT bo] at Fb;cases Fb
  clear Fb
  go_wp2_with fail
  refine (eb _ d els X.made hp vT aR vL n HR.out).mono ?_
  rintro e w2 ⟨rfl,rfl⟩
  rw [hfn]
  clear hfn
  have he:ey none=.pointer none:=rfl
  rw [he]
  clear he
  go_wp2_with fail
  refine (bF _ 5).mono ?_
  rintro e w5 ⟨rfl,rfl⟩
  go_wp2
  go_ret
  exact HE.out
 ·obtain ⟨x,DP,rfl⟩:∃ x,aZ els n=some x∧x.kids=l:=by
   rw [HX.out.2] at rR
   cases bo:aZ els n with
   | none=>rw [co bo] at rR;cases rR
   | some x=>
    rw [bT bo] at rR
    injection rR with rR
    exact ⟨x,rfl,rR⟩
  obtain ⟨EJ,_⟩:=cg DP
  have Oj:=HR.out.kfew x EJ
  have pA:=HR.out.kid x EJ
  have e4:w1.cell? ⟨x.blk,4,none⟩=some x.ks:=(ep (HR.out.el x EJ)).2
  have Vb:Hid (w1.ownsRow 0 3 1 (.slice a x.kids.length c) x.kids.length (aK x.kids)):=aG bL (Nat.zero_le _)
  have Zb:Hid (∀ j,(Value.slice a x.kids.length c).ownBlock=some j→ae≤j∧¬ rX B vD vI vM es j∧∀ i' (T8:i'<ps.length),¬ ps[i'].G j):=fun j hj=>by
   have hj1:=(bL.lt j hj).1
   exact ⟨Nat.le_trans oa.out.baseW hj1,fun hm=>by have:=oa.out.ltM j hm;omega,fun i' T8 hx=>by have:=(oa.out.pd i' T8).lt j hx;omega⟩
  obtain ⟨ak,ck,qj⟩:=au pA
  have Y0:Hid (w1.ownsRow 0 3 1 (.slice ak x.kids.length ck) x.kids.length (aK x.kids)):=by rw [←qj];exact pA
  rw [qj] at e4
  clear bL pA qj rR
  go_wp2_with fail
  refine (eb _ d els X.made hp vT aR vL n HR.out).mono ?_
  rintro e w2 ⟨rfl,rfl⟩
  obtain ⟨w1,rfl⟩:∃ w1,w1=w2:=⟨_,rfl⟩
  rw [DP]
  have he:ey (some x)=.pointer (some ⟨x.blk,0,none⟩):=rfl
  rw [he]
  clear he DP EJ b1
  go_wp2_with fail
  refine (KB _ a ak c ck x.kids Vb.out Y0.out Oj).mono ?_
  rintro e w2 ⟨rfl,o9⟩
  have Lo:Hid (GW2 PS I ae w2 B vD vI vM nx ps es):=U7.out.keep HP.out o9.below
  have VS:Hid (w2.ownsRow 0 3 1 (.slice a x.kids.length c) x.kids.length (aK x.kids)):=aQ Vb.out o9.below
  have ea:Hid (Below ae w w2):=(ed.out.mono oa.out.baseW).trans (o9.below.mono (by have:=ed.out.size;have:=oa.out.baseW;omega))
  clear o9 e4
  have OB:=Lo.out.cnt
  go_wp2_with fail
  refine (Nt w2 B vD vI vM nx a c x.kids.length (aK x.kids) es.length es.length (es.map vj.v) (es.map fun e=>.int .i64 e.m) ⟨Lo.out.wb,VS.out,Lo.out.rowI,Lo.out.rowM,Fr.refl _ _,fun j hj hm=>(Zb.out j hj).2.1 (Or.inr (Or.inr (Or.inr (Or.inl hm))))⟩ Oj (by omega) (by omega) (by omega)).mono ?_
  intro e w3 dB
  obtain ⟨sj,r6,qd,eJ⟩:=Lo.out.own HP.out VS.out Oj Zb.out dB
  have ji:Hid (Below ae w w3):=by
   obtain ⟨_,_,_,_,_,_,_,_,_,_,_,_,_,fr,_⟩:=dB
   refine ea.out.trans (fr.toBelow (by have:=ea.out.size;have:=oa.out.baseW;omega) ?_)
   rintro k (hk | hk | hk | hk)
   ·exact oa.out.baseM k (Or.inl hk)
   ·exact (Zb.out k hk).1
   ·exact oa.out.baseM k (Or.inr (Or.inr (Or.inl hk)))
   ·exact oa.out.baseM k (Or.inr (Or.inr (Or.inr (Or.inl hk))))
  have HE:Hid (KidPost2 PS I ae w B vD nx ps i p (.returned (.bool true)) w3):=⟨rfl,ji.out,sj,r6,nx+1,p.G,qd,Nat.le_refl _,by rw [yK.out];exact eJ⟩
  obtain ⟨rfl,_⟩:=dB
  clear eJ OB
  go_wp2_with fail
  refine (bF _ 0).mono ?_
  rintro e w5 ⟨rfl,rfl⟩
  go_wp2
  go_ret
  exact HE.out
end Go.Proofs.YtblfffbmklkhmaaGreat
namespace Go.Proofs.YtblfffbmklkhmaaGreat
open Go.RowKit
theorem Sv (b:Nat) {root:ByteArray} (hl:ax root=true):RE [fE b 0 root] (fun _=>dK root) (fun _=>false):=by
 have h0:RE [] (fun _=>dK root) (fun _=>false):=⟨⟨fun y hy=>(by cases hy),fun y hy=>(by cases hy),fun y hy=>(by cases hy)⟩,fun y hy=>(by cases hy),fun y hy=>(by cases hy)⟩
 have h1:=h0.new (made:=0) (fun y hy=>by cases hy) hl b
 have e1:bQ (fun _=>dK root) 0 (dK root)=fun _=>dK root:=by
  funext j
  unfold bQ
  split<;>rfl
 have e2:BS (fun _=>false) 0 false=fun _=>false:=by
  funext j
  unfold BS
  split<;>rfl
 rw [e1,e2] at h1
 exact h1
def Kk (w:World) (s root:ByteArray) (e:Ending) (w':World):Prop:=
 Below w.heap.size w w'∧
 ((dH s root≠0∧e=.returned (.tuple #[.pointer none,.int .i64 (dH s root)]))∨
  (dH s root=0∧∃ d:Nat,e=.returned (.tuple #[.pointer (some ⟨d,0,none⟩),.int .i64 0])∧w.heap.size≤d∧RSd w' d [(0,[])] 1 (fun _=>dK root) (fun _=>false) (dQ s) (fun k=>w.heap.size≤k)))
set_option maxRecDepth 100000 in
set_option maxHeartbeats 2000000 in
theorem AE (w:World) (s root:ByteArray) (hs:s.size≤maxLen) :
  Calls Tryz.prog 90 #[.string s,.string root] w fun e w'=>Kk w s root e w':=by
 go_enter Tryz.func90,Tryz.ntmps90
 go_wp2_with fail
 refine (rr _ s hs).mono ?_
 intro e w1 dB
 by_cases hc:(fa s).1=0
 ·obtain ⟨pa,Rr,rfl,hb,vz,hrel,bw⟩:=tH hs dB hc
  have HC:Hid (dH s root=if ax root=false then 4 else 0):=by unfold Hid dH;rw [if_neg (fun h=>h hc)]
  have Fn:Hid (ShIn w1 (fun k=>w.heap.size≤k∧k<w1.heap.size) pa Rr∧Rel2 vC Rr (dQ s)∧Rr.length≤400):=⟨vz,hrel,bw⟩
  generalize (fa s).2=c2
  clear hc dB vz hrel bw
  have hz:=hb.size
  go_wp2_with fail
  refine (lT _ root).mono ?_
  rintro e w2 ⟨rfl,rfl⟩
  obtain ⟨w1,rfl⟩:∃ w1,w1=w2:=⟨_,rfl⟩
  cases jH:ax root with
  | false=>
   have HE:Hid (dH s root=4):=by unfold Hid;rw [HC.out,if_pos jH]
   clear jH HC
   go_wp2
   go_ret2
   exact ⟨hb,Or.inl ⟨by rw [HE.out];decide,by rw [HE.out];rfl⟩⟩
  | true=>
   have HE:Hid (dH s root=0):=by unfold Hid;rw [HC.out,if_neg (by rw [jH];decide)]
   have yn:Hid (RE [fE w1.heap.size 0 root] (fun _=>dK root) (fun _=>false)):=Sv _ jH
   clear jH HC
   go_wp2
   go_ret2
   have h1:w.heap.size≤(w1.alloc (.cells (fE w1.heap.size 0 root).cells 176)).heap.size:=by simp;omega
   refine ⟨((hb.alloc hz _).alloc (by simp;omega) _).alloc (by simp;omega) _,Or.inr ⟨HE.out,w1.heap.size+1+1,rfl,by omega,?_⟩⟩
   have Xb:=Q2 w1 root pa
   have o7:∀ k,gQ (w1.heap.size+1+1) [fE w1.heap.size 0 root] (.slice (some ⟨w1.heap.size+1,0,none⟩) 1 1) k→w1.heap.size≤k:=by
    rintro k (rfl | ⟨e,he,rfl⟩ | hk | ⟨e,he,hk⟩)
    ·omega
    ·rw [List.mem_singleton] at he;subst he;exact Nat.le_refl _
    ·simp [Value.ownBlock] at hk;omega
    ·rw [List.mem_singleton] at he;subst he;simp [fE,Value.ownBlock] at hk
   refine ⟨[fE w1.heap.size 0 root],pa,.slice none 0 0,false,_,Rr,fun k=>w.heap.size≤k∧k<w1.heap.size,⟨Xb,FL,yn.out,Fn.out.1.keep (fun k hk hl=>?_) (by simp;omega),Fn.out.2.1,Fn.out.2.2,fun hh=>(by cases hh),fun k hk=>by have:=hk.2;simp;omega,fun k hk hx=>by have:=o7 k hx;have:=hk.2;omega⟩,rfl,fun k hk=>by have:=o7 k hk;omega,fun k hk=>hk.1,fun hh=>by cases hh⟩
   rw [Below.heap_alloc _ _ _ (by simp;omega),Below.heap_alloc _ _ _ (by simp;omega),Below.heap_alloc _ _ _ hl]
 ·obtain ⟨pa,rfl,hb,_⟩:=dB
  have gc:((fa s).1 != 0)=true:=by simp [hc]
  have HE:Hid (dH s root=(fa s).1):=by unfold Hid dH;rw [if_pos hc]
  have HC:Hid ((fa s).1≠0):=hc
  generalize oj:(fa s).1=c1 at gc HC HE ⊢
  generalize (fa s).2=c2
  clear oj hc
  go_wp2
  go_ret2
  exact ⟨hb,Or.inl ⟨by rw [HE.out];exact HC.out,by rw [HE.out];rfl⟩⟩
end Go.Proofs.YtblfffbmklkhmaaGreat
namespace Go.Proofs.YtblfffbmklkhmaaGreat
open Go.RowKit
section
variable {PS:World→Value→YS→List Nat→(Nat→Prop)→Prop} {Q:ft→YS→List Nat→YS→List Nat→Prop} {I:YS→List Nat→fm→Prop} {ae:Nat} {w:World} {B:Nat} {vD vI vM:Value} {nx:Nat} {ps:List ml} {es:List vj}
theorem GW2.add (hP:bi PS Q) (h:GW2 PS I ae w B vD vI vM nx ps es) {W w3:World} (hW:Below w.heap.size w W) (hg:W.grownBy w3 vD.ownBlock) (p:ml) {vu:Value}
  (ho:w3.ownsRow 0 112 1 vu (ps.length+1) ((ps.map fun p=>.pointer (some ⟨p.b,0,none⟩))++[.pointer (some ⟨p.b,0,none⟩)])) (hb:∀ j,vu.ownBlock=some j→vD.ownBlock=some j∨W.heap.size≤j)
  (zJ:PD2 PS I W p.b p.made p.G) (hG:∀ k,p.G k→ae≤k∧¬ rX B vD vI vM es k∧∀ i (hi:i<ps.length),¬ ps[i].G k):GW2 PS I ae (w3.setCell ⟨B,0,none⟩ vu) B vu vI vM nx (ps++[p]) es:=by
 have Rv:B<w.heap.size:=h.ltM B (Or.inl rfl)
 have hWz:=hW.size
 have hgz:=hg.size
 have X2:(w3.setCell ⟨B,0,none⟩ vu).heap.size=w3.heap.size:=by simp
 have eS:w3.heap[B]?=some (.cells #[vD,vI,vM,.int .i64 nx] 67 (0,0)):=((hg.block B (by omega) (fun e=>aj h.rowD h.wb.blk (by decide) e.symm)).trans (hW.block B Rv)).trans h.wb.blk
 have same:∀ k,k<W.heap.size→k≠B→vD.ownBlock≠some k→(w3.setCell ⟨B,0,none⟩ vu).heap[k]?=W.heap[k]?:=fun k hk h1 h2=>(Below.heap_setCell _ _ _ _ h1).trans (hg.block k hk (fun e=>h2 e.symm))
 have Fg:∀ k,k<w.heap.size→k≠B→vD.ownBlock≠some k→(w3.setCell ⟨B,0,none⟩ vu).heap[k]?=w.heap[k]?:=fun k hk h1 h2=>(same k (by omega) h1 h2).trans (hW.block k hk)
 have Wv:∀ {t:TypeId} {v:Value} {n:Nat} {xs:List Value},t≠112→w.ownsRow 0 t 1 v n xs→∀ k,v.ownBlock=some k→vD.ownBlock≠some k:=by
  intro t v n xs ht hr k hk hd
  rcases hr.2 with ⟨h1,_⟩ | ⟨g,_,eU,h1,_,vw,_⟩
  ·rw [h1] at hk;simp [Value.ownBlock] at hk
  ·rw [h1] at hk
   simp [Value.ownBlock] at hk
   subst hk
   exact aj h.rowD vw ht hd
 have hGi:∀ i (hi:i<ps.length) k,ps[i].G k→(w3.setCell ⟨B,0,none⟩ vu).heap[k]?=w.heap[k]?:=fun i hi k hk=>Fg k ((h.pd i hi).lt k hk) (fun e=>h.out i hi k (Or.inl e) hk) (fun e=>h.out i hi k (Or.inr (Or.inl e)) hk)
 have xn:∀ k,rX B vu vI vM es k→rX B vD vI vM es k∨W.heap.size≤k:=by
  rintro k (hk | hk | hk | hk | hk)
  ·exact Or.inl (Or.inl hk)
  ·exact (hb k hk).imp (fun x=>Or.inr (Or.inl x)) id
  ·exact Or.inl (Or.inr (Or.inr (Or.inl hk)))
  ·exact Or.inl (Or.inr (Or.inr (Or.inr (Or.inl hk))))
  ·exact Or.inl (Or.inr (Or.inr (Or.inr (Or.inr hk))))
 have bR:(ps++[p]).length=ps.length+1:=by simp
 have ur:∀ j (hj:j<(ps++[p]).length),(∃ sb:j<ps.length,(ps++[p])[j]=ps[j])∨(j=ps.length∧(ps++[p])[j]=p):=fun j hj=>by
  by_cases e:j<ps.length
  ·exact Or.inl ⟨e,List.getElem_append_left e⟩
  ·have e2:j=ps.length:=by omega
   subst e2
   exact Or.inr ⟨rfl,by simp⟩
 refine ⟨?_,?_,bZ h.rowI (fun k hk hl=>Fg k hl (fun e=>aj h.rowI h.wb.blk (by decide) (e▸hk)) (Wv (by decide) h.rowI k hk)),bZ h.rowM (fun k hk hl=>Fg k hl (fun e=>aj h.rowM h.wb.blk (by decide) (e▸hk)) (Wv (by decide) h.rowM k hk)),fun e he=>⟨(h.full e he).1.blk (fun g vw hl=>Fg g hl (h.ent e he g vw).2.1 (h.ent e he g vw).2.2.1),(h.full e he).2⟩,fun e he j hj=>?_,fun j hj=>?_,fun j l hj hl hn k hk=>?_,fun j hj k hk=>?_,h.cnt,fun k hk=>?_,fun j hj k hk=>?_,by have:=h.baseW;omega⟩
 ·show (World.setCell _ _ _).heap[B]?=_
  rw [aq eS];rfl
 ·rw [bR,List.map_append]
  exact aX ho (aj ho eS (by decide)) _
 ·obtain ⟨h1,h2,h3,h4⟩:=h.ent e he j hj
  exact ⟨by omega,h2,fun x=>(hb j x).elim h3 (fun y=>by omega),h4⟩
 ·rcases ur j hj with ⟨sb,he⟩ | ⟨_,he⟩
  ·rw [he]
   exact (h.pd j sb).keep hP (by omega) (hGi j sb)
  ·rw [he]
   exact zJ.keep hP (by omega) (fun k hk=>same k (zJ.lt k hk) (fun e=>(hG k hk).2.1 (Or.inl e)) (fun e=>(hG k hk).2.1 (Or.inr (Or.inl e))))
 ·rcases ur j hj with ⟨sb,he⟩ | ⟨sb,he⟩<;>rcases ur l hl with ⟨Up,G7⟩ | ⟨Up,G7⟩
  ·rw [he] at hk
   rw [G7]
   exact h.sep j l sb Up hn k hk
  ·rw [he] at hk
   rw [G7]
   exact fun hx=>(hG k hx).2.2 j sb hk
  ·rw [he] at hk
   rw [G7]
   exact (hG k hk).2.2 l Up
  ·omega
 ·intro hx
  rcases ur j hj with ⟨sb,he⟩ | ⟨sb,he⟩
  ·rw [he] at hx
   rcases xn k hk with hk | hk
   ·exact h.out j sb k hk hx
   ·have:=(h.pd j sb).lt k hx
    omega
  ·rw [he] at hx
   rcases xn k hk with hk | hk
   ·exact (hG k hx).2.1 hk
   ·have:=zJ.lt k hx
    omega
 ·rcases xn k hk with hk | hk
  ·exact h.baseM k hk
  ·have:=h.baseW
   omega
 ·rcases ur j hj with ⟨sb,he⟩ | ⟨sb,he⟩
  ·rw [he] at hk
   exact h.baseG j sb k hk
  ·rw [he] at hk
   exact (hG k hk).1
end
abbrev Np (s root:ByteArray):YS:=⟨[(0,[])],1,fun _=>dK root,fun _=>false,dQ s⟩
theorem OC {PS:World→Value→YS→List Nat→(Nat→Prop)→Prop} {Q:ft→YS→List Nat→YS→List Nat→Prop} {I:YS→List Nat→fm→Prop} (hP:bi PS Q) (L8:∀ X v1 v2 v3,X.T=[(0,[])]→I X [0] ⟨v1,v2,v3,1,false,[0],[0],[]⟩) {w w1 w2:World} {pa:Addr} {d:Nat} {root s:ByteArray} (h1:PS w1 (.pointer (some pa)) (Np s root) [0] (fun k=>w.heap.size≤k)) (hz:w.heap.size≤w1.heap.size) (h2:RY w2 d (Np s root) (fun k=>w1.heap.size≤k)) (hB:Below w1.heap.size w1 w2) :
  PD2 PS I (((w2.alloc (.cells #[.int .i64 0] 3)).alloc (.cells #[.int .i64 0] 3)).alloc (nV pa d w2.heap.size (w2.heap.size+1))) (w2.heap.size+2) 1 (fun k=>w.heap.size≤k∧k<w2.heap.size+3):=by
 have nX:=hB.size
 have hx:=hP.keep (w':=w2) (hP.here h1) (fun k hk hl=>hB.block k hl) nX
 have EK:(((w2.alloc (.cells #[.int .i64 0] 3)).alloc (.cells #[.int .i64 0] 3)).alloc (nV pa d w2.heap.size (w2.heap.size+1))).heap.size=w2.heap.size+3:=by simp
 have eP:∀ k,k<w2.heap.size→(((w2.alloc (.cells #[.int .i64 0] 3)).alloc (.cells #[.int .i64 0] 3)).alloc (nV pa d w2.heap.size (w2.heap.size+1))).heap[k]?=w2.heap[k]?:=fun k hk=>by
  rw [Below.heap_alloc _ _ _ (by simp;omega),Below.heap_alloc _ _ _ (by simp;omega),Below.heap_alloc _ _ _ hk]
 have e1:(w2.alloc (.cells #[.int .i64 0] 3)).heap.size=w2.heap.size+1:=by simp
 have e2:((w2.alloc (.cells #[.int .i64 0] 3)).alloc (.cells #[.int .i64 0] 3)).heap.size=w2.heap.size+2:=by simp
 refine ⟨Np s root,[0],pa,d,⟨.slice (some ⟨w2.heap.size,0,none⟩) 1 1,.slice (some ⟨w2.heap.size+1,0,none⟩) 1 1,.slice none 0 0,1,false,[0],[0],[]⟩,fun k=>w2.heap.size≤k∧k<w2.heap.size+3,fun k=>w.heap.size≤k∧k<w1.heap.size,fun k=>w1.heap.size≤k∧k<w2.heap.size,⟨?_,?_,?_,?_,?_,World.ownsRow_nil _ _ _ _,?_,?_,?_,fun j hj=>(by simp [Value.ownBlock] at hj),?_,?_,?_,?_⟩,?_,?_,rfl,⟨E9,E9⟩,L8 _ _ _ _ rfl⟩
 ·show (World.alloc _ _).heap[w2.heap.size+2]?=_
  rw [←e2]
  exact heap_alloc_new _ _
 ·exact hP.keep hx (fun k hk hl=>eP k hl) (by rw [EK];omega)
 ·exact h2.here.keep (fun k hk hl=>eP k hl) (by rw [EK];omega)
 ·exact ((EY w2 _ _).alloc _).alloc _
 ·have:=(EY (w2.alloc (.cells #[.int .i64 0] 3)) (.int .i64 0) 3).alloc (nV pa d w2.heap.size (w2.heap.size+1))
  rw [e1] at this
  exact this
 ·exact ⟨by omega,by omega⟩
 ·intro j hj
  simp [Value.ownBlock] at hj
  subst hj
  exact ⟨by omega,by omega⟩
 ·intro j hj
  simp [Value.ownBlock] at hj
  subst hj
  exact ⟨by omega,by omega⟩
 ·intro k hk hx
  omega
 ·intro k hk hx
  omega
 ·intro k hk hx
  omega
 ·intro k hk
  rw [EK]
  omega
 ·intro k hk
  show w.heap.size≤k∧k<w2.heap.size+3
  omega
 ·intro k hk
  rw [EK]
  exact hk.2
def qu (PS:World→Value→YS→List Nat→(Nat→Prop)→Prop) (I:YS→List Nat→fm→Prop) (ae:Nat) (w:World) (B:Nat) (vI vM:Value) (nx:Nat) (ps:List ml) (es:List vj) (e:Ending) (w':World):Prop:=
 e=.returned (.bool true)∧Below ae w w'∧∃ vu rP,GW2 PS I ae w' B vu vI vM nx rP es∧(rP=ps∨∃ b G,rP=ps++[⟨b,1,G⟩])
set_option maxRecDepth 100000 in
set_option maxHeartbeats 8000000 in
theorem DB {PS:World→Value→YS→List Nat→(Nat→Prop)→Prop} {Q:ft→YS→List Nat→YS→List Nat→Prop} {I:YS→List Nat→fm→Prop} (hP:bi PS Q) (L8:∀ X v1 v2 v3,X.T=[(0,[])]→I X [0] ⟨v1,v2,v3,1,false,[0],[0],[]⟩) (ae:Nat) (w:World) (B:Nat) (vD vI vM:Value) (nx:Nat) (ps:List ml) (es:List vj) (h:GW2 PS I ae w B vD vI vM nx ps es) (sQ:ps.length≤1099511627776) (kd at' X Y Z:Int) (S Tt:ByteArray) (on:Bool) (hS:S.size≤maxLen) :
  Calls Tryz.prog 57 #[.pointer (some ⟨B,0,none⟩),.agg #[.int .i64 kd,.int .i64 at',.int .i64 X,.int .i64 Y,.int .i64 Z,.string S,.string Tt,.bool on]] w fun e w'=>qu PS I ae w B vI vM nx ps es e w':=by
 obtain ⟨i0,hi,gx,gw,gB⟩:=info_parts Tryz.info112
 have oa:Hid (GW2 PS I ae w B vD vI vM nx ps es):=h
 have HP:Hid (bi PS Q):=hP
 clear h hP
 go_enter Tryz.func57,Tryz.ntmps57
 go_wp2_with fail
 refine (HP.out.new _ S Tt hS).mono ?_
 rintro e w1 ⟨cF,fi⟩
 have fO:=cF.size
 have o5:w1.cell? ⟨w.heap.size,5,none⟩=some (.string S):=(cF.cell (p:=⟨w.heap.size,5,none⟩) (by simp)).trans (aa (heap_alloc_new w _) rfl)
 have o6:w1.cell? ⟨w.heap.size,6,none⟩=some (.string Tt):=(cF.cell (p:=⟨w.heap.size,6,none⟩) (by simp)).trans (aa (heap_alloc_new w _) rfl)
 rcases fi with ⟨eV,rfl⟩ | ⟨eV,px,rfl,dI⟩
 ·go_wp2_with fail
  refine (AE _ S Tt hS).mono ?_
  rintro e w2 ⟨dp,Eo⟩
  rcases Eo with ⟨_,rfl⟩ | ⟨Rw,_⟩
  ·have HE:Hid (qu PS I ae w B vI vM nx ps es (.returned (.bool true)) w2):=by
    have hB:Below w.heap.size w w2:=(((Below.refl _ _).alloc (Nat.le_refl _) _).trans (cF.mono (by simp))).trans (dp.mono (by simp at fO;omega))
    exact ⟨rfl,hB.mono oa.out.baseW,vD,ps,oa.out.keep HP.out hB,Or.inl rfl⟩
   clear eV cF dp fO o5 o6
   generalize dH S Tt=y
   go_wp2_with fail
   refine (nU _ y).mono ?_
   rintro e w5 ⟨rfl,rfl⟩
   go_wp2_with fail
   refine (nU _ y).mono ?_
   rintro e w5 ⟨rfl,rfl⟩
   go_wp2
   go_ret
   exact HE.out
  ·exact absurd Rw eV
 ·obtain ⟨pa,rfl⟩:=HP.out.ptr dI
  have zH:Hid (PS w1 (.pointer (some pa)) (Np S Tt) [0] (fun k=>(w.alloc (an kd at' X Y Z S Tt on)).heap.size≤k)):=dI
  clear dI
  go_wp2_with fail
  refine (AE _ S Tt hS).mono ?_
  rintro e w2 ⟨dp,Eo⟩
  rcases Eo with ⟨Rw,_⟩ | ⟨_,d,rfl,hd,C4⟩
  ·exact absurd eV Rw
  ·have hB:Below w.heap.size w w2:=(((Below.refl _ _).alloc (Nat.le_refl _) _).trans (cF.mono (by simp))).trans (dp.mono (by simp at fO;omega))
   have Ag:Hid (GW2 PS I ae w2 B vD vI vM nx ps es):=oa.out.keep HP.out hB
   have V5:Hid (PD2 PS I (((w2.alloc (.cells #[.int .i64 0] 3)).alloc (.cells #[.int .i64 0] 3)).alloc (nV pa d w2.heap.size (w2.heap.size+1))) (w2.heap.size+2) 1 (fun k=>(w.alloc (an kd at' X Y Z S Tt on)).heap.size≤k∧k<w2.heap.size+3)):=OC HP.out L8 zH.out fO C4 dp
   have Nc:Hid (Below w.heap.size w w2):=hB
   have wi:w.heap.size+1≤w2.heap.size:=by have:=dp.size;simp at fO;omega
   have c0:w2.cell? ⟨B,0,none⟩=some vD:=aa Ag.out.wb.blk rfl
   obtain ⟨aD,cD,hvD⟩:=au Ag.out.rowD
   subst hvD
   clear eV cF dp fO o5 o6 hB C4 hd zH
   go_wp2_with fail
   refine (nU _ 0).mono ?_
   rintro e w5 ⟨rfl,rfl⟩
   obtain ⟨w2,rfl⟩:∃ w2,w2=w5:=⟨_,rfl⟩
   go_wp2_with fail
   refine (nU _ 0).mono ?_
   rintro e w5 ⟨rfl,rfl⟩
   obtain ⟨w2,rfl⟩:∃ w2,w2=w5:=⟨_,rfl⟩
   go_wp2_with (at_builtin;refine gZ _ rfl (.tmp 43) (.tmp 50) 64 rfl 0 112 i0 (.pointer none) 1 8 Tryz.underlying64 hi gx gw gB rfl (by decide) _ _ _ rfl ((((Ag.out.rowD.alloc _).alloc _).alloc _).alloc _) ⟨w2.heap.size+3,0,none⟩ 1 1 [.pointer (some ⟨w2.heap.size+2,0,none⟩)] rfl rfl ?c1 ?c2 ?c3 ?c4 ?c5 ?_)
   case c1=>exact aO (((w2.alloc _).alloc _).alloc _) _ (by simp) _ _ _ rfl
   case c2=>intro u hu;rw [List.mem_singleton] at hu;rw [hu];rfl
   case c3=>unfold maxLen;omega
   case c4=>omega
   case c5=>exact Nat.zero_le _
   intro v3 w3 bg eJ ji
   have HN:Hid (GW2 PS I ae (w3.setCell ⟨B,0,none⟩ v3) B v3 vI vM nx (ps++[⟨w2.heap.size+2,1,fun k=>(w.alloc (an kd at' X Y Z S Tt on)).heap.size≤k∧k<w2.heap.size+3⟩]) es):=by
    have hbw:=Ag.out.baseW
    refine Ag.out.add HP.out (((((Below.refl _ _).alloc (Nat.le_refl _) _).alloc (by simp) _).alloc (by simp;omega) _).alloc (by simp;omega) _) eJ ⟨w2.heap.size+2,1,fun k=>(w.alloc (an kd at' X Y Z S Tt on)).heap.size≤k∧k<w2.heap.size+3⟩ bg (fun j hj=>(ji.out j hj).imp id (fun x=>by simp;omega)) (V5.out.keep HP.out (by simp) (fun k hk=>Below.heap_alloc _ _ _ (V5.out.lt k hk))) (fun k hk=>?_)
    have vE:w.heap.size+1≤k:=by have:=hk.1;simp at this;omega
    exact ⟨by have:=oa.out.baseW;omega,fun hm=>by have:=oa.out.ltM k hm;omega,fun i hi hx=>by have:=(oa.out.pd i hi).lt k hx;omega⟩
   have XX:=HN.out.wb
   have eS:w3.heap[B]?=some (.cells #[.slice aD ps.length cD,vI,vM,.int .i64 nx] 67 (0,0)):=(eJ.block B (by have:=Ag.out.ltM B (Or.inl rfl);simp;omega) (fun e=>aj Ag.out.rowD Ag.out.wb.blk (by decide) e.symm)).trans ((((Below.refl _ _).alloc (Nat.le_refl _) _).alloc (by simp) _).alloc (by simp;omega) _ |>.alloc (by simp;omega) _ |>.block B (Ag.out.ltM B (Or.inl rfl)) |>.trans Ag.out.wb.blk)
   have HE:Hid (qu PS I ae w B vI vM nx ps es (.returned (.bool true)) (w3.setCell ⟨B,0,none⟩ v3)):=by
    refine ⟨rfl,?_,_,_,HN.out,Or.inr ⟨_,_,rfl⟩⟩
    have hbw:=oa.out.baseW
    have BY:Below ae w w2:=Nc.out.mono hbw
    have hW:Below ae w ((((w2.alloc (.cells #[.int .i64 0] 3)).alloc (.cells #[.int .i64 0] 3)).alloc (nV pa d w2.heap.size (w2.heap.size+1))).alloc (.cells #[.pointer (some ⟨w2.heap.size+2,0,none⟩)] 112)):=(((BY.alloc (by omega) _).alloc (by simp;omega) _).alloc (by simp;omega) _).alloc (by simp;omega) _
    exact (hW.grown eJ (by simp;omega) (fun k hk=>oa.out.baseM k (Or.inr (Or.inl hk)))).setCell (oa.out.baseM B (Or.inl rfl)) _
   have e0:w3.cell? ⟨B,0,none⟩=some (.slice aD ps.length cD):=aa eS rfl
   have ez:∀ k,w3.frozen? ⟨B,k,none⟩=false:=fun _=>ag eS
   obtain ⟨a3,c3,A6⟩:=au bg
   subst A6
   clear bg eJ ji HN XX eS c0 V5 Ag
   go_wp2
   go_ret
   exact HE.out
end Go.Proofs.YtblfffbmklkhmaaGreat
