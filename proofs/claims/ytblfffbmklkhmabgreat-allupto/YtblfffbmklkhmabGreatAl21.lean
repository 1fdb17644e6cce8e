/- Own work. -/
import Derived.Test.YtblfffbmklkhmabGreatAl20
set_option maxRecDepth 100000
set_option maxHeartbeats 40000000
namespace Go.Proofs.YtblfffbmklkhmabGreat
open Go.RowKit Go.Proofs.Tryz
section
variable {v5:Value}{w5 wy:World}
def ig (P:Int->Bool)(S:List Int):List Int:=S.filter P++S.filter λx=>!P x
structure TD (P:Int->Bool)(w2:World)(S:List Int)(i:Nat)(v3 v4:Value)(W O:List Int)(wr:World):Prop where
 we:W=(S.take i).filter P
 oe:O=(S.take i).filter λx=>!P x
 len:W.length+O.length=i
 o3:wr.ownsRow w2.heap.size 3 1 v3 W.length (aJ W)
 o4:wr.ownsRow w2.heap.size 3 1 v4 O.length (aJ O)
 ne:∀j,v3.ownBlock=some j->v4.ownBlock≠some j
 below:Below w2.heap.size w2 wr
theorem QQ {S:List Int}{i:Nat}(h:i<S.length)(x:Int):x∈S.take (i+1)↔x∈S.take i∨x=S[i]:=by
 rw[gj h,List.mem_append,ft]
section
variable {P:Int->Bool}{w2:World}{S:List Int}{i:Nat}{v3 v4:Value}{W O:List Int}{wr:World}
theorem TD.wanted (h:TD P w2 S i v3 v4 W O wr)(hi:i<S.length)(hp:P S[i]=true)(hb:Below wr.heap.size wr wy)(cf:w5.ownsRow w2.heap.size 3 1 v5 (W.length+1) (aJ W++[.int .i64 S[i]]))(hg:wy.grownBy w5 v3.ownBlock)(hk:∀j,v5.ownBlock=some j->v3.ownBlock=some j∨wy.heap.size<=j):TD P w2 S (i+1) v5 v4 (W++[S[i]]) O w5:=by
 have hz:=hb.size;have hBy:=h.below.trans (hb.mono h.below.size);refine⟨?_,?_,?_,by simpa[aJ] using cf,?_,λj hj=>?_,hBy.grown hg hBy.size (λk hk=>(h.o3.lt k hk).1)⟩
 ·rw[gj hi,List.filter_append,<-h.we];simp[hp]
 ·rw[gj hi,List.filter_append,<-h.oe];simp[hp]
 ·have:=h.len;simp;omega
 ·have h4:=aY h.o4 hb;refine⟨h4.1,?_⟩;rcases h4.2 with hn | ⟨g,ij,gu,hv,oW,FP,rest⟩
  ·exact ax hn
  ·refine az ⟨g,ij,gu,hv,oW,(hg.block g (bG.1 FP).1 (λe=>h.ne g e.symm (by rw[hv];rfl))).trans FP,rest⟩
 ·rcases hk j hj with h1 | h1
  ·exact h.ne j h1
  ·intro e;have:=(h.o4.lt j e).2;omega
theorem TD.other (h:TD P w2 S i v3 v4 W O wr)(hi:i<S.length)(hp:P S[i]=false)(hb:Below wr.heap.size wr wy)(cf:w5.ownsRow w2.heap.size 3 1 v5 (O.length+1) (aJ O++[.int .i64 S[i]]))(hg:wy.grownBy w5 v4.ownBlock)(hk:∀j,v5.ownBlock=some j->v4.ownBlock=some j∨wy.heap.size<=j):TD P w2 S (i+1) v3 v5 W (O++[S[i]]) w5:=by
 have hz:=hb.size;have hBy:=h.below.trans (hb.mono h.below.size);refine⟨?_,?_,?_,?_,by simpa[aJ] using cf,λj hj e=>?_,hBy.grown hg hBy.size (λk hk=>(h.o4.lt k hk).1)⟩
 ·rw[gj hi,List.filter_append,<-h.we];simp[hp]
 ·rw[gj hi,List.filter_append,<-h.oe];simp[hp]
 ·have:=h.len;simp;omega
 ·have h4:=aY h.o3 hb;refine⟨h4.1,?_⟩;rcases h4.2 with hn | ⟨g,ij,gu,hv,oW,FP,rest⟩
  ·exact ax hn
  ·refine az ⟨g,ij,gu,hv,oW,(hg.block g (bG.1 FP).1 (λe=>h.ne g (by rw[hv];rfl) e.symm)).trans FP,rest⟩
 ·rcases hk j e with h1 | h1
  ·exact h.ne j hj h1
  ·have:=(h.o3.lt j hj).2;omega
end
section
variable (w:World)(b:Nat)(vS:Value × Value)(v:Value)(aa:List PEl)(T:aU)(ae:Nat)(M:Nat->Mk)(rs:List dx)(kl:List (Int × List Int))(G:Nat->Prop)
theorem LA (h:DM w b vS v aa T ae M rs kl G):Calls prog 121 #[.pointer (some ⟨b,0,none⟩)] w λe w'=>oI w (ig (fc aa) (cG kl (kZ aa))) e w':=by
 obtain⟨i0,GV,gP,gQ,gR⟩:=info_parts Tryz.info3;obtain⟨a,c,hv⟩:=h.pb.pl.shape;subst hv;have HD:=aw h;have jM:=h.lt;have MV:=IK h.pb.pt h.tw
 have Rp:(kZ aa).length<=24:=by
  have h1:=qF MV.1 MV.2.1;have h2:=h.pb.pt.len h.tw;have h3:=h.pb.few;omega
 clear h MV;go_enter func121,ntmps121;go_wp2_with fail;refine(Qc w b a c aa HD.out.trd).mono ?_;rintro e w1 ⟨al,cl,rfl,eo,cH⟩;have jK:=aw (HD.out.below cH);have kJ:=bZ (RowI.own eo) cH;clear eo cH;go_wp2_with fail;refine(x7 w1 b vS _ aa T ae M rs kl G al cl (kZ aa) jK.out kJ.out.1 (by omega)).mono ?_;rintro e w2 ⟨a2,c2,rfl,Eb,dk⟩;have oZ:=aw (jK.out.below dk);have oG:=bZ (RowI.own Eb) (kJ.out.2.trans (dk.mono kJ.out.2.size));have CT:(cG kl (kZ aa)).length<=24:=Nat.le_trans (rn _ _) Rp;clear Eb dk jK kJ Rp;obtain⟨S,hS⟩:∃S,cG kl (kZ aa)=S:=⟨_,rfl⟩;have Xr:=aw hS;rw[hS] at oG CT ⊢;clear hS;go_wp2_with fail
 go_loopg [3,4,16] S.length (λgk v3 v4 iv wr=>∃i:Nat,iv=.int .i64 i/\i<=S.length/\S.length - i<=gk/\Hid (∃W O,TD (fc aa) w2 S i v3 v4 W O wr))
 case atStart=>exact⟨0,rfl,bm,by omega,[],[],rfl,rfl,rfl,eB,eB,λj hj=>by simp[Value.ownBlock] at hj,bo⟩
 case round=>
  obtain⟨i,rfl,hi,fT,HI⟩:=hrel;obtain⟨W,O,hTD⟩:=HI.out;obtain⟨a3,c3,zm⟩:=aK hTD.o3;obtain⟨a4,c4,hv4⟩:=aK hTD.o4;subst zm hv4;have vz:=aw hTD;have bT:=hTD.len;have i8:=hTD.below.size;clear HI hTD
  by_cases bc:i<S.length
  ·have hd:decide ((i:Int)<(S.length:Int))=true:=by simp;omega
   obtain⟨g2,iD,l9,zj⟩:=oG.out.1 i bc;subst iD;have q1:=(vz.out.below.cell (p:=⟨g2,i,none⟩) l9).trans zj;rw[bW bc] at q1;replace q1:wr.cell? ⟨g2,i,none⟩=some (.int .i64 S[i]):=q1;have VD:Hid (fc aa S[i]=true->∀wy w5 v5,Below wr.heap.size wr wy->w5.ownsRow w2.heap.size 3 1 v5 (W.length+1) (aJ W++[.int .i64 S[i]])->wy.grownBy w5 (Value.slice a3 W.length c3).ownBlock->(∀j,v5.ownBlock=some j->(Value.slice a3 W.length c3).ownBlock=some j∨wy.heap.size<=j)->∃W' O',TD (fc aa) w2 S (i+1) v5 (.slice a4 O.length c4) W' O' w5):=λhp wy w5 v5 h1 h2 h3 h4=>⟨_,_,vz.out.wanted bc hp h1 h2 h3 h4⟩;have Bo:Hid (fc aa S[i]=false->∀wy w5 v5,Below wr.heap.size wr wy->w5.ownsRow w2.heap.size 3 1 v5 (O.length+1) (aJ O++[.int .i64 S[i]])->wy.grownBy w5 (Value.slice a4 O.length c4).ownBlock->(∀j,v5.ownBlock=some j->(Value.slice a4 O.length c4).ownBlock=some j∨wy.heap.size<=j)->∃W' O',TD (fc aa) w2 S (i+1) (.slice a3 W.length c3) v5 W' O' w5):=λhp wy w5 v5 h1 h2 h3 h4=>⟨_,_,vz.out.other bc hp h1 h2 h3 h4⟩;have Q8:=aw (oZ.out.below vz.out.below);have Wp:b<wr.heap.size:=Q8.out.lt;clear zj;generalize S[i]=o at q1 VD Bo;go_wp2_with fail;refine(EH wr b a c aa o Q8.out.trd).mono ?_;rintro e w3 ⟨rfl,fA⟩;have iP:=aw fA;have MB:=bZ (aY vz.out.o3 fA) (aY vz.out.o4 fA);have G4:=fA.size;clear fA q1 vz Q8;generalize fc aa o=r at VD Bo ⊢;cases r with
   | true=>
    go_wp2_with (first | (at_builtin;refine ff _ rfl (.tmp 25) (.tmp 27) 28 rfl w2.heap.size 3 i0 (.int .i64 0) 1 8 underlying28 GV gP gQ gR rfl (by decide) _ _ _ rfl (MB.out.1.alloc _) ⟨w3.heap.size,0,none⟩ 1 1 [.int .i64 o] rfl rfl ?c1 ?c2 ?c3 ?c4 ?c5 ?_))
    case c1=>exact bg w3 _ rfl _ _ _ rfl
    case c2=>exact sF o
    case c3=>unfold maxLen;omega
    case c4=>omega
    case c5=>simp;omega
    intro v5 w5 cf jn hk5;have HI5:Hid (∃W' O',TD (fc aa) w2 S (i+1) v5 (.slice a4 O.length c4) W' O' w5):=VD.out (by trivial) _ w5 v5 (iP.out.alloc iP.out.size _) cf jn (λj hj=>(hk5.out j hj).imp id (λh=>by simpa using h));clear cf jn hk5 MB iP VD Bo;go_wp2;go_roundg (S.length - (i+1))
    case measure=>omega
    case rel=>exact⟨i+1,by go_num,by omega,aF,HI5⟩
   | false=>
    go_wp2_with (first | (at_builtin;refine ff _ rfl (.tmp 29) (.tmp 31) 28 rfl w2.heap.size 3 i0 (.int .i64 0) 1 8 underlying28 GV gP gQ gR rfl (by decide) _ _ _ rfl (MB.out.2.alloc _) ⟨w3.heap.size,0,none⟩ 1 1 [.int .i64 o] rfl rfl ?c1 ?c2 ?c3 ?c4 ?c5 ?_))
    case c1=>exact bg w3 _ rfl _ _ _ rfl
    case c2=>exact sF o
    case c3=>unfold maxLen;omega
    case c4=>omega
    case c5=>simp;omega
    intro v5 w5 cf jn hk5;have HI5:Hid (∃W' O',TD (fc aa) w2 S (i+1) (.slice a3 W.length c3) v5 W' O' w5):=Bo.out (by trivial) _ w5 v5 (iP.out.alloc iP.out.size _) cf jn (λj hj=>(hk5.out j hj).imp id (λh=>by simpa using h));clear cf jn hk5 MB iP VD Bo;go_wp2;go_roundg (S.length - (i+1))
    case measure=>omega
    case rel=>exact⟨i+1,by go_num,by omega,aF,HI5⟩
  ·have hd:decide ((i:Int)<(S.length:Int))=false:=by simp;omega
   obtain rfl:i=S.length:=by omega
   have HTE:Hid (W++O=ig (fc aa) S):=by
    unfold Hid ig;rw[vz.out.we,vz.out.oe,List.take_length]
   have Xi:Hid (∀w5 a5 c5,w5.ownsRow w2.heap.size 3 1 (.slice a5 (W++O).length c5) (W++O).length (aJ (W++O))->Below w2.heap.size w2 w5->oI w (ig (fc aa) S) (.returned (.slice a5 (W++O).length c5)) w5):=λw5 a5 c5 ho hb=>by
    rw[<-HTE.out];exact⟨a5,c5,rfl,ba ho oG.out.2.size,oG.out.2.trans (hb.mono oG.out.2.size)⟩
   by_cases h4:a4=none
   ·subst h4
    have hn:O=[]/\c4=0:=by
     rcases vz.out.o4.2 with⟨h,h2⟩ | ⟨_,_,_,h,_⟩
     ·injection h with _ h3 h4;exact⟨List.eq_nil_of_length_eq_zero h2,h4⟩
     ·injection h with h;cases h
    obtain⟨rfl,rfl⟩:=hn
    have HE:Hid (oI w (ig (fc aa) S) (.returned (.slice a3 W.length c3)) wr):=by
     have:=Xi.out wr a3 c3 (by rw[List.append_nil];exact vz.out.o3) vz.out.below;rw[List.append_nil] at this;exact this
    simp only[List.length_nil];go_wp2_with (first | (at_builtin;refine wpList_append_own_none rfl (.tmp 34) (.tmp 35) 28 rfl w2.heap.size 3 i0 1 underlying28 GV _ _ _ rfl vz.out.o3 rfl ?_));go_wp2;go_ret;rw[Xr.out];exact HE.out
   ·obtain⟨g4,hg4⟩:∃g4,a4=some ⟨g4,0,none⟩:=by
     rcases vz.out.o4.2 with⟨h,_⟩ | ⟨g,_,_,h,_⟩
     ·injection h with h;exact absurd h h4
     ·injection h with h;exact⟨g,h⟩
    subst hg4;clear h4;have XY:Hid (∀j u,(aJ O)[j]?=some u->wr.cell? ((⟨g4,0,none⟩:Addr).add j)=some u):=vz.out.o4.cells rfl;go_wp2_with (first | (at_builtin;refine wpList_append_own _ rfl (.tmp 34) (.tmp 35) 28 rfl w2.heap.size 3 i0 (.int .i64 0) 1 8 underlying28 GV gP gQ gR rfl (by decide) _ _ _ rfl vz.out.o3 ⟨g4,0,none⟩ O.length c4 (aJ O) rfl ?c0 XY.out ?c2 ?c3 ?c4 ?c5 ?_))
    case c0=>simp[aJ]
    case c2=>exact PZ O
    case c3=>unfold maxLen;omega
    case c4=>omega
    case c5=>exact i8
    intro v5 w5 cf jn _;have bS:w5.ownsRow w2.heap.size 3 1 v5 (W++O).length (aJ (W++O)):=by rw[List.length_append,show aJ (W++O)=aJ W++aJ O from List.map_append];rw[bT];exact cf
    obtain⟨a5,c5,G3⟩:=aK bS;subst G3;have HE:=Xi.out w5 a5 c5 bS (vz.out.below.grown jn i8 (λk hk=>(vz.out.o3.lt k hk).1));clear cf jn bS vz Xi XY;generalize (W++O).length=nn at HE ⊢;go_wp2;go_ret;rw[Xr.out];exact HE
end
end
section
variable {A B N S l:List Int}{P:Int->Bool}{T:aU}{kl:List (Int × List Int)}{ae:Nat}{x:Int}
theorem GB (kl:List (Int × List Int))(y:Int × List Int)(n:Int):(bA (kl++[y]) n).isSome=((bA kl n).isSome||decide (y.1=n)):=by
 unfold bA;rw[Option.isSome_map,Option.isSome_map,List.find?_append];cases h:kl.find? λx=>decide (x.1=n) with
 | some x=>simp
 | none=>by_cases e:y.1=n<;>simp[e]
theorem xl (T:aU)(M:Nat->Mk)(rs:List dx)(kl:List (Int × List Int))(k x:Int):(bA (js T M rs kl k) x).isSome=true↔(bA kl x).isSome=true∨x=k:=by
 unfold js;split
 ·rename_i h;exact⟨ax,λh2=>h2.elim id (λe=>e▸h)⟩
 ·rw[GB,Bool.or_eq_true,bO];exact⟨λh=>h.imp id Eq.symm,λh=>h.imp id Eq.symm⟩
theorem wT (T:aU)(M:Nat->Mk)(rs:List dx)(kl:List (Int × List Int))(x:Int):∀xs,(bA (lE T M rs kl xs) x).isSome=true↔(bA kl x).isSome=true∨x∈xs
 | []=>by simp[lE]
 | y :: xs=>by
  have ih:=wT T M rs kl x xs;show(bA (js T M rs (lE T M rs kl xs) y) x).isSome=true↔_;rw[xl,ih,List.mem_cons,or_assoc,or_comm (a:=x∈xs)]
theorem yC (T:aU)(M:Nat->Mk)(rs:List dx)(kl:List (Int × List Int))(k x:Int):(bA (mR T M rs kl k) x).isSome=true↔(bA kl x).isSome=true∨x∈bh T T.length k∨x=k:=by
 unfold mR;rw[xl,wT,or_assoc]
noncomputable def fm (T:aU)(sn:Nat->Bool)(n:Int):Bool:=T.any λe=>sn e.1&&cu T n e.1
abbrev L4 (M:Nat->Mk):Nat->Bool:=λk=>(M k).cl 26
theorem T8 {aa:List PEl}{M:Nat->Mk}(h:PT aa T)(hw:TW T ae)(hM:M7 aa M){n:Int}(hn:0<=n):fc aa n=fm T (L4 M) n:=by
 rw[Bool.eq_iff_iff,FA];unfold fm;rw[List.any_eq_true];constructor
 ·rintro⟨e,he,h1,h2⟩;obtain⟨l,hl⟩:=h.to' e he;refine⟨_,hl,?_⟩;rw[Bool.and_eq_true];exact⟨((hM e he).2.2.2).symm.trans h1,bC.2 ((nK h hw he hn).1 (iK.1 h2))⟩
 ·rintro⟨q,hq,h1⟩;rw[Bool.and_eq_true] at h1;obtain⟨e,he,h2⟩:=h.of' q.1 q.2 hq;rw[<-h2] at h1;exact⟨e,he,(hM e he).2.2.2.trans h1.1,iK.2 ((nK h hw he hn).2 (bC.1 h1.2))⟩
theorem JI {sn:Nat->Bool}:∀(n:Nat) (y:Int),(∀z∈bh T n y,0<=z)->fm T sn y=true->∀z∈bh T n y,fm T sn z=true
 | 0,_,_,_,z,hz=>by cases hz
 | n+1,y,h0,hy,z,hz=>by
  unfold bh at hz h0;split at hz
  ·cases hz
  ·rename_i hp;rw[aA hp] at h0
   have zi:fm T sn (bi T y)=true:=by
    unfold fm at hy ⊢;rw[List.any_eq_true] at hy ⊢;obtain⟨q,hq,h1⟩:=hy;rw[Bool.and_eq_true] at h1;obtain⟨_,k,hk⟩:=bC.1 h1.2;refine⟨q,hq,?_⟩;rw[Bool.and_eq_true];exact⟨h1.1,bC.2 ⟨h0 _ List.mem_cons_self,k+1,by rw[qm T _ k 1,hk];rfl⟩⟩
   rcases List.mem_cons.1 hz with e | hz
   ·rw[e];exact zi
   ·exact JI n _ (λz hz=>h0 z (List.mem_cons_of_mem _ hz)) zi z hz
theorem us (hw:TW T ae)(hN:∀A x B,N=A++x :: B->x=0∨bi T x∈A):∀(n:Nat) (A:List Int) (x:Int) (B:List Int),N=A++x :: B->∀y∈bh T n x,y∈A
 | 0,_,_,_,_,y,hy=>by cases hy
 | n+1,A,x,B,he,y,hy=>by
  unfold bh at hy;split at hy
  ·cases hy
  ·rename_i hp;rcases hN A x B he with e | hm
   ·exact absurd (by rw[e];exact hw.root_par) hp
   ·rcases List.mem_cons.1 hy with e | hy
    ·rw[e];exact hm
    ·obtain⟨A1,A2,hA⟩:=List.append_of_mem hm;rw[hA];exact List.mem_append_left _ (us hw hN n A1 _ (A2++x :: B) (by rw[he,hA];simp) y hy)
theorem k9 {f:Int->Bool}(h:N.filter f=A++x :: B):∃A' B',N=A'++x :: B'/\A'.filter f=A:=by
 obtain⟨l3,l4,rfl,h1,h2⟩:=List.filter_eq_append_iff.1 h;obtain⟨l1,l2,rfl,h3,_,_⟩:=List.filter_eq_cons_iff.1 h2;refine⟨l3++l1,l2,by simp,?_⟩;rw[List.filter_append,h1,List.filter_eq_nil_iff.2 h3,List.append_nil]
theorem TY (hw:TW T ae)(hN:∀A x B,N=A++x :: B->x=0∨bi T x∈A)(hP:∀x∈N,P x=true->∀y∈bh T T.length x,P y=true)(h:ig P (cG kl N)=A++x :: B)(y:Int)(hy:y∈bh T T.length x):(bA kl y).isSome=true∨y∈A:=by
 have nY:∀A2 B2,cG kl N=A2++x :: B2->(bA kl y).isSome=true∨y∈A2:=λA2 B2 e=>by
  obtain⟨A',B',h1,h2⟩:=k9 e;have h3:=us hw hN _ A' x B' h1 y hy;cases hf:(bA kl y) with
  | some s=>exact ax rfl
  | none=>exact az (by rw[<-h2];exact dJ.2 ⟨h3,by rw[hf];rfl⟩)
 have hxN:∀{f:Int->Bool} {C D},(cG kl N).filter f=C++x :: D->x∈N/\f x=true:=λe=>by
  have:=dJ.1 (e▸List.mem_append_right _ List.mem_cons_self);exact⟨(dJ.1 this.1).1,this.2⟩
 unfold ig at h;rcases List.append_eq_append_iff.1 h with⟨C,h1,h2⟩ | ⟨C,h1,h2⟩
 ·
  obtain⟨A2,B2,h3,h4⟩:=k9 h2;rcases nY A2 B2 h3 with e | e
  ·exact ax e
  ·refine az ?_;rw[h1];cases hp:P y with
   | true=>exact List.mem_append_left _ (dJ.2 ⟨by rw[h3];exact List.mem_append_left _ e,hp⟩)
   | false=>exact List.mem_append_right _ (by rw[<-h4];exact dJ.2 ⟨e,by rw[hp];rfl⟩)
 ·cases C with
  | nil=>
   rw[List.nil_append] at h2;obtain⟨A2,B2,h3,h4⟩:=k9 (A:=[]) (h2.symm.trans (List.nil_append _).symm);rcases nY A2 B2 h3 with e | e
   ·exact ax e
   ·refine az ?_;rw[<-show(cG kl N).filter P=A from by rw[h1,List.append_nil]];cases hp:P y with
    | true=>exact dJ.2 ⟨by rw[h3];exact List.mem_append_left _ e,hp⟩
    | false=>
     have:y∈A2.filter λx=>!P x:=dJ.2 ⟨e,by rw[hp];rfl⟩;rw[h4] at this;cases this
  | cons c C=>
   injection h2 with e1 e2
   subst e1;obtain⟨A2,B2,h3,h4⟩:=k9 h1;rcases nY A2 B2 h3 with e | e
   ·exact ax e
   ·refine az ?_;obtain⟨g1,g2⟩:=hxN h1;rw[<-h4];exact dJ.2 ⟨e,hP x g1 g2 y hy⟩
def YJ (T:aU)(M:Nat->Mk)(kl dw:List (Int × List Int))(n:Nat):Prop:=
 ∃l:List Int,l.Nodup/\(∀x,x∈l↔(bA kl x).isNone=true/\∃k lk,x=((k:Nat):Int)/\(k,lk)∈T)/\n<=l.length/\(∀x,(bA dw x).isSome=true↔(bA kl x).isSome=true∨x∈l.take n)/\∀x∈l.take n,∀y∈l.drop n,fm T (L4 M) y=true->fm T (L4 M) x=true
theorem Fs (x:Int):x∈ig P S↔x∈S:=by
 unfold ig;rw[List.mem_append,dJ,dJ];cases h:P x<;>simp
theorem Ia (h:S.Nodup):(ig P S).Nodup:=by
 unfold ig;rw[List.nodup_append];refine⟨h.filter _,h.filter _,λa ha b hb e=>?_⟩;have h1:=(dJ.1 ha).2;have h2:=(dJ.1 hb).2;rw[<-e,h1] at h2;cases h2
theorem H9 {n:Nat}{y:Int}(hx:x∈(ig P S).take n)(hy:y∈(ig P S).drop n)(hp:P y=true):P x=true:=by
 unfold ig at hx hy
 by_cases h:n<=(S.filter P).length
 ·rw[List.take_append_of_le_length h] at hx;exact(dJ.1 (List.mem_of_mem_take hx)).2
 ·rw[List.drop_append,List.drop_of_length_le (by omega),List.nil_append] at hy;have:=(dJ.1 (List.mem_of_mem_drop hy)).2;rw[hp] at this;cases this
def Jw (T:aU)(kl:List (Int × List Int)):Nat:=(T.filter λe=>(bA kl e.1).isNone).length
theorem abj (T:aU)(kl:List (Int × List Int)):Jw T kl<=T.length:=List.length_filter_le _ _
theorem Au (hn:l.Nodup)(h:∀x∈l,∃k:Nat,x=(k:Int)):(l.map Int.toNat).Nodup:=by
 induction l with
 | nil=>simp
 | cons x l ih=>
  rw[List.nodup_cons] at hn;rw[List.map_cons,List.nodup_cons];refine⟨λhm=>hn.1 ?_,ih hn.2 (λy hy=>h y (List.mem_cons_of_mem _ hy))⟩;obtain⟨y,hy,e⟩:=bx.1 hm;obtain⟨k,hk⟩:=h x List.mem_cons_self;obtain⟨j,hj⟩:=h y (List.mem_cons_of_mem _ hy);have:y=x:=by omega
  exact this▸hy
theorem abi (hw:TW T ae)(hn:l.Nodup)(hm:∀x,x∈l↔(bA kl x).isNone=true/\∃k lk,x=((k:Nat):Int)/\(k,lk)∈T):l.length=Jw T kl:=by
 have h1:(l.map Int.toNat).Nodup:=Au hn (λx hx=>by obtain⟨_,k,_,e,_⟩:=(hm x).1 hx;exact⟨k,e⟩);have h2:((T.filter λe=>(bA kl e.1).isNone).map Prod.fst).Nodup:=hw.nums.sublist (List.filter_sublist.map _)
 have a:=dG h1 (m:=(T.filter λe=>(bA kl e.1).isNone).map Prod.fst) (λk hk=>by
  obtain⟨x,hx,rfl⟩:=bx.1 hk;obtain⟨h3,j,lj,e,hj⟩:=(hm x).1 hx;refine bx.2 ⟨(j,lj),dJ.2 ⟨hj,by rw[<-e];exact h3⟩,?_⟩;show j=_;omega)
 have c:=dG h2 (m:=l.map Int.toNat) (λk hk=>by
  obtain⟨e,he,rfl⟩:=bx.1 hk;obtain⟨h3,h4⟩:=dJ.1 he;exact bx.2 ⟨(e.1:Int),(hm _).2 ⟨h4,e.1,e.2,rfl,h3⟩,by omega⟩)
 rw[List.length_map,List.length_map] at a c;unfold Jw;omega
theorem TP {dw:List (Int × List Int)}(hw:TW T ae)(aaW:∀x,(bA kl x).isSome=true->(bA dw x).isSome=true)(hn:l.Nodup)(hl:∀x∈l,(bA kl x).isNone=true/\∃k lk,x=((k:Nat):Int)/\(k,lk)∈T)(hf:∀x∈l,(bA dw x).isSome=true):Jw T dw+l.length<=Jw T kl:=by
 have h1:(l.map Int.toNat).Nodup:=Au hn (λx hx=>by obtain⟨_,k,_,e,_⟩:=hl x hx;exact⟨k,e⟩);have h2:((T.filter λe=>(bA dw e.1).isNone).map Prod.fst).Nodup:=hw.nums.sublist (List.filter_sublist.map _)
 have h3:((T.filter λe=>(bA dw e.1).isNone).map Prod.fst++l.map Int.toNat).Nodup:=by
  rw[List.nodup_append];refine⟨h2,h1,λa ha c hc e=>?_⟩;obtain⟨q,hq,rfl⟩:=bx.1 ha;obtain⟨x,hx,rfl⟩:=bx.1 hc;obtain⟨_,k,_,ek,_⟩:=hl x hx;have Ar:=hf x hx;have:x=(q.1:Int):=by omega
  rw[this] at Ar;have h4:=(dJ.1 hq).2;cases hz:bA dw q.1 with
  | none=>rw[hz] at Ar;cases Ar
  | some s=>rw[hz] at h4;cases h4
 have:=dG h3 (m:=(T.filter λe=>(bA kl e.1).isNone).map Prod.fst) (λk hk=>by
  rcases List.mem_append.1 hk with hk | hk
  ·obtain⟨q,hq,rfl⟩:=bx.1 hk;obtain⟨h4,h5⟩:=dJ.1 hq;refine bx.2 ⟨q,dJ.2 ⟨h4,?_⟩,rfl⟩;cases hz:bA kl q.1 with
   | none=>rfl
   | some s=>
    have:=aaW q.1 (by rw[hz];rfl);cases nX:bA dw q.1 with
    | none=>rw[nX] at this;cases this
    | some s2=>rw[nX] at h5;cases h5
  ·obtain⟨x,hx,rfl⟩:=bx.1 hk;obtain⟨h4,j,lj,ej,hj⟩:=hl x hx;refine bx.2 ⟨(j,lj),dJ.2 ⟨hj,by rw[<-ej];exact h4⟩,?_⟩;show j=_;omega)
 rw[List.length_append,List.length_map,List.length_map,List.length_map] at this;unfold Jw;omega
structure SLI (w:World)(b:Nat)(vS:Value × Value)(v:Value)(els:List PEl)(T:aU)(made:Nat)(M:Nat->Mk)(rs:List dx)(kl:List (Int × List Int))(G:Nat->Prop)(w2:World)(al:Option Addr)(l:List Int)(i:Nat)(v2:Value)(dw:List (Int × List Int))(wr:World):Prop where
 dm:DM wr b (vS.1,v2) v els T made M rs dw G
 kok:KOK T M rs dw
 fr:Fr w wr (λj=>j=b∨vS.2.ownBlock=some j)
 own:∀j,v2.ownBlock=some j->vS.2.ownBlock=some j∨w2.heap.size<=j
 sta:∀x,(bA dw x).isSome=true↔(bA kl x).isSome=true∨x∈l.take i
 row:RowI wr al l
 far:w2.heap.size<=wr.heap.size
section
variable (w:World)(px:Value)(T:aU)(ae:Nat)(M:Nat->Mk)(rs:List dx)(kl:List (Int × List Int))(F:Nat->Prop)
def CY (dC:Int)(e:Ending)(w':World):Prop:=
 ∃(n:Nat) (dw:List (Int × List Int)),e=.returned (.int .i64 n)/\n=min dC.toNat (Jw T kl)/\Jw T dw+n<=Jw T kl/\YJ T M kl dw n/\DSk w' px T ae M rs dw (cV F w)/\Fr w w' F
theorem Oy (dC:Int)(h:DSk w px T ae M rs kl F):Calls prog 83 #[px,.int .i64 dC] w λe w'=>CY w px T ae M rs kl F dC e w':=by
 obtain⟨b,vS,v,aa,G,rfl,h2,h3,h4,h5,h6,h7⟩:=h;have HB:Hid (DM w b vS v aa T ae M rs kl G/\KOK T M rs kl/\F b/\(∀j,v.ownBlock=some j->F j)/\(∀j,vS.2.ownBlock=some j->F j)/\∀k,G k->F k):=⟨h2,h3,h4,h5,h6,h7⟩;have MV:=aw (IK h2.pb.pt h2.tw);have hTl:T.length<=24:=by have:=h2.pb.pt.len h2.tw;have:=h2.pb.few;omega
 have Rx:Hid (∀j,j=b∨vS.2.ownBlock=some j->j<w.heap.size):=λj hj=>h2.own_lt hj;clear h2 h3 h4 h5 h6 h7;go_enter func83,ntmps83;go_wp2_with fail;refine(LA w b vS v aa T ae M rs kl G HB.out.1).mono ?_;rintro e w2 ⟨al,cl,rfl,eo,dk⟩
 have HM:Hid (∀x,x∈ig (fc aa) (cG kl (kZ aa))↔(bA kl x).isNone=true/\∃k lk,x=((k:Nat):Int)/\(k,lk)∈T):=λx=>by
  rw[Fs x];unfold cG;rw[dJ];constructor
  ·rintro⟨h1,h2⟩;exact⟨h2,MV.out.2.1 x h1⟩
  ·rintro⟨h1,k,lk,rfl,hk⟩;exact⟨MV.out.2.2 k lk hk,h1⟩
 have S4:(ig (fc aa) (cG kl (kZ aa))).Nodup:=Ia (MV.out.1.filter _)
 have VM:Hid (∀x∈kZ aa,fc aa x=fm T (L4 M) x):=λx hx=>by
  obtain⟨k,_,rfl,_⟩:=MV.out.2.1 x hx;exact T8 HB.out.1.pb.pt HB.out.1.tw HB.out.1.mks.1 (by omega)
 have Bv:Hid (∀i (hi:i<(ig (fc aa) (cG kl (kZ aa))).length),∀y∈bh T T.length (ig (fc aa) (cG kl (kZ aa)))[i],(bA kl y).isSome=true∨y∈(ig (fc aa) (cG kl (kZ aa))).take i):=λi hi y hy=>by
  refine TY HB.out.1.tw (N:=kZ aa) (P:=fc aa) (λA x B e=>?_) (λx hx hp y hy=>?_) (B:=(ig (fc aa) (cG kl (kZ aa))).drop (i+1)) ?_ y hy
  ·have h1:=BR HB.out.1.pb.pt HB.out.1.tw aa.length A.length x (by rw[show i6 aa aa.length=A++x :: B from e];simp);rw[show i6 aa aa.length=A++x :: B from e,List.take_left] at h1;exact h1
  ·obtain⟨k,lk,rfl,hk⟩:=MV.out.2.1 x hx;have h0:=tA HB.out.1.tw hk;have h1:∀z∈bh T T.length (k:Int),0<=z:=λz hz=>by obtain⟨j,_,rfl,_⟩:=h0 z hz;omega
   rw[VM.out _ hx] at hp;obtain⟨j,lj,rfl,hj⟩:=h0 y hy;rw[VM.out _ (MV.out.2.2 j lj hj)];exact JI _ _ h1 hp _ hy
  ·rw[List.getElem_cons_drop,List.take_append_drop]
 have HFI:Hid (∀n,∀x∈(ig (fc aa) (cG kl (kZ aa))).take n,∀y∈(ig (fc aa) (cG kl (kZ aa))).drop n,fm T (L4 M) y=true->fm T (L4 M) x=true):=λn x hx y hy=>by
  have h1:∀z,z∈ig (fc aa) (cG kl (kZ aa))->z∈kZ aa:=λz hz=>(dJ.1 ((Fs z).1 hz)).1;rw[<-VM.out x (h1 x (List.mem_of_mem_take hx)),<-VM.out y (h1 y (List.mem_of_mem_drop hy))];exact H9 hx hy
 generalize ig (fc aa) (cG kl (kZ aa))=l at HM S4 Bv HFI eo ⊢;clear VM;have HLN:Hid l.Nodup:=S4;have Uk:=aw (abi HB.out.1.tw S4 HM.out);have GX:l.length<=24:=by have:=Uk.out;have:=abj T kl;omega
 have HGF:Hid (∀g,al=some ⟨g,0,none⟩->w.heap.size<=g/\g<w2.heap.size):=λg hg=>eo.lt g (by rw[hg];rfl);have JW:Hid (SLI w b vS v aa T ae M rs kl G w2 al l 0 vS.2 kl w2):=⟨HB.out.1.below dk,HB.out.2.1,(Fr.refl w _).below dk,λj hj=>ax hj,λx=>by simp,RowI.own eo,aF⟩;have nX:=dk.size;clear S4 eo dk MV
 have fC:Hid (∀i v2 dw wr,SLI w b vS v aa T ae M rs kl G w2 al l i v2 dw wr->i<=l.length->i=min dC.toNat l.length->CY w (.pointer (some ⟨b,0,none⟩)) T ae M rs kl F dC (.returned (.int .i64 i)) wr):=λi v2 dw wr hS hi hm=>by
  refine⟨i,dw,rfl,by rw[<-Uk.out];exact hm,?_,⟨l,HLN.out,HM.out,hi,hS.sta,HFI.out i⟩,⟨b,(vS.1,v2),v,aa,G,rfl,hS.dm,hS.kok,ax HB.out.2.2.1,λj hj=>ax (HB.out.2.2.2.1 j hj),λj hj=>?_,λk hk=>ax (HB.out.2.2.2.2.2 k hk)⟩,hS.fr.mono (λj hj=>by
   rcases hj with e | e
   ·exact e▸HB.out.2.2.1
   ·exact HB.out.2.2.2.2.1 j e)⟩
  ·have h1:(l.take i).Nodup:=HLN.out.sublist (List.take_sublist _ _);have h2:=TP HB.out.1.tw (λx hx=>(hS.sta x).2 (ax hx)) h1 (λx hx=>(HM.out x).1 (List.mem_of_mem_take hx)) (λx hx=>(hS.sta x).2 (az hx));rw[List.length_take] at h2;omega
  ·rcases hS.own j hj with e | e
   ·exact ax (HB.out.2.2.2.2.1 j e)
   ·exact az (Nat.le_trans nX e)
 go_wp2_with fail
 go_loopg [5,11] l.length (λgk mv iv wr=>∃i:Nat,mv=.int .i64 i/\iv=.int .i64 i/\i<=l.length/\l.length - i<=gk/\i<=dC.toNat/\Hid (∃v2 dw,SLI w b vS v aa T ae M rs kl G w2 al l i v2 dw wr))
 case atStart=>exact⟨0,rfl,rfl,bm,by omega,bm,vS.2,kl,JW.out⟩
 case round=>
  obtain⟨i,rfl,rfl,hi,fT,hib,HI⟩:=hrel;obtain⟨v2,dw,hS⟩:=HI.out;have HS:=aw hS;clear HI hS
  by_cases bc:i<l.length
  ·have hd:decide ((i:Int)<(l.length:Int))=true:=by simp;omega
   obtain⟨g,hg,di,hq⟩:=HS.out.row i bc;obtain⟨D2,iD⟩:=HGF.out g hg;subst hg;rw[bW bc] at hq;replace hq:wr.cell? ⟨g,i,none⟩=some (.int .i64 l[i]):=hq;obtain⟨MN,k,lk,Ee,hkT⟩:=(HM.out l[i]).1 (bN bc)
   by_cases SR:dC<=(i:Int)
   ·have gb:decide (dC<=(i:Int))=true:=by simpa using SR
    have HE:=fC.out i v2 dw wr HS.out hi (by omega);generalize l[i]=x at hq MN Ee;clear MN Ee hkT HS fC SR;go_wp2;go_ret;exact HE
   ·have gb:decide (dC<=(i:Int))=false:=by simpa using SR
    have F9:=aw hkT
    have iQ:Hid (∀w3 v3,DM w3 b (vS.1,v3) v aa T ae M rs (mR T M rs dw k) G->Fr wr w3 (λj=>j=b∨v2.ownBlock=some j)->(∀j,v3.ownBlock=some j->v2.ownBlock=some j∨wr.heap.size<=j)->∃v2 dw,SLI w b vS v aa T ae M rs kl G w2 (some ⟨g,0,none⟩) l (i+1) v2 dw w3):=λw3 v3 uA O0 SX=>by
     have KP:=HS.out.far;refine⟨v3,mR T M rs dw k,uA,Be HS.out.kok HB.out.1.tw F9.out,HS.out.fr.comp O0 (λj hj=>?_),λj hj=>?_,λx=>?_,λj hj=>?_,Nat.le_trans KP O0.size⟩
     ·rcases hj with e | e
      ·exact ax (ax e)
      ·rcases HS.out.own j e with e | e
       ·exact ax (az e)
       ·exact az (Nat.le_trans nX e)
     ·rcases SX j hj with e | e
      ·exact HS.out.own j e
      ·exact az (Nat.le_trans KP e)
     ·rw[yC,HS.out.sta x,QQ bc x,<-Ee];constructor
      ·rintro((h1 | h1) | h1 | h1)
       ·exact ax h1
       ·exact az (ax h1)
       ·exact(Bv.out i bc x h1).imp id ax
       ·exact az (az h1)
      ·rintro(h1 | h1 | h1)
       ·exact ax (ax h1)
       ·exact ax (az h1)
       ·exact az (az h1)
     ·obtain⟨g',h1,h2,h3⟩:=HS.out.row j hj;have FP:g=g':=by injection h1 with h1;injection h1 with h1 _ _
      subst FP
      have fG:¬(g=b∨v2.ownBlock=some g):=by
       rintro(e | e)
       ·have:=Rx.out g (ax e);omega
       ·rcases HS.out.own g e with e | e
        ·have:=Rx.out g (az e);omega
        ·omega
      have ze:=O0.block g (by omega) fG;refine⟨g,rfl,Nat.lt_of_lt_of_le h2 O0.size,?_⟩;have h4:=h3;unfold World.cell? at h4 ⊢;rw[ze];exact h4
    have hbi:i+1<=dC.toNat:=by omega
    rw[Ee] at hq;clear MN Ee hkT SR;go_wp2_with fail;refine(sN wr b (vS.1,v2) v aa T ae M rs dw G k lk HS.out.dm HS.out.kok F9.out).mono ?_;rintro e w3 ⟨rfl,v3,uA,O0,SX⟩;have HI3:=aw (iQ.out w3 v3 uA O0 SX);clear uA O0 SX iQ HS hq;generalize (aJ (dU (bp T M) rs k)).toArray=Z;go_wp2;go_roundg (l.length - (i+1))
    case measure=>omega
    case rel=>exact⟨i+1,by go_num,by go_num,by omega,aF,hbi,HI3⟩
  ·have hd:decide ((i:Int)<(l.length:Int))=false:=by simp;omega
   have HE:=fC.out i v2 dw wr HS.out hi (by omega);clear fC HS;go_wp2;go_ret;exact HE
end
end
section
variable {H:Nat->Prop}{K:gK}{T:aU}{X X':YS}{c n:Int}{k:Nat}{l m st cN:List Nat}
theorem j9 {n:Nat}:k∈dN l n↔k∈l∨k=n:=by
 unfold dN;split
 ·rename_i h;exact⟨ax,λh2=>h2.elim id (λe=>e▸iB.1 h)⟩
 ·rw[List.mem_append,ft]
theorem lK {f:Int}:k∈kR T f m↔k∈m∨((∃l,(k,l)∈T)/\dR T f k=true):=by
 unfold kR
 have nY:∀(U:aU) (m:List Nat),k∈U.foldl (λm e=>if dR T f e.1=true then dN m e.1 else m) m↔k∈m∨((∃l,(k,l)∈U)/\dR T f k=true):=λU=>by
  induction U with
  | nil=>intro m;simp
  | cons x U ih=>
   intro m;rw[List.foldl_cons,ih];constructor
   ·rintro(h | ⟨⟨l,h⟩,h2⟩)
    ·split at h
     ·rename_i hx;rcases j9.1 h with h | h
      ·exact ax h
      ·exact az ⟨⟨x.2,by rw[h];exact List.mem_cons_self⟩,by rw[h];exact hx⟩
     ·exact ax h
    ·exact az ⟨⟨l,List.mem_cons_of_mem _ h⟩,h2⟩
   ·rintro(h | ⟨⟨l,h⟩,h2⟩)
    ·refine ax ?_;split
     ·exact j9.2 (ax h)
     ·exact h
    ·rcases List.mem_cons.1 h with h | h
     ·subst h;refine ax ?_;rw[aE h2];exact j9.2 (az rfl)
     ·exact az ⟨⟨l,h⟩,h2⟩
 exact nY T m
theorem Is {c:List Nat}(h:(k,c)∈T):(bF T k).isSome=true:=by
 unfold bF;rw[Option.isSome_map,List.find?_isSome];exact⟨_,h,by simp⟩
theorem AH:k∈jS T l↔k∈l/\(bF T k).isSome=true:=dJ
section
variable {T:aU}{ae a:Nat}{la:List Nat}
theorem Jr (hw:TW T ae)(ha:(a,la)∈T)(h0:a≠0)(hk:(k,l)∈kj T a):bi (kj T a) k=bi T k/\(bi T k<0∨∃p lp,bi T k=((p:Nat):Int)/\(p,lp)∈kj T a):=by
 have vE:=hw.rem ha h0;obtain⟨q,hq,S6,kK⟩:=hw.up ha h0;obtain⟨x,hx,KU,h1,h2⟩:=(er kK).1 hk;have tc:k=x.1:=h1
 by_cases D3:k=0
 ·subst D3;have e1:bi T ((0:Nat):Int)=-1:=hw.root_par;have e2:bi (kj T a) ((0:Nat):Int)=-1:=vE.root_par;exact⟨e2.trans e1.symm,ax (by rw[e1];decide)⟩
 ·have Ee:(k,x.2)∈T:=by rw[tc];exact hx
  obtain⟨p,hp,hmp,zi⟩:=hw.up Ee D3;have hnp:¬dM T a p.1:=λhu=>KU (by rw[<-tc];exact(hw.under_kid hp hmp a).2 (az hu));have hka:k≠a:=λe=>KU (by rw[<-tc,e];exact iJ T a);have uF:(p.1,if p.1=q.1 then aG a p.2 else p.2)∈kj T a:=(er kK).2 ⟨p,hp,hnp,rfl,rfl⟩
  have qv:k∈(if p.1=q.1 then aG a p.2 else p.2):=by
   split
   ·exact lJ.2 ⟨hmp,hka⟩
   ·exact hmp
  exact⟨(vE.parent uF qv).trans zi.symm,az ⟨p.1,_,zi,uF⟩⟩
theorem Qz (hw:TW T ae)(ha:(a,la)∈T)(h0:a≠0)(hc:0<=c):∀(j:Nat) {k:Nat} {l:List Nat},(k,l)∈kj T a->io T j k=c->io (kj T a) j k=c
 | 0,_,_,_,h=>h
 | j+1,k,l,hk,h=>by
  obtain⟨e,h2⟩:=Jr hw ha h0 hk;show io (kj T a) j (bi (kj T a) k)=c;replace h:io T j (bi T k)=c:=h;rw[e];rcases h2 with h2 | ⟨p,lp,h2,hp⟩
  ·have:=mB T h2 j;omega
  ·rw[h2] at h ⊢;exact Qz hw ha h0 hc j hp h
theorem LP (hw:TW T ae)(ha:(a,la)∈T)(h0:a≠0){x:Nat}{lx:List Nat}(hx:(x,lx)∈kj T a)(h:dR T (bi T a) x=true):dR (kj T a) (bi T a) x=true:=by
 obtain⟨q,hq,S6,kK⟩:=hw.up ha h0
 have hnq:¬dM T a q.1:=λ⟨_,t,ht⟩=>by
  obtain⟨rk,hr⟩:=hw.rank;have h1:=hw.under_rank hr t q.1 ht;have h2:=hr q hq a S6;omega
 have Ap:(q.1,aG a q.2)∈kj T a:=(er kK).2 ⟨q,hq,hnq,rfl,by rw[aE rfl]⟩;rw[kK] at h ⊢;unfold dR at h ⊢;rw[(Jr hw ha h0 Ap).1];rw[Bool.or_eq_true] at h ⊢;refine h.imp id (λh=>?_);obtain⟨h1,j,hj⟩:=bC.1 h;exact bC.2 ⟨h1,j,Qz hw ha h0 h1 j hx hj⟩
end
theorem B8 (hl:l.Nodup)(hs:∀k∈l,k∈m):l.length<=m.length:=dG hl hs
theorem yk (hl:l.Nodup)(hm:m.Nodup)(h:∀k,k∈l↔k∈m):l.length=m.length:=Nat.le_antisymm (B8 hl (λk hk=>(h k).1 hk)) (B8 hm (λk hk=>(h k).2 hk))
def Spo (st cN:List Nat)(H:Nat->Prop):Prop:=(∀k∈st,k∈cN)/\∀k∈cN,k∈st∨H k
def YF:fu->YS->List Nat->YS->List Nat->Prop
 | .ins an y,X,st,X',cN=>Spo st cN (λk=>y=0/\(k=X.made∨dR X'.T an k=true))/\(y=0->X.made∈cN)
 | .rem n y,X,st,X',cN=>(∀k∈st,(bF X'.T k).isSome=true->k∈cN)/\∀k∈cN,k∈st∨(y=0/\dR X'.T (bi X.T n) k=true)
 | .mov n m y,X,st,X',cN=>Spo st cN (λk=>y=0/\(dR X'.T (bi X.T n) k=true∨dR X'.T m k=true))
 | .cls n s on,X,st,_,cN=>Spo st cN (λk=>cA X.T n s=0/\dR X.T n k=true/\dD X.rs 2 (bt s 0)=true/\(X.M n.toNat).cl (bt s 0 - 97)≠on)
 | .nam n s,X,st,_,cN=>Spo st cN (λk=>cJ X.T n s=0/\dR X.T n k=true/\(X.M n.toNat).nm≠(fW (X.M n.toNat) s).nm/\(dD X.rs 3 (X.M n.toNat).nm=true∨dD X.rs 3 (fW (X.M n.toNat) s).nm=true))
 | .sht s,_,st,_,cN=>(∀k∈st,k∈cN)/\((eH s).1≠0->∀k∈cN,k∈st)
 | .qry n s,X,st,_,cN=>∀k,k∈cN↔k∈st/\¬(bD X.T n s=0/\dM X.T k n)
def QSt (d:fu)(X:YS)(st:List Nat)(X':YS)(cN:List Nat):Prop:=LT X'.T cN/\YF d X st X' cN
structure ISt (X:YS)(st:List Nat)(K:gK):Prop where
 lt:LT X.T st
 must:∀k∈K.lm,k∈st
 may:∀k∈st,k∈K.ly
 cnt:0<=K.cnt->K.cnt=st.length
 lo:-1<=K.cnt
 hi:K.cnt<=24
 seen:K.ls.length<=24
 held:K.held=true->(∀k∈st,k∈K.ls)/\((∃k∈st,fm X.T X.shn k=true)->∀k∈K.ls,k ∉ st->fm X.T X.shn k=true)
theorem ISt.spoilt (h1:LT X.T st)(h2:∀k∈K.lm,k∈st)(h3:∀k∈st,k∈K.ly)(h4:K.cnt=-1)(h5:K.held=false)(h6:K.ls.length<=24):ISt X st K:=
 ⟨h1,h2,h3,λh=>by omega,by omega,by omega,h6,λh=>by rw[h5] at h;cases h⟩
theorem ISt.same (h:ISt X st K)(hl:LT X.T cN)(hs:∀k,k∈cN↔k∈st):ISt X cN K:=
 ⟨hl,λk hk=>(hs k).2 (h.must k hk),λk hk=>h.may k ((hs k).1 hk),λh0=>by rw[yk hl.1 h.lt.1 hs];exact h.cnt h0,h.lo,h.hi,h.seen,λhh=>by
  obtain⟨h1,h2⟩:=h.held hh;exact⟨λk hk=>h1 k ((hs k).1 hk),λ⟨k,hk,hw⟩ j hj hn=>h2 ⟨k,(hs k).1 hk,hw⟩ j hj (λhx=>hn ((hs j).2 hx))⟩⟩
theorem ISt.other (h:ISt X st K)(hT:X'.T=X.T)(hs:X'.shn=X.shn):ISt X' st K:=
 ⟨by rw[hT];exact h.lt,h.must,h.may,h.cnt,h.lo,h.hi,h.seen,λhh=>by rw[hT,hs];exact h.held hh⟩
theorem Spo.none (h:Spo st cN H)(hn:∀k,¬H k)(k:Nat):k∈cN↔k∈st:=⟨λhk=>(h.2 k hk).resolve_right (hn k),h.1 k⟩
theorem SpoK.inv {K':gK}{sp:Bool}(h:ISt X st K)(hT:X'.T=X.T)(WH:X'.shn=X.shn)(hl:LT X'.T cN)(hp:Spo st cN H)(hH:∀k,H k->sp=true/\dR X.T n k=true)(hK:SpoK X.T n K K' sp):ISt X' cN K':=by
 rcases hK with⟨h1,rfl⟩ | ⟨_,h2,h3,h4,h5,h6⟩
 ·refine(h.other hT WH).same hl (hp.none λk hk=>?_);rw[(hH k hk).1] at h1;cases h1
 ·refine ISt.spoilt hl (λk hk=>hp.1 k (h.must k (by rw[<-h2];exact hk))) (λk hk=>?_) h5 h6 (by rw[h4];exact h.seen);rw[h3,lK];rcases hp.2 k hk with h7 | h7
  ·exact ax (h.may k h7)
  ·obtain⟨l,FT⟩:=hl.2 k hk;rw[hT] at FT;exact az ⟨⟨l,FT⟩,(hH k h7).2⟩
def ug (T:aU)(e:Int)(st:List Nat):Nat->List Nat
 | 0=>st
 | j+1=>aG (io T j e) (ug T e st j)
theorem Fl (T:aU)(e:Int)(st:List Nat)(k:Nat):∀j,k∈ug T e st j↔k∈st/\∀i,i<j->io T i e≠(k:Int)
 | 0=>⟨λh=>⟨h,λi hi=>absurd hi (Nat.not_lt_zero _)⟩,λh=>h.1⟩
 | j+1=>by
  show k∈aG (io T j e) (ug T e st j)↔_;unfold aG;rw[dJ,Fl T e st k j,bO];constructor
  ·rintro⟨⟨h1,h2⟩,h3⟩;refine⟨h1,λi hi=>?_⟩
   by_cases e:i=j
   ·subst e;exact λe=>h3 e.symm
   ·exact h2 i (by omega)
  ·rintro⟨h1,h2⟩;exact⟨⟨h1,λi hi=>h2 i (by omega)⟩,λe=>h2 j (by omega) e.symm⟩
theorem Er (hn:l.Nodup)(hk:k∈l):(aG (k:Int) l).length+1=l.length:=by
 induction l with
 | nil=>cases hk
 | cons x l ih=>
  rw[List.nodup_cons] at hn;unfold aG;rw[List.filter_cons]
  by_cases e:x=k
  ·subst e
   have:(l.filter λy:Nat=>decide ((y:Int)≠(x:Int)))=l:=List.filter_eq_self.2 λy hy=>by
    rw[bO];exact λe=>hn.1 (by rw[show x=y from by omega];exact hy)
   rw[aA (by simp),this,List.length_cons]
  ·have h1:=ih hn.2 ((List.mem_cons.1 hk).resolve_left (λh=>e h.symm));unfold aG at h1;rw[aE (by rw[bO];omega),List.length_cons,h1,List.length_cons]
theorem Lh (h:∀k∈l,(k:Int)≠n):aG n l=l:=List.filter_eq_self.2 λk hk=>by rw[bO];exact h k hk
theorem DX:fQ l n=true↔∃k∈l,(k:Int)=n:=by
 unfold fQ;rw[List.any_eq_true];exact⟨λ⟨k,h1,h2⟩=>⟨k,h1,by simpa using h2⟩,λ⟨k,h1,h2⟩=>⟨k,h1,by simpa using h2⟩⟩
theorem Jn (T:aU)(e:Int){lm ly:List Nat}(hn:st.Nodup)(h1:∀k∈lm,k∈st)(h2:∀k∈st,k∈ly)(h3:0<=c->c=st.length):∀j,(ug T e st j).Nodup/\(∀k∈(ua T e (lm,ly,c) j).1,k∈ug T e st j)/\(∀k∈ug T e st j,k∈(ua T e (lm,ly,c) j).2.1)/\(0<=(ua T e (lm,ly,c) j).2.2->(ua T e (lm,ly,c) j).2.2=(ug T e st j).length)
 | 0=>⟨hn,h1,h2,h3⟩
 | j+1=>by
  obtain⟨g0,g1,g2,g3⟩:=Jn T e hn h1 h2 h3 j;show(aG (io T j e) (ug T e st j)).Nodup/\(∀k∈aG (io T j e) (ua T e (lm,ly,c) j).1,k∈aG (io T j e) (ug T e st j))/\(∀k∈aG (io T j e) (ug T e st j),k∈aG (io T j e) (ua T e (lm,ly,c) j).2.1)/\(0<=mY (fQ (ua T e (lm,ly,c) j).2.1 (io T j e)) (fQ (ua T e (lm,ly,c) j).1 (io T j e)) (ua T e (lm,ly,c) j).2.2->mY (fQ (ua T e (lm,ly,c) j).2.1 (io T j e)) (fQ (ua T e (lm,ly,c) j).1 (io T j e)) (ua T e (lm,ly,c) j).2.2=(aG (io T j e) (ug T e st j)).length);generalize ug T e st j=S at g0 g1 g2 g3 ⊢;generalize ua T e (lm,ly,c) j=q at g1 g2 g3 ⊢;obtain⟨m,y,d⟩:=q;generalize io T j e=x;replace g1:∀k∈m,k∈S:=g1;replace g2:∀k∈S,k∈y:=g2;replace g3:0<=d->d=S.length:=g3;refine⟨lg g0,λk hk=>?_,λk hk=>?_,?_⟩
  ·exact dJ.2 ⟨g1 k (dJ.1 hk).1,(dJ.1 hk).2⟩
  ·exact dJ.2 ⟨g2 k (dJ.1 hk).1,(dJ.1 hk).2⟩
  ·show 0<=mY (fQ y x) (fQ m x) d->mY (fQ y x) (fQ m x) d=_;unfold mY;cases hm:fQ m x with
   | true=>
    obtain⟨k,hk,rfl⟩:=DX.1 hm;have hS:=g1 k hk;have hl:=Er g0 hS;simp only[Bool.not_true,Bool.and_false,Bool.true_and,bO]
    by_cases hd:0<d
    ·have:=g3 (by omega);simp[hd];omega
    ·simp[hd];intro h;have:=g3 h;omega
   | false=>
    cases hy:fQ y x with
    | true=>simp
    | false=>
     have ol:aG x S=S:=Lh λk hk e=>by
      have:=DX.2 ⟨k,g2 k hk,e⟩;rw[hy] at this;cases this
     rw[ol];simp;exact g3
theorem uX {j:Nat}(hj:io T j n<0):dM T k n↔∃i,i<j/\io T i n=(k:Int):=by
 constructor
 ·rintro⟨_,i,hi⟩;refine⟨i,?_,hi⟩
  by_cases h:i<j
  ·exact h
  ·have h1:=mB T hj (i - j);rw[<-qm,show j+(i - j)=i from by omega,hi] at h1;omega
 ·rintro⟨i,_,hi⟩;exact⟨by omega,i,hi⟩
end
section
variable {w':World}
structure GW2 (PS:World->Value->YS->List Nat->(Nat->Prop)->Prop)(I:YS->List Nat->gK->Prop)(aB:Nat)(w:World)(B:Nat)(vD vI vM:Value)(nx:Nat)(ps:List j4)(es:List tg):Prop where
 wb:WB w B vD vI vM nx
 rowD:w.ownsRow 0 42 1 vD ps.length (ps.map λp=>.pointer (some ⟨p.b,0,none⟩))
 rowI:w.ownsRow 0 28 1 vI es.length (es.map tg.v)
 rowM:w.ownsRow 0 3 1 vM es.length (es.map λe=>.int .i64 e.m)
 full:∀e∈es,Full w e.v e.n (.int .i64 e.m)/\e.n<=1099511627776
 ent:∀e∈es,∀j,e.v.ownBlock=some j->j<w.heap.size/\j≠B/\vD.ownBlock≠some j/\vI.ownBlock≠some j/\vM.ownBlock≠some j
 pd:∀i (hi:i<ps.length),PD2 PS I w ps[i].b ps[i].made ps[i].G
 sep:∀i j (hi:i<ps.length) (hj:j<ps.length),i≠j->∀k,ps[i].G k->¬ps[j].G k
 out:∀i (hi:i<ps.length) k,tp B vD vI vM es k->¬ps[i].G k
 cnt:es.length=4*nx
 baseM:∀k,tp B vD vI vM es k->aB<=k
 baseG:∀i (hi:i<ps.length) k,ps[i].G k->aB<=k
 baseW:aB<=w.heap.size
section
variable {PS:World->Value->YS->List Nat->(Nat->Prop)->Prop}{Q:fu->YS->List Nat->YS->List Nat->Prop}{I:YS->List Nat->gK->Prop}{aB:Nat}{w:World}{B:Nat}{vD vI vM:Value}{nx:Nat}{ps:List j4}{es:List tg}
theorem GW2.ltM (h:GW2 PS I aB w B vD vI vM nx ps es):∀k,tp B vD vI vM es k->k<w.heap.size:=by
 rintro k (rfl | hk | hk | hk | ⟨e,he,hk⟩)
 ·exact(bG.1 h.wb.blk).1
 ·exact(h.rowD.lt k hk).2
 ·exact(h.rowI.lt k hk).2
 ·exact(h.rowM.lt k hk).2
 ·exact(h.ent e he k hk).1
theorem GW2.turn (hP:cP PS Q)(h:GW2 PS I aB w B vD vI vM nx ps es){i:Nat}(hi:i<ps.length)(il:w.heap.size<=w'.heap.size)(fF:∀k,k<w.heap.size->¬ps[i].G k->w'.heap[k]?=w.heap[k]?){made':Nat}{G':Nat->Prop}
  (tO:PD2 PS I w' ps[i].b made' G') (hG:∀k,G' k->ps[i].G k∨w.heap.size<=k):GW2 PS I aB w' B vD vI vM nx (ps.set i ⟨ps[i].b,made',G'⟩) es:=by
 have hm:∀k,tp B vD vI vM es k->w'.heap[k]?=w.heap[k]?:=λk hk=>fF k (h.ltM k hk) (h.out i hi k hk);have bT:(ps.set i ⟨ps[i].b,made',G'⟩).length=ps.length:=List.length_set;have xz:∀j (hj:j<ps.length),j≠i->∀k,ps[j].G k->w'.heap[k]?=w.heap[k]?:=λj hj hn k hk=>fF k ((h.pd j hj).lt k hk) (λx=>h.sep j i hj hi hn k hk x);have xw:∀j (hj:j<(ps.set i ⟨ps[i].b,made',G'⟩).length),(ps.set i ⟨ps[i].b,made',G'⟩)[j]=if i=j then⟨ps[i].b,made',G'⟩ else ps[j]'(by rw[bT] at hj;exact hj):=λj hj=>List.getElem_set hj
 have hGn:∀j (hj:j<ps.length),j≠i->∀k,G' k->¬ps[j].G k:=λj hj hn k hk hx=>by
  rcases hG k hk with hk | hk
  ·exact h.sep j i hj hi hn k hx hk
  ·have:=(h.pd j hj).lt k hx;omega
 refine⟨(hm B (ax rfl)).trans h.wb,?_,cZ h.rowI (λk hk _=>hm k (az (az (ax hk)))),cZ h.rowM (λk hk _=>hm k (az (az (az (ax hk))))),λe he=>⟨(h.full e he).1.blk (λg hg _=>hm g (az (az (az (az ⟨e,he,hg⟩))))),(h.full e he).2⟩,λe he j hj=>?_,λj hj=>?_,λj l hj hl hn k hk=>?_,λj hj k hk=>?_,h.cnt,h.baseM,λj hj k hk=>?_,Nat.le_trans h.baseW il⟩
 ·have aec:(ps.set i ⟨ps[i].b,made',G'⟩).map (λp=>Value.pointer (some ⟨p.b,0,none⟩))=ps.map λp=>Value.pointer (some ⟨p.b,0,none⟩):=by
   rw[List.map_set];have:(ps.map λp=>Value.pointer (some ⟨p.b,0,none⟩))[i]?=some (Value.pointer (some ⟨ps[i].b,0,none⟩)):=by rw[List.getElem?_map,bW hi];rfl
   apply List.ext_getElem?;intro j;rw[List.getElem?_set]
   by_cases e:i=j
   ·subst e;rw[aE rfl,this,aE (by simpa using hi)]
   ·rw[aA e]
  rw[bT,aec];exact cZ h.rowD (λk hk _=>hm k (az (ax hk)))
 ·obtain⟨h1,h2⟩:=h.ent e he j hj;exact⟨Nat.lt_of_lt_of_le h1 il,h2⟩
 ·rw[xw j hj];split
  ·exact tO
  ·rename_i hn;rw[bT] at hj;exact(h.pd j hj).keep hP il (xz j hj (λe=>hn e.symm))
 ·rw[xw j hj] at hk;rw[xw l hl];rw[bT] at hj hl;split at hk<;>split
  ·rename_i h1 h2;exact absurd (h1.symm.trans h2) hn
  ·rename_i h1 h2;exact hGn l hl (λe=>h2 e.symm) k hk
  ·rename_i h1 h2;exact λhx=>hGn j hj (λe=>h1 e.symm) k hx hk
  ·exact h.sep j l hj hl hn k hk
 ·rw[xw j hj];rw[bT] at hj;split
  ·intro hx;rcases hG k hx with hx | hx
   ·exact h.out i hi k hk hx
   ·have:=h.ltM k hk;omega
  ·exact h.out j hj k hk
 ·rw[xw j hj] at hk;rw[bT] at hj;split at hk
  ·rcases hG k hk with hk | hk
   ·exact h.baseG i hi k hk
   ·have:=h.baseW;omega
  ·exact h.baseG j hj k hk
theorem GW2.keep (hP:cP PS Q)(h:GW2 PS I aB w B vD vI vM nx ps es)(hB:Below w.heap.size w w'):GW2 PS I aB w' B vD vI vM nx ps es:=by
 have hm:∀k,tp B vD vI vM es k->w'.heap[k]?=w.heap[k]?:=λk hk=>hB.block k (h.ltM k hk);exact⟨(hm B (ax rfl)).trans h.wb,cZ h.rowD (λk hk _=>hm k (az (ax hk))),cZ h.rowI (λk hk _=>hm k (az (az (ax hk)))),cZ h.rowM (λk hk _=>hm k (az (az (az (ax hk))))),λe he=>⟨(h.full e he).1.blk (λg hg _=>hm g (az (az (az (az ⟨e,he,hg⟩))))),(h.full e he).2⟩,λe he j hj=>⟨Nat.lt_of_lt_of_le (h.ent e he j hj).1 hB.size,(h.ent e he j hj).2⟩,λi hi=>(h.pd i hi).keep hP hB.size (λk hk=>hB.block k ((h.pd i hi).lt k hk)),h.sep,h.out,h.cnt,h.baseM,h.baseG,Nat.le_trans h.baseW hB.size⟩
theorem GW2.own (hP:cP PS Q)(h:GW2 PS I aB w B vD vI vM nx ps es){v:Value}{n:Nat}{xs:List Value}(eo:w.ownsRow 0 3 1 v n xs)(hn:n<=24)(hv:∀j,v.ownBlock=some j->aB<=j/\¬tp B vD vI vM es j/\∀i (hi:i<ps.length),¬ps[i].G j){e:Ending}
  (hp:vA w B vD vI vM nx v n es.length es.length (es.map tg.v) (es.map λe=>.int .i64 e.m) e w'):∃sW sX qt,GW2 PS I aB w' B vD sW sX (nx+1) ps qt:=by
 obtain⟨_,sW,sX,v1,v2,v3,wb',rI',rM',f0,f1,f2,f3,fr,nb,nI,nM,nx3⟩:=hp
 let mk:Int:=-((nx:Int)+1)
 have Wf:=(bG.1 h.wb.blk).1;have hw:=fr.size;have same:∀k,k<w.heap.size->k≠B->v.ownBlock≠some k->vI.ownBlock≠some k->vM.ownBlock≠some k->w'.heap[k]?=w.heap[k]?:=λk hk h1 h2 h3 h4=>fr.block k hk (λx=>x.elim h1 (λx=>x.elim h2 (λx=>x.elim h3 h4)))
 have hDn:∀k,vD.ownBlock=some k->w'.heap[k]?=w.heap[k]?:=by
  intro k hk;refine same k (h.rowD.lt k hk).2 (λe=>aN h.rowD h.wb.blk (by decide) (e▸hk)) (λe=>(hv k e).2.1 (az (ax hk))) (λe=>?_) (λe=>?_)
  ·rcases h.rowI.2 with⟨h1,_⟩ | ⟨g,_,gu,h1,_,hg,_⟩
   ·rw[h1] at e;simp[Value.ownBlock] at e
   ·rw[h1] at e;simp[Value.ownBlock] at e;subst e;exact aN h.rowD hg (by decide) hk
  ·rcases h.rowM.2 with⟨h1,_⟩ | ⟨g,_,gu,h1,_,hg,_⟩
   ·rw[h1] at e;simp[Value.ownBlock] at e
   ·rw[h1] at e;simp[Value.ownBlock] at e;subst e;exact aN h.rowD hg (by decide) hk
 have hEn:∀x∈es,∀k,x.v.ownBlock=some k->w'.heap[k]?=w.heap[k]?:=λx hx k hk=>
  same k (h.ent x hx k hk).1 (h.ent x hx k hk).2.1 (λe=>(hv k e).2.1 (az (az (az (az ⟨x,hx,hk⟩))))) (h.ent x hx k hk).2.2.2.1 (h.ent x hx k hk).2.2.2.2
 have hGn:∀i (hi:i<ps.length) k,ps[i].G k->w'.heap[k]?=w.heap[k]?:=λi hi k hk=>
  same k ((h.pd i hi).lt k hk) (λe=>h.out i hi k (ax e) hk) (λe=>(hv k e).2.2 i hi hk) (λe=>h.out i hi k (az (az (ax e))) hk) (λe=>h.out i hi k (az (az (az (ax e)))) hk)
 let qt:List tg:=es++[⟨v,n,mk⟩,⟨v1,n+1,mk⟩,⟨v2,n+2,mk⟩,⟨v3,n+3,mk⟩]
 have jZ:∀x∈qt,x∈es∨x=⟨v,n,mk⟩∨x=⟨v1,n+1,mk⟩∨x=⟨v2,n+2,mk⟩∨x=⟨v3,n+3,mk⟩:=λx hx=>by
  rcases List.mem_append.1 hx with hx | hx
  ·exact ax hx
  ·simp only[List.mem_cons,List.not_mem_nil,or_false] at hx;exact az hx
 have S7:∀x∈qt,x∈es∨∀j,x.v.ownBlock=some j->(v.ownBlock=some j∨w.heap.size<=j)/\j<w'.heap.size/\sW.ownBlock≠some j/\sX.ownBlock≠some j:=λx hx=>by
  rcases jZ x hx with hx | rfl | rfl | rfl | rfl
  ·exact ax hx
  ·refine az λj hj=>⟨ax hj,Nat.lt_of_lt_of_le (eo.lt j hj).2 hw,λe=>?_,λe=>?_⟩
   ·rcases nI j e with e | e
    ·exact(hv j hj).2.1 (az (az (ax e)))
    ·have:=(eo.lt j hj).2;omega
   ·rcases nM j e with e | e
    ·exact(hv j hj).2.1 (az (az (az (ax e))))
    ·have:=(eo.lt j hj).2;omega
  ·exact az λj hj=>⟨nb v1 (ax rfl) j hj,f1.lt (by omega) j hj,nx3 v1 (ax rfl) j hj⟩
  ·exact az λj hj=>⟨nb v2 (az (ax rfl)) j hj,f2.lt (by omega) j hj,nx3 v2 (az (ax rfl)) j hj⟩
  ·exact az λj hj=>⟨nb v3 (az (az rfl)) j hj,f3.lt (by omega) j hj,nx3 v3 (az (az rfl)) j hj⟩
 have Ak:∀k,tp B vD sW sX qt k->tp B vD vI vM es k∨v.ownBlock=some k∨w.heap.size<=k:=by
  rintro k (hk | hk | hk | hk | ⟨x,hx,hk⟩)
  ·exact ax (ax hk)
  ·exact ax (az (ax hk))
  ·exact(nI k hk).elim (λx=>ax (az (az (ax x)))) (λx=>az (az x))
  ·exact(nM k hk).elim (λx=>ax (az (az (az (ax x))))) (λx=>az (az x))
  ·rcases S7 x hx with hx | hx
   ·exact ax (az (az (az (az ⟨x,hx,hk⟩))))
   ·exact az (hx k hk).1
 refine⟨sW,sX,qt,wb',cZ h.rowD (λk hk _=>hDn k hk),?_,?_,λx hx=>?_,λx hx j hj=>?_,λi hi=>(h.pd i hi).keep hP hw (hGn i hi),h.sep,λi hi k hk hx=>?_,?_,λk hk=>?_,h.baseG,Nat.le_trans h.baseW hw⟩
 ·have h1:qt.length=es.length+4:=by simp[qt]
  have h2:qt.map tg.v=es.map tg.v++[v,v1,v2,v3]:=by simp[qt]
  rw[h1,h2];exact rI'
 ·have h1:qt.length=es.length+4:=by simp[qt]
  have h2:(qt.map λe=>Value.int .i64 e.m)=(es.map λe=>Value.int .i64 e.m)++List.replicate 4 (.int .i64 mk):=by simp[qt,List.replicate]
  rw[h1,h2];exact rM'
 ·rcases jZ x hx with hx | rfl | rfl | rfl | rfl
  ·exact⟨(h.full x hx).1.blk (λg hg _=>hEn x hx g hg),(h.full x hx).2⟩
  ·exact⟨f0,by show n<=_;omega⟩
  ·exact⟨f1,by show n+1<=_;omega⟩
  ·exact⟨f2,by show n+2<=_;omega⟩
  ·exact⟨f3,by show n+3<=_;omega⟩
 ·rcases S7 x hx with hx | hx
  ·obtain⟨h1,h2,h3,h4,h5⟩:=h.ent x hx j hj;refine⟨Nat.lt_of_lt_of_le h1 hw,h2,h3,λe=>?_,λe=>?_⟩
   ·exact(nI j e).elim h4 (λx=>by omega)
   ·exact(nM j e).elim h5 (λx=>by omega)
  ·obtain⟨h1,h2,h3,h4⟩:=hx j hj;refine⟨h2,λe=>?_,λe=>?_,h3,h4⟩
   ·rcases h1 with h1 | h1
    ·exact(hv j h1).2.1 (ax e)
    ·omega
   ·rcases h1 with h1 | h1
    ·exact(hv j h1).2.1 (az (ax e))
    ·have:=(h.rowD.lt j e).2;omega
 ·rcases Ak k hk with hk | hk | hk
  ·exact h.out i hi k hk hx
  ·exact(hv k hk).2.2 i hi hx
  ·have:=(h.pd i hi).lt k hx;omega
 ·have:=h.cnt;show(es++_).length=_;simp;omega
 ·rcases Ak k hk with hk | hk | hk
  ·exact h.baseM k hk
  ·exact(hv k hk).1
  ·have:=h.baseW;omega
end
end
def KidPost2 (PS:World->Value->YS->List Nat->(Nat->Prop)->Prop)(I:YS->List Nat->gK->Prop)(aB:Nat)(w:World)(B:Nat)(vD:Value)(nx:Nat)(ps:List j4)(i:Nat)(p:j4)(e:Ending)(w':World):Prop:=
 e=.returned (.bool true)/\Below aB w w'/\∃sW sX FZ G' qt,FZ<=nx+1/\GW2 PS I aB w' B vD sW sX FZ (ps.set i ⟨p.b,p.made,G'⟩) qt
theorem pj {PS:World->Value->YS->List Nat->(Nat->Prop)->Prop}{Q:fu->YS->List Nat->YS->List Nat->Prop}{I:YS->List Nat->gK->Prop}(hP:cP PS Q)(aB:Nat)(w:World)(B:Nat)(vD vI vM:Value)(nx:Nat)(ps:List j4)(es:List tg)(h:GW2 PS I aB w B vD vI vM nx ps es)(i:Nat)(hi:i<ps.length)(qb:nx<=274877906944)(n:Int):
  Calls prog 15 #[.pointer (some ⟨B,0,none⟩),.pointer (some ⟨ps[i].b,0,none⟩),.int .i64 n] w λe w'=>KidPost2 PS I aB w B vD nx ps i ps[i] e w':=by
 have tO:=h.pd i hi;have lz:=aw h;have HP:=aw hP;have Pk:=List.set_getElem_self hi;have Bu:=aw Pk;clear h Pk;generalize ps[i]=p at tO Bu ⊢;obtain⟨X,st,pa,d,K,Fp,Fx,Fy,h1,h2,h3,h4,h5,h6⟩:=tO;have FW:=h1.pb;have b0:w.cell? ⟨p.b,0,none⟩=some (.pointer (some pa)):=au FW.blk rfl;obtain⟨aa,hp,vT,br,vL,Rr,Gs,hX,UD,_⟩:=h1.rs;have HX:=bZ hX UD;have HPB:=aw FW;have tm:=aw h1.ps;clear h1 h2 h3 h4 h5 h6 hP hX UD FW;go_enter func15,ntmps15;go_wp2_with fail;refine(HP.out.chi w (.pointer (some pa)) X st Fx n tm.out).mono ?_;rintro e w1 ⟨cH,hO⟩;have eu:=aw cH;have MY:=aw (lz.out.keep HP.out cH);have b1:w1.cell? ⟨p.b,1,none⟩=some (.pointer (some ⟨d,0,none⟩)):=au ((cH.block p.b (bG.1 HPB.out.blk).1).trans HPB.out.blk) rfl;have HR:Hid (RD w1 d aa X.made hp vT br vL):=HX.out.1.rd.keep (λk _ hl=>cH.block k hl);clear b0 cH;rcases hO with⟨hnone,rfl⟩ | ⟨l,a,c,hsome,rfl,bS⟩
 ·have HE:Hid (KidPost2 PS I aB w B vD nx ps i p (.returned (.bool true)) w1):=⟨rfl,eu.out.mono lz.out.baseW,vI,vM,nx,p.G,es,Nat.le_succ _,by rw[Bu.out];exact MY.out⟩
  have hfn:bR aa n=none:=by
   rw[HX.out.2] at hnone;cases bM:bR aa n with
   | none=>rfl
   | some x=>rw[cU bM] at hnone;cases hnone
  clear hnone;go_wp2_with fail;refine(eJ _ d aa X.made hp vT br vL n HR.out).mono ?_;rintro e w2 ⟨rfl,rfl⟩;rw[hfn];clear hfn;have he:fk none=.pointer none:=rfl;rw[he];clear he;go_wp2_with fail;refine(bQ _ 5).mono ?_;rintro e w5 ⟨rfl,rfl⟩;go_wp2;go_ret;exact HE.out
 ·obtain⟨x,GR,rfl⟩:∃x,bR aa n=some x/\x.kids=l:=by
   rw[HX.out.2] at hsome;cases bM:bR aa n with
   | none=>rw[cW bM] at hsome;cases hsome
   | some x=>
    rw[cU bM] at hsome;injection hsome with hsome
    exact⟨x,rfl,hsome⟩
  obtain⟨FY,_⟩:=cY GR;have S3:=HR.out.kfew x FY;have sb:=HR.out.kid x FY;have e4:=(eZ (HR.out.el x FY)).2;have Yi:=aw (ba bS bm)
  have VK:Hid (∀j,(Value.slice a x.kids.length c).ownBlock=some j->aB<=j/\¬tp B vD vI vM es j/\∀i' (Rs:i'<ps.length),¬ps[i'].G j):=λj hj=>by
   have XJ:=(bS.lt j hj).1;exact⟨Nat.le_trans lz.out.baseW XJ,λhm=>by have:=lz.out.ltM j hm;omega,λi' Rs hx=>by have:=(lz.out.pd i' Rs).lt j hx;omega⟩
  obtain⟨ak,ck,te⟩:=aK sb;have acO:Hid (w1.ownsRow 0 3 1 (.slice ak x.kids.length ck) x.kids.length (bq x.kids)):=by rw[<-te];exact sb
  rw[te] at e4;clear bS sb te hsome;go_wp2_with fail;refine(eJ _ d aa X.made hp vT br vL n HR.out).mono ?_;rintro e w2 ⟨rfl,rfl⟩;obtain⟨w1,rfl⟩:∃w1,w1=w2:=⟨_,rfl⟩;rw[GR];have he:fk (some x)=.pointer (some ⟨x.blk,0,none⟩):=rfl;rw[he];clear he GR FY b1;go_wp2_with fail;refine(QG _ a ak c ck x.kids Yi.out acO.out S3).mono ?_;rintro e w2 ⟨rfl,rB⟩;have MZ:=aw (MY.out.keep HP.out rB.below);have Yj:=aw (aY Yi.out rB.below);have eM:Hid (Below aB w w2):=(eu.out.mono lz.out.baseW).trans (rB.below.mono (by have:=eu.out.size;have:=lz.out.baseW;omega));clear rB e4;have KN:=MZ.out.cnt;go_wp2_with fail;refine(Jl w2 B vD vI vM nx a c x.kids.length (bq x.kids) es.length es.length (es.map tg.v) (es.map λe=>.int .i64 e.m) ⟨MZ.out.wb,Yj.out,MZ.out.rowI,MZ.out.rowM,Fr.refl _ _,λj hj hm=>(VK.out j hj).2.1 (az (az (az (ax hm))))⟩ S3 (by omega) (by omega) (by omega)).mono ?_;intro e w3 dn;obtain⟨sW,sX,qt,fB⟩:=MZ.out.own HP.out Yj.out S3 VK.out dn
  have iP:Hid (Below aB w w3):=by
   obtain⟨_,_,_,_,_,_,_,_,_,_,_,_,_,fr,_⟩:=dn;refine eM.out.trans (fr.toBelow (by have:=eM.out.size;have:=lz.out.baseW;omega) ?_);rintro k (hk | hk | hk | hk)
   ·exact lz.out.baseM k (ax hk)
   ·exact(VK.out k hk).1
   ·exact lz.out.baseM k (az (az (ax hk)))
   ·exact lz.out.baseM k (az (az (az (ax hk))))
  have HE:Hid (KidPost2 PS I aB w B vD nx ps i p (.returned (.bool true)) w3):=⟨rfl,iP.out,sW,sX,nx+1,p.G,qt,aF,by rw[Bu.out];exact fB⟩;obtain⟨rfl,_⟩:=dn;clear fB KN;go_wp2_with fail;refine(bQ _ 0).mono ?_;rintro e w5 ⟨rfl,rfl⟩;go_wp2;go_ret;exact HE.out
theorem WW (b:Nat){aq:ByteArray}(hl:aQ aq=true):RE [iU b 0 aq] (λ_=>eh aq) (λ_=>false):=by
 have h0:RE [] (λ_=>eh aq) (λ_=>false):=⟨⟨λy hy=>(by cases hy),λy hy=>(by cases hy),λy hy=>(by cases hy)⟩,λy hy=>(by cases hy),λy hy=>(by cases hy)⟩;have h1:=h0.new (ae:=0) (λy hy=>by cases hy) hl b
 have e1:bU (λ_=>eh aq) 0 (eh aq)=λ_=>eh aq:=by
  funext j;unfold bU;split<;>rfl
 have e2:mQ (λ_=>false) 0 false=λ_=>false:=by
  funext j;unfold mQ;split<;>rfl
 rw[e1,e2] at h1;exact h1
def Nc (w:World)(s aq:ByteArray)(e:Ending)(w':World):Prop:=
 Below w.heap.size w w'/\
 ((eC s aq≠0/\e=.returned (.tuple #[.pointer none,.int .i64 (eC s aq)]))∨
  (eC s aq=0/\∃d:Nat,e=.returned (.tuple #[.pointer (some ⟨d,0,none⟩),.int .i64 0])/\w.heap.size<=d/\RSd w' d [(0,[])] 1 (λ_=>eh aq) (λ_=>false) (eQ s) (λk=>w.heap.size<=k)))
theorem EK (w:World)(s aq:ByteArray)(hs:s.size<=maxLen):
  Calls prog 26 #[.string s,.string aq] w λe w'=>Nc w s aq e w':=by
 go_enter func26,ntmps26;go_wp2_with fail;refine(mw _ s hs).mono ?_;intro e w1 dn
 by_cases hc:(eH s).1=0
 ·obtain⟨pa,Rr,rfl,hb,oS,hrel,bJ⟩:=ye hs dn hc;have HC:Hid (eC s aq=if aQ aq=false then 4 else 0):=by unfold Hid eC;rw[aA (λh=>h hc)]
  have FJ:=kC oS hrel bJ;generalize (eH s).2=c2;clear hc dn oS hrel bJ;have hz:=hb.size;go_wp2_with fail;refine(om _ aq).mono ?_;rintro e w2 ⟨rfl,rfl⟩;obtain⟨w1,rfl⟩:∃w1,w1=w2:=⟨_,rfl⟩;cases lf:aQ aq with
  | false=>
   have HE:Hid (eC s aq=4):=by unfold Hid;rw[HC.out,aE lf]
   clear lf HC;go_wp2;go_ret2;exact⟨hb,ax ⟨by rw[HE.out];decide,by rw[HE.out];rfl⟩⟩
  | true=>
   have HE:Hid (eC s aq=0):=by unfold Hid;rw[HC.out,aA (by rw[lf];decide)]
   have Bs:Hid (RE [iU w1.heap.size 0 aq] (λ_=>eh aq) (λ_=>false)):=WW _ lf;clear lf HC;go_wp2;go_ret2;have h1:w.heap.size<=(w1.alloc (.cells (iU w1.heap.size 0 aq).cells 93)).heap.size:=by simp;omega
   refine⟨((hb.alloc hz _).alloc (by simp;omega) _).alloc (by simp;omega) _,az ⟨HE.out,w1.heap.size+1+1,rfl,by omega,?_⟩⟩;have hrd:=WS w1 aq pa
   have rC:∀k,jX (w1.heap.size+1+1) [iU w1.heap.size 0 aq] (.slice (some ⟨w1.heap.size+1,0,none⟩) 1 1) k->w1.heap.size<=k:=by
    rintro k (rfl | ⟨e,he,rfl⟩ | hk | ⟨e,he,hk⟩)
    ·omega
    ·rw[ft] at he;subst he;exact aF
    ·simp[Value.ownBlock] at hk;omega
    ·rw[ft] at he;subst he;simp[iU,Value.ownBlock] at hk
   refine⟨[iU w1.heap.size 0 aq],pa,.slice none 0 0,false,_,Rr,λk=>w.heap.size<=k/\k<w1.heap.size,⟨hrd,JE,Bs.out,FJ.out.1.keep (λk hk hl=>?_) (by simp;omega),FJ.out.2.1,FJ.out.2.2,λhh=>(by cases hh),λk hk=>by have:=hk.2;simp;omega,λk hk hx=>by have:=rC k hx;have:=hk.2;omega⟩,rfl,λk hk=>by have:=rC k hk;omega,λk hk=>hk.1,λhh=>by cases hh⟩;rw[Below.heap_alloc _ _ _ (by simp;omega),Below.heap_alloc _ _ _ (by simp;omega),Below.heap_alloc _ _ _ hl]
 ·obtain⟨pa,rfl,hb,_⟩:=dn;have gc:((eH s).1 != 0)=true:=by simp[hc]
  have HE:Hid (eC s aq=(eH s).1):=by unfold Hid eC;rw[aE hc]
  have HC:=aw hc;generalize lZ:(eH s).1=c1 at gc HC HE ⊢;generalize (eH s).2=c2;clear lZ hc;go_wp2;go_ret2;exact⟨hb,ax ⟨by rw[HE.out];exact HC.out,by rw[HE.out];rfl⟩⟩
section
variable {I:YS->List Nat->gK->Prop}{PS:World->Value->YS->List Nat->(Nat->Prop)->Prop}{Q:fu->YS->List Nat->YS->List Nat->Prop}
section
variable {PS:World->Value->YS->List Nat->(Nat->Prop)->Prop}{Q:fu->YS->List Nat->YS->List Nat->Prop}{I:YS->List Nat->gK->Prop}{aB:Nat}{w:World}{B:Nat}{vD vI vM:Value}{nx:Nat}{ps:List j4}{es:List tg}
theorem GW2.add (hP:cP PS Q)(h:GW2 PS I aB w B vD vI vM nx ps es){W w3:World}(hW:Below w.heap.size w W)(hg:W.grownBy w3 vD.ownBlock)(p:j4){yW:Value}
  (ho:w3.ownsRow 0 42 1 yW (ps.length+1) ((ps.map λp=>.pointer (some ⟨p.b,0,none⟩))++[.pointer (some ⟨p.b,0,none⟩)])) (hb:∀j,yW.ownBlock=some j->vD.ownBlock=some j∨W.heap.size<=j)
  (tO:PD2 PS I W p.b p.made p.G) (hG:∀k,p.G k->aB<=k/\¬tp B vD vI vM es k/\∀i (hi:i<ps.length),¬ps[i].G k):GW2 PS I aB (w3.setCell ⟨B,0,none⟩ yW) B yW vI vM nx (ps++[p]) es:=by
 have Wf:B<w.heap.size:=h.ltM B (ax rfl);have hWz:=hW.size;have hgz:=hg.size;have hz4:(w3.setCell ⟨B,0,none⟩ yW).heap.size=w3.heap.size:=by simp
 have fA:w3.heap[B]?=some (.cells #[vD,vI,vM,.int .i64 nx] 30 (0,0)):=((hg.block B (by omega) (λe=>aN h.rowD h.wb.blk (by decide) e.symm)).trans (hW.block B Wf)).trans h.wb.blk;have same:∀k,k<W.heap.size->k≠B->vD.ownBlock≠some k->(w3.setCell ⟨B,0,none⟩ yW).heap[k]?=W.heap[k]?:=λk hk h1 h2=>(Below.heap_setCell _ _ _ _ h1).trans (hg.block k hk (λe=>h2 e.symm));have Jv:∀k,k<w.heap.size->k≠B->vD.ownBlock≠some k->(w3.setCell ⟨B,0,none⟩ yW).heap[k]?=w.heap[k]?:=λk hk h1 h2=>(same k (by omega) h1 h2).trans (hW.block k hk)
 have abb:∀{t:TypeId} {v:Value} {n:Nat} {xs:List Value},t≠42->w.ownsRow 0 t 1 v n xs->∀k,v.ownBlock=some k->vD.ownBlock≠some k:=by
  intro t v n xs ht hr k hk hd;rcases hr.2 with⟨h1,_⟩ | ⟨g,_,gu,h1,_,vk,_⟩
  ·rw[h1] at hk;simp[Value.ownBlock] at hk
  ·rw[h1] at hk;simp[Value.ownBlock] at hk;subst hk;exact aN h.rowD vk ht hd
 have hGi:∀i (hi:i<ps.length) k,ps[i].G k->(w3.setCell ⟨B,0,none⟩ yW).heap[k]?=w.heap[k]?:=λi hi k hk=>Jv k ((h.pd i hi).lt k hk) (λe=>h.out i hi k (ax e) hk) (λe=>h.out i hi k (az (ax e)) hk)
 have Ak:∀k,tp B yW vI vM es k->tp B vD vI vM es k∨W.heap.size<=k:=by
  rintro k (hk | hk | hk | hk | hk)
  ·exact ax (ax hk)
  ·exact(hb k hk).imp (λx=>az (ax x)) id
  ·exact ax (az (az (ax hk)))
  ·exact ax (az (az (az (ax hk))))
  ·exact ax (az (az (az (az hk))))
 have bT:(ps++[p]).length=ps.length+1:=by simp
 have xw:∀j (hj:j<(ps++[p]).length),(∃vn:j<ps.length,(ps++[p])[j]=ps[j])∨(j=ps.length/\(ps++[p])[j]=p):=λj hj=>by
  by_cases e:j<ps.length
  ·exact ax ⟨e,List.getElem_append_left e⟩
  ·have e2:j=ps.length:=by omega
   subst e2;exact az ⟨rfl,by simp⟩
 refine⟨?_,?_,cZ h.rowI (λk hk hl=>Jv k hl (λe=>aN h.rowI h.wb.blk (by decide) (e▸hk)) (abb (by decide) h.rowI k hk)),cZ h.rowM (λk hk hl=>Jv k hl (λe=>aN h.rowM h.wb.blk (by decide) (e▸hk)) (abb (by decide) h.rowM k hk)),λe he=>⟨(h.full e he).1.blk (λg vk hl=>Jv g hl (h.ent e he g vk).2.1 (h.ent e he g vk).2.2.1),(h.full e he).2⟩,λe he j hj=>?_,λj hj=>?_,λj l hj hl hn k hk=>?_,λj hj k hk=>?_,h.cnt,λk hk=>?_,λj hj k hk=>?_,by have:=h.baseW;omega⟩
 ·show(World.setCell _ _ _).heap[B]?=_;rw[aP fA];rfl
 ·rw[bT,List.map_append];exact bw ho (aN ho fA (by decide)) _
 ·obtain⟨h1,h2,h3,h4⟩:=h.ent e he j hj;exact⟨by omega,h2,λx=>(hb j x).elim h3 (λy=>by omega),h4⟩
 ·rcases xw j hj with⟨vn,he⟩ | ⟨_,he⟩
  ·rw[he];exact(h.pd j vn).keep hP (by omega) (hGi j vn)
  ·rw[he];exact tO.keep hP (by omega) (λk hk=>same k (tO.lt k hk) (λe=>(hG k hk).2.1 (ax e)) (λe=>(hG k hk).2.1 (az (ax e))))
 ·rcases xw j hj with⟨vn,he⟩ | ⟨vn,he⟩<;>rcases xw l hl with⟨Wz,GP⟩ | ⟨Wz,GP⟩
  ·rw[he] at hk;rw[GP];exact h.sep j l vn Wz hn k hk
  ·rw[he] at hk;rw[GP];exact λhx=>(hG k hx).2.2 j vn hk
  ·rw[he] at hk;rw[GP];exact(hG k hk).2.2 l Wz
  ·omega
 ·intro hx;rcases xw j hj with⟨vn,he⟩ | ⟨vn,he⟩
  ·rw[he] at hx;rcases Ak k hk with hk | hk
   ·exact h.out j vn k hk hx
   ·have:=(h.pd j vn).lt k hx;omega
  ·rw[he] at hx;rcases Ak k hk with hk | hk
   ·exact(hG k hx).2.1 hk
   ·have:=tO.lt k hx;omega
 ·rcases Ak k hk with hk | hk
  ·exact h.baseM k hk
  ·have:=h.baseW;omega
 ·rcases xw j hj with⟨vn,he⟩ | ⟨vn,he⟩
  ·rw[he] at hk;exact h.baseG j vn k hk
  ·rw[he] at hk;exact(hG k hk).1
end
abbrev Xf (s aq:ByteArray):YS:=⟨[(0,[])],1,λ_=>eh aq,λ_=>false,eQ s⟩
theorem Tv (hP:cP PS Q)(hI0:∀X v1 v2 v3,X.T=[(0,[])]->I X [0] ⟨v1,v2,v3,1,false,[0],[0],[]⟩){w w1 w2:World}{pa:Addr}{d:Nat}{aq s:ByteArray}(h1:PS w1 (.pointer (some pa)) (Xf s aq) [0] (λk=>w.heap.size<=k))(hz:w.heap.size<=w1.heap.size)(h2:RY w2 d (Xf s aq) (λk=>w1.heap.size<=k))(hB:Below w1.heap.size w1 w2):
  PD2 PS I (((w2.alloc (.cells #[.int .i64 0] 3)).alloc (.cells #[.int .i64 0] 3)).alloc (sG pa d w2.heap.size (w2.heap.size+1))) (w2.heap.size+2) 1 (λk=>w.heap.size<=k/\k<w2.heap.size+3):=by
 have nX:=hB.size;have hx:=hP.keep (w':=w2) (hP.here h1) (λk hk hl=>hB.block k hl) nX;have G4:(((w2.alloc (.cells #[.int .i64 0] 3)).alloc (.cells #[.int .i64 0] 3)).alloc (sG pa d w2.heap.size (w2.heap.size+1))).heap.size=w2.heap.size+3:=by simp
 have gB:∀k,k<w2.heap.size->(((w2.alloc (.cells #[.int .i64 0] 3)).alloc (.cells #[.int .i64 0] 3)).alloc (sG pa d w2.heap.size (w2.heap.size+1))).heap[k]?=w2.heap[k]?:=λk hk=>by
  rw[Below.heap_alloc _ _ _ (by simp;omega),Below.heap_alloc _ _ _ (by simp;omega),Below.heap_alloc _ _ _ hk]
 have e1:(w2.alloc (.cells #[.int .i64 0] 3)).heap.size=w2.heap.size+1:=by simp
 have e2:((w2.alloc (.cells #[.int .i64 0] 3)).alloc (.cells #[.int .i64 0] 3)).heap.size=w2.heap.size+2:=by simp
 refine⟨Xf s aq,[0],pa,d,⟨.slice (some ⟨w2.heap.size,0,none⟩) 1 1,.slice (some ⟨w2.heap.size+1,0,none⟩) 1 1,.slice none 0 0,1,false,[0],[0],[]⟩,λk=>w2.heap.size<=k/\k<w2.heap.size+3,λk=>w.heap.size<=k/\k<w1.heap.size,λk=>w1.heap.size<=k/\k<w2.heap.size,⟨?_,?_,?_,?_,?_,eB,?_,?_,?_,λj hj=>(by simp[Value.ownBlock] at hj),?_,?_,?_,?_⟩,?_,?_,rfl,⟨I8,I8⟩,hI0 _ _ _ _ rfl⟩
 ·show(World.alloc _ _).heap[w2.heap.size+2]?=_;rw[<-e2];exact heap_alloc_new _ _
 ·exact hP.keep hx (λk hk hl=>gB k hl) (by rw[G4];omega)
 ·exact h2.here.keep (λk hk hl=>gB k hl) (by rw[G4];omega)
 ·exact((Jd w2 _ _).alloc _).alloc _
 ·have:=(Jd (w2.alloc (.cells #[.int .i64 0] 3)) (.int .i64 0) 3).alloc (sG pa d w2.heap.size (w2.heap.size+1));rw[e1] at this;exact this
 ·exact⟨by omega,by omega⟩
 ·intro j hj;simp[Value.ownBlock] at hj;subst hj;exact⟨by omega,by omega⟩
 ·intro j hj;simp[Value.ownBlock] at hj;subst hj;exact⟨by omega,by omega⟩
 ·intro k hk hx;omega
 ·intro k hk hx;omega
 ·intro k hk hx;omega
 ·intro k hk;rw[G4];omega
 ·intro k hk;show w.heap.size<=k/\k<w2.heap.size+3;omega
 ·intro k hk;rw[G4];exact hk.2
def tn (PS:World->Value->YS->List Nat->(Nat->Prop)->Prop)(I:YS->List Nat->gK->Prop)(aB:Nat)(w:World)(B:Nat)(vI vM:Value)(nx:Nat)(ps:List j4)(es:List tg)(e:Ending)(w':World):Prop:=
 e=.returned (.bool true)/\Below aB w w'/\∃yW tf,GW2 PS I aB w' B yW vI vM nx tf es/\(tf=ps∨∃b G,tf=ps++[⟨b,1,G⟩])
theorem GE (hP:cP PS Q)(hI0:∀X v1 v2 v3,X.T=[(0,[])]->I X [0] ⟨v1,v2,v3,1,false,[0],[0],[]⟩)(aB:Nat)(w:World)(B:Nat)(vD vI vM:Value)(nx:Nat)(ps:List j4)(es:List tg)(h:GW2 PS I aB w B vD vI vM nx ps es)(qD:ps.length<=1099511627776)(kd af X Y Z:Int)(S Tt:ByteArray)(on:Bool)(hS:S.size<=maxLen):
  Calls prog 13 #[.pointer (some ⟨B,0,none⟩),.agg #[.int .i64 kd,.int .i64 af,.int .i64 X,.int .i64 Y,.int .i64 Z,.string S,.string Tt,.bool on]] w λe w'=>tn PS I aB w B vI vM nx ps es e w':=by
 obtain⟨i0,hi,gP,gQ,gR⟩:=info_parts Tryz.info42;have lz:=aw h;have HP:=aw hP;clear h hP;go_enter func13,ntmps13;go_wp2_with fail;refine(HP.out.new _ S Tt hS).mono ?_;rintro e w1 ⟨cH,hO⟩;have gA:=cH.size;have o5:w1.cell? ⟨w.heap.size,5,none⟩=some (.string S):=(cH.cell (p:=⟨w.heap.size,5,none⟩) (by simp)).trans (au (heap_alloc_new w _) rfl);have o6:w1.cell? ⟨w.heap.size,6,none⟩=some (.string Tt):=(cH.cell (p:=⟨w.heap.size,6,none⟩) (by simp)).trans (au (heap_alloc_new w _) rfl);rcases hO with⟨fG,rfl⟩ | ⟨fG,px,rfl,d9⟩
 ·go_wp2_with fail;refine(EK _ S Tt hS).mono ?_;rintro e w2 ⟨dk,GN⟩;rcases GN with⟨_,rfl⟩ | ⟨hne2,_⟩
  ·have HE:Hid (tn PS I aB w B vI vM nx ps es (.returned (.bool true)) w2):=by
    have hB:Below w.heap.size w w2:=((bo.alloc aF _).trans (cH.mono (by simp))).trans (dk.mono (by simp at gA;omega));exact⟨rfl,hB.mono lz.out.baseW,vD,ps,lz.out.keep HP.out hB,ax rfl⟩
   clear fG cH dk gA o5 o6;generalize eC S Tt=y;go_wp2_with fail;refine(kw _ y).mono ?_;rintro e w5 ⟨rfl,rfl⟩;go_wp2_with fail;refine(kw _ y).mono ?_;rintro e w5 ⟨rfl,rfl⟩;go_wp2;go_ret;exact HE.out
  ·exact absurd hne2 fG
 ·obtain⟨pa,rfl⟩:=HP.out.ptr d9;have tm:=aw d9;clear d9;go_wp2_with fail;refine(EK _ S Tt hS).mono ?_;rintro e w2 ⟨dk,GN⟩;rcases GN with⟨hne2,_⟩ | ⟨_,d,rfl,hd,CR⟩
  ·exact absurd fG hne2
  ·have hB:Below w.heap.size w w2:=((bo.alloc aF _).trans (cH.mono (by simp))).trans (dk.mono (by simp at gA;omega));have C3:=aw (lz.out.keep HP.out hB);have VE:=aw (Tv HP.out hI0 tm.out gA CR dk);have Mw:=aw hB;have zl:w.heap.size+1<=w2.heap.size:=by have:=dk.size;simp at gA;omega
   have c0:w2.cell? ⟨B,0,none⟩=some vD:=au C3.out.wb.blk rfl;obtain⟨aD,cD,hvD⟩:=aK C3.out.rowD;subst hvD;clear fG cH dk gA o5 o6 hB CR hd tm;go_wp2_with fail;refine(kw _ 0).mono ?_;rintro e w5 ⟨rfl,rfl⟩;obtain⟨w2,rfl⟩:∃w2,w2=w5:=⟨_,rfl⟩;go_wp2_with fail;refine(kw _ 0).mono ?_;rintro e w5 ⟨rfl,rfl⟩;obtain⟨w2,rfl⟩:∃w2,w2=w5:=⟨_,rfl⟩;go_wp2_with (at_builtin;refine ff _ rfl (.tmp 43) (.tmp 50) 26 rfl 0 42 i0 (.pointer none) 1 8 underlying26 hi gP gQ gR rfl (by decide) _ _ _ rfl ((((C3.out.rowD.alloc _).alloc _).alloc _).alloc _) ⟨w2.heap.size+3,0,none⟩ 1 1 [.pointer (some ⟨w2.heap.size+2,0,none⟩)] rfl rfl ?c1 ?c2 ?c3 ?c4 ?c5 ?_)
   case c1=>exact bg (((w2.alloc _).alloc _).alloc _) _ (by simp) _ _ _ rfl
   case c2=>intro u hu;rw[ft] at hu;rw[hu];rfl
   case c3=>unfold maxLen;omega
   case c4=>omega
   case c5=>exact bm
   intro v3 w3 bH fB iP
   have HN:Hid (GW2 PS I aB (w3.setCell ⟨B,0,none⟩ v3) B v3 vI vM nx (ps++[⟨w2.heap.size+2,1,λk=>(w.alloc (aR kd af X Y Z S Tt on)).heap.size<=k/\k<w2.heap.size+3⟩]) es):=by
    have hbw:=C3.out.baseW;refine C3.out.add HP.out ((((bo.alloc aF _).alloc (by simp) _).alloc (by simp;omega) _).alloc (by simp;omega) _) fB ⟨w2.heap.size+2,1,λk=>(w.alloc (aR kd af X Y Z S Tt on)).heap.size<=k/\k<w2.heap.size+3⟩ bH (λj hj=>(iP.out j hj).imp id (λx=>by simp;omega)) (VE.out.keep HP.out (by simp) (λk hk=>Below.heap_alloc _ _ _ (VE.out.lt k hk))) (λk hk=>?_);have qa:w.heap.size+1<=k:=by have:=hk.1;simp at this;omega
    exact⟨by have:=lz.out.baseW;omega,λhm=>by have:=lz.out.ltM k hm;omega,λi hi hx=>by have:=(lz.out.pd i hi).lt k hx;omega⟩
   have aeF:=HN.out.wb;have fA:w3.heap[B]?=some (.cells #[.slice aD ps.length cD,vI,vM,.int .i64 nx] 30 (0,0)):=(fB.block B (by have:=C3.out.ltM B (ax rfl);simp;omega) (λe=>aN C3.out.rowD C3.out.wb.blk (by decide) e.symm)).trans (((bo.alloc aF _).alloc (by simp) _).alloc (by simp;omega) _ |>.alloc (by simp;omega) _ |>.block B (C3.out.ltM B (ax rfl)) |>.trans C3.out.wb.blk)
   have HE:Hid (tn PS I aB w B vI vM nx ps es (.returned (.bool true)) (w3.setCell ⟨B,0,none⟩ v3)):=by
    refine⟨rfl,?_,_,_,HN.out,az ⟨_,_,rfl⟩⟩;have hbw:=lz.out.baseW;have oW:=Mw.out.mono hbw;have hW:Below aB w ((((w2.alloc (.cells #[.int .i64 0] 3)).alloc (.cells #[.int .i64 0] 3)).alloc (sG pa d w2.heap.size (w2.heap.size+1))).alloc (.cells #[.pointer (some ⟨w2.heap.size+2,0,none⟩)] 42)):=(((oW.alloc (by omega) _).alloc (by simp;omega) _).alloc (by simp;omega) _).alloc (by simp;omega) _;exact(hW.grown fB (by simp;omega) (λk hk=>lz.out.baseM k (az (ax hk)))).setCell (lz.out.baseM B (ax rfl)) _
   have e0:w3.cell? ⟨B,0,none⟩=some (.slice aD ps.length cD):=au fA rfl;have ez:∀k,w3.frozen? ⟨B,k,none⟩=false:=λ_=>aH fA;obtain⟨a3,c3,zm⟩:=aK bH;subst zm;clear bH fB iP HN aeF fA c0 VE C3;go_wp2;go_ret;exact HE.out
end
end Go.Proofs.YtblfffbmklkhmabGreat
