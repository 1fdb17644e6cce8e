/- Own work. -/
import Derived.Test.YtblfffbmklkhmaaGreatPi1
import Derived.Test.YtblfffbmklkhmaaGreatPi3
import Derived.Deep.QuietTactic
import Derived.Deep.RegionHeld3
set_option maxRecDepth 100000
set_option maxHeartbeats 40000000
namespace Go.Proofs.YtblfffbmklkhmaaGreat
open Go.RowKit Go.Proofs.Tryz
def Q5 (w:World)(d:Nat)(els:List REl)(made:Nat)(hp:Option Addr)(vT:Value)(bi:Bool)(vL:Value)(n m at':Int)(e:Ending)(w':World):Prop:=
 ((bJ els n=none∨bJ els m=none)/\e=.returned (.int .i64 5)/\w'=w)∨
 (∃y p,bJ els n=some y/\bJ els m=some p/\
  ((bc els n<0/\e=.returned (.int .i64 6)/\w'=w)∨
   (0<=bc els n/\oi els n m/\e=.returned (.int .i64 7)/\w'=w)∨
   (0<=bc els n/\¬oi els n m/\(at'<0∨((aw n p.kids).length:Int)<at')/\e=.returned (.int .i64 8)/\RD w' d els made hp vT bi vL/\Below w.heap.size w w')∨
   (∃(q:REl) (k:Nat) (k1 k2:Value),0<=bc els n/\¬oi els n m/\at'=k/\k<=(aw n p.kids).length/\bJ els (bc els n)=some q/\e=.returned (.int .i64 0)/\
    RD w' d ((els.map (ee q.blk (aw n q.kids) k1)).map (ee p.blk (cY (aw n p.kids) k y.num) k2)) made hp vT false vL/\Fr w w' (jQ d els vL)/\(∀j,k1.ownBlock=some j->w.heap.size<=j)/\(∀j,k2.ownBlock=some j->w.heap.size<=j))))
theorem Ep (w:World)(d:Nat)(els:List REl)(made:Nat)(hp:Option Addr)(vT:Value)(bi:Bool)(vL:Value)(n m at':Int)(h:RD w d els made hp vT bi vL)(rk:Nat->Nat)(hr:rl els rk)(p8:∀e∈els,e.kids.length<els.length):
  Calls prog 147 #[.pointer (some ⟨d,0,none⟩),.int .i64 n,.int .i64 m,.int .i64 at'] w λe w'=>Q5 w d els made hp vT bi vL n m at' e w':=by
 obtain⟨aL,cL,uR⟩:=h.shape;subst uR;have bC:=h.few;have HR:=ae h;have HK:=ae hr;have HL:=ae p8;clear h hr p8;go_enter func147,ntmps147;go_wp2_with fail;refine(eB _ d els made hp vT bi _ n HR.out).mono ?_;rintro e w1 ⟨rfl,rfl⟩;obtain⟨w,rfl⟩:∃w,w=w1:=⟨_,rfl⟩;go_wp2_with fail;refine(eB _ d els made hp vT bi _ m HR.out).mono ?_;rintro e w1 ⟨rfl,rfl⟩;obtain⟨w,rfl⟩:∃w,w=w1:=⟨_,rfl⟩;cases hfind:bJ els n with
 | none=>
  have HE:=ae hfind;clear hfind;rw[show fa none=Value.pointer none from rfl];generalize fa (bJ els m)=pm;go_wp2;go_ret;exact af ⟨af HE.out,rfl,rfl⟩
 | some y=>
 have HF:=ae hfind;clear hfind;rw[show fa (some y)=Value.pointer (some ⟨y.blk,0,none⟩) from rfl];cases hfind:bJ els m with
 | none=>
  have HE:=ae hfind;clear hfind;rw[show fa none=Value.pointer none from rfl];go_wp2;go_ret;exact af ⟨ai HE.out,rfl,rfl⟩
 | some p=>
 have Xf:=ae hfind;obtain⟨fA,_⟩:=cN hfind;have sP:=ae fA;clear hfind fA;rw[show fa (some p)=Value.pointer (some ⟨p.blk,0,none⟩) from rfl];go_wp2_with fail;refine(f9 _ d els made hp vT bi _ n HR.out).mono ?_;rintro e w1 ⟨rfl,rfl⟩;obtain⟨w,rfl⟩:∃w,w=w1:=⟨_,rfl⟩
 by_cases qB:bc els n<0
 ·have gp:decide (bc els n<0)=true:=by simpa using qB
  have HP:=ae qB;clear qB;generalize hq:bc els n=q at gp HP ⊢;have HQ:=ae hq;clear hq;go_wp2;go_ret;exact ai ⟨y,p,HF.out,Xf.out,af ⟨by rw[HQ.out];exact HP.out,rfl,rfl⟩⟩
 have gp:decide (bc els n<0)=false:=by simpa using qB
 obtain⟨q,hqf⟩:=wI qB;have HP:Hid (0<=bc els n):=by unfold Hid;omega
 have HQF:=ae hqf;obtain⟨Oz,_⟩:=cN hqf;have Wr:=ae Oz;clear hqf Oz qB;go_wp2_with fail;refine(nw _ d els made hp vT bi _ n m HR.out rk HK.out).mono ?_;rintro e w2 ⟨b,rfl,rfl,HU⟩;obtain⟨w,rfl⟩:∃w,w=w2:=⟨_,rfl⟩;cases b with
 | true=>
  have HYU:Hid (oi els n m):=HU.out.1 rfl;clear HU;go_wp2;go_ret;exact ai ⟨y,p,HF.out,Xf.out,ai (af ⟨HP.out,HYU.out,rfl,rfl⟩)⟩
 | false=>
 have UN:Hid (¬oi els n m):=λh=>by have:=HU.out.2 h;cases this
 clear HU;obtain⟨_,p4⟩:=eR (HR.out.el p sP.out);have pk:=HR.out.kid p sP.out;have lU:=HR.out.kfew p sP.out;obtain⟨ka,kc,sL⟩:=aA pk;rw[sL] at p4 pk;have Qx:=ae pk;clear pk sL;go_wp2_with fail;refine(xa w ka kc p.kids n 0 Qx.out lU).mono ?_;rintro e W1 ⟨a1,c1,rfl,pc,qW⟩;clear p4 Qx
 have Sm:(aw n p.kids).length<24:=by
  have:=lz n p.kids;have:=HL.out p sP.out;omega
 have kz:=ae (HR.out.below qW);have eg:=ae qW;have Wp:=ae pc;clear pc qW
 by_cases h0:at'<0
 ·have g0:decide (at'<0)=true:=by simpa using h0
  have H0:=ae h0;clear h0;go_wp2;go_ret;exact ai ⟨y,p,HF.out,Xf.out,ai (ai (af ⟨HP.out,UN.out,af H0.out,rfl,kz.out,eg.out⟩))⟩
 have g0:decide (at'<0)=false:=by simpa using h0
 obtain⟨k,rfl⟩:∃k:Nat,at'=k:=⟨at'.toNat,by omega⟩;clear h0
 by_cases h1:(aw n p.kids).length<k
 ·have g1:decide (((aw n p.kids).length:Int)<(k:Int))=true:=by simp;omega
  go_wp2;go_ret;exact ai ⟨y,p,HF.out,Xf.out,ai (ai (af ⟨HP.out,UN.out,ai (by omega),rfl,kz.out,eg.out⟩))⟩
 have g1:decide (((aw n p.kids).length:Int)<(k:Int))=false:=by simp;omega
 have Z6:k<=(aw n p.kids).length:=by omega
 clear h1;have d4:W1.cell? ⟨d,4,none⟩=some (.bool bi):=aa kz.out.doc rfl;have dz:∀k,W1.frozen? ⟨d,k,none⟩=false:=λ_=>ax kz.out.doc;have R2:RD (W1.setCell ⟨d,4,none⟩ (.bool false)) d els made hp vT false (.slice aL els.length cL):=kz.out.setDoc' rfl;have F2:Fr w (W1.setCell ⟨d,4,none⟩ (.bool false)) (jQ d els (.slice aL els.length cL)):=((Fr.refl w _).below eg.out).set (af (af rfl)) _;have O2:=bj Wp.out (aB Wp.out kz.out.doc (by decide)) (p:=⟨d,4,none⟩) (.bool false);have oE:=kK R2 F2 O2;clear R2 F2 O2;go_wp2_with fail;obtain⟨W2,Ie⟩:∃W2,W2=W1.setCell ⟨d,4,none⟩ (.bool false):=⟨_,rfl⟩;rw[<-Ie] at oE ⊢;clear Ie d4 dz kz eg Wp;refine(eB _ d els made hp vT false _ (bc els n) oE.out.1).mono ?_;rintro e w3 ⟨rfl,rfl⟩;obtain⟨W2,rfl⟩:∃W2,W2=w3:=⟨_,rfl⟩;rw[HQF.out,show fa (some q)=Value.pointer (some ⟨q.blk,0,none⟩) from rfl];obtain⟨_,q4⟩:=eR (oE.out.1.el q Wr.out);have qk:=oE.out.1.kid q Wr.out;have hql:=oE.out.1.kfew q Wr.out;obtain⟨la,lc,BF⟩:=aA qk;rw[BF] at q4 qk;have HQK:=ae qk;clear qk BF;go_wp2_with fail;refine(xa W2 la lc q.kids n 0 HQK.out hql).mono ?_;rintro e W3 ⟨a3,c3,rfl,bA,lT⟩;clear q4 HQK;have hnq:(aw n q.kids).length<=24:=by have:=lz n q.kids;omega
 have R3:=oE.out.1.below lT;have F3:=oE.out.2.1.below lT;have O3:=aN oE.out.2.2 lT;have qe3:=R3.el q Wr.out;have qz:∀k,W3.frozen? ⟨q.blk,k,none⟩=false:=λ_=>ax qe3;have q4:=(eR qe3).2;have o3:W3.ownsRow 0 3 1 (.slice a3 (aw n q.kids).length c3) (aw n q.kids).length (bh (aw n q.kids)):=aP bA aZ
 have Xj:Hid (∀j,(Value.slice a3 (aw n q.kids).length c3).ownBlock=some j->w.heap.size<=j):=λj hj=>by
  have:=(bA.lt j hj).1;have:=oE.out.2.1.size;omega
 have R4:=R3.setKids Wr.out o3 hnq;have F4:=F3.set (p:=⟨q.blk,4,none⟩) (af (ai (af ⟨q,Wr.out,rfl⟩))) (.slice a3 (aw n q.kids).length c3);have O4:=bj O3 (aB O3 qe3 (by decide)) (p:=⟨q.blk,4,none⟩) (.slice a3 (aw n q.kids).length c3);have E9:=kK R4 F4 O4;clear R3 F3 O3 R4 F4 O4 bA lT o3 qe3 oE;go_wp2_with fail;obtain⟨W4,Dq⟩:∃W4,W4=W3.setCell ⟨q.blk,4,none⟩ (.slice a3 (aw n q.kids).length c3):=⟨_,rfl⟩;rw[<-Dq] at E9 ⊢;clear Dq qz q4;have zY:=(cN HF.out).2.symm;have Z3:=rN W4 a1 c1 (aw n p.kids) k y.num w.heap.size E9.out.2.2 (by omega) Z6;refine(show Calls prog 171 #[.slice a1 (aw n p.kids).length c1,.int .i64 k,.int .i64 n] W4 λe w'=>vE W4 (cY (aw n p.kids) k y.num) e w' from by rw[show(Value.int .i64 n)=.int .i64 (y.num:Int) from by rw[zY]];exact Z3).mono ?_;rintro e W5 ⟨a5,c5,rfl,bR,yI⟩;clear Z3 zY;have jJ:(cY (aw n p.kids) k y.num).length<=24:=by simp[cY];omega
 have R5:=E9.out.1.below yI;have F5:=E9.out.2.1.below yI;have VN:ee q.blk (aw n q.kids) (.slice a3 (aw n q.kids).length c3) p∈els.map (ee q.blk (aw n q.kids) (.slice a3 (aw n q.kids).length c3)):=bm.2 ⟨p,sP.out,rfl⟩;have pe5:=R5.el _ VN;have R6:=R5.setKids VN (aP bR aZ) jJ;rw[ky] at pe5 R6;have pz:∀k,W5.frozen? ⟨p.blk,k,none⟩=false:=λ_=>ax pe5;have p4:W5.cell? ⟨p.blk,4,none⟩=some (ee q.blk (aw n q.kids) (.slice a3 (aw n q.kids).length c3) p).ks:=aa pe5 rfl;have F6:=F5.set (p:=⟨p.blk,4,none⟩) (af (ai (af ⟨p,sP.out,rfl⟩))) (.slice a5 (cY (aw n p.kids) k y.num).length c5)
 have HK5:Hid (∀j,(Value.slice a5 (cY (aw n p.kids) k y.num).length c5).ownBlock=some j->w.heap.size<=j):=λj hj=>by
  have:=(bR.lt j hj).1;have:=E9.out.2.1.size;omega
 have QY:=ae R6;have UE:=ae F6;clear R5 F5 R6 F6 pe5 bR yI VN E9;generalize (ee q.blk (aw n q.kids) (.slice a3 (aw n q.kids).length c3) p).ks=oldk at p4;go_wp2;go_ret;exact ai ⟨y,p,HF.out,Xf.out,ai (ai (ai ⟨q,k,.slice a3 (aw n q.kids).length c3,.slice a5 (cY (aw n p.kids) k y.num).length c5,HP.out,UN.out,rfl,Z6,HQF.out,rfl,QY.out,UE.out,Xj.out,HK5.out⟩))⟩
def et (s ake:ByteArray):Int:=if(gP s).1≠0 then(gP s).1 else if aG ake=false then 4 else 0
theorem SF {w:World}{g:Nat}{t:TypeId}{v:Value}(hg:w.heap[g]?=some (.cells #[v] t (0,0))):w.ownsRow 0 t 1 (.slice (some ⟨g,0,none⟩) 1 1) 1 [v]:=by
 refine⟨rfl,ai ⟨g,1,#[v],rfl,aZ,hg,au,by unfold maxLen;omega,rfl,rfl⟩⟩
theorem Qb (w:World)(a b c:Obj):(((w.alloc a).alloc b).alloc c).heap[w.heap.size]?=some a/\(((w.alloc a).alloc b).alloc c).heap[w.heap.size+1]?=some b/\(((w.alloc a).alloc b).alloc c).heap[w.heap.size+1+1]?=some c:=by
 refine⟨?_,?_,?_⟩
 ·rw[Dw _ _ _ _ (by simp),heap_alloc_new w]
 ·rw[Below.heap_alloc _ _ _ (by simp)];have:=heap_alloc_new (w.alloc a) (o:=b);simpa using this
 ·have:=heap_alloc_new ((w.alloc a).alloc b) (o:=c);simpa using this
theorem VX (w:World)(ake:ByteArray)(pa:Option Addr):
  RD (((w.alloc (.cells (iL w.heap.size 0 ake).cells 176)).alloc (.cells #[.pointer (some ⟨w.heap.size,0,none⟩)] 171)).alloc (.cells #[.pointer pa,.slice (some ⟨w.heap.size+1,0,none⟩) 1 1,.int .i64 1,.slice none 0 0,.bool false] 121)) (w.heap.size+1+1) [iL w.heap.size 0 ake] 1 pa (.slice none 0 0) false (.slice (some ⟨w.heap.size+1,0,none⟩) 1 1):=by
 obtain⟨h1,h2,h3⟩:=Qb w (.cells (iL w.heap.size 0 ake).cells 176) (.cells #[.pointer (some ⟨w.heap.size,0,none⟩)] 171) (.cells #[.pointer pa,.slice (some ⟨w.heap.size+1,0,none⟩) 1 1,.int .i64 1,.slice none 0 0,.bool false] 121);refine⟨h3,SF h2,λe he=>?_,λe he=>?_,by simp,λe he=>?_⟩
 ·simp only[List.mem_cons,List.not_mem_nil,or_false] at he;subst he;exact h1
 ·simp only[List.mem_cons,List.not_mem_nil,or_false] at he;subst he;exact er
 ·simp only[List.mem_cons,List.not_mem_nil,or_false] at he;subst he;exact aZ
section
variable {l:List Nat}{n:Int}
def fH (l:List Nat)(n:Int):Bool:=l.any λk=>decide ((k:Int)=n)
theorem Oe {j:Nat}(hj:j<l.length)(h:((l[j]:Nat):Int)=n):fH l n=true:=by
 unfold fH;exact List.any_eq_true.2 ⟨_,bK hj,by simpa using h⟩
theorem R7 (h:∀j (hj:j<l.length),((l[j]:Nat):Int)=n->False):fH l n=false:=by
 cases hk:fH l n with
 | false=>rfl
 | true=>
  obtain⟨k,pJ,fT⟩:=List.any_eq_true.1 hk;obtain⟨j,hj,rfl⟩:=List.getElem_of_mem pJ;exact(h j hj (by simpa using fT)).elim
theorem lS (w:World)(a:Option Addr)(c:Nat)(l:List Nat)(n:Int)(an:Nat)(ho:w.ownsRow an 3 1 (.slice a l.length c) l.length (bh l))(hl:l.length<=24):
  Calls prog 98 #[.slice a l.length c,.int .i64 n] w λe w'=>e=.returned (.bool (fH l n))/\w'=w:=by
 have HO:=ae ho;clear ho;go_enter func98,ntmps98;go_wp2
 go_loop [5] (λiv=>∃i:Nat,iv=.int .i64 i/\i<=l.length/\Hid (∀t (ht:t<l.length),t<i->((l[t]:Nat):Int)=n->False)) (λiv=>l.length - (intOf iv).toNat)
 case atStart=>exact⟨0,rfl,aZ,λt ht h=>by omega⟩
 case round=>
  obtain⟨i,rfl,hi,HN⟩:=hrel
  by_cases aU:i<l.length
  ·have hd:decide ((i:Int)<(l.length:Int))=true:=by simp;omega
   obtain⟨g,hg,_,hc⟩:=aR HO.out (by omega);subst hg;have q:=hc i (.int .i64 ((l[i]:Nat):Int)) (by simp[aU]);clear hc
   by_cases hn:((l[i]:Nat):Int)=n
   ·have HE:=ae (Oe aU hn);have gn:(((l[i]:Nat):Int)==n)=true:=by simp[hn]
    clear hn;go_wp2;go_ret;rw[HE.out];exact⟨rfl,rfl⟩
   ·have gn:(((l[i]:Nat):Int)==n)=false:=by simp[hn]
    have e9:Hid (∀t (ht:t<l.length),t<i+1->((l[t]:Nat):Int)=n->False):=λt ht h1 h2=>by
     by_cases e:t=i
     ·subst e;exact hn h2
     ·exact HN.out t ht (by omega) h2
    clear hn;go_wp2
    go_round
    case rel=>exact⟨i+1,by go_num,by omega,e9⟩
    case measure=>simp[intOf];omega
  ·have hd:decide ((i:Int)<(l.length:Int))=false:=by simp;omega
   have HE:Hid (fH l n=false):=R7 (λj hj h=>HN.out j hj (by omega) h);go_wp2;go_ret;rw[HE.out];exact⟨rfl,rfl⟩
def dE (l:List Nat)(n:Nat):List Nat:=if fH l n=true then l else l++[n]
def XX (w:World)(v:Value)(l:List Nat)(e:Ending)(w':World):Prop:=∃(a:Option Addr) (c:Nat),e=.returned (.slice a l.length c)/\w'.ownsRow 0 3 1 (.slice a l.length c) l.length (bh l)/\Below w.heap.size w w'/\Hid (∀j,(Value.slice a l.length c).ownBlock=some j->v.ownBlock=some j∨w.heap.size<=j)
theorem sE (w:World)(a:Option Addr)(c:Nat)(l:List Nat)(n:Nat)(ho:w.ownsRow 0 3 1 (.slice a l.length c) l.length (bh l))(hl:l.length<=24):
  Calls prog 143 #[.slice a l.length c,.int .i64 n] w λe w'=>XX w (.slice a l.length c) (dE l n) e w':=by
 obtain⟨i0,hi,gx,gA,gB⟩:=info_parts Tryz.info3;have HO:=ae ho;clear ho;go_enter func143,ntmps143;go_wp2_with fail;refine(lS _ a c l n 0 HO.out hl).mono ?_;rintro e w1 ⟨rfl,rfl⟩;obtain⟨w,rfl⟩:∃w,w=w1:=⟨_,rfl⟩;cases hh:fH l n with
 | true=>
  have HE:Hid (dE l n=l):=by unfold Hid dE;rw[aq hh]
  clear hh;go_wp2;go_ret;rw[HE.out];exact⟨a,c,rfl,HO.out,bd,λj hj=>af hj⟩
 | false=>
  have HE:Hid (dE l n=l++[n]):=by unfold Hid dE;rw[aj (by rw[hh];decide)]
  clear hh
  by_cases h0:a=none
  ·subst h0
   have hn:l=[]/\c=0:=by
    rcases HO.out.2 with⟨h,h2⟩ | ⟨_,_,_,h,_⟩
    ·injection h with _ h3 h4;exact⟨List.eq_nil_of_length_eq_zero h2,h4⟩
    ·injection h with h;cases h
   obtain⟨rfl,rfl⟩:=hn;go_wp2_with (first | (at_builtin;refine wpList_append_own_none rfl (.tmp 12) (.tmp 13) 40 rfl w.heap.size 3 i0 1 underlying40 hi _ _ _ rfl er rfl ?_) | (at_builtin;refine wpList_append_own _ rfl (.tmp 15) (.tmp 17) 40 rfl w.heap.size 3 i0 (.int .i64 0) 1 8 underlying40 hi gx gA gB rfl (by decide) _ _ _ rfl er ⟨w.heap.size,0,none⟩ 1 1 [.int .i64 (n:Int)] rfl rfl (aW w _ rfl _ _ _ rfl) (rY n) (by unfold maxLen;omega) (by omega) (by simp) ?_))
   ·intro v2 w2 oU ij _;have di:w2.ownsRow w.heap.size 3 1 v2 1 (bh [n]):=by simpa[bh] using oU
    have dq:Below w.heap.size w w2:=(bd.alloc au _).grown ij (by simp) (λk hk=>by simp[Value.ownBlock] at hk);obtain⟨a2,c2,jC⟩:=aA di;subst jC;have Qv:=ae di;clear oU ij di;go_wp2;go_ret;rw[HE.out];exact⟨a2,c2,rfl,aP Qv.out aZ,dq,λj hj=>ai (Qv.out.lt j hj).1⟩
  ·obtain⟨g,rfl⟩:∃g,a=some ⟨g,0,none⟩:=by
    rcases HO.out.2 with⟨h,_⟩ | ⟨g,_,_,h,_⟩
    ·injection h with h;exact absurd h h0
    ·injection h with h;exact⟨g,h⟩
   clear h0;have hc:=HO.out.cells (g:=g) rfl;go_wp2_with (at_builtin;refine wpList_append_own _ rfl (.tmp 12) (.tmp 13) 40 rfl w.heap.size 3 i0 (.int .i64 0) 1 8 underlying40 hi gx gA gB rfl (by decide) _ _ _ rfl er ⟨g,0,none⟩ l.length c (bh l) rfl (by simp[bh]) hc (rO _) ?c3 ?c4 ?c5 ?_)
   case c3=>unfold maxLen;omega
   case c4=>omega
   case c5=>exact au
   ·intro v1 w1 DF Dy _;have pc:w1.ownsRow w.heap.size 3 1 v1 l.length (bh l):=by simpa using DF
    have cq:Below w.heap.size w w1:=bd.grown Dy au (λk hk=>by simp[Value.ownBlock] at hk);obtain⟨a1,c1,Ip⟩:=aA pc;subst Ip;clear DF Dy hc;have gK:=cq.size;go_wp2_with (at_builtin;refine wpList_append_own _ rfl (.tmp 15) (.tmp 17) 40 rfl w.heap.size 3 i0 (.int .i64 0) 1 8 underlying40 hi gx gA gB rfl (by decide) _ _ _ rfl (pc.alloc _) ⟨w1.heap.size,0,none⟩ 1 1 [.int .i64 (n:Int)] rfl rfl ?d1 ?d2 ?d3 ?d4 ?d5 ?_)
    case d1=>exact aW w1 _ rfl _ _ _ rfl
    case d2=>exact rY n
    case d3=>unfold maxLen;omega
    case d4=>omega
    case d5=>simp;omega
    ·intro v2 w2 oU ij _;have di:w2.ownsRow w.heap.size 3 1 v2 (l++[n]).length (bh (l++[n])):=by simpa[bh] using oU
     have dq:Below w.heap.size w w2:=(cq.alloc gK _).grown ij (by simp;omega) (λk hk=>(pc.lt k hk).1);obtain⟨a2,c2,jC⟩:=aA di;subst jC;have Qv:=ae di;clear oU ij di pc;go_wp2;go_ret;rw[HE.out];exact⟨a2,c2,rfl,aP Qv.out aZ,dq,λj hj=>ai (Qv.out.lt j hj).1⟩
noncomputable def jX (els:List REl)(f n:Int):Bool:=decide (bc els f<0)||eU els (bc els f) n
theorem Kf (w:World)(d:Nat)(els:List REl)(made:Nat)(hp:Option Addr)(vT:Value)(bi:Bool)(vL:Value)(f n:Int)(h:RD w d els made hp vT bi vL)(rk:Nat->Nat)(hr:rl els rk):
  Calls prog 172 #[.pointer (some ⟨d,0,none⟩),.int .i64 f,.int .i64 n] w λe w'=>e=.returned (.bool (jX els f n))/\w'=w:=by
 have HR:=ae h;have HK:=ae hr;clear h hr;go_enter func172,ntmps172;go_wp2_with fail;refine(f9 _ d els made hp vT bi _ f HR.out).mono ?_;rintro e w1 ⟨rfl,rfl⟩;obtain⟨w,rfl⟩:∃w,w=w1:=⟨_,rfl⟩
 by_cases hp:bc els f<0
 ·have HE:Hid (jX els f n=true):=by unfold Hid jX;rw[decide_eq_true hp];rfl
  have gp:decide (bc els f<0)=true:=by simpa using hp
  clear hp;generalize bc els f=q at gp ⊢;go_wp2;go_ret;rw[HE.out];exact⟨rfl,rfl⟩
 ·have HE:Hid (jX els f n=eU els (bc els f) n):=by unfold Hid jX;rw[decide_eq_false hp];rfl
  have gp:decide (bc els f<0)=false:=by simpa using hp
  clear hp;go_wp2_with fail;refine(nw _ d els made _ vT bi _ (bc els f) n HR.out rk HK.out).mono ?_;rintro e w2 ⟨b,rfl,rfl,HU⟩;obtain⟨w,rfl⟩:∃w,w=w2:=⟨_,rfl⟩
  have HB:Hid (eU els (bc els f) n=b):=by
   unfold Hid;have h1:=HU.out;rw[<-ke] at h1;cases b<;>cases hu:eU els (bc els f) n<;>simp_all
  clear HU;go_wp2;go_ret;rw[HE.out,HB.out];exact⟨rfl,rfl⟩
end
section
variable {b d:Nat}{els:List REl}{l:List Nat}{w:World}
theorem RD.setT {made:Nat}{hp:Option Addr}{vT:Value}{bi:Bool}{vL:Value}(h:RD w d els made hp vT bi vL){cs:Array Value}{t:TypeId}{z:Nat × Nat}(hb:w.heap[b]?=some (.cells cs t z))
  (h1:t≠121) (h2:t≠176) (h3:t≠171) (h4:t≠3) (o:Nat) (u:Value):RD (w.setCell ⟨b,o,none⟩ u) d els made hp vT bi vL:=by
 have ne:∀{k:Nat} {Va:Array Value} {t':TypeId} {z':Nat × Nat},w.heap[k]?=some (.cells Va t' z')->t≠t'->k≠b:=by
  intro k Va t' z' hk hn eq;rw[eq,hb] at hk;injection hk with hk
  injection hk with _ h5 _
  exact hn h5
 refine⟨?_,bj h.row (aB h.row hb h3) _,λe he=>?_,λe he=>bj (h.kid e he) (aB (h.kid e he) hb h4) _,h.few,h.kfew⟩
 ·rw[Below.heap_setCell _ _ _ _ (ne h.doc h1)];exact h.doc
 ·rw[Below.heap_setCell _ _ _ _ (ne (h.el e he) h2)];exact h.el e he
def PB (w:World)(b:Nat)(px:Value)(d:Nat)(vm vy:Value)(cnt:Int)(vs:Value)(held:Bool):Prop:=
 w.heap[b]?=some (.cells #[px,.pointer (some ⟨d,0,none⟩),vm,vy,.int .i64 cnt,vs,.bool held] 124 (0,0))
theorem PB.blk {px:Value}{vm vy:Value}{cnt:Int}{vs:Value}{held:Bool}(h:PB w b px d vm vy cnt vs held):w.heap[b]?=some (.cells #[px,.pointer (some ⟨d,0,none⟩),vm,vy,.int .i64 cnt,vs,.bool held] 124 (0,0)):=h
def LS (els:List REl)(l:List Nat):Prop:=l.Nodup/\∀k∈l,∃e∈els,e.num=k
theorem dw:∀{l m:List Nat},l.Nodup->(∀k∈l,k∈m)->l.length<=m.length
 | [],_,_,_=>aZ
 | x :: l,m,h,hs=>by
  have hx:=hs x (List.mem_cons_self ..);have h2:=List.nodup_cons.1 h
  have:l.length<=(m.erase x).length:=dw h2.2 (λk hk=>by
   refine(List.mem_erase_of_ne (λe=>?_)).2 (hs k (List.mem_cons_of_mem _ hk));subst e;exact h2.1 hk)
  rw[List.length_erase_of_mem hx] at this;have:=List.length_pos_of_mem hx;simp only[List.length_cons];omega
theorem LS.len (h:LS els l):l.length<=els.length:=by
 have:=dw h.1 (m:=els.map REl.num) (λk hk=>by
  obtain⟨e,he,rfl⟩:=h.2 k hk;exact bm.2 ⟨e,he,rfl⟩)
 simpa using this
theorem ii {n:Nat}:fH l n=true↔n∈l:=by
 unfold fH;rw[List.any_eq_true];constructor
 ·rintro⟨k,hk,he⟩;have:(k:Int)=n:=by simpa using he
  rw[show n=k from by omega];exact hk
 ·intro h;exact⟨n,h,by simp⟩
theorem LS.with (h:LS els l){e:REl}(he:e∈els):LS els (dE l e.num):=by
 unfold dE;split
 ·exact h
 ·rename_i hn;rw[ii] at hn;refine⟨?_,?_⟩
  ·rw[List.nodup_append];refine⟨h.1,by simp,λa ha b hb=>?_⟩;simp at hb;rw[hb];intro e2;exact hn (e2▸ha)
  ·intro k hk;rcases List.mem_append.1 hk with hk | hk
   ·exact h.2 k hk
   ·simp at hk;exact⟨e,he,hk.symm⟩
noncomputable def gg (els:List REl)(f:Int)(l:List REl)(m:List Nat):List Nat:=l.foldl (λm e=>if jX els f e.num=true then dE m e.num else m) m
theorem GZ {l:List REl}{i:Nat}(h:i<l.length)(f:Int)(m:List Nat):gg els f (l.take (i+1)) m=if jX els f l[i].num=true then dE (gg els f (l.take i) m) l[i].num else gg els f (l.take i) m:=by
 unfold gg;rw[fU h,List.foldl_append];rfl
theorem LS.spoil (f:Int):∀{l:List REl} {m:List Nat},LS els m->(∀e∈l,e∈els)->LS els (gg els f l m)
 | [],_,h,_=>h
 | e :: l,m,h,hs=>by
  show LS els (gg els f l (if jX els f e.num=true then dE m e.num else m));refine LS.spoil f ?_ (λx hx=>hs x (List.mem_cons_of_mem _ hx));split
  ·exact h.with (hs e (List.mem_cons_self ..))
  ·exact h
def XT (w:World)(b:Nat)(px:Value)(d:Nat)(vm vy vs:Value)(l:List Nat)(e:Ending)(w':World):Prop:=
 e=.returned (.tuple #[])/\∃(a:Option Addr) (c:Nat),PB w' b px d vm (.slice a l.length c) (-1) vs false/\w'.ownsRow 0 3 1 (.slice a l.length c) l.length (bh l)/\Fr w w' (λk=>k=b)/\(∀j,(Value.slice a l.length c).ownBlock=some j->vy.ownBlock=some j∨w.heap.size<=j)
structure SI (w:World)(b:Nat)(px:Value)(d:Nat)(els:List REl)(made:Nat)(hp:Option Addr)(vT:Value)(bi:Bool)(vL:Value)(vm vy vs:Value)(cnt:Int)(held:Bool)(l:List Nat)(wr:World)(v:Value):Prop where
 pb:PB wr b px d vm v cnt vs held
 own:wr.ownsRow 0 3 1 v l.length (bh l)
 fr:Fr w wr (λk=>k=b)
 rd:RD wr d els made hp vT bi vL
 blk:∀j,v.ownBlock=some j->vy.ownBlock=some j∨w.heap.size<=j
theorem G0 (w:World)(b:Nat)(px:Value)(d:Nat)(els:List REl)(made:Nat)(hp:Option Addr)(vT:Value)(bi:Bool)(vL:Value)(vm vy vs:Value)(cnt:Int)(held:Bool)(l:List Nat)(f:Int)
  (hb:PB w b px d vm vy cnt vs held) (h:RD w d els made hp vT bi vL) (rk:Nat->Nat) (hr:rl els rk) (ho:w.ownsRow 0 3 1 vy l.length (bh l)) (BF:LS els l) :
  Calls prog 144 #[.pointer (some ⟨b,0,none⟩),.int .i64 f] w λe w'=>XT w b px d vm vy vs (gg els f els l) e w':=by
 obtain⟨aL,cL,uR⟩:=h.shape;subst uR;have bC:=h.few;have HK:=ae hr
 have Tn:Hid (∀i,(gg els f (els.take i) l).length<=24):=λi=>by
  have:=(LS.spoil f BF (l:=els.take i) (λe he=>List.mem_of_mem_take he)).len;omega
 have Jp:Hid (SI w b px d els made hp vT bi (.slice aL els.length cL) vm vy vs cnt held (gg els f (els.take 0) l) w vy):=⟨hb,ho,Fr.refl _ _,h,λj hj=>af hj⟩;clear h hr ho hb BF;go_enter func144,ntmps144;go_wp2_with fail
 go_loopg [4] els.length (λgk iv wr=>∃(i:Nat) (v:Value),iv=.int .i64 i/\i<=els.length/\els.length - i<=gk/\Hid (SI w b px d els made hp vT bi (.slice aL els.length cL) vm vy vs cnt held (gg els f (els.take i) l) wr v))
 case atStart=>exact⟨0,vy,rfl,aZ,by omega,Jp⟩
 case round=>
  obtain⟨i,v,rfl,jJ,fS,HS⟩:=hrel;obtain⟨av,cv,hv⟩:=aA HS.out.own;subst hv;have b1:wr.cell? ⟨b,1,none⟩=some (.pointer (some ⟨d,0,none⟩)):=aa HS.out.pb.blk rfl;have d1:=HS.out.rd.c1
  by_cases aU:i<els.length
  ·have hd:decide ((i:Int)<(els.length:Int))=true:=by simp;omega
   obtain⟨g,hg,q1⟩:=HS.out.rd.at' aU;subst hg;obtain⟨q2,_⟩:=eR (HS.out.rd.el els[i] (bK aU));have HT:Hid (gg els f (els.take (i+1)) l=if jX els f els[i].num=true then dE (gg els f (els.take i) l) els[i].num else gg els f (els.take i) l):=GZ aU f l;have hml:=Tn.out i;have ais:=Tn.out (i+1);generalize gg els f (els.take i) l=m at HS HT hml ⊢;generalize els[i]=x at q1 q2 HT;go_wp2_with fail;refine(Kf _ d els made hp vT bi _ f x.num HS.out.rd rk HK.out).mono ?_;rintro e w2 ⟨rfl,rfl⟩;obtain⟨wr,rfl⟩:∃wr,wr=w2:=⟨_,rfl⟩;cases hh:jX els f x.num with
   | false=>
    have ox:Hid (gg els f (els.take (i+1)) l=m):=by unfold Hid;rw[HT.out,aj (by rw[hh];decide)]
    clear HT hh;go_wp2;go_roundg (els.length - (i+1))
    case measure=>omega
    case rel=>exact⟨i+1,_,by go_num,by omega,au,by rw[ox.out];exact HS⟩
   | true=>
    have ox:Hid (gg els f (els.take (i+1)) l=dE m x.num):=by unfold Hid;rw[HT.out,aq hh]
    clear HT hh;have b3:wr.cell? ⟨b,3,none⟩=some (.slice av m.length cv):=aa HS.out.pb.blk rfl;go_wp2_with fail;refine(sE wr av cv m x.num HS.out.own hml).mono ?_;rintro e W3 ⟨a3,c3,rfl,bA,lT,iG⟩;have r7:PB W3 b px d vm (.slice av m.length cv) cnt vs held:=(lT.block b (bx.1 HS.out.pb).1).trans HS.out.pb;have e3:W3.cell? ⟨b,3,none⟩=some (.slice av m.length cv):=aa r7.blk rfl;have ez:∀k,W3.frozen? ⟨b,k,none⟩=false:=λ_=>ax r7.blk
    have Tq:Hid (SI w b px d els made hp vT bi (.slice (some ⟨g,0,none⟩) els.length cL) vm vy vs cnt held (dE m x.num) (W3.setCell ⟨b,3,none⟩ (.slice a3 (dE m x.num).length c3)) (.slice a3 (dE m x.num).length c3)):=by
     refine⟨?_,bj bA (aB bA r7.blk (by decide)) _,(HS.out.fr.below lT).set (af rfl) _,(HS.out.rd.below lT).setT r7.blk (by decide) (by decide) (by decide) (by decide) _ _,λj hj=>?_⟩
     ·show(W3.setCell _ _).heap[b]?=_;rw[aF r7.blk];rfl
     ·rcases iG.out j hj with h1 | h1
      ·exact HS.out.blk j h1
      ·exact ai (Nat.le_trans HS.out.fr.size h1)
    clear bA lT iG r7 b3 b1 d1 q1 q2 HS;go_wp2;go_roundg (els.length - (i+1))
    case measure=>omega
    case rel=>exact⟨i+1,_,by go_num,by omega,au,by rw[ox.out];exact Tq⟩
  ·have hd:decide ((i:Int)<(els.length:Int))=false:=by simp;omega
   obtain rfl:i=els.length:=by omega
   rw[List.take_length] at HS;have ez:∀k,wr.frozen? ⟨b,k,none⟩=false:=λ_=>ax HS.out.pb.blk;have b4:wr.cell? ⟨b,4,none⟩=some (.int .i64 cnt):=aa HS.out.pb.blk rfl;have b6:wr.cell? ⟨b,6,none⟩=some (.bool held):=aa HS.out.pb.blk rfl;go_wp2;go_end0;refine⟨rfl,av,cv,?_,?_,(HS.out.fr.set (p:=⟨b,4,none⟩) (af rfl) _).set (p:=⟨b,6,none⟩) (af rfl) _,HS.out.blk⟩
   ·have h1:(wr.setCell ⟨b,4,none⟩ (.int .i64 (-1))).heap[b]?=some (.cells #[px,.pointer (some ⟨d,0,none⟩),vm,.slice av (gg els f els l).length cv,.int .i64 (-1),vs,.bool held] 124 (0,0)):=by
     rw[aF HS.out.pb.blk];rfl
    show(World.setCell _ _ _).heap[b]?=_;rw[aF h1];rfl
   ·have fY:=aB HS.out.own HS.out.pb.blk (by decide);exact bj (bj HS.out.own fY _) fY _
end
theorem du (w:World):∀n,Below w.heap.size w (w.drewN n)
 | 0=>bd
 | n+1=>(du w n).drew
def lB (els:List REl)(l:List Nat):List Nat:=l.filter λk=>(bJ els k).isSome
theorem KE {els:List REl}{l:List Nat}{i:Nat}(h:i<l.length):lB els (l.take (i+1))=lB els (l.take i)++if(bJ els (l[i]:Nat)).isSome=true then[l[i]] else[]:=by
 unfold lB;rw[fU h,List.filter_append]
 congr 1
 by_cases e:(bJ els (l[i]:Nat)).isSome=true<;>simp[e]
theorem Pi (els:List REl)(l:List Nat):(lB els l).length<=l.length:=List.length_filter_le _ _
theorem Ph (w:World)(b:Nat)(px:Value)(d:Nat)(els:List REl)(made:Nat)(hp:Option Addr)(vT:Value)(bi:Bool)(vL:Value)(vm vy vs:Value)(cnt:Int)(held:Bool)(a:Option Addr)(c:Nat)(l:List Nat)
  (hb:PB w b px d vm vy cnt vs held) (h:RD w d els made hp vT bi vL) (ho:w.ownsRow 0 3 1 (.slice a l.length c) l.length (bh l)) (hl:l.length<=24) :
  Calls prog 146 #[.pointer (some ⟨b,0,none⟩),.slice a l.length c] w λe w'=>vE w (lB els l) e w':=by
 obtain⟨i0,hi,gx,gA,gB⟩:=info_parts Tryz.info3;have HO:=ae ho;have HR:=ae h;have HB:=ae hb;clear ho h hb;go_enter func146,ntmps146;go_wp2_with fail
 go_loopg [5,6] l.length (λgk v iv wr=>∃i:Nat,iv=.int .i64 i/\i<=l.length/\l.length - i<=gk/\wr.ownsRow w.heap.size 3 1 v (lB els (l.take i)).length (bh (lB els (l.take i)))/\Below w.heap.size w wr)
 case atStart=>exact⟨0,rfl,aZ,by omega,er,bd⟩
 case round=>
  obtain⟨i,rfl,jJ,fS,bL,hB⟩:=hrel;obtain⟨a2,c2,hv⟩:=aA bL;subst hv
  by_cases aU:i<l.length
  ·have hd:decide ((i:Int)<(l.length:Int))=true:=by simp;omega
   obtain⟨g,hg,dn,hc⟩:=aR HO.out (by omega);subst hg;have q:=(hB.cell (p:=⟨g,i,none⟩) dn).trans (hc i (.int .i64 ((l[i]:Nat):Int)) (by simp[aU]))
   have ue:(lB els (l.take i)).length<=24:=by
    have:=Pi els (l.take i);have:(l.take i).length<=l.length:=List.length_take_le' _ _;omega
   have HT:Hid (lB els (l.take (i+1))=lB els (l.take i)++if(bJ els (l[i]:Nat)).isSome=true then[l[i]] else[]):=KE aU;clear hc;generalize lB els (l.take i)=f at bL ue HT;generalize l[i]=y at q HT;have A7:=ae (HR.out.below hB);have b1:wr.cell? ⟨b,1,none⟩=some (.pointer (some ⟨d,0,none⟩)):=(hB.cell (p:=⟨b,1,none⟩) (bx.1 HB.out.blk).1).trans (aa HB.out.blk rfl);have HW:=ae bL;clear bL;have vB:Hid (∀k,Calls prog 92 #[.pointer (some ⟨d,0,none⟩),.int .i64 (y:Int)] (wr.drewN k) λe w'=>e=.returned (fa (bJ els y))/\w'=wr.drewN k):=λk=>eB _ d els made hp vT bi vL y (A7.out.below (du _ _));cases hf:bJ els (y:Int) with
   | none=>
    have QQ:Hid (∀k,Calls prog 92 #[.pointer (some ⟨d,0,none⟩),.int .i64 (y:Int)] (wr.drewN k) λe w'=>e=.returned (.pointer none)/\w'=wr.drewN k):=λk=>by
     have:=vB.out k;rw[hf] at this;exact this
    have ox:Hid (lB els (l.take (i+1))=f):=by unfold Hid;rw[HT.out,hf];simp
    clear hf vB HT;go_upto_region 5 with fail;go_quiet ((go_at_call 92;exact Calls.quiet_of_same (QQ.out _)));have ZC:=hB.trans ((du wr nq).mono hB.size);have UW:=ae (aN HW.out (du wr nq));go_wp2;go_roundg (l.length - (i+1))
    case measure=>omega
    case rel=>exact⟨i+1,by go_num,by omega,au,by rw[ox.out];exact UW.out,ZC⟩
   | some p=>
    have QQ:Hid (∀k,Calls prog 92 #[.pointer (some ⟨d,0,none⟩),.int .i64 (y:Int)] (wr.drewN k) λe w'=>e=.returned (.pointer (some ⟨p.blk,0,none⟩))/\w'=wr.drewN k):=λk=>by
     have:=vB.out k;rw[hf] at this;exact this
    have ox:Hid (lB els (l.take (i+1))=f++[y]):=by unfold Hid;rw[HT.out,hf];simp
    clear hf vB HT;go_upto_region 5 with fail;go_quiet ((go_at_call 92;exact Calls.quiet_of_same (QQ.out _)));have ZC:=hB.trans ((du wr nq).mono hB.size);have UW:=ae (aN HW.out (du wr nq));have q':(wr.drewN nq).cell? ⟨g,i,none⟩=some (.int .i64 (y:Int)):=q;generalize wr.drewN nq=wq at ZC UW q' ⊢;clear q b1 QQ A7 HW;have hz:=ZC.size;go_wp2_with (at_builtin;refine wpList_append_own _ rfl (.tmp 23) (.tmp 28) 40 rfl w.heap.size 3 i0 (.int .i64 0) 1 8 underlying40 hi gx gA gB rfl (by decide) _ _ _ rfl (UW.out.alloc _) ⟨wq.heap.size,0,none⟩ 1 1 [.int .i64 (y:Int)] rfl rfl ?c1 ?c2 ?c3 ?c4 ?c5 ?_)
    case c1=>exact aW wq _ rfl _ _ _ rfl
    case c2=>exact rY y
    case c3=>unfold maxLen;omega
    case c4=>omega
    case c5=>simp;omega
    ·intro v' w3 bU fk _;have bA:w3.ownsRow w.heap.size 3 1 v' (f++[y]).length (bh (f++[y])):=by simpa[bh] using bU
     have fj:Below w.heap.size w w3:=(ZC.alloc hz _).grown fk (by simp;omega) (λk hk=>(UW.out.lt k hk).1);have LP:=ae bA;clear bU fk bA q';go_wp2;go_roundg (l.length - (i+1))
     case measure=>omega
     case rel=>exact⟨i+1,by go_num,by omega,au,by rw[ox.out];exact LP.out,fj⟩
  ·have hd:decide ((i:Int)<(l.length:Int))=false:=by simp;omega
   obtain rfl:i=l.length:=by omega
   rw[List.take_length] at bL;have HW:=ae bL;rw[List.take_length];clear bL;go_wp2;go_ret;exact⟨a2,c2,rfl,HW.out,hB⟩
section
variable {w w':World}
def Drew (w w':World):Prop:=∃k,w'=w.drewN k
theorem Drew.below (h:Drew w w'):Below w.heap.size w w':=by
 obtain⟨k,rfl⟩:=h;exact du w k
theorem kU (h:Drew w w')(n:Nat):Drew w (w'.drewN n):=by
 obtain⟨k,rfl⟩:=h;exact⟨k+n,by rw[World.drewN_drewN]⟩
theorem P0 (w:World)(a a':Option Addr)(c c':Nat)(l:List Nat)(ho:w.ownsRow 0 3 1 (.slice a l.length c) l.length (bh l))(VL:w.ownsRow 0 3 1 (.slice a' l.length c') l.length (bh l))(hl:l.length<=24):
  Calls prog 94 #[.slice a l.length c,.slice a' l.length c'] w λe w'=>e=.returned (.bool true)/\Drew w w':=by
 have HO:=ae ho;have HO':=ae VL;clear ho VL;go_enter func94,ntmps94;go_wp2
 go_loopg [5] l.length (λgk iv wr=>∃i:Nat,iv=.int .i64 i/\i<=l.length/\l.length - i<=gk/\Drew w wr)
 case atStart=>exact⟨0,rfl,aZ,by omega,0,rfl⟩
 case round=>
  obtain⟨i,rfl,jJ,fS,hD'⟩:=hrel;have hD:=ae hD';have Cm:=hD'.below;clear hD'
  by_cases aU:i<l.length
  ·have hd:decide ((i:Int)<(l.length:Int))=true:=by simp;omega
   obtain⟨g,hg,dn,hc⟩:=aR HO.out (by omega);subst hg;have q:=(Cm.cell (p:=⟨g,i,none⟩) dn).trans <| hc i (.int .i64 ((l[i]:Nat):Int)) (by simp[aU])
   clear hc;obtain⟨g',yL,VA,QE⟩:=aR HO'.out (by omega);subst yL;have q':=(Cm.cell (p:=⟨g',i,none⟩) VA).trans <| QE i (.int .i64 ((l[i]:Nat):Int)) (by simp[aU])
   clear QE;go_upto_region 6 with fail;go_quiet (fail);go_wp2;go_roundg (l.length - (i+1))
   case measure=>omega
   case rel=>exact⟨i+1,by go_num,by omega,au,kU hD.out nq⟩
  ·have hd:decide ((i:Int)<(l.length:Int))=false:=by simp;omega
   go_wp2;go_ret;exact⟨rfl,hD.out⟩
end
section
variable {P:Program}{u:Value}
def Stays (u:Value)(w w':World):Prop:=∀p,w.cell? p=some u->w'.cell? p=some u
theorem Stays.trans {a b c:World}(h:Stays u a b)(k:Stays u b c):Stays u a c:=λp hp=>k p (h p hp)
theorem n6 {w w':World}(h:∀k,k<w.heap.size->w'.heap[k]?=w.heap[k]?):Stays u w w':=by
 intro p hp
 have aU:p.block<w.heap.size:=by
  unfold World.cell? at hp;cases hb:w.heap[p.block]? with
  | none=>rw[hb] at hp;simp at hp
  | some o=>exact(bx.1 hb).1
 unfold World.cell? at hp ⊢;rw[h _ aU];exact hp
theorem tN (w:World)(an:Nat)(t ty e:TypeId)(i:TypeInfo)(z:Value)(bytes:Nat)(ht:P.underlying t=some (.slice e))(hi:P.info? e=some i)(hz:i.zero=some z)
  (lV:i.size=1) (QD:i.bytes=bytes) (Ue:z.cells.size=1) (v:Value) (n:Nat) (xs:List Value) (bL:w.ownsRow an e 1 v n xs)
  (a:Addr) (m c:Nat) (u:Value) (qc:∀j,j<m->w.cell? (a.add j)=some u) (h1:u.oneCell'=true)
  (QC:n+m<=maxLen) (mp:(n+m)*bytes<=140737488355328) (wO:an<=w.heap.size) :
  ∃v' w',(Builtin.append_ #[t,t] ty #[v,.slice (some a) m c]).run P w=.ok v' w'/\w'.ownsRow an e 1 v' (n+m) (xs++List.replicate m u)/\w.grownBy w' v.ownBlock/\(∀j,v'.ownBlock=some j->v.ownBlock=some j∨w.heap.size<=j)/\w'.ownsRow an e 1 v n xs/\Stays u w w':=by
 have hl:(List.replicate m u).length=m*1:=by simp
 have Gn:∀j x,(List.replicate m u)[j]?=some x->w.cell? (a.add j)=some x:=λj x hx=>by
  obtain⟨hj,rfl⟩:=dY.1 hx;simp only[List.getElem_replicate];exact qc j (by simpa using hj)
 have sJ:∀x∈List.replicate m u,x.oneCell'=true:=λx hx=>by rw[(List.mem_replicate.1 hx).2];exact h1
 obtain⟨v',w',hr,h2,h3,h4⟩:=kE (P:=P) w an t ty e i z 1 bytes ht hi hz lV QD Ue (by decide) v n xs bL a m c (List.replicate m u) hl Gn sJ QC mp wO;refine⟨v',w',hr,h2,h3,h4,?_⟩;rcases bL.2 with⟨rfl,rfl⟩ | ⟨g,gV,fV,rfl,ZL,hg,hnc,Ig,kf,htake⟩
 ·have hx:xs=[]:=List.eq_nil_of_length_eq_zero (by simpa using bL.1);subst hx;exact⟨er,n6 λk hk=>h3.block k hk (by simp[Value.ownBlock])⟩
 ·by_cases hroom:n+m<=gV
  ·rw[Nat.mul_one] at kf htake;have Ok:n*i.size+(List.replicate m u).length<=fV.size:=by rw[lV];simp;omega
   have DH:=run_append_room (P:=P) w t ty e i ht hi g n gV fV hg a m c (List.replicate m u) (by rw[lV];exact hl) Gn sJ hroom Ok;rw[hr,lV,Nat.mul_one] at DH;injection DH with e1 e2
   subst e1 e2;have hn:=(bx.1 hg).1;have lL:fV.toList.length=gV:=by simpa using kf
   have mU:(w.setRow g (fV.toList.take n++List.replicate m u++fV.toList.drop (n+(List.replicate m u).length)).toArray).heap[g]?=some (.cells (fV.toList.take n++List.replicate m u++fV.toList.drop (n+(List.replicate m u).length)).toArray e (0,0)):=by
    simp[World.setRow,Array.getElem?_modify,hg]
   refine⟨⟨bL.1,ai ⟨g,gV,_,rfl,ZL,mU,hnc,Ig,?_,?_⟩⟩,?_⟩
   ·simp only[List.size_toArray,List.length_append,List.length_take,List.length_replicate,List.length_drop,lL,Nat.mul_one];omega
   ·rw[Nat.mul_one,<-htake];simp only[List.append_assoc];rw[List.take_append_of_le_length (by simp only[List.length_take,lL];omega),List.take_take,Nat.min_self]
   ·intro p hp
    by_cases hpg:p.block=g
    ·unfold World.cell? at hp ⊢;rw[hpg] at hp ⊢;rw[hg] at hp;rw[mU];simp only at hp ⊢;split at hp
     ·cases hp
     ·rename_i Sr;rw[aj Sr];obtain⟨ho,hou⟩:=bx.1 hp;rw[List.getElem?_toArray]
      by_cases h5:p.off<n
      ·rw[List.append_assoc,List.getElem?_append_left (by simp only[List.length_take,lL];omega),List.getElem?_take_of_lt h5];simpa using hp
      ·by_cases h6:p.off<n+m
       ·rw[List.append_assoc,List.getElem?_append_right (by simp only[List.length_take,lL];omega)];rw[List.getElem?_append_left (by simp only[List.length_take,lL,List.length_replicate];omega),List.getElem?_replicate,aq (by simp only[List.length_take,lL];omega)]
       ·rw[List.getElem?_append_right (by simp only[List.length_append,List.length_take,List.length_replicate,lL];omega),List.getElem?_drop]
        have:n+(List.replicate m u).length+(p.off - (List.take n fV.toList++List.replicate m u).length)=p.off:=by
         simp only[List.length_append,List.length_take,List.length_replicate,lL];omega
        rw[this];simpa using hp
    ·have hb:(w.setRow g (fV.toList.take n++List.replicate m u++fV.toList.drop (n+(List.replicate m u).length)).toArray).heap[p.block]?=w.heap[p.block]?:=by
      simp only[World.setRow,Array.getElem?_modify];rw[aj (λh=>hpg h.symm)]
     unfold World.cell? at hp ⊢;rw[hb];exact hp
  ·have Ou:∀j x,xs[j]?=some x->w.cell? ((⟨g,0,none⟩:Addr).add j)=some x:=bL.cells (g:=g) rfl;have Vm:((n+m:Nat):Int)<=9223372036854775807:=by unfold maxLen at QC;omega
   subst QD;have DH:=run_append_grow (P:=P) w t ty e i z ht hi hz ⟨g,0,none⟩ n gV xs (by rw[lV];exact bL.1) Ou a m c (List.replicate m u) (by rw[lV];exact hl) Gn (by omega) Vm (growslice_fits (by omega) mp);rw[hr] at DH;injection DH with _ e2
   subst e2;have yJ:∀(o:Obj) k,k<w.heap.size->(w.drew.alloc o).heap[k]?=w.heap[k]?:=λo k hk=>Below.heap_alloc w.drew o k hk;exact⟨⟨bL.1,ai ⟨g,gV,fV,rfl,ZL,(yJ _ g (bx.1 hg).1).trans hg,hnc,Ig,kf,htake⟩⟩,n6 (yJ _)⟩
theorem fE (w:World){BR:Array Oper}{rest:List Oper}{o:Oper}{a:Act}{Q:Exit->Act->World->Prop}(ZY:o.guard=none)(s x:Operand)(t:TypeId)
  (ho:o.op=.call {callee:=.builtin .append,args:=#[s,x],argTypes:=#[t,t]})
  (an:Nat) (e:TypeId) (i:TypeInfo) (z:Value) (bytes:Nat) (ht:P.underlying t=some (.slice e)) (hi:P.info? e=some i) (hz:i.zero=some z)
  (lV:i.size=1) (QD:i.bytes=bytes) (Ue:z.cells.size=1)
  (v:Value) (n:Nat) (xs:List Value) (hs:a.eval s=v) (bL:w.ownsRow an e 1 v n xs)
  (ad:Addr) (m c:Nat) (u:Value) (hx:a.eval x=.slice (some ad) m c) (qc:∀j,j<m->w.cell? (ad.add j)=some u) (h1:u.oneCell'=true)
  (QC:n+m<=maxLen) (mp:(n+m)*bytes<=140737488355328) (wO:an<=w.heap.size)
  (h:∀v' w',w'.ownsRow an e 1 v' (n+m) (xs++List.replicate m u)->w.grownBy w' v.ownBlock->Hid (∀j,v'.ownBlock=some j->v.ownBlock=some j∨w.heap.size<=j)->w'.ownsRow an e 1 v n xs->Hid (Stays u w w')->wpList P BR Q rest (a.put o.dst v') w'):wpList P BR Q (o :: rest) a w:=by
 refine wpList_plain ZY λK hK=>?_;obtain⟨v',w',Gr,r1,r2,r3,r4,r5⟩:=tN (P:=P) w an t o.type e i z bytes ht hi hz lV QD Ue v n xs bL ad m c u qc h1 QC mp wO;unfold Oper.wp;simp only[execOp,ho,resolve,invoke,builtin,Sem.run_bind,Sem.run_pure,Result.andThen_ok,List.map_toArray,List.map_cons,List.map_nil,hs,hx,Gr];exact hK _ _ (h v' w' r1 r2 r3 r4 r5)
end
section
variable {n:Nat}{u v:Value}{w w':World}
theorem Tryz.info40:(Tryz.prog.info? 40).map (λi=>(i.zero,i.size,i.bytes))=some (some (.slice none 0 0),1,24):=by kernel_rfl
def WB (w:World)(B:Nat)(vD vI vM:Value)(nx:Nat):Prop:=w.heap[B]?=some (.cells #[vD,vI,vM,.int .i64 nx] 67 (0,0))
theorem WB.blk {B:Nat}{vD vI vM:Value}{nx:Nat}(h:WB w B vD vI vM nx):w.heap[B]?=some (.cells #[vD,vI,vM,.int .i64 nx] 67 (0,0)):=h
def Full (w:World)(v:Value)(n:Nat)(u:Value):Prop:=(v=.slice none 0 0/\n=0)∨∃g c,v=.slice (some ⟨g,0,none⟩) n c/\∀i,i<n->w.cell? ⟨g,i,none⟩=some u
theorem lh {an:Nat}{e:TypeId}(h:w.ownsRow an e 1 v n (List.replicate n u)):Full w v n u:=by
 rcases h.2 with hn | ⟨g,gV,fV,rfl,_,_⟩
 ·exact af hn
 ·refine ai ⟨g,gV,rfl,λi hi=>?_⟩;have:=h.cells (g:=g) rfl i u (by rw[List.getElem?_replicate,aq hi]);rwa[Go.WideShapes.add_plain,Nat.zero_add] at this
theorem Full.stays (h:Full w v n u)(hs:Stays u w w'):Full w' v n u:=by
 rcases h with hn | ⟨g,c,hv,hc⟩
 ·exact af hn
 ·exact ai ⟨g,c,hv,λi hi=>hs _ (hc i hi)⟩
theorem Full.blk (h:Full w v n u)(hs:∀g,v.ownBlock=some g->g<w.heap.size->w'.heap[g]?=w.heap[g]?):Full w' v n u:=by
 rcases h with hn | ⟨g,c,hv,hc⟩
 ·exact af hn
 ·refine ai ⟨g,c,hv,λi hi=>?_⟩;have h1:=hc i hi
  have aU:g<w.heap.size:=by
   unfold World.cell? at h1;cases hb:w.heap[g]? with
   | none=>simp only[hb] at h1;cases h1
   | some o=>exact(bx.1 hb).1
  have h2:=hs g (by rw[hv];rfl) aU;unfold World.cell? at h1 ⊢;rw[h2];exact h1
def Zu (B:Nat)(v vI vM:Value)(k:Nat):Prop:=k=B∨v.ownBlock=some k∨vI.ownBlock=some k∨vM.ownBlock=some k
structure OS (w wr:World)(B:Nat)(vD vI vM:Value)(nx:Nat)(v:Value)(n:Nat)(xs:List Value)(ni nm:Nat)(Fo E6:List Value):Prop where
 wb:WB wr B vD vI vM nx
 row:wr.ownsRow 0 3 1 v n xs
 rowI:wr.ownsRow 0 40 1 vI ni Fo
 rowM:wr.ownsRow 0 3 1 vM nm E6
 fr:Fr w wr (Zu B v vI vM)
 ne:∀j,v.ownBlock=some j->vM.ownBlock≠some j
section
variable {w wr:World}{B:Nat}{vD vI vM:Value}{nx:Nat}{v:Value}{n:Nat}{xs:List Value}{ni nm:Nat}{Fo E6:List Value}
theorem OS.alloc (h:OS w wr B vD vI vM nx v n xs ni nm Fo E6)(o:Obj):OS w (wr.alloc o) B vD vI vM nx v n xs ni nm Fo E6:=
 ⟨(Below.heap_alloc wr o B (bx.1 h.wb.blk).1).trans h.wb,h.row.alloc o,h.rowI.alloc o,h.rowM.alloc o,h.fr.alloc o,h.ne⟩
theorem OS.app (h:OS w wr B vD vI vM nx v n xs ni nm Fo E6){w2:World}(hg:wr.grownBy w2 v.ownBlock){xs':List Value}(ho:w2.ownsRow 0 3 1 v n xs'):OS w w2 B vD vI vM nx v n xs' ni nm Fo E6:=by
 have hI:vI.ownBlock=none∨vI.ownBlock≠v.ownBlock:=by
  cases hv:v.ownBlock with
  | none=>cases vI.ownBlock<;>simp
  | some g=>
   refine ai λe=>?_;rcases h.row.2 with⟨rfl,_⟩ | ⟨g',_,fV,rfl,_,yL,_⟩
   ·simp[Value.ownBlock] at hv
   ·simp[Value.ownBlock] at hv;subst hv;exact aB h.rowI yL (by decide) e
 have hM:vM.ownBlock=none∨vM.ownBlock≠v.ownBlock:=by
  cases hv:v.ownBlock with
  | none=>cases vM.ownBlock<;>simp
  | some g=>exact ai (h.ne g hv)
 exact⟨(hg.block B (bx.1 h.wb.blk).1 (λe=>aB h.row h.wb.blk (by decide) e.symm)).trans h.wb,ho,h.rowI.kept hg hI,h.rowM.kept hg hM,h.fr.gb hg (λk hk=>af (ai (af hk))),h.ne⟩
end
theorem P4 {xs:List Value}{i:Nat}(u:Value)(h:i<xs.length):(List.replicate i u++xs.drop i).set i u=List.replicate (i+1) u++xs.drop (i+1):=by
 rw[List.set_append,aj (by simp),List.length_replicate,Nat.sub_self,List.drop_eq_getElem_cons h,List.set_cons_zero,List.replicate_succ',List.append_assoc];rfl
def uX (w:World)(B:Nat)(vD vI vM:Value)(nx:Nat)(v:Value)(n:Nat)(ni nm:Nat)(Fo E6:List Value)(e:Ending)(w':World):Prop:=
 e=.returned (.tuple #[])/\∃sB sC v1 v2 v3,WB w' B vD sB sC (nx+1)/\w'.ownsRow 0 40 1 sB (ni+4) (Fo++[v,v1,v2,v3])/\w'.ownsRow 0 3 1 sC (nm+4) (E6++List.replicate 4 (.int .i64 (-((nx:Int)+1))))/\
  Full w' v n (.int .i64 (-((nx:Int)+1)))/\Full w' v1 (n+1) (.int .i64 (-((nx:Int)+1)))/\Full w' v2 (n+2) (.int .i64 (-((nx:Int)+1)))/\Full w' v3 (n+3) (.int .i64 (-((nx:Int)+1)))/\
  Fr w w' (Zu B v vI vM)/\(∀x,x=v1∨x=v2∨x=v3->∀j,x.ownBlock=some j->v.ownBlock=some j∨w.heap.size<=j)/\(∀j,sB.ownBlock=some j->vI.ownBlock=some j∨w.heap.size<=j)/\(∀j,sC.ownBlock=some j->vM.ownBlock=some j∨w.heap.size<=j)/\
  (∀x,x=v1∨x=v2∨x=v3->∀j,x.ownBlock=some j->sB.ownBlock≠some j/\sC.ownBlock≠some j)
theorem Full.lt (h:Full w v n u)(hn:0<n):∀j,v.ownBlock=some j->j<w.heap.size:=by
 intro j hj;rcases h with⟨rfl,rfl⟩ | ⟨g,c,rfl,hc⟩
 ·omega
 ·have h1:=hc 0 hn;obtain rfl:g=j:=by simpa[Value.ownBlock] using hj
  unfold World.cell? at h1;cases hb:w.heap[g]? with
  | none=>simp only[hb] at h1;cases h1
  | some o=>exact(bx.1 hb).1
theorem nN (w:World)(cs:Array Value)(t:TypeId)(j:Nat):(w.alloc (.cells cs t)).cell? ((⟨w.heap.size,0,none⟩:Addr).add j)=cs[j]?:=by
 rw[Go.WideShapes.add_plain,Nat.zero_add];unfold World.cell?;simp only[heap_alloc_new w];rfl
theorem pE (u:Value)(w:World)(o:Obj):Stays u w (w.alloc o):=n6 λk hk=>Below.heap_alloc w o k hk
theorem qF (i m:Nat)(u:Value):List.replicate i u++List.replicate m u=List.replicate (i+m) u:=List.replicate_append_replicate
theorem IK (w:World)(B:Nat)(vD vI vM:Value)(nx:Nat)(a:Option Addr)(c:Nat)(n:Nat)(xs:List Value)(ni nm:Nat)(Fo E6:List Value)(h:OS w w B vD vI vM nx (.slice a n c) n xs ni nm Fo E6)
  (hn:n<=24) (pK:nx<=1099511627776) (hni:ni<=1099511627776) (uf:nm<=1099511627776) :
  Calls prog 95 #[.pointer (some ⟨B,0,none⟩),.slice a n c] w λe w'=>uX w B vD vI vM nx (.slice a n c) n ni nm Fo E6 e w':=by
 obtain⟨i0,hi,gx,gA,gB⟩:=info_parts Tryz.info3;obtain⟨j0,hj,jz0,jz1,jz2⟩:=info_parts Tryz.info40;have b3:w.cell? ⟨B,3,none⟩=some (.int .i64 nx):=aa h.wb.blk rfl;have bz:∀k,w.frozen? ⟨B,k,none⟩=false:=λ_=>ax h.wb.blk
 have Jp:Hid (OS w (w.setCell ⟨B,3,none⟩ (.int .i64 ((nx:Int)+1))) B vD vI vM (nx+1) (.slice a n c) n xs ni nm Fo E6):=by
  refine⟨?_,bj h.row (aB h.row h.wb.blk (by decide)) _,bj h.rowI (aB h.rowI h.wb.blk (by decide)) _,bj h.rowM (aB h.rowM h.wb.blk (by decide)) _,(Fr.refl w _).set (af (af rfl)) _,h.ne⟩;show(World.setCell _ _ _).heap[B]?=_;rw[aF h.wb.blk];rfl
 have HA:Hid (∀g,((Value.slice a n c).ownBlock=some g∨w.heap.size<=g)->vI.ownBlock≠some g/\vM.ownBlock≠some g/\g≠B):=by
  intro g hg;rcases hg with hg | hg
  ·rcases h.row.2 with⟨h1,_⟩ | ⟨g',_,fV,h1,_,yL,_⟩
   ·rw[h1] at hg;simp[Value.ownBlock] at hg
   ·rw[h1] at hg;simp[Value.ownBlock] at hg;subst hg;refine⟨aB h.rowI yL (by decide),h.ne _ (by rw[h1];rfl),λe=>?_⟩;subst e;have h3:=h.wb.blk;rw[yL] at h3;injection h3 with h3
    injection h3 with _ h4 _
    exact absurd h4 (by decide)
  ·have h1:=(bx.1 h.wb.blk).1;exact⟨λe=>by have:=(h.rowI.lt g e).2;omega,λe=>by have:=(h.rowM.lt g e).2;omega,by omega⟩
 have VS:xs.length=n:=by have:=h.row.1;omega
 have Tv:=ae VS;clear h VS;go_enter func95,ntmps95;go_wp2_with fail;generalize Fi:(-((nx:Int)+1))=mk;have Qu:=ae Fi;clear Fi;obtain⟨W1,TS⟩:∃W1,W1=w.setCell ⟨B,3,none⟩ (.int .i64 ((nx:Int)+1)):=⟨_,rfl⟩;rw[<-TS] at Jp ⊢;clear TS b3 bz
 go_loopg [5] n (λgk iv wr=>∃i:Nat,iv=.int .i64 i/\i<=n/\n - i<=gk/\Hid (OS w wr B vD vI vM (nx+1) (.slice a n c) n (List.replicate i (.int .i64 mk)++xs.drop i) ni nm Fo E6))
 case atStart=>exact⟨0,rfl,aZ,by omega,Jp⟩
 case round=>
  obtain⟨i,rfl,jJ,fS,HS⟩:=hrel
  by_cases aU:i<n
  ·have hd:decide ((i:Int)<(n:Int))=true:=by simp;omega
   obtain⟨g,rfl⟩:∃g,a=some ⟨g,0,none⟩:=by
    rcases HS.out.row.2 with⟨h,h0⟩ | ⟨g,_,_,h,_⟩
    ·omega
    ·injection h with h;exact⟨g,h⟩
   have q:wr.cell? ⟨g,i,none⟩=(List.replicate i (Value.int .i64 mk)++xs.drop i)[i]?:=HS.out.row.cellAt i (by omega);rw[List.getElem?_append_right (by simp),List.length_replicate,Nat.sub_self,List.getElem?_drop,Nat.add_zero,bO (by rw[Tv.out];exact aU)] at q;have qz:=HS.out.row.frozenAt i;have DJ:=HS.out.row.stored i (.int .i64 mk);rw[P4 _ (by rw[Tv.out];exact aU)] at DJ;have sF:=ae (HS.out.app DJ.2 DJ.1);clear DJ HS;generalize xs[i]'(by rw[Tv.out];exact aU)=gE at q;go_wp2;go_roundg (n - (i+1))
   case measure=>omega
   case rel=>exact⟨i+1,by go_num,by omega,au,sF⟩
  ·have hd:decide ((i:Int)<(n:Int))=false:=by simp;omega
   obtain rfl:i=n:=by omega
   have qX:List.replicate i (Value.int .i64 mk)++xs.drop i=List.replicate i (.int .i64 mk):=by rw[List.drop_of_length_le (by rw[Tv.out];exact au),List.append_nil]
   rw[qX] at HS;clear qX;have acL:=HS.out.fr.size;have HF0:=ae (lh HS.out.row);go_wp2_with (at_builtin;refine fE _ rfl (.tmp 31) (.tmp 33) 40 rfl 0 3 i0 (.int .i64 0) 8 underlying40 hi gx gA gB rfl _ _ _ rfl (HS.out.alloc _).row ⟨wr.heap.size,0,none⟩ 1 1 (.int .i64 mk) rfl ?c1 rfl ?c3 ?c4 ?c5 ?_)
   case c1=>intro j hj;rw[nN];match j,hj with | 0,_=>rfl
   case c3=>unfold maxLen;omega
   case c4=>omega
   case c5=>exact aZ
   intro v1 w2 pc Dy eg Pk acf;have Ui:w2.ownsRow 0 3 1 v1 (i+1) (List.replicate (i+1) (.int .i64 mk)):=by rw[<-qF];simpa using pc
   replace pc:=Ui;clear Ui;have sF:=ae ((HS.out.alloc _).app Dy Pk);have zj:=bT (lh Pk) (lh pc);have kJ:Hid (∀j,v1.ownBlock=some j->(Value.slice a i c).ownBlock=some j∨w.heap.size<=j):=λj hj=>(eg.out j hj).imp id (λh=>by first | omega | (simp at h;omega));obtain⟨a1,c1,Ip⟩:=aA pc;subst Ip;have acM:=sF.out.fr.size;clear pc Dy eg Pk acf HS HF0 acL;go_wp2_with (at_builtin;refine fE _ rfl (.tmp 35) (.tmp 38) 40 rfl 0 3 i0 (.int .i64 0) 8 underlying40 hi gx gA gB rfl _ _ _ rfl (sF.out.alloc _).row ⟨w2.heap.size,0,none⟩ 2 2 (.int .i64 mk) rfl ?c1 rfl ?c3 ?c4 ?c5 ?_)
   case c1=>intro j hj;rw[nN];match j,hj with | 0,_=>rfl | 1,_=>rfl
   case c3=>unfold maxLen;omega
   case c4=>omega
   case c5=>exact aZ
   intro v2 w3 di ij eD Pm XE;have Uj:w3.ownsRow 0 3 1 v2 (i+2) (List.replicate (i+2) (.int .i64 mk)):=by rw[<-qF];simpa using di
   replace di:=Uj;clear Uj;have Tq:=ae ((sF.out.alloc _).app ij Pm);have sO:Hid (Full w3 (.slice a i c) i (.int .i64 mk)/\Full w3 (.slice a1 (i+1) c1) (i+1) (.int .i64 mk)/\Full w3 v2 (i+2) (.int .i64 mk)):=⟨lh Pm,zj.out.2.stays ((pE _ _ _).trans XE.out),lh di⟩;have e9:Hid (∀j,v2.ownBlock=some j->(Value.slice a i c).ownBlock=some j∨w.heap.size<=j):=λj hj=>(eD.out j hj).imp id (λh=>by first | omega | (simp at h;omega));obtain⟨a2,c2,jC⟩:=aA di;subst jC;have acN:=Tq.out.fr.size;clear di ij eD Pm XE sF zj acM;go_wp2_with (at_builtin;refine fE _ rfl (.tmp 40) (.tmp 44) 40 rfl 0 3 i0 (.int .i64 0) 8 underlying40 hi gx gA gB rfl _ _ _ rfl (Tq.out.alloc _).row ⟨w3.heap.size,0,none⟩ 3 3 (.int .i64 mk) rfl ?c1 rfl ?c3 ?c4 ?c5 ?_)
   case c1=>intro j hj;rw[nN];match j,hj with | 0,_=>rfl | 1,_=>rfl | 2,_=>rfl
   case c3=>unfold maxLen;omega
   case c4=>omega
   case c5=>exact aZ
   intro v3 w4 bA fk iG Pn UU;have Uk:w4.ownsRow 0 3 1 v3 (i+3) (List.replicate (i+3) (.int .i64 mk)):=by rw[<-qF];simpa using bA
   replace bA:=Uk;clear Uk;have Jq:=ae ((Tq.out.alloc _).app fk Pn)
   have Jj:Hid (Full w4 (.slice a i c) i (.int .i64 mk)/\Full w4 (.slice a1 (i+1) c1) (i+1) (.int .i64 mk)/\Full w4 (.slice a2 (i+2) c2) (i+2) (.int .i64 mk)/\Full w4 v3 (i+3) (.int .i64 mk)):=
    ⟨lh Pn,sO.out.2.1.stays ((pE _ _ _).trans UU.out),sO.out.2.2.stays ((pE _ _ _).trans UU.out),lh bA⟩
   have og:Hid (∀j,v3.ownBlock=some j->(Value.slice a i c).ownBlock=some j∨w.heap.size<=j):=λj hj=>(iG.out j hj).imp id (λh=>by first | omega | (simp at h;omega));obtain⟨a3,c3,yS⟩:=aA bA;subst yS;have ahw:=Jq.out.fr.size;clear bA fk iG Pn UU Tq sO acN;obtain⟨aI,cI,hvI⟩:=aA Jq.out.rowI;subst hvI;obtain⟨aM,cM,hvM⟩:=aA Jq.out.rowM;subst hvM;have wb4:=Jq.out.wb.blk;have b1:w4.cell? ⟨B,1,none⟩=some (.slice aI ni cI):=aa wb4 rfl;have HBl:=ae ((bx.1 wb4).1);clear wb4;go_wp2_with (at_builtin;refine eW _ rfl (.tmp 50) (.tmp 55) 65 rfl 0 40 j0 (.slice none 0 0) 1 24 underlying65 hj jz0 jz1 jz2 rfl (by decide) _ _ _ rfl (Jq.out.rowI.alloc _) ⟨w4.heap.size,0,none⟩ 4 4 [.slice a i c,.slice a1 (i+1) c1,.slice a2 (i+2) c2,.slice a3 (i+3) c3] rfl rfl ?c1 ?c2 ?c3 ?c4 ?c5 ?_)
   case c1=>exact aW w4 _ rfl _ _ _ rfl
   case c2=>intro u hu;simp only[List.mem_cons,List.not_mem_nil,or_false] at hu;rcases hu with rfl | rfl | rfl | rfl<;>rfl
   case c3=>unfold maxLen;omega
   case c4=>omega
   case c5=>exact aZ
   intro v5 w5 bR jf ql
   have HFB:Hid (∀(wa wb:World),(∀g,((Value.slice a i c).ownBlock=some g∨w.heap.size<=g)->g<wa.heap.size->wb.heap[g]?=wa.heap[g]?)->(Full wa (.slice a i c) i (.int .i64 mk)/\Full wa (.slice a1 (i+1) c1) (i+1) (.int .i64 mk)/\Full wa (.slice a2 (i+2) c2) (i+2) (.int .i64 mk)/\Full wa (.slice a3 (i+3) c3) (i+3) (.int .i64 mk))->
     (Full wb (.slice a i c) i (.int .i64 mk)/\Full wb (.slice a1 (i+1) c1) (i+1) (.int .i64 mk)/\Full wb (.slice a2 (i+2) c2) (i+2) (.int .i64 mk)/\Full wb (.slice a3 (i+3) c3) (i+3) (.int .i64 mk))):=λwa wb J3 hf=>
    ⟨hf.1.blk (λg hg hl=>J3 g (af hg) hl),hf.2.1.blk (λg hg hl=>J3 g (kJ.out g hg) hl),hf.2.2.1.blk (λg hg hl=>J3 g (e9.out g hg) hl),hf.2.2.2.blk (λg hg hl=>J3 g (og.out g hg) hl)⟩
   have aiK:w4.heap.size<w5.heap.size:=by have:=jf.size;simp at this;omega
   have Sv:∀k,k<w4.heap.size->(Value.slice aI ni cI).ownBlock≠some k->w5.heap[k]?=w4.heap[k]?:=λk hk hn=>(jf.block k (by simp;omega) (λe=>hn e.symm)).trans (Below.heap_alloc _ _ _ hk);have Gf:=HFB.out w4 w5 (λg hA hl=>Sv g hl (HA.out g hA).1) Jj.out;have Wa:w5.heap[B]?=some (.cells #[vD,.slice aI ni cI,.slice aM nm cM,.int .i64 ((nx+1:Nat):Int)] 67 (0,0)):=(Sv B HBl.out (aB Jq.out.rowI Jq.out.wb.blk (by decide))).trans Jq.out.wb.blk
   have PW:w5.ownsRow 0 3 1 (.slice aM nm cM) nm E6:=by
    refine⟨Jq.out.rowM.1,?_⟩;rcases Jq.out.rowM.2 with h | ⟨g,gV,fV,h1,h2,h3,h4⟩
    ·exact af h
    ·exact ai ⟨g,gV,fV,h1,h2,(Sv g (bx.1 h3).1 (aB Jq.out.rowI h3 (by decide))).trans h3,h4⟩
   have fr5:Fr w w5 (Zu B (.slice a i c) (.slice aI ni cI) (.slice aM nm cM)):=(Jq.out.fr.alloc _).gb jf (λk hk=>af (ai (ai (af hk))))
   have HX5:Hid (∀x,x=Value.slice a1 (i+1) c1∨x=Value.slice a2 (i+2) c2∨x=Value.slice a3 (i+3) c3->∀j,x.ownBlock=some j->v5.ownBlock≠some j):=by
    intro x hx j hj h5
    have aU:j<w4.heap.size/\((Value.slice a i c).ownBlock=some j∨w.heap.size<=j):=by
     rcases hx with rfl | rfl | rfl
     ·exact⟨Jj.out.2.1.lt (by omega) j hj,kJ.out j hj⟩
     ·exact⟨Jj.out.2.2.1.lt (by omega) j hj,e9.out j hj⟩
     ·exact⟨Jj.out.2.2.2.lt (by omega) j hj,og.out j hj⟩
    rcases ql.out j h5 with h | h
    ·exact(HA.out j aU.2).1 h
    ·have:=aU.1
     first | omega | (simp at h;omega)
   have tX:Hid (∀j,v5.ownBlock=some j->(Value.slice aI ni cI).ownBlock=some j∨w.heap.size<=j):=λj hj=>(ql.out j hj).imp id (λh=>by first | omega | (simp at h;omega));obtain⟨a5,c5,Gt⟩:=aA bR;subst Gt;have e1:w5.cell? ⟨B,1,none⟩=some (.slice aI ni cI):=aa Wa rfl;have e2:w5.cell? ⟨B,2,none⟩=some (.slice aM nm cM):=aa Wa rfl;have ez:∀k,w5.frozen? ⟨B,k,none⟩=false:=λ_=>ax Wa;have wb6:(w5.setCell ⟨B,1,none⟩ (.slice a5 (ni+4) c5)).heap[B]?=some (.cells #[vD,.slice a5 (ni+4) c5,.slice aM nm cM,.int .i64 ((nx+1:Nat):Int)] 67 (0,0)):=by rw[aF Wa];rfl
   have Ur:=bj PW (aB PW Wa (by decide)) (p:=⟨B,1,none⟩) (.slice a5 (ni+4) c5);have Up:=bj bR (aB bR Wa (by decide)) (p:=⟨B,1,none⟩) (.slice a5 (ni+4) c5);have fr6:=fr5.set (p:=⟨B,1,none⟩) (af (af rfl)) (.slice a5 (ni+4) c5);have Ih:=HFB.out w5 (w5.setCell ⟨B,1,none⟩ (.slice a5 (ni+4) c5)) (λg hA _=>Below.heap_setCell _ _ _ _ (HA.out g hA).2.2) Gf
   have tY:Hid ((w5.setCell ⟨B,1,none⟩ (.slice a5 (ni+4) c5)).heap[B]?=some (.cells #[vD,.slice a5 (ni+4) c5,.slice aM nm cM,.int .i64 ((nx+1:Nat):Int)] 67 (0,0))/\(w5.setCell ⟨B,1,none⟩ (.slice a5 (ni+4) c5)).ownsRow 0 3 1 (.slice aM nm cM) nm E6/\(w5.setCell ⟨B,1,none⟩ (.slice a5 (ni+4) c5)).ownsRow 0 40 1 (.slice a5 (ni+4) c5) (ni+4) (Fo++[.slice a i c,.slice a1 (i+1) c1,.slice a2 (i+2) c2,.slice a3 (i+3) c3])/\Fr w (w5.setCell ⟨B,1,none⟩ (.slice a5 (ni+4) c5)) (Zu B (.slice a i c) (.slice aI ni cI) (.slice aM nm cM))/\
    (Full (w5.setCell ⟨B,1,none⟩ (.slice a5 (ni+4) c5)) (.slice a i c) i (.int .i64 mk)/\Full (w5.setCell ⟨B,1,none⟩ (.slice a5 (ni+4) c5)) (.slice a1 (i+1) c1) (i+1) (.int .i64 mk)/\Full (w5.setCell ⟨B,1,none⟩ (.slice a5 (ni+4) c5)) (.slice a2 (i+2) c2) (i+2) (.int .i64 mk)/\Full (w5.setCell ⟨B,1,none⟩ (.slice a5 (ni+4) c5)) (.slice a3 (i+3) c3) (i+3) (.int .i64 mk))):=⟨wb6,Ur,Up,fr6,Ih⟩
   clear wb6 Ur Up fr6 Ih Wa PW fr5 Gf Sv bR jf ql Jq Jj b1;go_upto_region 10 with fail;obtain⟨W6,Dr⟩:∃W6,W6=w5.setCell ⟨B,1,none⟩ (.slice a5 (ni+4) c5):=⟨_,rfl⟩;rw[<-Dr] at tY ⊢;clear Dr e1 e2 ez;have ahx:=tY.out.2.2.2.1.size;have e2:W6.cell? ⟨B,2,none⟩=some (.slice aM nm cM):=aa tY.out.1 rfl;go_wp2_with (at_builtin;refine fE _ rfl (.tmp 63) (.tmp 68) 40 rfl 0 3 i0 (.int .i64 0) 8 underlying40 hi gx gA gB rfl _ _ _ rfl (tY.out.2.1.alloc _) ⟨W6.heap.size,0,none⟩ 4 4 (.int .i64 mk) rfl ?c1 rfl ?c3 ?c4 ?c5 ?_)
   case c1=>intro j hj;rw[nN];match j,hj with | 0,_=>rfl | 1,_=>rfl | 2,_=>rfl | 3,_=>rfl
   case c3=>unfold maxLen;omega
   case c4=>omega
   case c5=>exact aZ
   intro v7 w7 BS hg7 HB7 _ _;have IJ:w7.ownsRow 0 3 1 v7 (nm+4) (E6++List.replicate 4 (.int .i64 mk)):=by simpa using BS
   have Sw:∀k,k<W6.heap.size->(Value.slice aM nm cM).ownBlock≠some k->w7.heap[k]?=W6.heap[k]?:=λk hk hn=>(hg7.block k (by simp;omega) (λe=>hn e.symm)).trans (Below.heap_alloc _ _ _ hk);have hB6:=(bx.1 tY.out.1).1;have WU:=(Sw B hB6 (aB tY.out.2.1 tY.out.1 (by decide))).trans tY.out.1;have TU:=HFB.out W6 w7 (λg hA hl=>Sw g hl (HA.out g hA).2.1) tY.out.2.2.2.2
   have PV:w7.ownsRow 0 40 1 (.slice a5 (ni+4) c5) (ni+4) (Fo++[.slice a i c,.slice a1 (i+1) c1,.slice a2 (i+2) c2,.slice a3 (i+3) c3]):=by
    refine⟨tY.out.2.2.1.1,?_⟩;rcases tY.out.2.2.1.2 with h | ⟨g,gV,fV,h1,h2,h3,h4⟩
    ·exact af h
    ·exact ai ⟨g,gV,fV,h1,h2,(Sw g (bx.1 h3).1 (aB tY.out.2.1 h3 (by decide))).trans h3,h4⟩
   have WE:Fr w w7 (Zu B (.slice a i c) (.slice aI ni cI) (.slice aM nm cM)):=(tY.out.2.2.2.1.alloc _).gb hg7 (λk hk=>af (ai (ai (ai hk))))
   have HX7:Hid (∀x,x=Value.slice a1 (i+1) c1∨x=Value.slice a2 (i+2) c2∨x=Value.slice a3 (i+3) c3->∀j,x.ownBlock=some j->v7.ownBlock≠some j):=by
    intro x hx j hj h5
    have aU:j<W6.heap.size/\((Value.slice a i c).ownBlock=some j∨w.heap.size<=j):=by
     rcases hx with rfl | rfl | rfl
     ·exact⟨tY.out.2.2.2.2.2.1.lt (by omega) j hj,kJ.out j hj⟩
     ·exact⟨tY.out.2.2.2.2.2.2.1.lt (by omega) j hj,e9.out j hj⟩
     ·exact⟨tY.out.2.2.2.2.2.2.2.lt (by omega) j hj,og.out j hj⟩
    rcases HB7.out j h5 with h | h
    ·exact(HA.out j aU.2).2.1 h
    ·have:=aU.1
     first | omega | (simp at h;omega)
   have HN7:Hid (∀j,v7.ownBlock=some j->(Value.slice aM nm cM).ownBlock=some j∨w.heap.size<=j):=λj hj=>(HB7.out j hj).imp id (λh=>by first | omega | (simp at h;omega));obtain⟨a7,c7,hv7⟩:=aA IJ;subst hv7;have e2':w7.cell? ⟨B,2,none⟩=some (.slice aM nm cM):=aa WU rfl;have ez:∀k,w7.frozen? ⟨B,k,none⟩=false:=λ_=>ax WU;have wb8:(w7.setCell ⟨B,2,none⟩ (.slice a7 (nm+4) c7)).heap[B]?=some (.cells #[vD,.slice a5 (ni+4) c5,.slice a7 (nm+4) c7,.int .i64 ((nx+1:Nat):Int)] 67 (0,0)):=by rw[aF WU];rfl
   have Us:=bj IJ (aB IJ WU (by decide)) (p:=⟨B,2,none⟩) (.slice a7 (nm+4) c7);have Uq:=bj PV (aB PV WU (by decide)) (p:=⟨B,2,none⟩) (.slice a7 (nm+4) c7);have fr8:=WE.set (p:=⟨B,2,none⟩) (af (af rfl)) (.slice a7 (nm+4) c7);have ZQ:=HFB.out w7 (w7.setCell ⟨B,2,none⟩ (.slice a7 (nm+4) c7)) (λg hA _=>Below.heap_setCell _ _ _ _ (HA.out g hA).2.2) TU
   have abQ:Hid (uX w B vD (.slice aI ni cI) (.slice aM nm cM) nx (.slice a i c) i ni nm Fo E6 (.returned (.tuple #[])) (w7.setCell ⟨B,2,none⟩ (.slice a7 (nm+4) c7))):=by
    unfold Hid uX;rw[Qu.out];refine⟨rfl,.slice a5 (ni+4) c5,.slice a7 (nm+4) c7,.slice a1 (i+1) c1,.slice a2 (i+2) c2,.slice a3 (i+3) c3,wb8,Uq,Us,ZQ.1,ZQ.2.1,ZQ.2.2.1,ZQ.2.2.2,fr8,?_,tX.out,HN7.out,λx hx j hj=>⟨HX5.out x hx j hj,HX7.out x hx j hj⟩⟩;rintro x (rfl | rfl | rfl)
    ·exact kJ.out
    ·exact e9.out
    ·exact og.out
   clear wb8 Us Uq fr8 ZQ WU TU PV WE Sw BS IJ hg7 HB7 tY e2 hB6;go_wp2;go_end0;exact abQ.out
end
section
variable {n:Nat}{u:Value}{w:World}
structure sM where
 v:Value
 n:Nat
 m:Int
def LK (w:World)(B:Nat)(vD vI vM:Value)(nx:Nat)(es:List sM):Prop:=
 WB w B vD vI vM nx/\w.ownsRow 0 40 1 vI es.length (es.map sM.v)/\w.ownsRow 0 3 1 vM es.length (es.map λe=>.int .i64 e.m)/\∀e∈es,Full w e.v e.n (.int .i64 e.m)/\e.n<=1099511627776
theorem Full.shape {v:Value}(h:Full w v n u):∃a c,v=.slice a n c:=by
 rcases h with⟨rfl,rfl⟩ | ⟨g,c,rfl,_⟩
 ·exact⟨_,_,rfl⟩
 ·exact⟨_,_,rfl⟩
theorem Full.at' {a:Option Addr}{c:Nat}(h:Full w (.slice a n c) n u){i:Nat}(hi:i<n):∃g,a=some ⟨g,0,none⟩/\w.cell? ⟨g,i,none⟩=some u/\g<w.heap.size:=by
 rcases h with⟨_,rfl⟩ | ⟨g,c',hv,hc⟩
 ·omega
 ·injection hv with hv _ _
  refine⟨g,hv,hc i hi,?_⟩;have h1:=hc i hi;unfold World.cell? at h1;cases hb:w.heap[g]? with
  | none=>simp only[hb] at h1;cases h1
  | some o=>exact(bx.1 hb).1
theorem Gw (w:World)(B:Nat)(vD vI vM:Value)(nx:Nat)(es:List sM)(h:LK w B vD vI vM nx es)(Oi:es.length<=1099511627776):
  Calls prog 35 #[.pointer (some ⟨B,0,none⟩)] w λe w'=>e=.returned (.bool true)/\Drew w w':=by
 obtain⟨wb,rI,rM,hf⟩:=h;obtain⟨aI,cI,hvI⟩:=aA rI;subst hvI;obtain⟨aM,cM,hvM⟩:=aA rM;subst hvM;have c1:w.cell? ⟨B,1,none⟩=some (.slice aI es.length cI):=aa wb.blk rfl;have c2:w.cell? ⟨B,2,none⟩=some (.slice aM es.length cM):=aa wb.blk rfl;have Vo:=(bx.1 wb.blk).1;have HI:=ae rI;have HM:=ae rM;have HF:=ae hf;clear rI rM hf wb;go_enter func35,ntmps35;go_wp2
 go_loopg [3] es.length (λgk iv wr=>∃i:Nat,iv=.int .i64 i/\i<=es.length/\es.length - i<=gk/\Hid (Drew w wr))
 case atStart=>exact⟨0,rfl,aZ,by omega,0,rfl⟩
 case round=>
  obtain⟨i,rfl,jJ,fS,hD⟩:=hrel;have Cm:=hD.out.below;have d1:=(Cm.cell (p:=⟨B,1,none⟩) Vo).trans c1;have d2:=(Cm.cell (p:=⟨B,2,none⟩) Vo).trans c2
  by_cases aU:i<es.length
  ·have hd:decide ((i:Int)<(es.length:Int))=true:=by simp;omega
   obtain⟨g,hg,dn,hc⟩:=aR HI.out (by omega);subst hg;have q0:=hc i (es[i].v) (by simp[aU]);clear hc;obtain⟨g',yL,VA,QE⟩:=aR HM.out (by omega);subst yL;have r0:=QE i (.int .i64 es[i].m) (by simp[aU]);clear QE;obtain⟨uP,Cq⟩:=HF.out es[i] (bK aU);generalize es[i]=y at q0 r0 uP Cq;obtain⟨ay,cy,hy⟩:=uP.shape;rw[hy] at q0 uP;have q1:=(Cm.cell (p:=⟨g,i,none⟩) dn).trans q0;have HFY:=ae uP;clear uP hy;go_wp2_with fail
   go_loopg [4] y.n (λJY jv wq=>∃j:Nat,jv=.int .i64 j/\j<=y.n/\y.n - j<=JY/\Hid (Drew w wq))
   case atStart=>exact⟨0,rfl,aZ,by omega,hD⟩
   case round=>
    obtain⟨j,rfl,Fh,rG,hD2⟩:=hrel;have ZM:=hD2.out.below;have f1:=(ZM.cell (p:=⟨B,1,none⟩) Vo).trans c1;have f2:=(ZM.cell (p:=⟨B,2,none⟩) Vo).trans c2;have f3:=(ZM.cell (p:=⟨g,i,none⟩) dn).trans q0;have f4:=(ZM.cell (p:=⟨g',i,none⟩) VA).trans r0;clear d1 d2 q1
    by_cases hjt:j<y.n
    ·have iR:decide ((j:Int)<(y.n:Int))=true:=by simp;omega
     obtain⟨gy,hgy,hcy,adc⟩:=HFY.out.at' hjt;subst hgy;have f5:=(ZM.cell (p:=⟨gy,j,none⟩) adc).trans hcy;go_upto_region 7 with fail;go_quiet (fail);go_wp2;go_roundg (y.n - (j+1))
     case measure=>omega
     case rel=>exact⟨j+1,by go_num,by omega,au,kU hD2.out nq⟩
    ·have iR:decide ((j:Int)<(y.n:Int))=false:=by simp;omega
     go_wp2;go_roundg (es.length - (i+1))
     case measure=>omega
     case rel=>exact⟨i+1,by go_num,by omega,au,hD2⟩
  ·have hd:decide ((i:Int)<(es.length:Int))=false:=by simp;omega
   go_wp2;go_ret;exact⟨rfl,hD.out⟩
end
section
variable {a:Int}{e:Nat × List Nat}{k made n x:Nat}{l:List Nat}
abbrev aJ:=List (Nat × List Nat)
def yf (e:Nat × List Nat)(n:Int):Bool:=e.2.any λk=>decide ((k:Int)=n)
def bw (T:aJ)(n:Int):Option (List Nat):=(T.find? λe=>decide ((e.1:Int)=n)).map (·.2)
def aY (T:aJ)(n:Int):Int:=match T.find? λe=>yf e n with | some e=>e.1 | none=>-1
def gY (T:aJ):Nat->Int->Int
 | 0,n=>n
 | k+1,n=>gY T k (aY T n)
def dD (T:aJ)(a n:Int):Prop:=0<=a/\∃k,gY T k n=a
open Classical in
noncomputable def bZ (T:aJ)(a n:Int):Bool:=decide (dD T a n)
def sy (p:Nat)(f:List Nat->List Nat)(T:aJ):aJ:=T.map λe=>if e.1=p then(e.1,f e.2) else e
def lH (T:aJ)(p k n:Nat):aJ:=sy p (λl=>cY l k n) T++[(n,[])]
noncomputable def j8 (T:aJ)(a:Nat):aJ:=sy (aY T a).toNat (aw a) (T.filter λe=>!bZ T a e.1)
def lI (T:aJ)(a p k:Nat):aJ:=sy p (λl=>cY (aw a l) k a) (sy (aY T a).toNat (aw a) T)
def aK (els:List REl):aJ:=els.map λe=>(e.num,e.kids)
theorem dV (els:List REl)(n:Int):aY (aK els) n=bc els n:=by
 unfold aY bc GH aK;rw[List.find?_map];have h:(els.find? ((λe:Nat × List Nat=>yf e n) ∘ λe:REl=>(e.num,e.kids)))=els.find? λe=>jm e n:=rfl;rw[h];cases els.find? λe=>jm e n<;>rfl
theorem MH (els:List REl):∀(k:Nat) (n:Int),gY (aK els) k n=up els k n
 | 0,_=>rfl
 | k+1,n=>by
  show gY _ k (aY _ n)=up els k (bc els n);rw[dV,MH els k]
theorem mD (els:List REl)(a n:Int):dD (aK els) a n↔oi els a n:=by
 unfold dD oi;simp only[MH]
theorem bp {T:aJ}{n:Int}:bZ T a n=true↔dD T a n:=by simp[bZ]
theorem ld (els:List REl)(a n:Int):bZ (aK els) a n=eU els a n:=by
 have h:=mD els a n;rw[<-bp,<-ke] at h;cases h1:bZ (aK els) a n<;>cases h2:eU els a n<;>simp_all
theorem rp (els:List REl)(n:Int):bw (aK els) n=(bJ els n).map REl.kids:=by
 unfold bw bJ aK;rw[List.find?_map,Option.map_map];rfl
structure TW (T:aJ)(made:Nat):Prop where
 nums:(T.map Prod.fst).Nodup
 lt:∀e∈T,e.1<made
 root:∃l,(0,l)∈T
 top:∀e∈T,0 ∉ e.2
 kin:∀e∈T,∀k∈e.2,∃l,(k,l)∈T
 kdup:∀e∈T,e.2.Nodup
 one:∀e∈T,∀f∈T,∀k,k∈e.2->k∈f.2->e=f
 par:∀e∈T,e.1≠0->∃f∈T,e.1∈f.2
 rank:∃rk:Nat->Nat,∀e∈T,∀k∈e.2,rk e.1<rk k
theorem pO {T:aJ}(h:(T.map Prod.fst).Nodup){f:Nat × List Nat}(he:e∈T)(hf:f∈T)(hn:e.1=f.1):e=f:=by
 induction T with
 | nil=>cases he
 | cons x T ih=>
  rw[List.map_cons,List.nodup_cons] at h;rcases List.mem_cons.1 he with zN | zN<;>rcases List.mem_cons.1 hf with uP | uP
  ·rw[zN,uP]
  ·rw[zN] at hn;exact absurd (bm.2 ⟨f,uP,hn.symm⟩) h.1
  ·rw[uP] at hn;exact absurd (bm.2 ⟨e,zN,hn⟩) h.1
  ·exact ih h.2 zN uP
theorem yg {n:Int}:yf e n=true↔∃k∈e.2,(k:Int)=n:=by simp[yf]
theorem it:yf e n=true↔n∈e.2:=by
 rw[yg];constructor
 ·rintro⟨k,hk,h⟩;rw[show n=k from by omega];exact hk
 ·intro h;exact⟨n,h,rfl⟩
theorem TW.parent {T:aJ}(h:TW T made)(he:e∈T)(hk:k∈e.2):aY T k=e.1:=by
 unfold aY;cases hf:T.find? λe=>yf e (k:Int) with
 | none=>
  rw[List.find?_eq_none] at hf;exact absurd (it.2 hk) (hf e he)
 | some f=>
  have h1:k∈f.2:=it.1 (List.find?_some (p:=λe=>yf e (k:Int)) hf);have h2:=h.one e he f (List.mem_of_find?_eq_some hf) k hk h1;subst h2;rfl
theorem cP (T:aJ)(n:Int):aY T n=-1/\(∀e∈T,yf e n=false)∨∃e∈T,yf e n=true/\aY T n=e.1:=by
 unfold aY;cases h:T.find? λe=>yf e n with
 | none=>
  rw[List.find?_eq_none] at h;exact af ⟨rfl,λe he=>by simpa using h e he⟩
 | some e=>exact ai ⟨e,List.mem_of_find?_eq_some h,List.find?_some (p:=λe=>yf e n) h,rfl⟩
theorem TW.len {T:aJ}(h:TW T made)(he:e∈T):e.2.length<T.length:=by
 obtain⟨rk,hr⟩:=h.rank;have hs:(e.1 :: e.2).Nodup:=List.nodup_cons.2 ⟨λhx=>by have:=hr e he _ hx;omega,h.kdup e he⟩
 have:=dw hs (m:=T.map Prod.fst) (λk hk=>by
  rcases List.mem_cons.1 hk with rfl | hk
  ·exact bm.2 ⟨e,he,rfl⟩
  ·obtain⟨l,hl⟩:=h.kin e he k hk;exact bm.2 ⟨_,hl,rfl⟩)
 simp at this;omega
theorem xf:x∈cY l k n↔x=n∨x∈l:=by
 unfold cY;rw[List.mem_append,List.mem_append,fg];constructor
 ·rintro((h | h) | h)
  ·exact ai (List.mem_of_mem_take h)
  ·exact af h
  ·exact ai (List.mem_of_mem_drop h)
 ·rintro(h | h)
  ·exact af (ai h)
  ·rw[<-List.take_append_drop k l,List.mem_append] at h;exact h.elim (λx=>af (af x)) ai
theorem qI (h:l.Nodup)(hn:n ∉ l):(cY l k n).Nodup:=by
 have h2:(l.take k++l.drop k).Nodup:=by rw[List.take_append_drop];exact h
 rw[List.nodup_append] at h2;unfold cY;rw[List.nodup_append,List.nodup_append];refine⟨⟨h2.1,by simp,λa ha b hb=>?_⟩,h2.2.1,λa ha b hb=>?_⟩
 ·rw[fg] at hb;rw[hb];exact λe=>hn (e▸List.mem_of_mem_take ha)
 ·rcases List.mem_append.1 ha with ha | ha
  ·exact h2.2.2 a ha b hb
  ·rw[fg] at ha;rw[ha];exact λe=>hn (e▸List.mem_of_mem_drop hb)
theorem lu {a:Nat}:x∈aw a l↔x∈l/\x≠a:=by
 unfold aw;rw[dA,bF];exact⟨λ⟨h1,h2⟩=>⟨h1,λe=>h2 (by omega)⟩,λ⟨h1,h2⟩=>⟨h1,λe=>h2 (by omega)⟩⟩
theorem kS (h:l.Nodup):(aw a l).Nodup:=h.filter _
theorem m7 {p:Nat}{f:List Nat->List Nat}{T:aJ}:e∈sy p f T↔∃x∈T,e.1=x.1/\e.2=if x.1=p then f x.2 else x.2:=by
 unfold sy;rw[bm];constructor
 ·rintro⟨x,hx,rfl⟩;refine⟨x,hx,?_⟩;split<;>exact⟨rfl,rfl⟩
 ·rintro⟨x,hx,h1,h2⟩;refine⟨x,hx,?_⟩;split at h2
  ·rename_i h;rw[aq h,<-h1,<-h2]
  ·rename_i h;rw[aj h];exact(Prod.ext h1 h2).symm
theorem j9 (p:Nat)(f:List Nat->List Nat)(T:aJ):(sy p f T).map Prod.fst=T.map Prod.fst:=by
 unfold sy;rw[List.map_map];refine List.map_congr_left λe _=>?_;show(if e.1=p then(e.1,f e.2) else e).1=e.1;split<;>rfl
end
section
variable {T:aJ}{e:Nat × List Nat}{k made p:Nat}{n:Int}
theorem TW.klt (h:TW T made){x:Nat × List Nat}(hx:x∈T)(hk:k∈x.2):k<made:=by
 obtain⟨l,hl⟩:=h.kin x hx k hk;exact h.lt _ hl
theorem cE {n:Nat}:e∈lH T p k n↔(∃x∈T,e.1=x.1/\e.2=if x.1=p then cY x.2 k n else x.2)∨e=(n,[]):=by
 unfold lH;rw[List.mem_append,m7,fg]
theorem TW.ins (h:TW T made)(hp:∃l,(p,l)∈T):TW (lH T p k made) (made+1):=by
 obtain⟨l0,yM⟩:=h.root;have h0:0<made:=h.lt _ yM;obtain⟨lp,Sj⟩:=hp
 have gE:∀x∈T,∀y,y∈(if x.1=p then cY x.2 k made else x.2)↔(y=made/\x.1=p)∨y∈x.2:=by
  intro x hx y;split
  ·rename_i oo;rw[xf];exact⟨λh=>h.imp (λe=>⟨e,oo⟩) id,λh=>h.imp (λe=>e.1) id⟩
  ·rename_i oo;exact⟨ai,λh=>h.elim (λe=>absurd e.2 oo) id⟩
 have Is:∀x∈T,(x.1,if x.1=p then cY x.2 k made else x.2)∈lH T p k made:=λx hx=>cE.2 (af ⟨x,hx,rfl,rfl⟩);refine⟨?_,?_,⟨_,Is _ yM⟩,?_,?_,?_,?_,?_,?_⟩
 ·unfold lH;rw[List.map_append,j9,List.nodup_append];refine⟨h.nums,by simp,λa ha b hb=>?_⟩;simp only[List.map_cons,List.map_nil,fg] at hb;obtain⟨x,hx,rfl⟩:=bm.1 ha;have:=h.lt x hx;omega
 ·intro e he;rcases cE.1 he with⟨x,hx,h1,_⟩ | rfl
  ·have:=h.lt x hx;omega
  ·exact Nat.lt_succ_self _
 ·intro e he h1;rcases cE.1 he with⟨x,hx,_,h2⟩ | rfl
  ·rw[h2,gE x hx] at h1;rcases h1 with⟨h3,_⟩ | h3
   ·omega
   ·exact h.top x hx h3
  ·cases h1
 ·intro e he y hy;rcases cE.1 he with⟨x,hx,_,h2⟩ | rfl
  ·rw[h2,gE x hx] at hy;rcases hy with⟨rfl,_⟩ | hy
   ·exact⟨[],cE.2 (ai rfl)⟩
   ·obtain⟨l,hl⟩:=h.kin x hx y hy;exact⟨_,Is _ hl⟩
  ·cases hy
 ·intro e he;rcases cE.1 he with⟨x,hx,_,h2⟩ | rfl
  ·rw[h2];split
   ·exact qI (h.kdup x hx) (λhm=>by have:=h.klt hx hm;omega)
   ·exact h.kdup x hx
  ·exact List.nodup_nil
 ·intro e he f hf y Iq Ir;rcases cE.1 he with⟨x,hx,a1,a2⟩ | rfl
  ·rcases cE.1 hf with⟨z,hz,b1,b2⟩ | rfl
   ·have hxz:x=z:=by
     rw[a2,gE x hx] at Iq;rw[b2,gE z hz] at Ir;rcases Iq with⟨c1,c2⟩ | Iq<;>rcases Ir with⟨d1,d2⟩ | Ir
     ·exact pO h.nums hx hz (c2.trans d2.symm)
     ·have:=h.klt hz Ir;omega
     ·have:=h.klt hx Iq;omega
     ·exact h.one x hx z hz y Iq Ir
    subst hxz;exact Prod.ext (a1.trans b1.symm) (a2.trans b2.symm)
   ·cases Ir
  ·cases Iq
 ·intro e he fY;rcases cE.1 he with⟨x,hx,a1,_⟩ | rfl
  ·rw[a1] at fY ⊢;obtain⟨f,hf,hm⟩:=h.par x hx fY;exact⟨_,Is f hf,(gE f hf _).2 (ai hm)⟩
  ·exact⟨_,Is _ Sj,(gE _ Sj _).2 (af ⟨rfl,rfl⟩)⟩
 ·obtain⟨rk,hr⟩:=h.rank;refine⟨λn=>if n=made then rk p+1 else rk n,λe he y hy=>?_⟩;rcases cE.1 he with⟨x,hx,a1,a2⟩ | rfl
  ·rw[a2,gE x hx] at hy;have Fl:=h.lt x hx;rw[a1];show(if x.1=made then _ else _)<(if y=made then _ else _);rw[aj (by omega)];rcases hy with⟨c1,c2⟩ | hy
   ·rw[aq c1,c2];omega
   ·have:=h.klt hx hy;rw[aj (by omega)];exact hr x hx y hy
  ·cases hy
theorem pV (T:aJ)(n:Int):∀(t k:Nat),gY T (t+k) n=gY T k (gY T t n)
 | 0,k=>by rw[Nat.zero_add];rfl
 | t+1,k=>by
  rw[show t+1+k=(t+k)+1 from by omega];exact pV T (aY T n) t k
theorem P8 (T:aJ)(hn:n<0):aY T n=-1:=by
 rcases cP T n with h | ⟨e,_,h,_⟩
 ·exact h.1
 ·obtain⟨k,_,hk⟩:=yg.1 h;omega
theorem me (T:aJ){n:Int}(hn:n<0):∀k,gY T k n<0
 | 0=>hn
 | k+1=>by
  show gY T k (aY T n)<0
  rw[P8 T hn]
  exact me T (by omega) k
theorem TW.under_kid (h:TW T made)(he:e∈T)(hk:k∈e.2)(a:Nat):dD T a k↔k=a∨dD T a e.1:=by
 have hp:=h.parent he hk;constructor
 ·rintro⟨h0,t,ht⟩;cases t with
  | zero=>exact af (by have:(k:Int)=a:=ht;omega)
  | succ t=>
   refine ai ⟨h0,t,?_⟩;rw[<-hp];exact ht
 ·rintro(rfl | ⟨h0,t,ht⟩)
  ·exact⟨by omega,0,rfl⟩
  ·refine⟨h0,t+1,?_⟩;show gY T t (aY T k)=a;rw[hp];exact ht
theorem iu (T:aJ)(a:Nat):dD T a a:=⟨by omega,0,rfl⟩
theorem TW.under_rank (h:TW T made){rk:Nat->Nat}(hr:∀e∈T,∀k∈e.2,rk e.1<rk k){a:Nat}:∀(t n:Nat),gY T t n=a->rk a<=rk n
 | 0,n,ht=>by
  have:(n:Int)=a:=ht;rw[show n=a from by omega];exact au
 | t+1,n,ht=>by
  have QL:gY T t (aY T n)=a:=ht;rcases cP T n with⟨h1,_⟩ | ⟨e,he,h1,h2⟩
  ·rw[h1] at QL;have:=me T (n:=-1) (by omega) t;omega
  ·rw[h2] at QL;have:=TW.under_rank h hr t e.1 QL;have:=hr e he n (it.1 h1);omega
end
section
variable {T:aJ}{a k made p:Nat}{e q:Nat × List Nat}{la:List Nat}
theorem TW.up (h:TW T made)(ha:(a,la)∈T)(h0:a≠0):∃q∈T,a∈q.2/\aY T a=q.1:=by
 obtain⟨q,hq,hm⟩:=h.par _ ha h0;exact⟨q,hq,hm,h.parent hq hm⟩
theorem TW.root_par (h:TW T made):aY T 0=-1:=by
 rcases cP T 0 with h1 | ⟨e,he,h1,_⟩
 ·exact h1.1
 ·exact absurd (it.1 h1) (h.top e he)
theorem TW.root_not (h:TW T made)(h0:a≠0):¬dD T a (0:Nat):=by
 rintro⟨_,t,ht⟩;cases t with
 | zero=>have:((0:Nat):Int)=a:=ht;omega
 | succ t=>
  have QL:gY T t (aY T 0)=a:=ht;rw[h.root_par] at QL;have:=me T (n:=-1) (by omega) t;omega
theorem TW.less (h:TW T made)(hq:q∈T)(hm:a∈q.2){x:Nat × List Nat}(hx:x∈T)(y:Nat):y∈(if x.1=q.1 then aw a x.2 else x.2)↔y∈x.2/\y≠a:=by
 split
 ·exact lu
 ·rename_i hn;refine⟨λhy=>⟨hy,λe=>?_⟩,λhy=>hy.1⟩;subst e;exact hn (by rw[h.one x hx q hq y hy hm])
theorem ed (hp:aY T a=q.1):e∈j8 T a↔∃x∈T,¬dD T a x.1/\e.1=x.1/\e.2=if x.1=q.1 then aw a x.2 else x.2:=by
 unfold j8;rw[hp,Int.toNat_natCast,m7];constructor
 ·rintro⟨x,hx,h1⟩;rw[dA] at hx;refine⟨x,hx.1,λhu=>?_,h1⟩;rw[bp.2 hu] at hx;simp at hx
 ·rintro⟨x,hx,hu,h1⟩;refine⟨x,dA.2 ⟨hx,?_⟩,h1⟩;cases hb:bZ T a x.1 with
  | false=>rfl
  | true=>exact absurd (bp.1 hb) hu
theorem TW.rem (h:TW T made)(ha:(a,la)∈T)(h0:a≠0):TW (j8 T a) made:=by
 obtain⟨q,hq,hm,hp⟩:=h.up ha h0;have gE:=λ{x:Nat × List Nat} (hx:x∈T) (y:Nat)=>h.less hq hm hx y;have Is:∀x∈T,¬dD T a x.1->(x.1,if x.1=q.1 then aw a x.2 else x.2)∈j8 T a:=λx hx hu=>(ed hp).2 ⟨x,hx,hu,rfl,rfl⟩;refine⟨?_,?_,?_,?_,?_,?_,?_,?_,?_⟩
 ·unfold j8;rw[j9];exact h.nums.sublist (List.filter_sublist.map _)
 ·intro e he;obtain⟨x,hx,_,h1,_⟩:=(ed hp).1 he;rw[h1];exact h.lt x hx
 ·obtain⟨l0,yM⟩:=h.root;exact⟨_,Is _ yM (h.root_not h0)⟩
 ·intro e he hy;obtain⟨x,hx,_,_,h2⟩:=(ed hp).1 he;rw[h2,gE hx] at hy;exact h.top x hx hy.1
 ·intro e he y hy;obtain⟨x,hx,hu,_,h2⟩:=(ed hp).1 he;rw[h2,gE hx] at hy;obtain⟨l,hl⟩:=h.kin x hx y hy.1;exact⟨_,Is _ hl (λzX=>((h.under_kid hx hy.1 a).1 zX).elim hy.2 hu)⟩
 ·intro e he;obtain⟨x,hx,_,_,h2⟩:=(ed hp).1 he;rw[h2];split
  ·exact kS (h.kdup x hx)
  ·exact h.kdup x hx
 ·intro e he f hf y Iq Ir;obtain⟨x,hx,_,a1,a2⟩:=(ed hp).1 he;obtain⟨z,hz,_,b1,b2⟩:=(ed hp).1 hf;rw[a2,gE hx] at Iq;rw[b2,gE hz] at Ir;have:=h.one x hx z hz y Iq.1 Ir.1;subst this;exact Prod.ext (a1.trans b1.symm) (a2.trans b2.symm)
 ·intro e he fY;obtain⟨x,hx,hu,a1,_⟩:=(ed hp).1 he;rw[a1] at fY ⊢;obtain⟨f,hf,hmf⟩:=h.par x hx fY;refine⟨_,Is f hf (λzX=>hu ((h.under_kid hf hmf a).2 (ai zX))),(gE hf _).2 ⟨hmf,λe=>hu ?_⟩⟩;rw[e];exact iu T a
 ·obtain⟨rk,hr⟩:=h.rank;refine⟨rk,λe he y hy=>?_⟩;obtain⟨x,hx,_,a1,a2⟩:=(ed hp).1 he;rw[a2,gE hx] at hy;rw[a1];exact hr x hx y hy.1
theorem dX (hp:aY T a=q.1):
  e∈lI T a p k↔∃x∈T,e.1=x.1/\e.2=if x.1=p then cY (aw a (if x.1=q.1 then aw a x.2 else x.2)) k a else if x.1=q.1 then aw a x.2 else x.2:=by
 unfold lI;rw[hp,Int.toNat_natCast,m7];constructor
 ·rintro⟨x,hx,h1,h2⟩;obtain⟨y,hy,h3,h4⟩:=m7.1 hx;refine⟨y,hy,h1.trans h3,?_⟩;rw[h2,h3,h4]
 ·rintro⟨x,hx,h1,h2⟩;exact⟨(x.1,if x.1=q.1 then aw a x.2 else x.2),m7.2 ⟨x,hx,rfl,rfl⟩,h1,h2⟩
theorem TW.mov {lp:List Nat}(h:TW T made)(ha:(a,la)∈T)(h0:a≠0)(yO:(p,lp)∈T)(Kd:¬dD T a p):TW (lI T a p k) made:=by
 obtain⟨q,hq,hm,hp⟩:=h.up ha h0
 have gE:∀x∈T,∀y,y∈(if x.1=p then cY (aw a (if x.1=q.1 then aw a x.2 else x.2)) k a else if x.1=q.1 then aw a x.2 else x.2)↔(y=a/\x.1=p)∨(y∈x.2/\y≠a):=by
  intro x hx y;have h1:=h.less hq hm hx y
  by_cases oo:x.1=p
  ·rw[aq oo,xf,lu,h1];exact⟨λh=>h.imp (λe=>⟨e,oo⟩) (λe=>e.1),λh=>h.imp (λe=>e.1) (λe=>⟨e,e.2⟩)⟩
  ·rw[aj oo,h1];exact⟨ai,λh=>h.elim (λe=>absurd e.2 oo) id⟩
 have Is:∀x∈T,(x.1,if x.1=p then cY (aw a (if x.1=q.1 then aw a x.2 else x.2)) k a else if x.1=q.1 then aw a x.2 else x.2)∈lI T a p k:=λx hx=>(dX hp).2 ⟨x,hx,rfl,rfl⟩;refine⟨?_,?_,?_,?_,?_,?_,?_,?_,?_⟩
 ·unfold lI;rw[j9,j9];exact h.nums
 ·intro e he;obtain⟨x,hx,h1,_⟩:=(dX hp).1 he;rw[h1];exact h.lt x hx
 ·obtain⟨l0,yM⟩:=h.root;exact⟨_,Is _ yM⟩
 ·intro e he hy;obtain⟨x,hx,_,h2⟩:=(dX hp).1 he;rw[h2,gE x hx] at hy;rcases hy with hy | hy
  ·exact h0 hy.1.symm
  ·exact h.top x hx hy.1
 ·intro e he y hy;obtain⟨x,hx,_,h2⟩:=(dX hp).1 he;rw[h2,gE x hx] at hy;rcases hy with⟨rfl,_⟩ | hy
  ·exact⟨_,Is _ ha⟩
  ·obtain⟨l,hl⟩:=h.kin x hx y hy.1;exact⟨_,Is _ hl⟩
 ·intro e he;obtain⟨x,hx,_,h2⟩:=(dX hp).1 he
  have hd:(if x.1=q.1 then aw a x.2 else x.2).Nodup:=by
   split
   ·exact kS (h.kdup x hx)
   ·exact h.kdup x hx
  rw[h2];split
  ·exact qI (kS hd) (λzX=>(lu.1 zX).2 rfl)
  ·exact hd
 ·intro e he f hf y Iq Ir;obtain⟨x,hx,a1,a2⟩:=(dX hp).1 he;obtain⟨z,hz,b1,b2⟩:=(dX hp).1 hf
  have hxz:x=z:=by
   rw[a2,gE x hx] at Iq;rw[b2,gE z hz] at Ir;rcases Iq with⟨c1,c2⟩ | ⟨c1,c2⟩<;>rcases Ir with⟨d1,d2⟩ | ⟨d1,d2⟩
   ·exact pO h.nums hx hz (c2.trans d2.symm)
   ·exact absurd c1 d2
   ·exact absurd d1 c2
   ·exact h.one x hx z hz y c1 d1
  subst hxz;exact Prod.ext (a1.trans b1.symm) (a2.trans b2.symm)
 ·intro e he fY;obtain⟨x,hx,a1,_⟩:=(dX hp).1 he;rw[a1] at fY ⊢
  by_cases Uc:x.1=a
  ·exact⟨_,Is _ yO,(gE _ yO _).2 (af ⟨Uc,rfl⟩)⟩
  ·obtain⟨f,hf,hmf⟩:=h.par x hx fY;exact⟨_,Is f hf,(gE f hf _).2 (ai ⟨hmf,Uc⟩)⟩
 ·obtain⟨rk,hr⟩:=h.rank;refine⟨λn=>if bZ T a n=true then rk n+(rk p+1) else rk n,λe he y hy=>?_⟩;obtain⟨x,hx,a1,a2⟩:=(dX hp).1 he;rw[a2,gE x hx] at hy;rw[a1];show(if bZ T a x.1=true then _ else _)<(if bZ T a y=true then _ else _);rcases hy with⟨rfl,c2⟩ | ⟨c1,c2⟩
  ·rw[c2,aj (λhb=>Kd (bp.1 hb)),aq (bp.2 (iu T y))];omega
  ·have hk:=h.under_kid hx c1 a;have aU:=hr x hx y c1
   by_cases hu:dD T a x.1
   ·rw[aq (bp.2 hu),aq (bp.2 (hk.2 (ai hu)))];omega
   ·rw[aj (λhb=>hu (bp.1 hb)),aj (λhb=>(hk.1 (bp.1 hb)).elim c2 hu)];exact aU
end
section
variable {S:Nat->Prop}{d made:Nat}{e f:REl}{els:List REl}{bi:Bool}{hp:Option Addr}{vL vT:Value}{w w':World}
theorem FP (h:(els.map REl.num).Nodup)(he:e∈els)(hf:f∈els)(hn:e.num=f.num):e=f:=by
 induction els with
 | nil=>cases he
 | cons x T ih=>
  rw[List.map_cons,List.nodup_cons] at h;rcases List.mem_cons.1 he with zN | zN<;>rcases List.mem_cons.1 hf with uP | uP
  ·rw[zN,uP]
  ·rw[zN] at hn;exact absurd (bm.2 ⟨f,uP,hn.symm⟩) h.1
  ·rw[uP] at hn;exact absurd (bm.2 ⟨e,zN,hn⟩) h.1
  ·exact ih h.2 zN uP
theorem mC (els:List REl):(aK els).map Prod.fst=els.map REl.num:=by
 unfold aK;rw[List.map_map];rfl
theorem rq (els:List REl):(aK els).length=els.length:=by simp[aK]
theorem RD.same (h:RD w d els made hp vT bi vL)(he:e∈els)(hf:f∈els)(hb:e.blk=f.blk):e.num=f.num:=by
 have h1:=h.el e he;have h2:=h.el f hf;rw[hb,h2] at h1;injection h1 with h1
 injection h1 with h1 _ _
 unfold REl.cells at h1;injection h1 with h1
 injection h1 with h1 _
 injection h1 with _ h1
 omega
def Cu (els:List REl):Prop:=∀e∈els,∀f∈els,e.blk=f.blk↔e.num=f.num
theorem RD.apart (h:RD w d els made hp vT bi vL)(hn:(els.map REl.num).Nodup):Cu els:=
 λe he f hf=>⟨h.same he hf,λx=>by rw[FP hn he hf x]⟩
theorem rt {l:List REl}(ha:Cu els)(hl:∀e∈l,e∈els){p:REl}(hp:p∈els)(kids:List Nat)(ks:Value):aK (l.map (ee p.blk kids ks))=sy p.num (λ_=>kids) (aK l):=by
 unfold aK sy;rw[List.map_map,List.map_map];refine List.map_congr_left λe he=>?_;show((ee p.blk kids ks e).num,(ee p.blk kids ks e).kids)=if e.num=p.num then(e.num,kids) else(e.num,e.kids)
 unfold ee
 by_cases hb:e.blk=p.blk
 ·rw[aq hb,aq ((ha e (hl e he) p hp).1 hb)]
 ·rw[aj hb,aj (λx=>hb ((ha e (hl e he) p hp).2 x))]
theorem vi {T:aJ}(hn:(T.map Prod.fst).Nodup){p:Nat}{l:List Nat}(hp:(p,l)∈T){U:aJ}(hU:∀e∈U,e∈T)(f:List Nat->List Nat):sy p (λ_=>f l) U=sy p f U:=by
 unfold sy;refine List.map_congr_left λe he=>?_
 by_cases h:e.1=p
 ·rw[aq h,aq h];have:=pO hn (hU e he) hp h;rw[this]
 ·rw[aj h,aj h]
theorem RD.keep (h:RD w d els made hp vT bi vL)(hk:∀k,jQ d els vL k->k<w.heap.size->w'.heap[k]?=w.heap[k]?):RD w' d els made hp vT bi vL:=by
 have own:∀{e:TypeId} {v:Value} {n:Nat} {xs:List Value},w.ownsRow 0 e 1 v n xs->(∀k,v.ownBlock=some k->jQ d els vL k)->w'.ownsRow 0 e 1 v n xs:=by
  intro e v n xs ho hf;refine⟨ho.1,?_⟩;rcases ho.2 with hn | ⟨g,gV,fV,hv,hb,hg,rest⟩
  ·exact af hn
  ·exact ai ⟨g,gV,fV,hv,hb,(hk g (hf g (by rw[hv];rfl)) (bx.1 hg).1).trans hg,rest⟩
 exact⟨(hk d (af rfl) (bx.1 h.doc).1).trans h.doc,own h.row (λk hk=>ai (ai (af hk))),λe he=>(hk _ (ai (af ⟨e,he,rfl⟩)) (bx.1 (h.el e he)).1).trans (h.el e he),λe he=>own (h.kid e he) (λk hk=>ai (ai (ai ⟨e,he,hk⟩))),h.few,h.kfew⟩
theorem Fr.mono {S':Nat->Prop}(h:Fr w w' S)(hs:∀k,S k->S' k):Fr w w' S':=⟨h.os,h.tape,h.output,h.size,λk hk hn=>h.block k hk (λx=>hn (hs k x))⟩
def cJ (F:Nat->Prop)(w:World)(k:Nat):Prop:=F k∨w.heap.size<=k
def jN (T:aJ)(par at':Int)(kind:ByteArray):Int:=
 match bw T par with
 | none=>5
 | some l=>if at'<0∨(l.length:Int)<at' then 8 else if aG kind=false then 4 else if 24<=T.length then 9 else 0
theorem It (els:List REl)(par at':Int)(kind:ByteArray):jo els par at' kind=jN (aK els) par at' kind:=by
 unfold jo jN;rw[rp,rq];cases bJ els par<;>rfl
def TIns (T:aJ)(made:Nat)(par at':Int)(kind:ByteArray)(y:Int)(T':aJ)(made':Nat)(n:Int):Prop:=
 y=jN T par at' kind/\((y≠0/\n=0/\T'=T/\made'=made)∨(y=0/\n=made/\made'=made+1/\∃p k:Nat,par=p/\at'=k/\(∃l,(p,l)∈T/\k<=l.length)/\T'=lH T p k made))
theorem uZ {b:Nat}{kids:List Nat}{ks:Value}{vL':Value}(h1:∀k,jQ d els vL k->S k)(h2:∀k,ks.ownBlock=some k->S k)(h3:∀k,vL'.ownBlock=some k->S k):∀k,jQ d (els.map (ee b kids ks)) vL' k->S k:=by
 rintro k (rfl | ⟨e,he,rfl⟩ | hk | ⟨e,he,hk⟩)
 ·exact h1 _ (af rfl)
 ·obtain⟨f,hf,rfl⟩:=bm.1 he;rw[ky];exact h1 _ (ai (af ⟨f,hf,rfl⟩))
 ·exact h3 k hk
 ·obtain⟨f,hf,rfl⟩:=bm.1 he;unfold ee at hk;split at hk
  ·exact h2 k hk
  ·exact h1 k (ai (ai (ai ⟨f,hf,hk⟩)))
end
section
variable {els:List REl}{n:Int}
theorem gj {T:aJ}{l:List Nat}(h:bw T n=some l):∃k:Nat,n=k/\(k,l)∈T:=by
 unfold bw at h;cases hf:T.find? λe=>decide ((e.1:Int)=n) with
 | none=>rw[hf] at h;cases h
 | some e=>
  rw[hf] at h;have h1:(e.1:Int)=n:=by simpa using List.find?_some hf
  have h2:e.2=l:=by simpa using h
  exact⟨e.1,h1.symm,h2▸List.mem_of_find?_eq_some hf⟩
theorem cH {y:REl}(h:bJ els n=some y):bw (aK els) n=some y.kids:=by rw[rp,h];rfl
theorem cK (h:bJ els n=none):bw (aK els) n=none:=by rw[rp,h];rfl
theorem Jz (els:List REl)(a:Int)(l:List REl):aK (dC els a l)=(aK l).filter λe=>!bZ (aK els) a e.1:=by
 unfold aK dC;rw[List.filter_map]
 congr 1
 refine List.filter_congr λe _=>?_;show(!eU els a e.num)=(!bZ (aK els) a e.num);rw[ld]
open Classical in
noncomputable def kT (T:aJ)(n:Int):Int:=match bw T n with | none=>5 | some _=>if aY T n<0 then 6 else 0
def TRem (T:aJ)(n:Int)(y:Int)(T':aJ):Prop:=
 y=kT T n/\((y≠0/\T'=T)∨(y=0/\∃a:Nat,n=a/\a≠0/\(∃l,(a,l)∈T)/\T'=j8 T a))
theorem pj {made:Nat}(h:TW (aK els) made):∃rk,rl els rk:=by
 obtain⟨rk,hr⟩:=h.rank;exact⟨rk,λe he k hk=>hr (e.num,e.kids) (bm.2 ⟨e,he,rfl⟩) k hk⟩
noncomputable def jg (T:aJ)(n m at':Int):Int:=
 match bw T n,bw T m with
 | some _,some l=>if aY T n<0 then 6 else if bZ T n m=true then 7 else if at'<0∨((aw n l).length:Int)<at' then 8 else 0
 | _,_=>5
def TMov (T:aJ)(n m at':Int)(y:Int)(T':aJ):Prop:=
 y=jg T n m at'/\((y≠0/\T'=T)∨(y=0/\∃a p k:Nat,n=a/\m=p/\at'=k/\a≠0/\(∃l,(a,l)∈T)/\(∃l,(p,l)∈T/\k<=(aw a l).length)/\¬dD T a p/\T'=lI T a p k))
theorem rV (a:Int)(l:List Nat):aw a (aw a l)=aw a l:=by
 unfold aw;rw[List.filter_filter]
 congr 1
 funext k;simp
theorem I3:TW [(0,[])] 1:=by
 refine⟨by simp,?_,⟨[],by simp⟩,?_,?_,?_,?_,?_,⟨λ_=>0,?_⟩⟩<;>intro e he<;>(rw[fg] at he;subst he)<;>simp
end
section
variable {T U U':aJ}{at' n par y y':Int}{kind:ByteArray}{m made:Nat}
theorem TIns.one {m':Nat}{n':Int}(h:TIns T made par at' kind y U m n)(h':TIns T made par at' kind y' U' m' n'):y=y'/\U=U'/\m=m'/\n=n':=by
 have hy:=h.1.trans h'.1.symm;subst hy;refine⟨rfl,?_⟩;rcases h.2 with⟨h1,h2,h3,h4⟩ | ⟨h1,h2,h3,p,k,hp,hk,_,h4⟩<;>rcases h'.2 with⟨g1,g2,g3,g4⟩ | ⟨g1,g2,g3,p',k',ui,VE,_,g4⟩
 ·exact⟨h3.trans g3.symm,h4.trans g4.symm,h2.trans g2.symm⟩
 ·exact absurd g1 h1
 ·exact absurd h1 g1
 ·have e1:p=p':=by omega
  have e2:k=k':=by omega
  subst e1 e2;exact⟨h4.trans g4.symm,h3.trans g3.symm,h2.trans g2.symm⟩
theorem TRem.one (h:TRem T n y U)(h':TRem T n y' U'):y=y'/\U=U':=by
 have hy:=h.1.trans h'.1.symm;subst hy;refine⟨rfl,?_⟩;rcases h.2 with⟨h1,h2⟩ | ⟨h1,a,ha,_,_,h2⟩<;>rcases h'.2 with⟨g1,g2⟩ | ⟨g1,a',Vt,_,_,g2⟩
 ·exact h2.trans g2.symm
 ·exact absurd g1 h1
 ·exact absurd h1 g1
 ·have e1:a=a':=by omega
  subst e1;exact h2.trans g2.symm
theorem TMov.one {m:Int}(h:TMov T n m at' y U)(h':TMov T n m at' y' U'):y=y'/\U=U':=by
 have hy:=h.1.trans h'.1.symm;subst hy;refine⟨rfl,?_⟩;rcases h.2 with⟨h1,h2⟩ | ⟨h1,a,p,k,ha,hp,hk,_,_,_,_,h2⟩<;>rcases h'.2 with⟨g1,g2⟩ | ⟨g1,a',p',k',Vt,ui,VE,_,_,_,_,g2⟩
 ·exact h2.trans g2.symm
 ·exact absurd g1 h1
 ·exact absurd h1 g1
 ·have e1:a=a':=by omega
  have e2:p=p':=by omega
  have e3:k=k':=by omega
  subst e1 e2 e3;exact h2.trans g2.symm
theorem TIns.tw (h:TIns T made par at' kind y U m n)(hw:TW T made):TW U m/\m<=made+1:=by
 rcases h.2 with⟨_,_,rfl,rfl⟩ | ⟨_,_,rfl,p,k,_,_,⟨l,hl,_⟩,rfl⟩
 ·exact⟨hw,Nat.le_succ _⟩
 ·exact⟨hw.ins ⟨l,hl⟩,au⟩
def LT (T:aJ)(l:List Nat):Prop:=l.Nodup/\∀k∈l,∃c,(k,c)∈T
theorem aao {els:List REl}{l:List Nat}:LT (aK els) l↔LS els l:=by
 unfold LT LS aK;constructor
 ·rintro⟨h1,h2⟩;refine⟨h1,λk hk=>?_⟩;obtain⟨c,hc⟩:=h2 k hk;obtain⟨e,he,h3⟩:=bm.1 hc;injection h3 with h3 _
  exact⟨e,he,h3⟩
 ·rintro⟨h1,h2⟩;refine⟨h1,λk hk=>?_⟩;obtain⟨e,he,rfl⟩:=h2 k hk;exact⟨e.kids,bm.2 ⟨e,he,rfl⟩⟩
def nG (F:Nat->Prop)(w w':World)(k:Nat):Prop:=cJ F w k/\k<w'.heap.size
theorem cO {w w':World}{e:TypeId}{v:Value}{n:Nat}{xs:List Value}(h:w.ownsRow 0 e 1 v n xs)(hk:∀k,v.ownBlock=some k->k<w.heap.size->w'.heap[k]?=w.heap[k]?):w'.ownsRow 0 e 1 v n xs:=by
 refine⟨h.1,?_⟩;rcases h.2 with hn | ⟨g,gV,fV,hv,hb,hg,rest⟩
 ·exact af hn
 ·exact ai ⟨g,gV,fV,hv,hb,(hk g (by rw[hv];rfl) (bx.1 hg).1).trans hg,rest⟩
section
variable {PS:World->Value->aJ->Nat->(Nat->Prop)->Prop}{w:World}{b:Nat}{Tx:aJ}{mx:Nat}{Ty:aJ}{my:Nat}{px:Value}{d:Nat}{vm vy vs:Value}{cnt:Int}{held:Bool}{lm ly:List Nat}{Fp Fx Fy:Nat->Prop}
end
end
section
variable {T:aJ}{l:List Nat}
abbrev aH (kd at' X Y Z:Int)(S Tt:ByteArray)(on:Bool):Obj:=.cells #[.int .i64 kd,.int .i64 at',.int .i64 X,.int .i64 Y,.int .i64 Z,.string S,.string Tt,.bool on] 69
theorem Fr.comp {a w w1:World}{G S:Nat->Prop}(h:Fr a w G)(k:Fr w w1 S)(hs:∀j,S j->G j∨a.heap.size<=j):Fr a w1 G:=
 ⟨k.os.trans h.os,k.tape.trans h.tape,k.output.trans h.output,Nat.le_trans h.size k.size,λi hi hn=>(k.block i (Nat.lt_of_lt_of_le hi h.size) (λx=>(hs i x).elim hn (λy=>by omega))).trans (h.block i hi hn)⟩
theorem bI (w:World)(y:Int):Calls prog 93 #[.int .i64 y,.int .i64 y] w λe w'=>e=.returned (.bool true)/\w'=w:=by
 go_enter func93,ntmps93;go_wp2_with fail;refine(pN _ y).mono ?_;rintro e w1 ⟨rfl,rfl⟩;obtain⟨w,rfl⟩:∃w,w=w1:=⟨_,rfl⟩;go_wp2_with fail;refine(pN _ y).mono ?_;rintro e w1 ⟨rfl,rfl⟩;obtain⟨w,rfl⟩:∃w,w=w1:=⟨_,rfl⟩;go_wp2;go_ret;exact⟨by simp,rfl⟩
section
variable {PS:World->Value->aJ->Nat->(Nat->Prop)->Prop}{w0:World}{G:Nat->Prop}{w:World}{b:Nat}{Tx:aJ}{mx:Nat}{Ty:aJ}{my:Nat}{px:Value}{d:Nat}{vm vy vs:Value}{cnt:Int}{held:Bool}{lm ly:List Nat}
end
theorem LT.len (h:LT T l):l.length<=T.length:=by
 have:=dw h.1 (m:=T.map Prod.fst) (λk hk=>by
  obtain⟨c,hc⟩:=h.2 k hk;exact bm.2 ⟨_,hc,rfl⟩)
 simpa using this
theorem LT.ins (h:LT T l)(p k n:Nat):LT (lH T p k n) l:=by
 refine⟨h.1,λx hx=>?_⟩;obtain⟨c,hc⟩:=h.2 x hx;exact⟨if x=p then cY c k n else c,cE.2 (af ⟨(x,c),hc,rfl,rfl⟩)⟩
theorem LT.with (h:LT T l){n:Nat}{c:List Nat}(hn:(n,c)∈T):LT T (dE l n):=by
 unfold dE;split
 ·exact h
 ·rename_i hx;rw[ii] at hx;refine⟨?_,λk hk=>?_⟩
  ·rw[List.nodup_append];refine⟨h.1,by simp,λa ha b hb=>?_⟩;rw[fg] at hb;rw[hb];exact λe=>hx (e▸ha)
  ·rcases List.mem_append.1 hk with hk | hk
   ·exact h.2 k hk
   ·rw[fg] at hk;rw[hk];exact⟨c,hn⟩
end
theorem LT.of_nums {T U:aJ}{l:List Nat}(h:LT T l)(hn:U.map Prod.fst=T.map Prod.fst):LT U l:=by
 refine⟨h.1,λk hk=>?_⟩;obtain⟨c,hc⟩:=h.2 k hk;have h1:k∈U.map Prod.fst:=by rw[hn];exact bm.2 ⟨_,hc,rfl⟩
 obtain⟨x,hx,rfl⟩:=bm.1 h1;exact⟨x.2,hx⟩
theorem Ls (T:aJ)(a p k:Nat):(lI T a p k).map Prod.fst=T.map Prod.fst:=by
 unfold lI;rw[j9,j9]
section
variable {PS:World->Value->aJ->Nat->(Nat->Prop)->Prop}
end
theorem TMov.nums {T:aJ}{n m at':Int}{y:Int}{U:aJ}(h:TMov T n m at' y U):U.map Prod.fst=T.map Prod.fst:=by
 rcases h.2 with⟨_,rfl⟩ | ⟨_,a,p,k,_,_,_,_,_,_,_,rfl⟩
 ·rfl
 ·exact Ls T a p k
structure jU where
 b:Nat
 made:Nat
 G:Nat->Prop
def sS (B:Nat)(vD vI vM:Value)(es:List sM)(k:Nat):Prop:=k=B∨vD.ownBlock=some k∨vI.ownBlock=some k∨vM.ownBlock=some k∨∃e∈es,e.v.ownBlock=some k
section
variable {PS:World->Value->aJ->Nat->(Nat->Prop)->Prop}{an:Nat}{w:World}{B:Nat}{vD vI vM:Value}{nx:Nat}{ps:List jU}{es:List sM}
end
section
variable {PS:World->Value->aJ->Nat->(Nat->Prop)->Prop}{w:World}{b:Nat}{Tx:aJ}{mx:Nat}{Ty:aJ}{my:Nat}{px:Value}{d:Nat}{vm vy vs:Value}{cnt:Int}{held:Bool}{lm ly:List Nat}{Fp Fx Fy:Nat->Prop}
end
theorem Fr.toBelow {w w':World}{S:Nat->Prop}{an:Nat}(h:Fr w w' S)(hb:an<=w.heap.size)(hs:∀k,S k->an<=k):Below an w w':=by
 refine⟨h.os,h.tape,h.output,h.size,λk hk=>h.block k (by omega) (λx=>by have:=hs k x;omega)⟩
theorem Tryz.info112:(Tryz.prog.info? 112).map (λi=>(i.zero,i.size,i.bytes))=some (some (.pointer none),1,8):=by kernel_rfl
section
variable {PS:World->Value->aJ->Nat->(Nat->Prop)->Prop}{an:Nat}{w:World}{B:Nat}{vD vI vM:Value}{nx:Nat}{ps:List jU}{es:List sM}
end
abbrev r6 (pa:Addr)(d m1 m2:Nat):Obj:=.cells #[.pointer (some pa),.pointer (some ⟨d,0,none⟩),.slice (some ⟨m1,0,none⟩) 1 1,.slice (some ⟨m2,0,none⟩) 1 1,.int .i64 1,.slice none 0 0,.bool false] 124
theorem Iv:LT [(0,[])] [0]:=⟨by simp,λk hk=>by rw[fg] at hk;rw[hk];exact⟨[],by simp⟩⟩
theorem IB (w:World)(x:Value)(t:TypeId):(w.alloc (.cells #[x] t)).ownsRow 0 t 1 (.slice (some ⟨w.heap.size,0,none⟩) 1 1) 1 [x]:=
 ⟨rfl,ai ⟨w.heap.size,1,#[x],rfl,aZ,heap_alloc_new w _,au,by unfold maxLen;omega,rfl,rfl⟩⟩
def ou (k:Int)(n:Nat):Nat:=if k<0∨(n:Int)<=k then 0 else k.toNat
theorem Pu {k:Int}{n:Nat}(h:0<n):ou k n<n:=by
 unfold ou;split<;>omega
theorem Pv (w:World)(k:Int)(n:Nat):Calls prog 58 #[.int .i64 k,.int .i64 n] w λe w'=>e=.returned (.int .i64 (ou k n))/\w'=w:=by
 by_cases h1:k<0
 ·have HE:Hid (ou k n=0):=by unfold Hid ou;rw[aq (af h1)]
  go_enter func58,ntmps58;go_wp2;go_ret;rw[HE.out];exact⟨rfl,rfl⟩
 ·have hd1:decide (k<0)=false:=by simpa using h1
  by_cases h2:(n:Int)<=k
  ·have HE:Hid (ou k n=0):=by unfold Hid ou;rw[aq (ai h2)]
   clear h1;go_enter func58,ntmps58;go_wp2;go_ret;rw[HE.out];exact⟨rfl,rfl⟩
  ·have iR:decide ((n:Int)<=k)=false:=by simpa using h2
   have HE:Hid (((ou k n:Nat):Int)=k):=by unfold Hid ou;rw[aj (λh=>h.elim h1 h2)];omega
   clear h1 h2;go_enter func58,ntmps58;go_wp2;go_ret;rw[HE.out];exact⟨rfl,rfl⟩
theorem EJ {ps:List jU}{i:Nat}{p:jU}{M:Nat}(h:∀q∈ps,q.made<=M)(hp:p.made<=M+1):∀q∈ps.set i p,q.made<=M+1:=by
 intro q hq;rcases List.mem_or_eq_of_mem_set hq with hq | rfl
 ·exact Nat.le_succ_of_le (h q hq)
 ·exact hp
section
variable {PS:World->Value->aJ->Nat->(Nat->Prop)->Prop}
end
end Go.Proofs.YtblfffbmklkhmaaGreat
