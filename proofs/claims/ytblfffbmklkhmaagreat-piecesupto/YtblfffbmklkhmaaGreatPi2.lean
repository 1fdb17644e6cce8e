/- Own work. -/
import Derived.Test.YtblfffbmklkhmaaGreatPi1
import Derived.RegionTactic
set_option maxRecDepth 100000
set_option maxHeartbeats 40000000
namespace Go.Proofs.YtblfffbmklkhmaaGreat
open Go.RowKit Go.Proofs.Tryz
section
variable {b an iZ i j l n size:Nat}{e:TypeId}{m:Int}{s:ByteArray}{v:Value}{w w':World}{xs:List Value}
theorem Tryz.info190:(Tryz.prog.info? 190).map (λi=>(i.zero,i.size,i.bytes))=some (some (.agg #[.int .u8 0,.int .u8 0,.slice none 0 0]),3,32):=by kernel_rfl
def Keeps (w w':World)(an:Nat)(e:TypeId):Prop:=∀g fV,an<=g->w.heap[g]?=some (.cells fV e (0,0))->w'.heap[g]?=some (.cells fV e (0,0))
theorem Keeps.trans {a b c:World}(h:Keeps a b an e)(k:Keeps b c an e):Keeps a c an e:=λg fV hg hh=>k g fV hg (h g fV hg hh)
theorem eS {w1:World}(h:At w w1 b s j m)(hb:b<an)(e:TypeId):Keeps w w1 an e:=λg fV hg hh=>
 (h.gb.block g (bx.1 hh).1 (λe=>by injection e with e;omega)).trans hh
theorem cQ (w:World)(o:Obj)(an:Nat)(e:TypeId):Keeps w (w.alloc o) an e:=λg _ _ hh=>(Below.heap_alloc w o g (bx.1 hh).1).trans hh
theorem eO (w:World){p:Addr}(hp:p.block<an)(u:Value)(e:TypeId):Keeps w (w.setCell p u) an e:=λg _ hg hh=>(Below.heap_setCell w p u g (by omega)).trans hh
theorem jY {e':TypeId}(fY:e≠e')(ho:w.ownsRow iZ e' size v n xs)(hg:w.grownBy w' v.ownBlock):Keeps w w' an e:=by
 intro g fV _ hh;refine(hg.block g (bx.1 hh).1 ?_).trans hh;intro eq;rcases ho.2 with⟨rfl,_⟩ | ⟨g',gV,cur',rfl,_,Ff,_⟩
 ·simp[Value.ownBlock] at eq
 ·simp[Value.ownBlock] at eq;subst eq;rw[hh] at Ff;injection Ff with Ff
  injection Ff with _ h2 _
  exact fY h2
theorem Keeps.owns (hk:Keeps w w' an e)(h:w.ownsRow an e size v n xs):w'.ownsRow an e size v n xs:=by
 refine⟨h.1,?_⟩;rcases h.2 with hn | ⟨g,gV,fV,hv,hg,hh,rest⟩
 ·exact af hn
 ·exact ai ⟨g,gV,fV,hv,hg,hk g fV hg hh,rest⟩
structure d9 where
 sg:Int
 ty:Nat
 ps:List PPt
def oz (s:ByteArray)(i0 i:Nat):Int:=if i=i0 then 0 else(bt s (i - 1):Int)
theorem Lh (s:ByteArray)(i:Nat):oz s i i=0:=aq rfl
theorem AH (s:ByteArray)(h:i<l+1):oz s i (l+1)=bt s l:=by
 unfold oz;rw[aj (by omega),Nat.add_sub_cancel]
def Comps (w:World)(an:Nat):List Value->List d9->Prop
 | xs,[]=>xs=[]
 | xs,x :: cs=>∃(a:Option Addr) (c:Nat) (ps ys:List Value),xs=.int .u8 x.sg :: .int .u8 x.ty :: .slice a x.ps.length c :: ys/\w.ownsRow an 192 5 (.slice a x.ps.length c) x.ps.length ps/\Kinds ps x.ps/\Comps w an ys cs
theorem Comps.keep (hk:Keeps w w' an 192):∀{xs:List Value} {cs:List d9},Comps w an xs cs->Comps w' an xs cs
 | _,[],h=>h
 | _,_ :: _,⟨a,c,ps,ys,h1,h2,h3,h4⟩=>⟨a,c,ps,ys,h1,hk.owns h2,h3,Comps.keep hk h4⟩
theorem Comps.mono (hb:iZ<=an):∀{xs:List Value} {cs:List d9},Comps w an xs cs->Comps w iZ xs cs
 | _,[],h=>h
 | _,_ :: _,⟨a,c,ps,ys,h1,h2,h3,h4⟩=>⟨a,c,ps,ys,h1,aP h2 hb,h3,Comps.mono hb h4⟩
theorem Comps.snoc (sg:Int)(ty:Nat)(a:Option Addr)(c:Nat)(ks:List PPt)(ps:List Value)(ho:w.ownsRow an 192 5 (.slice a ks.length c) ks.length ps)(hk:Kinds ps ks):
  ∀{xs:List Value} {cs:List d9},Comps w an xs cs->Comps w an (xs++[.int .u8 sg,.int .u8 ty,.slice a ks.length c]) (cs++[⟨sg,ty,ks⟩])
 | _,[],h=>by simp only[Comps] at h;subst h;exact⟨a,c,ps,[],rfl,ho,hk,rfl⟩
 | _,_ :: _,⟨a',c',uq,ys,h1,h2,h3,h4⟩=>⟨a',c',uq,_,by rw[h1];rfl,h2,h3,Comps.snoc sg ty a c ks ps ho hk h4⟩
def SelPre (s:ByteArray)(i0:Nat):Nat->Nat->List d9->Prop
 | i,j,[]=>i=j
 | i,j,x :: cs=>∃l,fl s i l x.ty x.ps/\i<l/\oB (bt s l)=false/\i6 (bt s l)=true/\SelPre s i0 (l+1) j cs/\x.sg=oz s i0 i
theorem SelPre.snoc {i0:Nat}{cs:List d9}{sg:Int}{ty:Nat}{ks:List PPt}(h:SelPre s i0 i j cs)(hg:sg=oz s i0 j)(hc:fl s j l ty ks)(hl:j<l)(hA:oB (bt s l)=false)(hs:i6 (bt s l)=true):SelPre s i0 i (l+1) (cs++[⟨sg,ty,ks⟩]):=by
 induction cs generalizing i with
 | nil=>simp only[SelPre] at h;subst h;exact⟨l,hc,hl,hA,hs,rfl,hg⟩
 | cons x cs ih=>
  obtain⟨l',h1,h2,h3,h4,h5,h6⟩:=h;exact⟨l',h1,h2,h3,h4,ih h5,h6⟩
def lb (s:ByteArray)(i j:Nat)(cs:List d9):Prop:=
 ∃pre l ty ks,cs=pre++[⟨oz s i l,ty,ks⟩]/\SelPre s i i l pre/\fl s l j ty ks/\l<j/\oB (bt s j)=false/\i6 (bt s j)=false
structure vP (w:World)(b:Nat)(s:ByteArray)(i:Nat)(m:Int)(gk:Nat)(v:Value)(more:Bool)(wr:World)(j:Nat)(mP:Int)(cs:List d9)(xs:List Value):Prop where
 at':At (w.alloc (.cells #[.slice none 0 0] 141)) wr b s j mP
 own:wr.ownsRow (w.heap.size+1) 190 3 v cs.length xs
 comps:Comps wr (w.heap.size+1) xs cs
 le:i<=j
 few:cs.length<=j - i
 gk:more=true->s.size - j<gk
 go:more=true->SelPre s i i j cs/\∀nr,V s 2 ⟨nr,1,m⟩ i=V s 2 ⟨nr,cs.length+1,cZ (decide (cs.length=4)) mP j⟩ j
 done:more=false->lb s i j cs/\∀nr,V s 2 ⟨nr,1,m⟩ i=V s 3 ⟨nr,cs.length,mP⟩ j
def Rf (w:World)(b:Nat)(s:ByteArray)(i:Nat)(m:Int)(e:Ending)(w':World):Prop:=
 (∃(a:Option Addr) (c:Nat) (cs:List d9) (xs:List Value) (j:Nat) (m':Int),e=.returned (.tuple #[.agg #[.slice a cs.length c],.bool true])/\At w w' b s j m'/\w'.ownsRow w.heap.size 190 3 (.slice a cs.length c) cs.length xs/\Comps w' w.heap.size xs cs/\
  Hid (lb s i j cs/\i<j/\∀nr,V s 2 ⟨nr,1,m⟩ i=V s 3 ⟨nr,cs.length,m'⟩ j))∨
 (∃j m',e=.returned (.tuple #[.agg #[.slice none 0 0],.bool false])/\At w w' b s j m'/\Hid (∀nr,V s 2 ⟨nr,1,m⟩ i=((j:Int),-1)))
theorem aas (a b:Int)(c:Option Addr)(n k:Nat):∀u∈[Value.int .u8 a,Value.int .u8 b,Value.slice c n k],u.oneCell'=true:=by
 intro u hu;simp only[List.mem_cons,List.not_mem_nil,or_false] at hu;rcases hu with rfl | rfl | rfl<;>rfl
theorem j7:∀{cs:List d9} {i0 i j:Nat},SelPre s i0 i j cs->i<=j
 | [],_,_,_,h=>by simp only[SelPre] at h;omega
 | _ :: _,_,_,_,⟨_,_,h2,_,_,h5,_⟩=>by have:=j7 h5;omega
theorem Cd {nr nc:Nat}(h:i6 (bt s i)=true/\i<s.size):V s 3 ⟨nr,nc,m⟩ i=V s 2 ⟨nr,nc+1,cZ (decide (nc=4)) m (i+1)⟩ (i+1):=by
 have iV:bt s i≠33:=by have:=h.1;simp only[i6,bF] at this;omega
 rw[vV h.2 (m':=2) (by simp[bY,i7,h.1,iV]) (by decide)];simp[cnt,h.1]
theorem Rd.allocAt (h:Rd w b s j m)(o:Obj):At (w.alloc o) (w.alloc o) b s j m:=(h.alloc o).at0
theorem Ca (w:World)(b:Nat)(s:ByteArray)(i:Nat)(m:Int)(h:Rd w b s i m):
  Calls prog 179 #[.pointer (some ⟨b,0,none⟩)] w λe w'=>Rf w b s i m e w':=by
 have hb:=h.lt;have wV:=h.top;obtain⟨i0,hi,gx,gA,gB⟩:=info_parts Tryz.info190;go_enter func179,ntmps179;go_wp2_with fail
 go_loopg [4,5,6] (s.size - i+1) (λgk v sgv mv wr=>∃(j:Nat) (mP:Int) (cs:List d9) (xs:List Value) (sg:Int) (more:Bool),sgv=.int .u8 sg/\mv=.bool more/\vP w b s i m gk v more wr j mP cs xs/\Hid (more=true->sg=oz s i j))
 case atStart=>
  refine⟨i,m,[],[],0,true,rfl,rfl,⟨h.allocAt _,er,rfl,au,by simp,λ_=>by omega,λ_=>⟨rfl,λnr=>?_⟩,λe=>by cases e⟩,λ_=>(Lh s i).symm⟩;simp[cZ]
 case round=>
  obtain⟨j,mP,cs,xs,sg,more,rfl,rfl,R,Wu⟩:=hrel;have qw:=R.at'.rd.le;obtain⟨a,c,hv⟩:=aA R.own;subst hv;cases more
  ·have R2:=R;have gK:w.heap.size<wr.heap.size:=by have:=R.at'.size;simp only[World.size_alloc] at this;omega
   obtain⟨hc,hz⟩:=R.at'.cells w.heap.size (by simp) (by omega);clear R;go_wp2;refine bodyPost_ret (v:=.tuple #[.agg #[.slice a cs.length c],.bool true]) (by simp[results,Tryz.results179,go_sem,hc]) rfl (af ⟨a,c,cs,xs,j,mP,rfl,R2.at'.ofAlloc.setNew hb au _,aP (ownsRow_setCell_below R2.own (by simp) _) (by omega),(R2.comps.keep (eO _ (by simp) _ _)).mono (by omega),?_⟩);obtain⟨q1,q2⟩:=R2.done rfl;refine⟨q1,?_,q2⟩;obtain⟨pre,l,ty,ks,_,h2,_,h4,_⟩:=q1;have:=j7 h2;omega
  ·replace Wu:Hid (sg=oz s i j):=Wu.out rfl
   by_cases h4:cs.length=4
   ·have g4:((cs.length:Int)==4)=true:=by simp[h4]
    have H4:=ae h4;clear h4;go_wp2_with fail;refine(rW _ b s j mP (by exact R.at'.rd)).mono ?_;rintro e w1 ⟨rfl,rF⟩;have hM:Hid (∀nr,V s 2 ⟨nr,cs.length+1,cZ (decide (cs.length=4)) mP j⟩ j=V s 2 ⟨nr,cs.length+1,ms mP j⟩ j):=λnr=>by simp[cZ,H4.out]
    generalize ms mP j=M at rF hM;go_wp2_with fail;refine(ry _ b s j M (by exact rF.rd)).mono ?_;rintro e w2 (⟨ty,a2,c2,ks,ps,l,rfl,dB,yN,bG⟩ | ⟨l,rfl,dB,bG⟩)
    ·have dQ:=(R.at'.trans rF).trans dB;have gK:=(R.at'.trans rF).size;simp only[World.size_alloc] at gK;have nE:w.heap.size<w2.heap.size:=by have:=dQ.size;simp only[World.size_alloc] at this;omega
     have di:=(rF.trans dB).owns R.own (by omega);have bX:=R.few;go_wp2_with (at_builtin;refine wpList_append_own _ rfl (.tmp 25) (.tmp 27) 139 rfl (w.heap.size+1) 190 i0 (.agg #[.int .u8 0,.int .u8 0,.slice none 0 0]) 3 32 underlying139 hi gx gA gB rfl (by decide) _ _ _ rfl ((di.alloc _).alloc _) ⟨w2.heap.size+1,0,none⟩ 1 1 [.int .u8 sg,.int .u8 ty,.slice a2 ks.length c2] rfl rfl ?c1x ?c2x ?c3x ?c4x ?c5x ?_)
     case c1x=>exact aW (w2.alloc _) _ (by simp) _ _ _ rfl
     case c2x=>exact aas _ _ _ _ _
     case c3x=>unfold maxLen;omega
     case c4x=>omega
     case c5x=>simp;omega
     ·intro v' w3 bU fk _;have bA:w3.ownsRow (w.heap.size+1) 190 3 v' (cs++[(⟨sg,ty,ks⟩:d9)]).length (xs++[.int .u8 sg,.int .u8 ty,.slice a2 ks.length c2]):=by simpa using bU
      have fT:Keeps wr w2 (w.heap.size+1) 192:=eS (rF.trans dB) (by omega) _;have oS:Keeps w2 w3 (w.heap.size+1) 192:=((cQ _ _ _ _).trans (cQ _ _ _ _)).trans (jY (by decide) ((di.alloc _).alloc _) fk)
      have nP:Comps w3 (w.heap.size+1) (xs++[.int .u8 sg,.int .u8 ty,.slice a2 ks.length c2]) (cs++[⟨sg,ty,ks⟩]):=
       Comps.snoc sg ty a2 c2 ks ps (oS.owns (aP yN gK)) bG.out.1 (R.comps.keep (fT.trans oS))
      have yG:At (w.alloc (.cells #[.slice none 0 0] 141)) w3 b s l M:=((dQ.alloc _).alloc _).app (by simp;omega) (by simpa using((di.alloc _).alloc _)) fk;obtain⟨q1,q2,q3,q4,q5⟩:=bG.out
      have HV:Hid (SelPre s i i j cs/\fl s j l ty ks/\j<l/\oB (bt s l)=false/\∀nr,V s 2 ⟨nr,1,m⟩ i=V s 3 ⟨nr,cs.length+1,M⟩ l):=
       ⟨(R.go rfl).1,q5,q3,q4,λnr=>by rw[(R.go rfl).2 nr,hM.out,q2]⟩
      have qw:=R.le;have fS:=R.gk rfl;have bC:(cs++[(⟨sg,ty,ks⟩:d9)]).length<=l - i:=by simp;omega
      clear bU fk di R fT oS q1 q2 q4 q5 bG;go_wp2_with fail;refine(EP _ b s l M (by exact yG.rd)).mono ?_;rintro e w4 (⟨rfl,jE,jn⟩ | ⟨rfl,jE,jn⟩)
      ·have R4:vP w b s i m (s.size - l) v' true w4 (l+1) M (cs++[⟨sg,ty,ks⟩]) (xs++[.int .u8 sg,.int .u8 ty,.slice a2 ks.length c2]):=by
        obtain⟨p1,p2,p3,p4,p5⟩:=HV.out;have h4:=jn.out;refine⟨yG.trans jE,jE.owns bA (by omega),nP.keep (eS jE (by omega) _),by omega,by omega,λ_=>by omega,λ_=>⟨p1.snoc (Wu.out) p2 p3 p4 h4.1,λnr=>?_⟩,λe=>by cases e⟩;rw[p5 nr,Cd h4];simp
       have BF:=jn.out.2;clear nP bA;go_wp2;go_roundg (s.size - l)
       case measure=>omega
       case rel=>exact⟨l+1,M,_,_,_,_,rfl,rfl,R4,λ_=>(AH s (by have:=HV.out.2.2.1;omega)).symm⟩
      ·have R4:vP w b s i m 0 v' false w4 l M (cs++[⟨sg,ty,ks⟩]) (xs++[.int .u8 sg,.int .u8 ty,.slice a2 ks.length c2]):=by
        obtain⟨p1,p2,p3,p4,p5⟩:=HV.out;exact⟨yG.trans jE,jE.owns bA (by omega),nP.keep (eS jE (by omega) _),by omega,by omega,λe=>(by cases e),λe=>(by cases e),λ_=>⟨⟨cs,j,ty,ks,by rw[Wu.out],p1,p2,p3,p4,jn.out⟩,λnr=>by rw[p5 nr];simp⟩⟩
       clear nP bA;go_wp2;go_roundg 0
       case measure=>omega
       case rel=>exact⟨l,M,_,_,_,_,rfl,rfl,R4,λe=>by cases e⟩
    ·have dQ:=(R.at'.trans rF).trans dB;have nE:w.heap.size<w2.heap.size:=by have:=dQ.size;simp only[World.size_alloc] at this;omega
     obtain⟨hc,hz⟩:=dQ.cells w.heap.size (by simp) (by omega);go_wp2_with fail;exact bodyPost_ret (v:=.tuple #[.agg #[.slice none 0 0],.bool false]) (by simp[results,Tryz.results179,go_sem,hc,nE]) rfl (ai ⟨l,M,rfl,(dQ.ofAlloc.setNew hb au _).alloc _,λnr=>by rw[(R.go rfl).2 nr,hM.out,bG.out]⟩)
   ·have g4:((cs.length:Int)==4)=false:=by simp;omega
    obtain⟨M,rF,hM⟩:∃M,At wr wr b s j M/\Hid (∀nr,V s 2 ⟨nr,cs.length+1,cZ (decide (cs.length=4)) mP j⟩ j=V s 2 ⟨nr,cs.length+1,M⟩ j):=⟨mP,R.at'.rd.at0,λnr=>by simp[cZ,h4]⟩;clear h4;go_wp2_with fail;refine(ry _ b s j M (by exact rF.rd)).mono ?_;rintro e w2 (⟨ty,a2,c2,ks,ps,l,rfl,dB,yN,bG⟩ | ⟨l,rfl,dB,bG⟩)
    ·have dQ:=(R.at'.trans rF).trans dB;have gK:=(R.at'.trans rF).size;simp only[World.size_alloc] at gK;have nE:w.heap.size<w2.heap.size:=by have:=dQ.size;simp only[World.size_alloc] at this;omega
     have di:=(rF.trans dB).owns R.own (by omega);have bX:=R.few;go_wp2_with (at_builtin;refine wpList_append_own _ rfl (.tmp 25) (.tmp 27) 139 rfl (w.heap.size+1) 190 i0 (.agg #[.int .u8 0,.int .u8 0,.slice none 0 0]) 3 32 underlying139 hi gx gA gB rfl (by decide) _ _ _ rfl ((di.alloc _).alloc _) ⟨w2.heap.size+1,0,none⟩ 1 1 [.int .u8 sg,.int .u8 ty,.slice a2 ks.length c2] rfl rfl ?c1y ?c2y ?c3y ?c4y ?c5y ?_)
     case c1y=>exact aW (w2.alloc _) _ (by simp) _ _ _ rfl
     case c2y=>exact aas _ _ _ _ _
     case c3y=>unfold maxLen;omega
     case c4y=>omega
     case c5y=>simp;omega
     ·intro v' w3 bU fk _;have bA:w3.ownsRow (w.heap.size+1) 190 3 v' (cs++[(⟨sg,ty,ks⟩:d9)]).length (xs++[.int .u8 sg,.int .u8 ty,.slice a2 ks.length c2]):=by simpa using bU
      have fT:Keeps wr w2 (w.heap.size+1) 192:=eS (rF.trans dB) (by omega) _;have oS:Keeps w2 w3 (w.heap.size+1) 192:=((cQ _ _ _ _).trans (cQ _ _ _ _)).trans (jY (by decide) ((di.alloc _).alloc _) fk)
      have nP:Comps w3 (w.heap.size+1) (xs++[.int .u8 sg,.int .u8 ty,.slice a2 ks.length c2]) (cs++[⟨sg,ty,ks⟩]):=
       Comps.snoc sg ty a2 c2 ks ps (oS.owns (aP yN gK)) bG.out.1 (R.comps.keep (fT.trans oS))
      have yG:At (w.alloc (.cells #[.slice none 0 0] 141)) w3 b s l M:=((dQ.alloc _).alloc _).app (by simp;omega) (by simpa using((di.alloc _).alloc _)) fk;obtain⟨q1,q2,q3,q4,q5⟩:=bG.out
      have HV:Hid (SelPre s i i j cs/\fl s j l ty ks/\j<l/\oB (bt s l)=false/\∀nr,V s 2 ⟨nr,1,m⟩ i=V s 3 ⟨nr,cs.length+1,M⟩ l):=
       ⟨(R.go rfl).1,q5,q3,q4,λnr=>by rw[(R.go rfl).2 nr,hM.out,q2]⟩
      have qw:=R.le;have fS:=R.gk rfl;have bC:(cs++[(⟨sg,ty,ks⟩:d9)]).length<=l - i:=by simp;omega
      clear bU fk di R fT oS q1 q2 q4 q5 bG;go_wp2_with fail;refine(EP _ b s l M (by exact yG.rd)).mono ?_;rintro e w4 (⟨rfl,jE,jn⟩ | ⟨rfl,jE,jn⟩)
      ·have R4:vP w b s i m (s.size - l) v' true w4 (l+1) M (cs++[⟨sg,ty,ks⟩]) (xs++[.int .u8 sg,.int .u8 ty,.slice a2 ks.length c2]):=by
        obtain⟨p1,p2,p3,p4,p5⟩:=HV.out;have h4:=jn.out;refine⟨yG.trans jE,jE.owns bA (by omega),nP.keep (eS jE (by omega) _),by omega,by omega,λ_=>by omega,λ_=>⟨p1.snoc (Wu.out) p2 p3 p4 h4.1,λnr=>?_⟩,λe=>by cases e⟩;rw[p5 nr,Cd h4];simp
       have BF:=jn.out.2;clear nP bA;go_wp2;go_roundg (s.size - l)
       case measure=>omega
       case rel=>exact⟨l+1,M,_,_,_,_,rfl,rfl,R4,λ_=>(AH s (by have:=HV.out.2.2.1;omega)).symm⟩
      ·have R4:vP w b s i m 0 v' false w4 l M (cs++[⟨sg,ty,ks⟩]) (xs++[.int .u8 sg,.int .u8 ty,.slice a2 ks.length c2]):=by
        obtain⟨p1,p2,p3,p4,p5⟩:=HV.out;exact⟨yG.trans jE,jE.owns bA (by omega),nP.keep (eS jE (by omega) _),by omega,by omega,λe=>(by cases e),λe=>(by cases e),λ_=>⟨⟨cs,j,ty,ks,by rw[Wu.out],p1,p2,p3,p4,jn.out⟩,λnr=>by rw[p5 nr];simp⟩⟩
       clear nP bA;go_wp2;go_roundg 0
       case measure=>omega
       case rel=>exact⟨l,M,_,_,_,_,rfl,rfl,R4,λe=>by cases e⟩
    ·have dQ:=(R.at'.trans rF).trans dB;have nE:w.heap.size<w2.heap.size:=by have:=dQ.size;simp only[World.size_alloc] at this;omega
     obtain⟨hc,hz⟩:=dQ.cells w.heap.size (by simp) (by omega);go_wp2_with fail;exact bodyPost_ret (v:=.tuple #[.agg #[.slice none 0 0],.bool false]) (by simp[results,Tryz.results179,go_sem,hc,nE]) rfl (ai ⟨l,M,rfl,(dQ.ofAlloc.setNew hb au _).alloc _,λnr=>by rw[(R.go rfl).2 nr,hM.out,bG.out]⟩)
end
section
variable {M hm md sg:Int}{b i n nr p q:Nat}{k:Cn}{s:ByteArray}{v vo:Value}{w wr:World}{xs:List Value}
theorem Tryz.info206:(Tryz.prog.info? 206).map (λi=>(i.zero,i.size,i.bytes))=some (some (.agg #[.int .u8 0,.string ⟨#[]⟩]),2,24):=by kernel_rfl
def Txs (s:ByteArray):List Value->List (Nat × Nat)->Prop
 | xs,[]=>xs=[]
 | xs,(p,q) :: r=>∃(sg:Int) (ys:List Value),xs=.int .u8 sg :: .string (s.extract p q) :: ys/\Txs s ys r
theorem Txs.snoc (sg:Int)(p q:Nat):∀{xs:List Value} {aQ:List (Nat × Nat)},Txs s xs aQ->Txs s (xs++[.int .u8 sg,.string (s.extract p q)]) (aQ++[(p,q)])
 | _,[],h=>by simp only[Txs] at h;subst h;exact⟨sg,[],rfl,rfl⟩
 | _,(_,_) :: _,⟨sg',ys,h1,h2⟩=>⟨sg',_,by rw[h1];rfl,Txs.snoc sg p q h2⟩
theorem Txs.len:∀{xs:List Value} {aQ:List (Nat × Nat)},Txs s xs aQ->xs.length=aQ.length*2
 | _,[],h=>by simp only[Txs] at h;subst h;rfl
 | _,(_,_) :: _,⟨sg,ys,h1,h2⟩=>by rw[h1];simp only[List.length_cons];rw[Txs.len h2];omega
def pA (s:ByteArray)(n p:Nat):Int:=if n=0 then 0 else(bt s (p - 1):Int)
def Sgs (s:ByteArray)(xs:List Value)(aQ:List (Nat × Nat)):Prop:=∀i p q,aQ[i]?=some (p,q)->xs[i*2]?=some (.int .u8 (pA s i p))
theorem Sgs.snoc {aQ:List (Nat × Nat)}(h:Sgs s xs aQ)(ht:Txs s xs aQ)(hs:sg=pA s aQ.length p):Sgs s (xs++[.int .u8 sg,.string (s.extract p q)]) (aQ++[(p,q)]):=by
 intro i p' q' hi;have hl:=ht.len
 by_cases he:i<aQ.length
 ·rw[List.getElem?_append_left he] at hi;rw[List.getElem?_append_left (by omega)];exact h i p' q' hi
 ·rw[List.getElem?_append_right (by omega)] at hi
  obtain rfl:i=aQ.length:=by
   have:=(dY.1 hi).1;simp at this;omega
  rw[Nat.sub_self] at hi;injection hi with hi
  injection hi with h1 h2
  rw[List.getElem?_append_right (by omega),hl,Nat.sub_self,hs,h1];rfl
def Segs (s:ByteArray):Nat->Nat->List (Nat × Nat)->Prop
 | i,j,[]=>i=j
 | i,j,(p,q) :: r=>p=i/\(∀k,p<=k->k<q->i6 (bt s k)=false)/\p<=q/\i6 (bt s q)=true/\Segs s (q+1) j r
theorem Segs.snoc (h1:∀k,p<=k->k<q->i6 (bt s k)=false)(h2:p<=q)(h3:i6 (bt s q)=true):∀{aQ:List (Nat × Nat)} {i:Nat},Segs s i p aQ->Segs s i (q+1) (aQ++[(p,q)])
 | [],_,h=>by simp only[Segs] at h;subst h;exact⟨rfl,h1,h2,h3,rfl⟩
 | (_,_) :: _,_,⟨a,b,c,d,e⟩=>⟨a,b,c,d,Segs.snoc h1 h2 h3 e⟩
def mi (s:ByteArray)(i j:Nat)(aQ:List (Nat × Nat)):Prop:=
 ∃pre p,aQ=pre++[(p,j)]/\Segs s i p pre/\p<=j/\∀k,p<=k->k<j->i6 (bt s k)=false
structure Ch (w wr:World)(b:Nat)(v:Value)(hm:Int)(vo:Value)(n:Nat)(xs:List Value)(sg:Int):Prop where
 sh:Sh wr b v hm
 gb:w.grownBy wr (some b)
 cb:∃tx,wr.heap[w.heap.size]?=some (.cells #[.int .u8 sg,.string tx] 206 (0,0))
 own:wr.ownsRow (w.heap.size+1) 206 2 vo n xs
 lt:b<w.heap.size
theorem Ch.cells (h:Ch w wr b v hm vo n xs sg):
  (∃tx,wr.cell? ⟨w.heap.size,0,none⟩=some (.int .u8 sg)/\wr.cell? ⟨w.heap.size,1,none⟩=some (.string tx))/\(∀k,wr.frozen? ⟨w.heap.size,k,none⟩=false):=by
 obtain⟨tx,h1⟩:=h.cb;exact⟨⟨tx,aa h1 rfl,aa h1 rfl⟩,λk=>ax h1⟩
theorem Ch.set1 (h:Ch w wr b v hm vo n xs sg)(tx:ByteArray):
  Ch w (wr.setCell ⟨w.heap.size,1,none⟩ (.string tx)) b v hm vo n xs sg:=by
 have hl:=h.lt;obtain⟨Ut,h1⟩:=h.cb;refine⟨(Below.heap_setCell _ _ _ _ (by show b≠w.heap.size;omega)).trans h.sh,mS h.gb au _,⟨tx,?_⟩,ownsRow_setCell_below h.own (by show w.heap.size<w.heap.size+1;omega) _,hl⟩;rw[aF h1];rfl
theorem Ch.set0 (h:Ch w wr b v hm vo n xs sg)(x:Int):
  Ch w (wr.setCell ⟨w.heap.size,0,none⟩ (.int .u8 x)) b v hm vo n xs x:=by
 have hl:=h.lt;obtain⟨Ut,h1⟩:=h.cb;refine⟨(Below.heap_setCell _ _ _ _ (by show b≠w.heap.size;omega)).trans h.sh,mS h.gb au _,⟨Ut,?_⟩,ownsRow_setCell_below h.own (by show w.heap.size<w.heap.size+1;omega) _,hl⟩;rw[aF h1];rfl
theorem Ch.noted {w2:World}{qZ:Int}(h:Ch w wr b v hm vo n xs sg)(hs:Sh w2 b v qZ)(hg:wr.grownBy w2 (some b)):Ch w w2 b v qZ vo n xs sg:=by
 have hl:=h.lt;obtain⟨Ut,h1⟩:=h.cb;refine⟨hs,mT h.gb hg,⟨Ut,(hg.block _ (bx.1 h1).1 (λe=>by injection e with e;omega)).trans h1⟩,h.own.kept hg ?_,hl⟩;cases hv:vo.ownBlock with
 | none=>exact af rfl
 | some g=>right;intro e;injection e with e;have:=(h.own.lt g hv).1;omega
theorem Ch.alloc (h:Ch w wr b v hm vo n xs sg)(o:Obj):Ch w (wr.alloc o) b v hm vo n xs sg:=by
 obtain⟨Ut,h1⟩:=h.cb;exact⟨(Below.heap_alloc wr o b h.sh.lt).trans h.sh,wM h.gb o,⟨Ut,(Below.heap_alloc wr o _ (bx.1 h1).1).trans h1⟩,h.own.alloc o,h.lt⟩
theorem Ch.app {w3:World}(h:Ch w wr b v hm vo n xs sg){vo':Value}{n':Nat}{xs':List Value}(hg:wr.grownBy w3 vo.ownBlock)(ho:w3.ownsRow (w.heap.size+1) 206 2 vo' n' xs'):Ch w w3 b v hm vo' n' xs' sg:=by
 have hl:=h.lt
 have fY:∀k,k<=w.heap.size->some k≠vo.ownBlock:=by
  intro k hk e;have:=(h.own.lt k e.symm).1;omega
 obtain⟨Ut,h1⟩:=h.cb;refine⟨(hg.block b h.sh.lt (fY b (by omega))).trans h.sh,?_,⟨Ut,(hg.block _ (bx.1 h1).1 (fY _ au)).trans h1⟩,ho,hl⟩
 exact⟨hg.os.trans h.gb.os,hg.tape.trans h.gb.tape,hg.output.trans h.gb.output,Nat.le_trans h.gb.size hg.size,
  λk hk hn=>(hg.block k (Nat.lt_of_lt_of_le hk h.gb.size) (fY k (by omega))).trans (h.gb.block k hk hn)⟩
structure zh (w:World)(b:Nat)(v:Value)(s:ByteArray)(fr to:Nat)(nr:Nat)(M:Int)(vo:Value)(p i:Nat)(wr:World)(hm:Int)(aQ:List (Nat × Nat))(xs:List Value)(sg:Int):Prop where
 ch:Ch w wr b v hm vo aQ.length xs sg
 noted:iX hm p
 txs:Txs s xs aQ
 sgs:Sgs s xs aQ
 sgn:i<=to->sg=pA s aQ.length p
 lo:fr<=i
 hi:i<=to+1
 few:aQ.length<=i - fr
 pi:p<=i
 pf:fr<=p
 go:i<=to->Segs s fr p aQ/\(∀k,p<=k->k<i->i6 (bt s k)=false)/\∃md,iI md/\Acc s md ⟨nr,aQ.length+1,cZ (decide (aQ.length=4)) hm p⟩ i M
 done:i=to+1->mi s fr to aQ/\iX hm to/\∃nc,Acc s 3 ⟨nr,nc,hm⟩ to M
def Uw (w:World)(b:Nat)(v:Value)(s:ByteArray)(fr to:Nat)(nr:Nat)(M:Int)(e:Ending)(w':World):Prop:=
 ∃(a:Option Addr) (c:Nat) (aQ:List (Nat × Nat)) (xs:List Value) (hm:Int),e=.returned (.slice a aQ.length c)/\Sh w' b v hm/\w.grownBy w' (some b)/\w'.ownsRow w.heap.size 206 2 (.slice a aQ.length c) aQ.length xs/\
  Hid ((Txs s xs aQ/\Sgs s xs aQ)/\mi s fr to aQ/\iX hm to/\∃nc,Acc s 3 ⟨nr,nc,hm⟩ to M)
structure Mb (s:ByteArray)(fr to:Nat)(nr:Nat)(M:Int)(hm:Int):Prop where
 le:fr<=to
 lt:to<s.size
 top:s.size<=400
 no:∀k,fr<=k->k<to->bt s k≠44/\bt s k≠123
 mark:bt s to=44∨bt s to=123
 noted:iX hm fr
 acc:Acc s 2 ⟨nr,1,hm⟩ fr M
theorem lA (h:iX hm p)(bl:Bool)(hq:p<=q):iX (cZ bl hm p) q:=by
 unfold iX cZ ms at *
 repeat' split
 all_goals omega
theorem SD (a:Int)(t:ByteArray):∀u∈[Value.int .u8 a,Value.string t],u.oneCell'=true:=by
 intro u hu;simp only[List.mem_cons,List.not_mem_nil,or_false] at hu;rcases hu with rfl | rfl<;>rfl
theorem RK {fr to:Nat}{Co:Int}(P:Mb s fr to nr M Co)(hm:iI md)(h:Acc s md k i M)(Ka:fr<=i)(aU:i<to)(hs:i6 (bt s i)=false):∃md',iI md'/\Acc s md' k (i+1) M:=by
 have hl:=h.lt (by unfold iI at hm;omega);obtain⟨n1,n2⟩:=P.no i Ka aU;refine⟨_,xX hm n2 (h.ok hl),?_⟩;have:=h.step hl;rwa[SY hm hs n1] at this
theorem Hw {nc:Nat}{x:Int}(hm:iI md)(h:Acc s md ⟨nr,nc,x⟩ i M)(hs:i6 (bt s i)=true):Acc s 2 ⟨nr,nc+1,cZ (decide (nc=4)) x (i+1)⟩ (i+1) M:=by
 have hl:=h.lt (by unfold iI at hm;omega);obtain rfl:=xW hm (af hs) (h.ok hl);unfold Acc at h ⊢;rw[<-h,Cd ⟨hs,hl⟩]
theorem NB (hm:iI md)(h:Acc s md k i M)(hs:bt s i=44∨bt s i=123):Acc s 3 k i M:=by
 have hl:=h.lt (by unfold iI at hm;omega);obtain rfl:=xW hm (ai hs) (h.ok hl);exact h
theorem IZ (s:ByteArray)(h:i<s.size)(aQ:List (Nat × Nat))(x:Nat × Nat):(s[i].toNat:Int)=pA s (aQ++[x]).length (i+1):=by
 unfold pA;rw[aj (by simp),Nat.add_sub_cancel,bN s i h]
theorem JF (w:World)(b:Nat)(v:Value)(Co:Int)(s:ByteArray)(fr to nr:Nat)(M:Int)(h:Sh w b v Co)(hP:Mb s fr to nr M Co):
  Calls prog 132 #[.pointer (some ⟨b,0,none⟩),.string s,.int .i64 fr,.int .i64 to] w λe w'=>Uw w b v s fr to nr M e w':=by
 have h_lt:=h.lt;have P_le:=hP.le;have P_lt:=hP.lt;have P_top:=hP.top;have HP:=ae hP;clear hP;obtain⟨i0,hi,gx,gA,gB⟩:=info_parts Tryz.info206;go_enter func132,ntmps132;go_wp2_with fail
 go_loopg [9,11,12] (to+1 - fr) (λgk vo pv iv wr=>∃(p i:Nat) (hm:Int) (aQ:List (Nat × Nat)) (xs:List Value) (sg:Int),pv=.int .i64 p/\iv=.int .i64 i/\to+1 - i<=gk/\zh w b v s fr to nr M vo p i wr hm aQ xs sg)
 case atStart=>
  refine⟨fr,fr,Co,[],[],0,rfl,rfl,au,⟨(Below.heap_alloc w _ b h_lt).trans h,World.grownBy_alloc _ _ _,⟨_,heap_alloc_new w _⟩,er,h_lt⟩,HP.out.noted,rfl,λi p q h=>by simp at h,λ_=>rfl,au,by omega,by simp,au,au,λ_=>⟨rfl,λk h1 h2=>by omega,2,af rfl,?_⟩,λe=>by omega⟩;simpa[cZ] using HP.out.acc
 case round=>
  obtain⟨p,i,hm,aQ,xs,sg,rfl,rfl,fS,R⟩:=hrel;have R_lo:=R.lo;have R_hi:=R.hi;have R_pi:=R.pi;obtain⟨a,c,hv⟩:=aA R.ch.own;subst hv
  by_cases aU:i<to
  ·have DB:i<s.size:=by omega
   have hd:decide ((i:Int)<(to:Int))=true:=by simp;omega
   have iR:decide ((i:Int)<=(to:Int))=true:=by simp;omega
   go_wp2_with fail;have Ga:=bN s i DB;rw[<-Ga];refine(bB _ (bt s i) _ (by decide)).mono ?_;rw[JB];rintro e w1 ⟨rfl,rfl⟩;obtain⟨wr,rfl⟩:∃wr,wr=w1:=⟨_,rfl⟩;clear Ga;cases hS:i6 (bt s i)
   ·have HS:=ae hS
    have R2:zh w b v s fr to nr M (.slice a aQ.length c) p (i+1) wr hm aQ xs sg:=by
     obtain⟨q1,q2,md,q3,q4⟩:=R.go (by omega);refine⟨R.ch,R.noted,R.txs,R.sgs,λ_=>R.sgn (by omega),by omega,by omega,by have:=R.few;omega,by omega,R.pf,λ_=>⟨q1,λk k1 k2=>?_,RK HP.out q3 q4 R_lo aU hS⟩,λe=>by omega⟩
     by_cases e:k=i
     ·rw[e];exact hS
     ·exact q2 k k1 (by omega)
    clear hS R;go_wp2;go_roundg (to+1 - (i+1))
    case measure=>omega
    case rel=>exact⟨p,i+1,hm,aQ,xs,sg,rfl,by go_num,au,R2⟩
   ·have HS:=ae hS;clear hS;have FI:w.heap.size<wr.heap.size:=by obtain⟨tx,h1⟩:=R.ch.cb;exact(bx.1 h1).1
    obtain⟨⟨tx,acs,act⟩,cz'⟩:=R.ch.cells
    by_cases h4:aQ.length=4
    ·have g4:((aQ.length:Int)==4)=true:=by simp[h4]
     obtain⟨X,HX,Ba⟩:∃X,Hid (cZ (decide (aQ.length=4)) hm p=X)/\Hid (ms hm p=X):=⟨ms hm p,by simp[Hid,cZ,h4],rfl⟩;clear h4;go_wp2_with fail;refine(tD _ b v hm p (by exact(R.ch.set1 _).sh) R.noted).mono ?_;rw[Ba.out];rintro e w2 ⟨rfl,hsh2,ij⟩;have yH:Ch w w2 b v X (.slice a aQ.length c) aQ.length xs sg:=(R.ch.set1 _).noted hsh2 ij
     have acu:w2.cell? ⟨w.heap.size,1,none⟩=some (.string (s.extract p i)):=by
      have e:=(World.cell?_of_block (a:=⟨w.heap.size,1,none⟩) (ij.block w.heap.size (by simpa[World.setCell] using FI) (by simp;omega)));rw[e];obtain⟨tx,h1⟩:=R.ch.cb;exact aa (aF h1 _) rfl
     have bC:=R.few;have yR:=yH.gb.size;obtain⟨⟨tx2,cc0,_⟩,cz⟩:=yH.cells;go_wp2_with (at_builtin;refine wpList_append_own _ rfl (.tmp 49) (.tmp 51) 166 rfl (w.heap.size+1) 206 i0 (.agg #[.int .u8 0,.string ⟨#[]⟩]) 2 24 underlying166 hi gx gA gB rfl (by decide) _ _ _ rfl (yH.own.alloc _) ⟨w2.heap.size,0,none⟩ 1 1 [.int .u8 sg,.string (s.extract p i)] rfl rfl ?c1sx ?c2sx ?c3sx ?c4sx ?c5sx ?_)
     case c1sx=>exact aW w2 _ rfl _ _ _ rfl
     case c2sx=>exact SD _ _
     case c3sx=>unfold maxLen;omega
     case c4sx=>omega
     case c5sx=>simp only[World.size_alloc];have:=(R.ch.own.lt);have:=FI;have hq:=yR;omega
     ·intro v' w3 bU fk _;have bA:w3.ownsRow (w.heap.size+1) 206 2 v' (aQ++[(p,i)]).length (xs++[.int .u8 sg,.string (s.extract p i)]):=by simpa using bU
      have FJ:=(yH.alloc (Obj.cells #[.int .u8 sg,.string (s.extract p i)] 206)).app fk bA;obtain⟨⟨tx3,cd0,cd1⟩,cz3⟩:=FJ.cells
      have R3:zh w b v s fr to nr M v' (i+1) (i+1) ((w3.setCell ⟨w.heap.size,0,none⟩ (.int .u8 (s[i].toNat:Int))).setCell ⟨w.heap.size,1,none⟩ (.string ⟨#[]⟩)) X (aQ++[(p,i)]) (xs++[.int .u8 sg,.string (s.extract p i)]) (s[i].toNat:Int):=by
       obtain⟨q1,q2,md,q3,q4⟩:=R.go (by omega);have VQ:=Hw q3 q4 HS.out;rw[HX.out] at VQ;exact⟨(FJ.set0 _).set1 _,by rw[<-HX.out];exact lA R.noted _ (by omega),R.txs.snoc _ _ _,R.sgs.snoc R.txs (R.sgn (by omega)),λ_=>IZ s DB aQ (p,i),by omega,by omega,by simp;omega,au,by omega,λ_=>⟨q1.snoc q2 R_pi HS.out,λk k1 k2=>by omega,2,af rfl,by simpa using VQ⟩,λe=>by omega⟩
      clear bU fk bA FJ yH R;go_wp2;go_roundg (to+1 - (i+1))
      case measure=>omega
      case rel=>exact⟨i+1,i+1,X,_,_,_,by go_num,by go_num,au,R3⟩
    ·have g4:((aQ.length:Int)==4)=false:=by simp;omega
     obtain⟨X,HX,hX⟩:∃X,Hid (cZ (decide (aQ.length=4)) hm p=X)/\hm=X:=⟨hm,by simp[Hid,cZ,h4],rfl⟩;clear h4;have yH:Ch w (wr.setCell ⟨w.heap.size,1,none⟩ (.string (s.extract p i))) b v X (.slice a aQ.length c) aQ.length xs sg:=by rw[<-hX];exact R.ch.set1 _
     clear hX;have bC:=R.few;have yR:=yH.gb.size;go_wp2_with (at_builtin;refine wpList_append_own _ rfl (.tmp 49) (.tmp 51) 166 rfl (w.heap.size+1) 206 i0 (.agg #[.int .u8 0,.string ⟨#[]⟩]) 2 24 underlying166 hi gx gA gB rfl (by decide) _ _ _ rfl (yH.own.alloc _) ⟨wr.heap.size,0,none⟩ 1 1 [.int .u8 sg,.string (s.extract p i)] rfl rfl ?c1sy ?c2sy ?c3sy ?c4sy ?c5sy ?_)
     case c1sy=>exact aW (wr.setCell ⟨w.heap.size,1,none⟩ (.string (s.extract p i))) _ (by simp[World.setCell]) _ _ _ rfl
     case c2sy=>exact SD _ _
     case c3sy=>unfold maxLen;omega
     case c4sy=>omega
     case c5sy=>simp only[World.size_alloc];have:=(R.ch.own.lt);have:=FI;have hq:=yR;omega
     ·intro v' w3 bU fk _;have bA:w3.ownsRow (w.heap.size+1) 206 2 v' (aQ++[(p,i)]).length (xs++[.int .u8 sg,.string (s.extract p i)]):=by simpa using bU
      have FJ:=(yH.alloc (Obj.cells #[.int .u8 sg,.string (s.extract p i)] 206)).app fk bA;obtain⟨⟨tx3,cd0,cd1⟩,cz3⟩:=FJ.cells
      have R3:zh w b v s fr to nr M v' (i+1) (i+1) ((w3.setCell ⟨w.heap.size,0,none⟩ (.int .u8 (s[i].toNat:Int))).setCell ⟨w.heap.size,1,none⟩ (.string ⟨#[]⟩)) X (aQ++[(p,i)]) (xs++[.int .u8 sg,.string (s.extract p i)]) (s[i].toNat:Int):=by
       obtain⟨q1,q2,md,q3,q4⟩:=R.go (by omega);have VQ:=Hw q3 q4 HS.out;rw[HX.out] at VQ;exact⟨(FJ.set0 _).set1 _,by rw[<-HX.out];exact lA R.noted _ (by omega),R.txs.snoc _ _ _,R.sgs.snoc R.txs (R.sgn (by omega)),λ_=>IZ s DB aQ (p,i),by omega,by omega,by simp;omega,au,by omega,λ_=>⟨q1.snoc q2 R_pi HS.out,λk k1 k2=>by omega,2,af rfl,by simpa using VQ⟩,λe=>by omega⟩
      clear bU fk bA FJ yH R;go_wp2;go_roundg (to+1 - (i+1))
      case measure=>omega
      case rel=>exact⟨i+1,i+1,X,_,_,_,by go_num,by go_num,au,R3⟩
  ·by_cases qw:i<=to
   ·obtain rfl:i=to:=by omega
    have DB:i<s.size:=by omega
    have hd:decide ((i:Int)<(i:Int))=false:=by simp
    have FI:w.heap.size<wr.heap.size:=by obtain⟨tx,h1⟩:=R.ch.cb;exact(bx.1 h1).1
    obtain⟨⟨tx,acs,act⟩,cz'⟩:=R.ch.cells
    by_cases h4:aQ.length=4
    ·have g4:((aQ.length:Int)==4)=true:=by simp[h4]
     obtain⟨X,HX,Ba⟩:∃X,Hid (cZ (decide (aQ.length=4)) hm p=X)/\Hid (ms hm p=X):=⟨ms hm p,by simp[Hid,cZ,h4],rfl⟩;clear h4;go_wp2_with fail;refine(tD _ b v hm p (by exact(R.ch.set1 _).sh) R.noted).mono ?_;rw[Ba.out];rintro e w2 ⟨rfl,hsh2,ij⟩;have yH:Ch w w2 b v X (.slice a aQ.length c) aQ.length xs sg:=(R.ch.set1 _).noted hsh2 ij
     have acu:w2.cell? ⟨w.heap.size,1,none⟩=some (.string (s.extract p i)):=by
      have e:=(World.cell?_of_block (a:=⟨w.heap.size,1,none⟩) (ij.block w.heap.size (by simpa[World.setCell] using FI) (by simp;omega)));rw[e];obtain⟨tx,h1⟩:=R.ch.cb;exact aa (aF h1 _) rfl
     have bC:=R.few;have yR:=yH.gb.size;obtain⟨⟨tx2,cc0,_⟩,cz⟩:=yH.cells;go_wp2_with (at_builtin;refine wpList_append_own _ rfl (.tmp 49) (.tmp 51) 166 rfl (w.heap.size+1) 206 i0 (.agg #[.int .u8 0,.string ⟨#[]⟩]) 2 24 underlying166 hi gx gA gB rfl (by decide) _ _ _ rfl (yH.own.alloc _) ⟨w2.heap.size,0,none⟩ 1 1 [.int .u8 sg,.string (s.extract p i)] rfl rfl ?c1ex ?c2ex ?c3ex ?c4ex ?c5ex ?_)
     case c1ex=>exact aW w2 _ rfl _ _ _ rfl
     case c2ex=>exact SD _ _
     case c3ex=>unfold maxLen;omega
     case c4ex=>omega
     case c5ex=>simp only[World.size_alloc];have:=(R.ch.own.lt);have:=FI;have hq:=yR;omega
     ·intro v' w3 bU fk _;have bA:w3.ownsRow (w.heap.size+1) 206 2 v' (aQ++[(p,i)]).length (xs++[.int .u8 sg,.string (s.extract p i)]):=by simpa using bU
      have FJ:=(yH.alloc (Obj.cells #[.int .u8 sg,.string (s.extract p i)] 206)).app fk bA;obtain⟨⟨tx3,cd0,cd1⟩,cz3⟩:=FJ.cells
      have R3:zh w b v s fr i nr M v' (i+1) (i+1) w3 X (aQ++[(p,i)]) (xs++[.int .u8 sg,.string (s.extract p i)]) sg:=by
       obtain⟨q1,q2,md,q3,q4⟩:=R.go (by omega);have ZP:=NB q3 q4 HP.out.mark;rw[HX.out] at ZP;have Fj:=lA R.noted (decide (aQ.length=4)) R_pi;rw[HX.out] at Fj;exact⟨FJ,by unfold iX at Fj ⊢;omega,R.txs.snoc _ _ _,R.sgs.snoc R.txs (R.sgn (by omega)),λe=>by omega,by omega,by omega,by simp;omega,au,by omega,λe=>by omega,λ_=>⟨⟨aQ,p,rfl,q1,R_pi,q2⟩,Fj,_,ZP⟩⟩
      clear bU fk bA FJ yH R;go_wp2;go_roundg 0
      case measure=>omega
      case rel=>exact⟨i+1,i+1,X,_,_,_,by go_num,by go_num,by omega,R3⟩
    ·have g4:((aQ.length:Int)==4)=false:=by simp;omega
     obtain⟨X,HX,hX⟩:∃X,Hid (cZ (decide (aQ.length=4)) hm p=X)/\hm=X:=⟨hm,by simp[Hid,cZ,h4],rfl⟩;clear h4;have yH:Ch w (wr.setCell ⟨w.heap.size,1,none⟩ (.string (s.extract p i))) b v X (.slice a aQ.length c) aQ.length xs sg:=by rw[<-hX];exact R.ch.set1 _
     clear hX;have bC:=R.few;have yR:=yH.gb.size;go_wp2_with (at_builtin;refine wpList_append_own _ rfl (.tmp 49) (.tmp 51) 166 rfl (w.heap.size+1) 206 i0 (.agg #[.int .u8 0,.string ⟨#[]⟩]) 2 24 underlying166 hi gx gA gB rfl (by decide) _ _ _ rfl (yH.own.alloc _) ⟨wr.heap.size,0,none⟩ 1 1 [.int .u8 sg,.string (s.extract p i)] rfl rfl ?c1ey ?c2ey ?c3ey ?c4ey ?c5ey ?_)
     case c1ey=>exact aW (wr.setCell ⟨w.heap.size,1,none⟩ (.string (s.extract p i))) _ (by simp[World.setCell]) _ _ _ rfl
     case c2ey=>exact SD _ _
     case c3ey=>unfold maxLen;omega
     case c4ey=>omega
     case c5ey=>simp only[World.size_alloc];have:=(R.ch.own.lt);have:=FI;have hq:=yR;omega
     ·intro v' w3 bU fk _;have bA:w3.ownsRow (w.heap.size+1) 206 2 v' (aQ++[(p,i)]).length (xs++[.int .u8 sg,.string (s.extract p i)]):=by simpa using bU
      have FJ:=(yH.alloc (Obj.cells #[.int .u8 sg,.string (s.extract p i)] 206)).app fk bA;obtain⟨⟨tx3,cd0,cd1⟩,cz3⟩:=FJ.cells
      have R3:zh w b v s fr i nr M v' (i+1) (i+1) w3 X (aQ++[(p,i)]) (xs++[.int .u8 sg,.string (s.extract p i)]) sg:=by
       obtain⟨q1,q2,md,q3,q4⟩:=R.go (by omega);have ZP:=NB q3 q4 HP.out.mark;rw[HX.out] at ZP;have Fj:=lA R.noted (decide (aQ.length=4)) R_pi;rw[HX.out] at Fj;exact⟨FJ,by unfold iX at Fj ⊢;omega,R.txs.snoc _ _ _,R.sgs.snoc R.txs (R.sgn (by omega)),λe=>by omega,by omega,by omega,by simp;omega,au,by omega,λe=>by omega,λ_=>⟨⟨aQ,p,rfl,q1,R_pi,q2⟩,Fj,_,ZP⟩⟩
      clear bU fk bA FJ yH R;go_wp2;go_roundg 0
      case measure=>omega
      case rel=>exact⟨i+1,i+1,X,_,_,_,by go_num,by go_num,by omega,R3⟩
   ·obtain rfl:i=to+1:=by omega
    have R2:=R;clear R;have hd:decide (((to+1:Nat):Int)<=(to:Int))=false:=by simp;omega
    go_wp2;go_ret;obtain⟨q1,q2,q3⟩:=R2.done rfl;exact⟨a,c,aQ,xs,hm,rfl,R2.ch.sh,R2.ch.gb,aP R2.ch.own (by omega),⟨R2.txs,R2.sgs⟩,q1,q2,q3⟩
end
section
variable {t:ByteArray}
theorem Tryz.info229:(Tryz.prog.info? 229).map (λi=>(i.zero,i.size,i.bytes))=some (some (.agg #[.int .u8 0,.string ⟨#[]⟩,.bool false]),3,32):=by kernel_rfl
def DOK (t:ByteArray):Prop:=∀k,k<t.size->(k=0∨bt t (k - 1)=59)->k+2<t.size/\bt t k≠59/\bt t (k+1)≠59/\bt t (k+2)≠59
structure ea where
 pr:Nat
 val:ByteArray
 must:Bool
def lg (ds:List ea):List Value:=ds.flatMap λd=>[.int .u8 d.pr,.string d.val,.bool d.must]
theorem wJ (ds:List ea)(d:ea):lg (ds++[d])=lg ds++[.int .u8 d.pr,.string d.val,.bool d.must]:=by
 unfold lg;rw[List.flatMap_append];simp
theorem N4 {ds:List ea}{i:Nat}(h:i<ds.length):(lg ds)[i*3]?=some (.int .u8 ds[i].pr)/\(lg ds)[i*3+1]?=some (.string ds[i].val)/\(lg ds)[i*3+2]?=some (.bool ds[i].must):=by
 induction ds generalizing i with
 | nil=>simp at h
 | cons d ds ih=>
  cases i with
  | zero=>exact⟨rfl,rfl,rfl⟩
  | succ i=>
   obtain⟨h1,h2,h3⟩:=ih (i:=i) (by simpa using h);have e:lg (d :: ds)=.int .u8 d.pr :: .string d.val :: .bool d.must :: lg ds:=rfl;rw[e,show(i+1)*3=i*3+3 from by omega];refine⟨?_,?_,?_⟩
   ·simpa using h1
   ·rw[show i*3+3+1=i*3+1+3 from by omega];simpa using h2
   ·rw[show i*3+3+2=i*3+2+3 from by omega];simpa using h3
def ml (t:ByteArray)(f e:Nat):ea:=
 if bt (t.extract (f+2) e) ((t.extract (f+2) e).size - 1)=33 then⟨bt t f,(t.extract (f+2) e).extract 0 ((t.extract (f+2) e).size - 1),true⟩ else⟨bt t f,t.extract (f+2) e,false⟩
def DeclsPre (t:ByteArray):Nat->Nat->List ea->Prop
 | i,j,[]=>i=j
 | i,j,d :: ds=>i<t.size/\∃e,U3 t i 59 e/\d=ml t i e/\DeclsPre t (e+1) j ds
theorem DeclsPre.snoc {j e:Nat}(h1:j<t.size)(h2:U3 t j 59 e):∀{ds:List ea} {i:Nat},DeclsPre t i j ds->DeclsPre t i (e+1) (ds++[ml t j e])
 | [],_,h=>by simp only[DeclsPre] at h;subst h;exact⟨h1,e,h2,rfl,rfl⟩
 | _ :: _,_,⟨a,x,b,c,d⟩=>⟨a,x,b,c,DeclsPre.snoc h1 h2 d⟩
def q9 (t:ByteArray)(ds:List ea):Prop:=∃j,t.size<=j/\DeclsPre t 0 j ds
structure Ux (w:World)(t:ByteArray)(vo:Value)(f:Nat)(wr:World)(ds:List ea):Prop where
 bel:Below w.heap.size w wr
 own:wr.ownsRow w.heap.size 229 3 vo ds.length (lg ds)
 few:ds.length<=f
 pre:DeclsPre t 0 f ds
 hi:f<=t.size+1
 beg:f<t.size->(f=0∨bt t (f - 1)=59)
def WW (w:World)(t:ByteArray)(e:Ending)(w':World):Prop:=∃(a:Option Addr) (c:Nat) (ds:List ea),e=.returned (.slice a ds.length c)/\Below w.heap.size w w'/\w'.ownsRow w.heap.size 229 3 (.slice a ds.length c) ds.length (lg ds)/\Hid (q9 t ds)
theorem Lw {f r:Nat}(h:DOK t)(hf:f<t.size)(hb:f=0∨bt t (f - 1)=59)(hu:U3 t f 59 r):f+2<r/\r<=t.size:=by
 obtain⟨h1,h2,h3,h4⟩:=h f hf hb;obtain⟨u1,u2,u3,u4⟩:=hu;refine⟨?_,u2⟩;apply Nat.lt_of_not_le;intro hr;have:=u4 (by omega);have hc:r=f∨r=f+1∨r=f+2:=by omega
 rcases hc with rfl | rfl | rfl
 ·exact h2 this
 ·exact h3 this
 ·exact h4 this
theorem Uh (a:Int)(t:ByteArray)(b:Bool):∀u∈[Value.int .u8 a,Value.string t,Value.bool b],u.oneCell'=true:=by
 intro u hu;simp only[List.mem_cons,List.not_mem_nil,or_false] at hu;rcases hu with rfl | rfl | rfl<;>rfl
theorem JM (w:World)(t:ByteArray)(ht:t.size<=400)(hD:DOK t):
  Calls prog 133 #[.string t] w λe w'=>WW w t e w':=by
 have HD:=ae hD;clear hD;obtain⟨i0,hi,gx,gA,gB⟩:=info_parts Tryz.info229;go_enter func133,ntmps133;go_wp2_with fail
 go_loopg [3,4] (t.size+1) (λgk vo fv wr=>∃(f:Nat) (ds:List ea),fv=.int .i64 f/\t.size+1 - f<=gk/\Ux w t vo f wr ds)
 case atStart=>exact⟨0,[],rfl,by omega,bd,er,au,rfl,by omega,λ_=>af rfl⟩
 case round=>
  obtain⟨f,ds,rfl,fS,R⟩:=hrel;have R_hi:=R.hi;have R_few:=R.few;obtain⟨a,c,hv⟩:=aA R.own;subst hv
  by_cases aU:f<t.size
  ·have hd:decide ((f:Int)<(t.size:Int))=true:=by simp;omega
   go_wp2_with fail;refine(nz _ t f 59 ht (by omega)).mono ?_;rintro e w1 ⟨r,rfl,rfl,HU⟩;obtain⟨hr1,DH⟩:=Lw HD.out aU (R.beg aU) HU.out;go_wp2
   go_region
   have iA:1<=(t.extract (f+2) r).size/\(t.extract (f+2) r).size<=400:=by rw[ByteArray.size_extract];omega
   have UC:Hid (ml t f r=if bt (t.extract (f+2) r) ((t.extract (f+2) r).size - 1)=33 then⟨t[f].toNat,(t.extract (f+2) r).extract 0 ((t.extract (f+2) r).size - 1),true⟩ else⟨t[f].toNat,t.extract (f+2) r,false⟩):=by
    unfold Hid ml;rw[bN t f aU]
   generalize t.extract (f+2) r=u at iA UC ⊢;generalize t[f].toNat=x at UC ⊢;obtain⟨adE,yR⟩:=iA;have hul:u.size - 1<u.size:=by omega
   by_cases k1:bt u (u.size - 1)=33
   ·have he:((u[u.size - 1].toNat:Int)==33)=true:=by rw[<-bN u _ hul,k1];rfl
    have oD:Hid (ml t f r=⟨x,u.extract 0 (u.size - 1),true⟩):=by unfold Hid;rw[UC.out,aq k1]
    clear k1;go_wp2_with (at_builtin;refine wpList_append_own _ rfl (.tmp 40) (.tmp 42) 162 rfl w.heap.size 229 i0 (.agg #[.int .u8 0,.string ⟨#[]⟩,.bool false]) 3 32 underlying162 hi gx gA gB rfl (by decide) _ _ _ rfl ((R.own.alloc _).alloc _).drew ⟨w1.heap.size+1,0,none⟩ 1 1 [.int .u8 x,.string (u.extract 0 (u.size - 1)),.bool true] rfl rfl ?c1a ?c2a ?c3a ?c4a ?c5a ?_)
    case c1a=>exact aW (w1.alloc _) _ (by simp) _ _ _ rfl
    case c2a=>exact Uh _ _ _
    case c3a=>unfold maxLen;omega
    case c4a=>omega
    case c5a=>have:=R.bel.size;simp;omega
    ·intro v' w3 bU fk _
     have R3:Ux w t v' (r+1) w3 (ds++[ml t f r]):=by
      refine⟨?_,by rw[wJ,oD.out];simpa using bU,by simp;omega,R.pre.snoc aU HU.out,by omega,λh=>ai ?_⟩
      ·refine Below.grown (Below.drew ((R.bel.alloc R.bel.size _).alloc (by have:=R.bel.size;simp;omega) _)) fk (by have:=R.bel.size;simp;omega) (λk hk=>(R.own.lt k hk).1)
      ·have:=HU.out.2.2.2 (by omega);simpa using this
     clear bU fk R;go_wp2;go_roundg (t.size+1 - (r+1))
     case measure=>omega
     case rel=>exact⟨r+1,_,by go_num,au,R3⟩
   ·have he:((u[u.size - 1].toNat:Int)==33)=false:=by rw[<-bN u _ hul];simp;omega
    have oD:Hid (ml t f r=⟨x,u,false⟩):=by unfold Hid;rw[UC.out,aj k1]
    clear k1;go_wp2_with (at_builtin;refine wpList_append_own _ rfl (.tmp 40) (.tmp 42) 162 rfl w.heap.size 229 i0 (.agg #[.int .u8 0,.string ⟨#[]⟩,.bool false]) 3 32 underlying162 hi gx gA gB rfl (by decide) _ _ _ rfl ((R.own.alloc _).alloc _).drew ⟨w1.heap.size+1,0,none⟩ 1 1 [.int .u8 x,.string u,.bool false] rfl rfl ?c1b ?c2b ?c3b ?c4b ?c5b ?_)
    case c1b=>exact aW (w1.alloc _) _ (by simp) _ _ _ rfl
    case c2b=>exact Uh _ _ _
    case c3b=>unfold maxLen;omega
    case c4b=>omega
    case c5b=>have:=R.bel.size;simp;omega
    ·intro v' w3 bU fk _
     have R3:Ux w t v' (r+1) w3 (ds++[ml t f r]):=by
      refine⟨?_,by rw[wJ,oD.out];simpa using bU,by simp;omega,R.pre.snoc aU HU.out,by omega,λh=>ai ?_⟩
      ·refine Below.grown (Below.drew ((R.bel.alloc R.bel.size _).alloc (by have:=R.bel.size;simp;omega) _)) fk (by have:=R.bel.size;simp;omega) (λk hk=>(R.own.lt k hk).1)
      ·have:=HU.out.2.2.2 (by omega);simpa using this
     clear bU fk R;go_wp2;go_roundg (t.size+1 - (r+1))
     case measure=>omega
     case rel=>exact⟨r+1,_,by go_num,au,R3⟩
  ·have R2:=R;have hd:decide ((f:Int)<(t.size:Int))=false:=by simp;omega
   clear R;go_wp2;go_ret;exact⟨a,c,ds,rfl,R2.bel,R2.own,f,by omega,R2.pre⟩
end
section
variable {i t:Nat}{s:ByteArray}
def BO (s:ByteArray)(i:Nat):Nat->Int
 | 0=>0
 | t+1=>BO s i t*10+((bt s (i+t):Int) - 48)
theorem wD {c:Nat}(h:iJ c=true):48<=c/\c<=57:=by simpa only[iJ,bF] using h
structure Mt (w:World)(b:Nat)(s:ByteArray)(i:Nat)(m:Int)(gk:Nat)(wr:World)(t:Nat)(n:Int):Prop where
 at':At w wr b s (i+t) m
 lo:1<=t
 hi:t<=3
 gk:3 - t<=gk
 sim:Sim s 12 i (12+(t:Int)) (i+t)
 val:n=BO s i t
 dig:∀k,i<=k->k<i+t->iJ (bt s k)=true
 nlo:0<=n
 nhi:t<3->n<=99
def Q6 (w:World)(b:Nat)(s:ByteArray)(i:Nat)(m:Int)(e:Ending)(w':World):Prop:=
 (∃(nv:Int) (j:Nat),e=.returned (.tuple #[.int .i64 nv,.bool true])/\At w w' b s j m/\Hid (Sim s 12 i 15 j/\i<j/\j<=i+3/\nv=BO s i (j - i)/\(∀k,i<=k->k<j->iJ (bt s k)=true)/\(j=i+3∨iJ (bt s j)=false)))∨
 (e=.returned (.tuple #[.int .i64 0,.bool false])/\At w w' b s i m/\Hid (iJ (bt s i)=false))
theorem KC (h:iJ (bt s i)=true/\i<s.size):Sim s 12 i 13 (i+1):=eI h.2 (by simp[bY,h.1]) (by decide) (λk=>by simp[cnt])
theorem O5 (h:iJ (bt s i)=true/\i<s.size)(ht:t=1∨t=2):Sim s (12+(t:Int)) i (12+((t+1:Nat):Int)) (i+1):=by
 rcases ht with rfl | rfl
 ·exact eI h.2 (by simp[bY,h.1]) (by decide) (λk=>by simp[cnt])
 ·exact eI h.2 (by simp[bY,h.1]) (by decide) (λk=>by simp[cnt])
theorem O6 (h:iJ (bt s i)=false)(ht:t=1∨t=2):Sim s (12+(t:Int)) i 15 i:=by
 rcases ht with rfl | rfl
 ·exact nl (by decide) (by decide) (by simp[bY,h]) (λk=>by simp[cnt])
 ·exact nl (by decide) (by decide) (by simp[bY,h]) (λk=>by simp[cnt])
theorem GC (w:World)(b:Nat)(s:ByteArray)(i:Nat)(m:Int)(h:Rd w b s i m):
  Calls prog 215 #[.pointer (some ⟨b,0,none⟩)] w λe w'=>Q6 w b s i m e w':=by
 go_enter func215,ntmps215;go_wp2_with fail;refine(mJ _ b s i m (by exact h)).mono ?_;rintro e w1 (⟨rfl,ha,hf⟩ | ⟨rfl,ha,hf⟩)
 ·go_wp2_with fail
  go_loopg [4,6] 2 (λgk nv tv wr=>∃(t:Nat) (n:Int),nv=.int .i64 n/\tv=.int .i64 t/\Mt w b s i m gk wr t n)
  case atStart=>exact⟨1,_,rfl,rfl,ha,by omega,by omega,by omega,KC hf.out,by simp[BO],λk h1 h2=>(show i=k from by omega)▸hf.out.1,by have:=wD hf.out.1;omega,λ_=>by have:=wD hf.out.1;omega⟩
  case round=>
   obtain⟨t,n,rfl,rfl,R⟩:=hrel;have Ka:=R.lo;have hhi:=R.hi
   by_cases ht:t<3
   ·go_wp2_with fail;refine(mJ _ b s (i+t) m (by exact R.at'.rd)).mono ?_;rintro e w2 (⟨rfl,dB,bG⟩ | ⟨rfl,dB,bG⟩)
    ·have iR:=wD bG.out.1;have T3:=R.nlo;have Cq:=R.nhi ht
     have R2:Mt w b s i m (gk - 1) w2 (t+1) (n*10+((bt s (i+t):Int) - 48)):=⟨R.at'.trans dB,by omega,by omega,by have:=R.gk;omega,R.sim.trans (O5 bG.out (by omega)),by rw[R.val];rfl,λk h1 h2=>by
      by_cases e:k=i+t
      ·rw[e];exact bG.out.1
      ·exact R.dig k h1 (by omega),by omega,λh3=>by
       obtain rfl:t=1:=by omega
       have h9:n<=9:=by
        have hv:=R.val;have:=wD (R.dig i au (by omega));simp[BO] at hv;omega
       omega⟩
     have fS:=R.gk;clear R;go_wp2;go_roundg (gk - 1)
     case measure=>omega
     case rel=>exact⟨t+1,_,by go_num,by go_num,R2⟩
    ·go_wp2;go_ret2;exact af ⟨_,i+t,rfl,R.at'.trans dB,R.sim.trans (O6 bG.out (by omega)),by omega,by omega,by rw[Nat.add_sub_cancel_left];exact R.val,R.dig,ai bG.out⟩
   ·obtain rfl:t=3:=by omega
    go_wp2;go_ret2;exact af ⟨_,i+3,rfl,R.at',R.sim,by omega,by omega,by rw[Nat.add_sub_cancel_left];exact R.val,R.dig,af rfl⟩
 ·go_wp2;go_ret2;exact ai ⟨rfl,ha,hf⟩
def CP (s:ByteArray)(i j:Nat)(kd nv vr:Int):Prop:=
 (bt s i=105/\kd=2/\nv=0/\vr=0/\j=i+1)∨(bt s i=114/\kd=3/\nv=0/\vr=0/\j=i+1)∨(bt s i=117/\kd=4/\nv=0/\vr=0/\j=i+1)∨
 (bt s i=36/\kd=5/\nv=0/\vr=bt s (i+1)/\ts (bt s (i+1))=true/\j=i+2)∨
 (kd=1/\nv=BO s i (j - i)/\vr=0/\i<j/\j<=i+3/\(∀k,i<=k->k<j->iJ (bt s k)=true)/\(j=i+3∨iJ (bt s j)=false))
def Ri (w:World)(b:Nat)(s:ByteArray)(i:Nat)(m:Int)(e:Ending)(w':World):Prop:=
 (∃(kd nv vr:Int) (j:Nat),e=.returned (.tuple #[.agg #[.int .i64 kd,.int .i64 nv,.int .u8 vr],.bool true])/\At w w' b s j m/\Hid (Sim s 12 i 15 j/\i<j/\CP s i j kd nv vr))∨
 (∃(kd nv vr:Int) (j:Nat),e=.returned (.tuple #[.agg #[.int .i64 kd,.int .i64 nv,.int .u8 vr],.bool false])/\At w w' b s j m/\Hid (vj s 12 i j))
theorem ym (h:bt s i=105∨bt s i=114∨bt s i=117):Sim s 12 i 15 (i+1)/\i+1<=s.size:=by
 have hi:i<s.size:=m6 (by omega);refine⟨eI hi ?_ (by decide) (λk=>by simp[cnt]),hi⟩;have hd:iJ (bt s i)=false:=by simp only[iJ,gU];omega
 have uN:¬bt s i=36:=by omega
 simp[bY,hd,uN,wh,h]
theorem Te (h:bt s i=36):Sim s 12 i 17 (i+1)/\i<s.size:=by
 have hi:i<s.size:=m6 (by omega);exact⟨eI hi (by simp[bY,h,iJ]) (by decide) (λk=>by simp[cnt]),hi⟩
theorem V7 (hd:iJ (bt s i)=false)(h1:bt s i≠105)(h2:bt s i≠114)(h3:bt s i≠117)(h4:bt s i≠36):vj s 12 i i:=
 jV (by decide) (by simp[bY,hd,h1,h2,h3,h4,wh])
theorem Tf (h:ts (bt s i)=true/\i<s.size):Sim s 17 i 15 (i+1):=eI h.2 (by simp[bY,h.1,wh]) (by decide) (λk=>by simp[cnt])
theorem V8 (h:ts (bt s i)=false):vj s 17 i i:=jV (by decide) (by simp[bY,h,wh])
abbrev I4:Obj:=Obj.cells #[Value.int IntKind.i64 0,Value.int IntKind.i64 0,Value.int IntKind.u8 0] 219
theorem Lz (w:World)(b:Nat)(s:ByteArray)(i:Nat)(m:Int)(h:Rd w b s i m):
  Calls prog 208 #[.pointer (some ⟨b,0,none⟩)] w λe w'=>Ri w b s i m e w':=by
 have hb:=h.lt;have c1:=h.c1;have f1:=h.fr 1;have qw:=h.le;have wV:=h.top;go_enter func208,ntmps208;go_wp2_with fail;refine(kt _ b s i m (by exact h.alloc _)).mono ?_;rintro e w1 ⟨rfl,n1,rfl⟩
 by_cases k1:bt s i=105
 ·have g1:((bt s i:Int)==105)=true:=by simp[k1]
  have K1:=ae k1;clear k1;go_wp2_with fail;have hp:=ym (af K1.out);exact bodyPost_ret (v:=.tuple #[.agg #[.int .i64 2,.int .i64 0,.int .u8 0],.bool true]) (by simp[results,Tryz.results208,go_sem]) rfl (af ⟨2,0,0,i+1,rfl,((((h.at0.alloc _).drewN _).setAt hp.2 (by omega)).set3 hb au _ _ _),hp.1,by omega,af ⟨K1.out,rfl,rfl,rfl,rfl⟩⟩)
 have g1:((bt s i:Int)==105)=false:=by simp;omega
 by_cases k2:bt s i=114
 ·have g2:((bt s i:Int)==114)=true:=by simp[k2]
  have K1:=ae k2;clear k1 k2;go_wp2_with fail;have hp:=ym (ai (af K1.out));exact bodyPost_ret (v:=.tuple #[.agg #[.int .i64 3,.int .i64 0,.int .u8 0],.bool true]) (by simp[results,Tryz.results208,go_sem]) rfl (af ⟨3,0,0,i+1,rfl,((((h.at0.alloc _).drewN _).setAt hp.2 (by omega)).set3 hb au _ _ _),hp.1,by omega,(ai <| af ⟨K1.out,rfl,rfl,rfl,rfl⟩)⟩)
 have g2:((bt s i:Int)==114)=false:=by simp;omega
 by_cases k3:bt s i=117
 ·have g3:((bt s i:Int)==117)=true:=by simp[k3]
  have K1:=ae k3;clear k1 k2 k3;go_wp2_with fail;have hp:=ym (ai (ai K1.out));exact bodyPost_ret (v:=.tuple #[.agg #[.int .i64 4,.int .i64 0,.int .u8 0],.bool true]) (by simp[results,Tryz.results208,go_sem]) rfl (af ⟨4,0,0,i+1,rfl,((((h.at0.alloc _).drewN _).setAt hp.2 (by omega)).set3 hb au _ _ _),hp.1,by omega,(ai <| ai <| af ⟨K1.out,rfl,rfl,rfl,rfl⟩)⟩)
 have g3:((bt s i:Int)==117)=false:=by simp;omega
 by_cases k4:bt s i=36
 ·have g4:((bt s i:Int)==36)=true:=by simp[k4]
  have K1:=ae k4;clear k1 k2 k3 k4;have hp:=Te K1.out;have HP:=ae hp.1;have aU:=hp.2;clear hp;go_wp2_with fail;have ha:=((h.at0.alloc I4).drewN n1).setAt (j:=i+1) (v:=(i:Int)+1) (by omega) (by omega);refine(sD _ b s (i+1) m (by exact ha.rd)).mono ?_;rintro e w2 (⟨rfl,dB,bG⟩ | ⟨rfl,dB,bG⟩)
  ·have dQ:=ha.trans dB;obtain⟨hc,hz⟩:=dB.cells w.heap.size (by simp[World.setCell]) (by omega);go_wp2_with fail;exact bodyPost_ret (v:=.tuple #[.agg #[.int .i64 5,.int .i64 0,.int .u8 (bt s (i+1))],.bool true]) (by simp[results,Tryz.results208,go_sem,hc]) rfl (af ⟨5,0,_,i+2,rfl,dQ.set3 hb au _ _ _,HP.out.trans (Tf bG.out),by omega,ai (ai (ai (af ⟨K1.out,rfl,rfl,rfl,bG.out.1,rfl⟩)))⟩)
  ·have dQ:=ha.trans dB;obtain⟨hc,hz⟩:=dB.cells w.heap.size (by simp[World.setCell]) (by omega);go_wp2_with fail;exact bodyPost_ret (v:=.tuple #[.agg #[.int .i64 5,.int .i64 0,.int .u8 0],.bool false]) (by simp[results,Tryz.results208,go_sem,hc]) rfl (ai ⟨5,0,0,i+1,rfl,dQ.set3 hb au _ _ _,HP.out.bad (V8 bG.out)⟩)
 ·have g4:((bt s i:Int)==36)=false:=by simp;omega
  have HN:=zM k1 k2 k3 k4;clear k1 k2 k3 k4;go_wp2_with fail;have ha:=(h.at0.alloc I4).drewN n1;refine(GC _ b s i m (by exact ha.rd)).mono ?_;rintro e w2 (⟨nv,j,rfl,dB,bG⟩ | ⟨rfl,dB,bG⟩)
  ·have dQ:=ha.trans dB;obtain⟨hc,hz⟩:=dB.cells w.heap.size (by simp) (by omega);go_wp2_with fail;exact bodyPost_ret (v:=.tuple #[.agg #[.int .i64 1,.int .i64 nv,.int .u8 0],.bool true]) (by simp[results,Tryz.results208,go_sem,hc]) rfl (af ⟨1,nv,0,j,rfl,dQ.set3 hb au _ _ _,bG.out.1,bG.out.2.1,ai (ai (ai (ai ⟨rfl,bG.out.2.2.2.1,rfl,bG.out.2.1,bG.out.2.2.1,bG.out.2.2.2.2⟩)))⟩)
  ·have dQ:=ha.trans dB;obtain⟨hc,hz⟩:=dB.cells w.heap.size (by simp) (by omega);go_wp2_with fail;obtain⟨q1,q2,q3,q4⟩:=HN.out;exact bodyPost_ret (v:=.tuple #[.agg #[.int .i64 1,.int .i64 0,.int .u8 0],.bool false]) (by simp[results,Tryz.results208,go_sem,hc]) rfl (ai ⟨1,0,0,i,rfl,dQ.set3 hb au _ _ _,V7 bG.out q1 q2 q3 q4⟩)
end
section
variable {an i:Nat}{s:ByteArray}{w:World}
theorem Tryz.info141:(Tryz.prog.info? 141).map (λi=>(i.zero,i.size,i.bytes))=some (some (.agg #[.slice none 0 0]),1,24):=by kernel_rfl
def Sels (w:World)(an:Nat):List Value->List (List d9)->Prop
 | xs,[]=>xs=[]
 | xs,cs :: ss=>∃(a:Option Addr) (c:Nat) (ps ys:List Value),xs=.slice a cs.length c :: ys/\w.ownsRow an 190 3 (.slice a cs.length c) cs.length ps/\Comps w an ps cs/\Sels w an ys ss
theorem Sels.keep {w':World}(hk:Keeps w w' an 192)(VE:Keeps w w' an 190):∀{xs:List Value} {ss:List (List d9)},Sels w an xs ss->Sels w' an xs ss
 | _,[],h=>h
 | _,_ :: _,⟨a,c,ps,ys,h1,h2,h3,h4⟩=>⟨a,c,ps,ys,h1,VE.owns h2,h3.keep hk,Sels.keep hk VE h4⟩
theorem Sels.mono {iZ:Nat}(hb:iZ<=an):∀{xs:List Value} {ss:List (List d9)},Sels w an xs ss->Sels w iZ xs ss
 | _,[],h=>h
 | _,_ :: _,⟨a,c,ps,ys,h1,h2,h3,h4⟩=>⟨a,c,ps,ys,h1,aP h2 hb,h3.mono hb,Sels.mono hb h4⟩
theorem Sels.snoc (a:Option Addr)(c:Nat)(cs:List d9)(ps:List Value)(ho:w.ownsRow an 190 3 (.slice a cs.length c) cs.length ps)(hk:Comps w an ps cs):
  ∀{xs:List Value} {ss:List (List d9)},Sels w an xs ss->Sels w an (xs++[.slice a cs.length c]) (ss++[cs])
 | _,[],h=>by simp only[Sels] at h;subst h;exact⟨a,c,ps,[],rfl,ho,hk,rfl⟩
 | _,_ :: _,⟨a',c',uq,ys,h1,h2,h3,h4⟩=>⟨a',c',uq,_,by rw[h1];rfl,h2,h3,Sels.snoc a c cs ps ho hk h4⟩
def SelsPre (s:ByteArray):Nat->Nat->List (List d9)->Prop
 | i,j,[]=>i=j
 | i,j,cs :: ss=>∃l,lb s i l cs/\i<l/\bt s l=44/\SelsPre s (l+1) j ss
theorem SelsPre.snoc {j l:Nat}{ss:List (List d9)}{cs:List d9}(h:SelsPre s i j ss)(hc:lb s j l cs)(hl:j<l)(hs:bt s l=44):SelsPre s i (l+1) (ss++[cs]):=by
 induction ss generalizing i with
 | nil=>simp only[SelsPre] at h;subst h;exact⟨l,hc,hl,hs,rfl⟩
 | cons x ss ih=>
  obtain⟨l',h1,h2,h3,h4⟩:=h;exact⟨l',h1,h2,h3,ih h4⟩
def oH (s:ByteArray)(i j:Nat)(ss:List (List d9)):Prop:=
 ∃pre l cs,ss=pre++[cs]/\SelsPre s i l pre/\lb s l j cs/\l<j/\bt s j≠44
theorem jp:∀{ss:List (List d9)} {i j:Nat},SelsPre s i j ss->i<=j
 | [],_,_,h=>by simp only[SelsPre] at h;omega
 | _ :: _,_,_,⟨_,_,h2,_,h5⟩=>by have:=jp h5;omega
structure Be (w:World)(b:Nat)(s:ByteArray)(i:Nat)(m:Int)(gk:Nat)(v:Value)(more:Bool)(wr:World)(j:Nat)(mP:Int)(ss:List (List d9))(xs:List Value):Prop where
 at':At w wr b s j mP
 own:wr.ownsRow w.heap.size 141 1 v ss.length xs
 sels:Sels wr w.heap.size xs ss
 le:i<=j
 few:ss.length<=j - i
 gk:more=true->s.size - j<gk
 go:more=true->SelsPre s i j ss/\∀nr,V s 2 ⟨nr,1,m⟩ i=V s 2 ⟨nr,1,mP⟩ j
 done:more=false->oH s i j ss/\oB (bt s j)=false/\i6 (bt s j)=false/\∃nc,∀nr,V s 2 ⟨nr,1,m⟩ i=V s 3 ⟨nr,nc,mP⟩ j
def MC (w:World)(b:Nat)(s:ByteArray)(i:Nat)(m:Int)(e:Ending)(w':World):Prop:=
 (∃(a:Option Addr) (c:Nat) (ss:List (List d9)) (xs:List Value) (j:Nat) (m':Int),e=.returned (.tuple #[.slice a ss.length c,.bool true])/\At w w' b s j m'/\w'.ownsRow w.heap.size 141 1 (.slice a ss.length c) ss.length xs/\Sels w' w.heap.size xs ss/\
  Hid (oH s i j ss/\i<j/\oB (bt s j)=false/\i6 (bt s j)=false/\bt s j≠44/\∃nc,∀nr,V s 2 ⟨nr,1,m⟩ i=V s 3 ⟨nr,nc,m'⟩ j))∨
 (∃j m',e=.returned (.tuple #[.slice none 0 0,.bool false])/\At w w' b s j m'/\Hid (∀nr,V s 2 ⟨nr,1,m⟩ i=((j:Int),-1)))
theorem aar (c:Option Addr)(n k:Nat):∀u∈[Value.slice c n k],u.oneCell'=true:=by
 intro u hu;simp only[List.mem_cons,List.not_mem_nil,or_false] at hu;rcases hu with rfl;rfl
theorem wv {nr nc:Nat}{m:Int}(h:bt s i=44)(hi:i<s.size):V s 3 ⟨nr,nc,m⟩ i=V s 2 ⟨nr,1,m⟩ (i+1):=by
 rw[vV hi (m':=2) (by simp[bY,i7,h]) (by decide)];simp[cnt,h,i6]
theorem zg (w:World)(b:Nat)(s:ByteArray)(i:Nat)(m:Int)(h:Rd w b s i m):
  Calls prog 158 #[.pointer (some ⟨b,0,none⟩)] w λe w'=>MC w b s i m e w':=by
 have hb:=h.lt;have wV:=h.top;obtain⟨i0,hi,gx,gA,gB⟩:=info_parts Tryz.info141;go_enter func158,ntmps158;go_wp2_with fail
 go_loopg [4,5] (s.size - i+1) (λgk v mv wr=>∃(j:Nat) (mP:Int) (ss:List (List d9)) (xs:List Value) (more:Bool),mv=.bool more/\Be w b s i m gk v more wr j mP ss xs)
 case atStart=>
  exact⟨i,m,[],[],true,rfl,h.at0,er,rfl,au,by simp,λ_=>by omega,λ_=>⟨rfl,λnr=>rfl⟩,λe=>by cases e⟩
 case round=>
  obtain⟨j,mP,ss,xs,more,rfl,R⟩:=hrel;have qw:=R.at'.rd.le;obtain⟨a,c,hv⟩:=aA R.own;subst hv;cases more
  ·have R2:=R;clear R;go_wp2;go_ret2;refine af ⟨a,c,ss,xs,j,mP,rfl,R2.at',R2.own,R2.sels,?_⟩;obtain⟨q1,q2,q3,q4⟩:=R2.done rfl;obtain⟨pre,l,cs,p1,p2,p3,p4,p5⟩:=q1;have:=jp p2;exact⟨⟨pre,l,cs,p1,p2,p3,p4,p5⟩,by omega,q2,q3,p5,q4⟩
  ·go_wp2_with fail;refine(Ca _ b s j mP (by exact R.at'.rd)).mono ?_;rintro e w2 (⟨a2,c2,cs,ps,l,M,rfl,dB,yN,yK,bG⟩ | ⟨l,M,rfl,dB,bG⟩)
   ·have dQ:=R.at'.trans dB;have gK:=R.at'.size;have nE:=dQ.size;have di:=dB.owns R.own (by omega);have bX:=R.few;go_wp2_with (at_builtin;refine wpList_append_own _ rfl (.tmp 16) (.tmp 18) 135 rfl w.heap.size 141 i0 (.agg #[.slice none 0 0]) 1 24 underlying135 hi gx gA gB rfl (by decide) _ _ _ rfl ((di.alloc _).alloc _) ⟨w2.heap.size+1,0,none⟩ 1 1 [.slice a2 cs.length c2] rfl rfl ?c1 ?c2 ?c3 ?c4 ?c5 ?_)
    case c1=>exact aW (w2.alloc _) _ (by simp) _ _ _ rfl
    case c2=>exact aar _ _ _
    case c3=>unfold maxLen;omega
    case c4=>omega
    case c5=>simp;omega
    ·intro v' w3 bU fk _;have bA:w3.ownsRow w.heap.size 141 1 v' (ss++[cs]).length (xs++[.slice a2 cs.length c2]):=by simpa using bU
     have fT:∀e,Keeps wr w2 w.heap.size e:=λe=>eS dB (by omega) _;have oS:∀e,e≠141->Keeps w2 w3 w.heap.size e:=λe he=>((cQ _ _ _ _).trans (cQ _ _ _ _)).trans (jY he ((di.alloc _).alloc _) fk)
     have IY:Sels w3 w.heap.size (xs++[.slice a2 cs.length c2]) (ss++[cs]):=
      Sels.snoc a2 c2 cs ps ((oS 190 (by decide)).owns (aP yN gK)) ((yK.mono gK).keep (oS 192 (by decide))) (R.sels.keep ((fT _).trans (oS _ (by decide))) ((fT _).trans (oS _ (by decide))))
     have yG:At w w3 b s l M:=((dQ.alloc _).alloc _).app hb ((di.alloc _).alloc _) fk;obtain⟨q1,q2,q3⟩:=bG.out
     have HV:Hid (SelsPre s i j ss/\lb s j l cs/\j<l/\∀nr,V s 2 ⟨nr,1,m⟩ i=V s 3 ⟨nr,cs.length,M⟩ l):=
      ⟨(R.go rfl).1,q1,q2,λnr=>by rw[(R.go rfl).2 nr,q3]⟩
     have qw:=R.le;have fS:=R.gk rfl;have bC:(ss++[cs]).length<=l - i:=by simp;omega
     clear bU fk di R fT oS q1 q3 bG;go_wp2_with fail;refine(jc _ b s l M 44 (by exact yG.rd) (by decide)).mono ?_;rintro e w4 (⟨rfl,jE,jn⟩ | ⟨rfl,jE,jn⟩)
     ·have R4:Be w b s i m (s.size - l) v' true w4 (l+1) M (ss++[cs]) (xs++[.slice a2 cs.length c2]):=by
       obtain⟨p1,p2,p3,p4⟩:=HV.out;have h4:=jn.out;have Ic:bt s l=44:=by omega
       exact⟨yG.trans jE,jE.owns bA (by omega),IY.keep (eS jE (by omega) _) (eS jE (by omega) _),by omega,by omega,λ_=>by omega,λ_=>⟨p1.snoc p2 p3 Ic,λnr=>by rw[p4 nr,wv Ic h4.2]⟩,λe=>by cases e⟩
      have BF:=jn.out.2;clear IY bA;go_wp2;go_roundg (s.size - l)
      case measure=>omega
      case rel=>exact⟨l+1,M,_,_,_,rfl,R4⟩
     ·have R4:Be w b s i m 0 v' false w4 l M (ss++[cs]) (xs++[.slice a2 cs.length c2]):=by
       obtain⟨p1,p2,p3,p4⟩:=HV.out;have Ic:bt s l≠44:=by have:=jn.out;omega
       have p2':=p2;obtain⟨_,_,_,_,_,_,_,_,hA,hS⟩:=p2';exact⟨yG.trans jE,jE.owns bA (by omega),IY.keep (eS jE (by omega) _) (eS jE (by omega) _),by omega,by omega,λe=>(by cases e),λe=>(by cases e),λ_=>⟨⟨ss,j,cs,rfl,p1,p2,p3,Ic⟩,hA,hS,cs.length,p4⟩⟩
      clear IY bA;go_wp2;go_roundg 0
      case measure=>omega
      case rel=>exact⟨l,M,_,_,_,rfl,R4⟩
   ·have dQ:=R.at'.trans dB;go_wp2_with fail;go_ret2;exact ai ⟨l,M,rfl,dQ.alloc _,λnr=>by rw[(R.go rfl).2 nr,bG.out]⟩
end
section
variable {i:Nat}{s:ByteArray}
theorem Tryz.info253:(Tryz.prog.info? 253).map (λi=>(i.zero,i.size,i.bytes))=some (some (.agg #[.int .u8 0,.int .i64 0,.int .i64 0,.int .u8 0,.bool false]),5,40):=by kernel_rfl
structure PDc where
 pr:Int
 kd:Int
 nu:Int
 va:Int
 im:Bool
def mg (s:ByteArray)(i j:Nat)(d:PDc):Prop:=
 wW (bt s i)=true/\d.pr=bt s i/\bt s (i+1)=58/\∃k,CP s (i+2) k d.kd d.nu d.va/\i+2<k/\((d.im=true/\bt s k=33/\j=k+1)∨(d.im=false/\bt s k≠33/\j=k))
def Decs:List Value->List PDc->Prop
 | xs,[]=>xs=[]
 | xs,d :: ds=>∃ys,xs=.int .u8 d.pr :: .int .i64 d.kd :: .int .i64 d.nu :: .int .u8 d.va :: .bool d.im :: ys/\Decs ys ds
theorem Decs.snoc {xs:List Value}{ds:List PDc}(h:Decs xs ds)(p kd nv vr:Int)(im:Bool):Decs (xs++[.int .u8 p,.int .i64 kd,.int .i64 nv,.int .u8 vr,.bool im]) (ds++[⟨p,kd,nv,vr,im⟩]):=by
 induction ds generalizing xs with
 | nil=>simp only[Decs] at h;subst h;exact⟨[],rfl,rfl⟩
 | cons k ks ih=>
  obtain⟨ys,rfl,hy⟩:=h;exact⟨_,rfl,ih hy⟩
def DcPre (s:ByteArray):Nat->Nat->List PDc->Prop
 | i,j,[]=>i=j
 | i,j,d :: ds=>∃l,mg s i l d/\i<l/\bt s l=59/\DcPre s (l+1) j ds
theorem DcPre.snoc {j l:Nat}{ds:List PDc}{d:PDc}(h:DcPre s i j ds)(hc:mg s j l d)(hl:j<l)(hs:bt s l=59):DcPre s i (l+1) (ds++[d]):=by
 induction ds generalizing i with
 | nil=>simp only[DcPre] at h;subst h;exact⟨l,hc,hl,hs,rfl⟩
 | cons x ss ih=>
  obtain⟨l',h1,h2,h3,h4⟩:=h;exact⟨l',h1,h2,h3,ih h4⟩
def CA (s:ByteArray)(i j:Nat)(ds:List PDc):Prop:=∃pre l d,ds=pre++[d]/\DcPre s i l pre/\mg s l j d/\l<j/\bt s j≠59
def Cv (s:ByteArray)(i j:Nat)(ds:List PDc):Prop:=
 bt s i=123/\((bt s (i+1)=125/\ds=[]/\j=i+2)∨(bt s (i+1)≠125/\∃k,CA s (i+1) k ds/\bt s k=125/\j=k+1))
def Md (w:World)(b:Nat)(s:ByteArray)(i:Nat)(m:Int)(e:Ending)(w':World):Prop:=
 (∃(p kd nv vr:Int) (im:Bool) (j:Nat),e=.returned (.tuple #[.agg #[.int .u8 p,.int .i64 kd,.int .i64 nv,.int .u8 vr,.bool im],.bool true])/\At w w' b s j m/\Hid (Sim s 10 i 16 j/\i<j/\mg s i j ⟨p,kd,nv,vr,im⟩))∨
 (∃(j:Nat),e=.returned (.tuple #[.agg #[.int .u8 0,.int .i64 0,.int .i64 0,.int .u8 0,.bool false],.bool false])/\At w w' b s j m/\Hid (vj s 10 i j))
theorem xD (h:wW (bt s i)=true/\i<s.size):Sim s 10 i 11 (i+1):=eI h.2 (by simp[bY,lC,h.1]) (by decide) (λk=>by simp[cnt])
theorem SN (h:wW (bt s i)=false):vj s 10 i i:=jV (by decide) (by simp[bY,lC,h])
theorem zw (h:(bt s i:Int)=58/\i<s.size):Sim s 11 i 12 (i+1):=by
 have h1:bt s i=58:=by omega
 exact eI h.2 (by simp[bY,wh,h1]) (by decide) (λk=>by simp[cnt])
theorem NJ (h:(bt s i:Int)≠58):vj s 11 i i:=by
 have h1:¬bt s i=58:=by omega
 exact jV (by decide) (by simp[bY,wh,h1])
theorem MM (h:(bt s i:Int)=33/\i<s.size):Sim s 15 i 16 (i+1):=by
 have h1:bt s i=33:=by omega
 exact eI h.2 (by simp[bY,kL,h1]) (by decide) (λk=>by simp[cnt])
theorem Rk (h:(bt s i:Int)≠33):Sim s 15 i 16 i:=by
 have h1:¬bt s i=33:=by omega
 exact nl (by decide) (by decide) (by simp[bY,kL,h1]) (λk=>by simp[cnt])
theorem uM (w:World)(b:Nat)(s:ByteArray)(i:Nat)(m:Int)(h:Rd w b s i m):
  Calls prog 194 #[.pointer (some ⟨b,0,none⟩)] w λe w'=>Md w b s i m e w':=by
 have hb:=h.lt;go_enter func194,ntmps194;go_wp2_with fail;refine(BX _ b s i m (by exact h.alloc _)).mono ?_;rintro e w1 (⟨rfl,ha,hf⟩ | ⟨rfl,ha,hf⟩)
 ·go_wp2_with fail;refine(jc _ b s (i+1) m 58 (by exact ha.rd) (by decide)).mono ?_;rintro e w2 (⟨rfl,dB,bG⟩ | ⟨rfl,dB,bG⟩)
  ·have dQ:=ha.trans dB;go_wp2_with fail;refine(Lz _ b s (i+2) m (by exact dQ.rd)).mono ?_;rintro e w3 (⟨kd,nv,vr,j,rfl,jE,jn⟩ | ⟨kd,nv,vr,j,rfl,jE,jn⟩)
   ·have oQ:=dQ.trans jE;have hz5:w.heap.size<w3.heap.size:=by have:=oQ.size;simp only[World.size_alloc] at this;omega
    have HS:Hid (Sim s 10 i 15 j/\i<j/\wW (bt s i)=true/\bt s (i+1)=58/\CP s (i+2) j kd nv vr/\i+2<j):=⟨((xD hf.out).trans (zw bG.out)).trans jn.out.1,by have:=jn.out.2.1;omega,hf.out.1,by have:=bG.out.1;omega,jn.out.2.2,jn.out.2.1⟩;go_wp2_with fail;have TT:=oQ.alloc (Obj.cells #[Value.int IntKind.i64 kd,Value.int IntKind.i64 nv,Value.int IntKind.u8 vr] 219);refine(jc _ b s j m 33 (by exact TT.rd) (by decide)).mono ?_;rintro e w4 (⟨rfl,ZG,TU⟩ | ⟨rfl,ZG,TU⟩)
    ·have ZH:=TT.trans ZG;obtain⟨hc,hz⟩:=ZH.cells w.heap.size (by simp) (by omega);obtain⟨QE,hz'⟩:=ZG.cells w3.heap.size (by simp) (by omega);go_wp2_with fail;exact bodyPost_ret (v:=.tuple #[.agg #[.int .u8 (bt s i),.int .i64 kd,.int .i64 nv,.int .u8 vr,.bool true],.bool true]) (by simp[results,Tryz.results194,go_sem,hc]) rfl (af ⟨_,kd,nv,vr,true,j+1,rfl,ZH.ofAlloc.set5 hb au _ _ _ _ _,HS.out.1.trans (MM TU.out),by have:=HS.out.2.1;omega,HS.out.2.2.1,rfl,HS.out.2.2.2.1,j,HS.out.2.2.2.2.1,HS.out.2.2.2.2.2,af ⟨rfl,by have:=TU.out.1;omega,rfl⟩⟩)
    ·have ZH:=TT.trans ZG;obtain⟨hc,hz⟩:=ZH.cells w.heap.size (by simp) (by omega);obtain⟨QE,hz'⟩:=ZG.cells w3.heap.size (by simp) (by omega);go_wp2_with fail;exact bodyPost_ret (v:=.tuple #[.agg #[.int .u8 (bt s i),.int .i64 kd,.int .i64 nv,.int .u8 vr,.bool false],.bool true]) (by simp[results,Tryz.results194,go_sem,hc]) rfl (af ⟨_,kd,nv,vr,false,j,rfl,ZH.ofAlloc.set5 hb au _ _ _ _ _,HS.out.1.trans (Rk TU.out),HS.out.2.1,HS.out.2.2.1,rfl,HS.out.2.2.2.1,j,HS.out.2.2.2.2.1,HS.out.2.2.2.2.2,ai ⟨rfl,by have:=TU.out;omega,rfl⟩⟩)
   ·have oQ:=dQ.trans jE;have hz5:w.heap.size<w3.heap.size:=by have:=oQ.size;simp only[World.size_alloc] at this;omega
    obtain⟨hc,hz⟩:=oQ.cells w.heap.size (by simp) (by omega);go_wp2_with fail;exact bodyPost_ret (v:=.tuple #[.agg #[.int .u8 0,.int .i64 0,.int .i64 0,.int .u8 0,.bool false],.bool false]) (by simp[results,Tryz.results194,go_sem,hc,hz5]) rfl (ai ⟨j,rfl,(oQ.ofAlloc.set5 hb au _ _ _ _ _).alloc _,((xD hf.out).trans (zw bG.out)).bad jn.out⟩)
  ·have dQ:=ha.trans dB;obtain⟨hc,hz⟩:=dQ.cells w.heap.size (by simp) (by omega);go_wp2_with fail;exact bodyPost_ret (v:=.tuple #[.agg #[.int .u8 0,.int .i64 0,.int .i64 0,.int .u8 0,.bool false],.bool false]) (by simp[results,Tryz.results194,go_sem,hc]) rfl (ai ⟨i+1,rfl,dQ.ofAlloc.set5 hb au _ _ _ _ _,(xD hf.out).bad (NJ bG.out)⟩)
 ·obtain⟨hc,hz⟩:=ha.cells w.heap.size (by simp) (by omega);go_wp2_with fail;exact bodyPost_ret (v:=.tuple #[.agg #[.int .u8 0,.int .i64 0,.int .i64 0,.int .u8 0,.bool false],.bool false]) (by simp[results,Tryz.results194,go_sem,hc]) rfl (ai ⟨i,rfl,ha.ofAlloc.set5 hb au _ _ _ _ _,SN hf.out⟩)
structure vz (w:World)(b:Nat)(s:ByteArray)(i:Nat)(m:Int)(gk:Nat)(v:Value)(more:Bool)(wr:World)(j:Nat)(ds:List PDc)(xs:List Value):Prop where
 at':At w wr b s j m
 own:wr.ownsRow w.heap.size 253 5 v ds.length xs
 decs:Decs xs ds
 le:i<=j
 few:ds.length<=j - i
 gk:more=true->s.size - j<gk
 go:more=true->Sim s 10 i 10 j/\DcPre s i j ds
 done:more=false->Sim s 10 i 16 j/\bt s j≠59/\i<j/\CA s i j ds
def Je (w:World)(b:Nat)(s:ByteArray)(i:Nat)(m:Int)(e:Ending)(w':World):Prop:=
 (∃(a:Option Addr) (c j:Nat) (ds:List PDc) (xs:List Value),e=.returned (.tuple #[.slice a ds.length c,.bool true])/\At w w' b s j m/\w'.ownsRow w.heap.size 253 5 (.slice a ds.length c) ds.length xs/\Hid (Decs xs ds/\Sim s 10 i 16 j/\bt s j≠59/\i<j/\CA s i j ds))∨
 (∃(j:Nat),e=.returned (.tuple #[.slice none 0 0,.bool false])/\At w w' b s j m/\Hid (vj s 10 i j))
theorem aat (a b c d:Int)(e:Bool):∀u∈[Value.int .u8 a,Value.int .i64 b,Value.int .i64 c,Value.int .u8 d,Value.bool e],u.oneCell'=true:=by
 intro u hu;simp only[List.mem_cons,List.not_mem_nil,or_false] at hu;rcases hu with rfl | rfl | rfl | rfl | rfl<;>rfl
theorem P3 (h:(bt s i:Int)=59/\i<s.size):Sim s 16 i 10 (i+1):=by
 have h1:bt s i=59:=by omega
 exact eI h.2 (by simp[bY,jh,h1]) (by decide) (λk=>by simp[cnt])
theorem te (w:World)(b:Nat)(s:ByteArray)(i:Nat)(m:Int)(h:Rd w b s i m):
  Calls prog 180 #[.pointer (some ⟨b,0,none⟩)] w λe w'=>Je w b s i m e w':=by
 have hb:=h.lt;have wV:=h.top;obtain⟨i0,hi,gx,gA,gB⟩:=info_parts Tryz.info253;go_enter func180,ntmps180;go_wp2_with fail
 go_loopg [4,5] (s.size - i+1) (λgk v mv wr=>∃(j:Nat) (ds:List PDc) (xs:List Value) (more:Bool),mv=.bool more/\vz w b s i m gk v more wr j ds xs)
 case atStart=>
  exact⟨i,[],[],true,rfl,h.at0,er,rfl,au,by simp,λ_=>by omega,λ_=>⟨λ_=>rfl,rfl⟩,λe=>by cases e⟩
 case round=>
  obtain⟨j,ds,xs,more,rfl,R⟩:=hrel;have qw:=R.at'.rd.le;obtain⟨a,c,hv⟩:=aA R.own;subst hv;cases more
  ·have R2:=R;clear R;go_wp2;go_ret2;exact af ⟨a,c,j,ds,xs,rfl,R2.at',R2.own,R2.decs,R2.done rfl⟩
  ·go_wp2_with fail;refine(uM _ b s j m (by exact R.at'.rd)).mono ?_;rintro e w2 (⟨p,kd,nv,vr,im,l,rfl,dB,bG⟩ | ⟨l,rfl,dB,bG⟩)
   ·have dQ:=R.at'.trans dB;have gK:=R.at'.size;have nE:=dQ.size;have di:=dB.owns R.own (by omega);have bX:=R.few;go_wp2_with (at_builtin;refine wpList_append_own _ rfl (.tmp 16) (.tmp 18) 136 rfl w.heap.size 253 i0 (.agg #[.int .u8 0,.int .i64 0,.int .i64 0,.int .u8 0,.bool false]) 5 40 underlying136 hi gx gA gB rfl (by decide) _ _ _ rfl ((di.alloc _).alloc _) ⟨w2.heap.size+1,0,none⟩ 1 1 [.int .u8 p,.int .i64 kd,.int .i64 nv,.int .u8 vr,.bool im] rfl rfl ?c1 ?c2 ?c3 ?c4 ?c5 ?_)
    case c1=>exact aW (w2.alloc _) _ (by simp) _ _ _ rfl
    case c2=>exact aat _ _ _ _ _
    case c3=>unfold maxLen;omega
    case c4=>omega
    case c5=>simp;omega
    ·intro v' w3 bU fk _;have yG:At w w3 b s l m:=((dQ.alloc _).alloc _).app hb ((di.alloc _).alloc _) fk;have HV:Hid (Sim s 10 i 16 l/\j<l/\DcPre s i j ds/\mg s j l ⟨p,kd,nv,vr,im⟩):=⟨(R.go rfl).1.trans bG.out.1,bG.out.2.1,(R.go rfl).2,bG.out.2.2⟩;have qw:=R.le;have fS:=R.gk rfl;have Fh:=bG.out.2.1;have Qq:Hid (Decs (xs++[.int .u8 p,.int .i64 kd,.int .i64 nv,.int .u8 vr,.bool im]) (ds++[⟨p,kd,nv,vr,im⟩])):=R.decs.snoc _ _ _ _ _;have bC:(ds++[(⟨p,kd,nv,vr,im⟩:PDc)]).length<=l - i:=by simp;omega
     have bA:w3.ownsRow w.heap.size 253 5 v' (ds++[(⟨p,kd,nv,vr,im⟩:PDc)]).length (xs++[.int .u8 p,.int .i64 kd,.int .i64 nv,.int .u8 vr,.bool im]):=by simpa using bU
     clear bU fk di R bG;go_wp2_with fail;refine(jc _ b s l m 59 (by exact yG.rd) (by decide)).mono ?_;rintro e w4 (⟨rfl,jE,jn⟩ | ⟨rfl,jE,jn⟩)
     ·have R4:vz w b s i m (s.size - l) v' true w4 (l+1) (ds++[⟨p,kd,nv,vr,im⟩]) (xs++[.int .u8 p,.int .i64 kd,.int .i64 nv,.int .u8 vr,.bool im]):=
       ⟨yG.trans jE,jE.owns bA (by omega),Qq.out,by omega,by omega,λ_=>by have:=jn.out.2;omega,λ_=>⟨HV.out.1.trans (P3 jn.out),HV.out.2.2.1.snoc HV.out.2.2.2 HV.out.2.1 (by have:=jn.out.1;omega)⟩,λe=>by cases e⟩
      have BF:=jn.out.2;clear bA;go_wp2;go_roundg (s.size - l)
      case measure=>omega
      case rel=>exact⟨l+1,_,_,_,rfl,R4⟩
     ·have R4:vz w b s i m 0 v' false w4 l (ds++[⟨p,kd,nv,vr,im⟩]) (xs++[.int .u8 p,.int .i64 kd,.int .i64 nv,.int .u8 vr,.bool im]):=
       ⟨yG.trans jE,jE.owns bA (by omega),Qq.out,by omega,by omega,λe=>(by cases e),λe=>(by cases e),λ_=>⟨HV.out.1,by have:=jn.out;omega,by have:=HV.out.2.1;omega,ds,j,_,rfl,HV.out.2.2.1,HV.out.2.2.2,HV.out.2.1,by have:=jn.out;omega⟩⟩
      clear bA;go_wp2;go_roundg 0
      case measure=>omega
      case rel=>exact⟨l,_,_,_,rfl,R4⟩
   ·have dQ:=R.at'.trans dB;go_wp2_with fail;go_ret2;exact ai ⟨l,rfl,dQ.alloc _,(R.go rfl).1.bad bG.out⟩
def Jd (w:World)(b:Nat)(s:ByteArray)(i:Nat)(m:Int)(e:Ending)(w':World):Prop:=
 (∃(a:Option Addr) (c j:Nat) (ds:List PDc) (xs:List Value),e=.returned (.tuple #[.slice a ds.length c,.bool true])/\At w w' b s j m/\w'.ownsRow w.heap.size 253 5 (.slice a ds.length c) ds.length xs/\Hid (Decs xs ds/\Sim s 3 i 0 j/\i<j/\Cv s i j ds))∨
 (∃(a:Option Addr) (n c j:Nat),e=.returned (.tuple #[.slice a n c,.bool false])/\At w w' b s j m/\Hid (vj s 3 i j))
theorem mF (h:(bt s i:Int)=123/\i<s.size):Sim s 3 i 9 (i+1)/\bt s i=123:=by
 have h1:bt s i=123:=by omega
 exact⟨eI h.2 (by simp[bY,i7,i6,h1]) (by decide) (λk=>by simp[cnt,i6,h1]),h1⟩
theorem MT (h:(bt s i:Int)≠123)(hA:oB (bt s i)=false)(hS:i6 (bt s i)=false)(Ic:bt s i≠44):vj s 3 i i:=by
 simp only[oB,gU] at hA;have h1:¬bt s i=123:=by omega
 have h2:¬bt s i=33:=by omega
 have h3:¬bt s i=46:=by omega
 have h4:¬bt s i=35:=by omega
 have h5:¬bt s i=58:=by omega
 exact jV (by decide) (by simp[bY,i7,jx,hS,Ic,h1,h2,h3,h4,h5])
theorem EM (h:(bt s i:Int)=125/\i<s.size):Sim s 9 i 0 (i+1)/\Sim s 16 i 0 (i+1):=by
 have h1:bt s i=125:=by omega
 exact⟨eI h.2 (by simp[bY,h1]) (by decide) (λk=>by simp[cnt]),eI h.2 (by simp[bY,jh,h1]) (by decide) (λk=>by simp[cnt])⟩
theorem EL (h:(bt s i:Int)≠125):Sim s 9 i 10 i:=by
 have h1:¬bt s i=125:=by omega
 exact nl (by decide) (by decide) (by simp[bY,h1]) (λk=>by simp[cnt])
theorem Lk (h:(bt s i:Int)≠125)(J1:bt s i≠59):vj s 16 i i:=by
 have h1:¬bt s i=125:=by omega
 exact jV (by decide) (by simp[bY,jh,h1,J1])
theorem JD (w:World)(b:Nat)(s:ByteArray)(i:Nat)(m:Int)(h:Rd w b s i m)(hN:Hid (oB (bt s i)=false/\i6 (bt s i)=false/\bt s i≠44)):
  Calls prog 159 #[.pointer (some ⟨b,0,none⟩)] w λe w'=>Jd w b s i m e w':=by
 have hb:=h.lt;go_enter func159,ntmps159;go_wp2_with fail;refine(jc _ b s i m 123 (by exact h) (by decide)).mono ?_;rintro e w1 (⟨rfl,ha,hf⟩ | ⟨rfl,ha,hf⟩)
 ·go_wp2_with fail;refine(jc _ b s (i+1) m 125 (by exact ha.rd) (by decide)).mono ?_;rintro e w2 (⟨rfl,dB,bG⟩ | ⟨rfl,dB,bG⟩)
  ·go_wp2_with fail;go_ret2;exact af ⟨none,0,i+2,[],[],rfl,ha.trans dB,er,rfl,(mF hf.out).1.trans (EM bG.out).1,by omega,(mF hf.out).2,af ⟨by have:=bG.out.1;omega,rfl,rfl⟩⟩
  ·have dQ:=ha.trans dB;go_wp2_with fail;refine(te _ b s (i+1) m (by exact dQ.rd)).mono ?_;rintro e w3 (⟨a,c,j,ds,xs,rfl,jE,ho4,jn⟩ | ⟨j,rfl,jE,jn⟩)
   ·have oQ:=dQ.trans jE;have HS:Hid (Sim s 3 i 16 j/\i<j/\bt s i=123/\bt s j≠59/\Decs xs ds/\CA s (i+1) j ds/\bt s (i+1)≠125):=⟨((mF hf.out).1.trans (EL bG.out)).trans jn.out.2.1,by have:=jn.out.2.2.2.1;omega,(mF hf.out).2,jn.out.2.2.1,jn.out.1,jn.out.2.2.2.2,by have:=bG.out;omega⟩;have adF:=dQ.size;go_wp2_with fail;refine(jc _ b s j m 125 (by exact oQ.rd) (by decide)).mono ?_;rintro e w4 (⟨rfl,TT,Ih⟩ | ⟨rfl,TT,Ih⟩)
    ·go_wp2_with fail;go_ret2;exact af ⟨a,c,j+1,ds,xs,rfl,oQ.trans TT,aP (TT.owns ho4 (by omega)) adF,HS.out.2.2.2.2.1,HS.out.1.trans (EM Ih.out).2,by have:=HS.out.2.1;omega,HS.out.2.2.1,ai ⟨HS.out.2.2.2.2.2.2,j,HS.out.2.2.2.2.2.1,by have:=Ih.out.1;omega,rfl⟩⟩
    ·go_wp2_with fail;go_ret2;exact ai ⟨a,ds.length,c,j,rfl,oQ.trans TT,HS.out.1.bad (Lk Ih.out HS.out.2.2.2.1)⟩
   ·go_wp2_with fail;go_ret2;exact ai ⟨none,0,0,j,rfl,dQ.trans jE,((mF hf.out).1.trans (EL bG.out)).bad jn.out⟩
 ·go_wp2_with fail;go_ret2;exact ai ⟨none,0,0,i,rfl,ha,MT hf.out hN.out.1 hN.out.2.1 hN.out.2.2⟩
end
section
variable {i:Nat}{s:ByteArray}
theorem Tryz.info138:(Tryz.prog.info? 138).map (λi=>(i.zero,i.size,i.bytes))=some (some (.agg #[.int .i64 0,.slice none 0 0,.slice none 0 0]),3,56):=by kernel_rfl
def lO (s:ByteArray)(i j:Nat):Prop:=(bt s i=64/\j=i+2)∨(bt s i≠64/\j=i)
def OL (s:ByteArray)(i:Nat):Int:=if bt s i=64 then(bt s (i+1):Int) - 48 else 10
structure dF where
 ly:Int
 ss:List (List d9)
 ds:List PDc
def Jt (w:World)(b:Nat)(s:ByteArray)(i:Nat)(m:Int)(e:Ending)(w':World):Prop:=
 (∃(v:Int) (j:Nat),e=.returned (.tuple #[.int .i64 v,.bool true])/\At w w' b s j m/\Hid (lO s i j/\(∀nr nc mn,V s 18 ⟨nr,nc,mn⟩ i=V s 2 ⟨nr,1,mn⟩ j)/\v=OL s i))∨
 (∃(v:Int) (j:Nat),e=.returned (.tuple #[.int .i64 v,.bool false])/\At w w' b s j m/\Hid (vj s 18 i j))
theorem rR (h:(bt s i:Int)=64/\i<s.size):(∀nr nc mn,V s 18 ⟨nr,nc,mn⟩ i=V s 1 ⟨nr,1,mn⟩ (i+1))/\bt s i=64:=by
 have h1:bt s i=64:=by omega
 refine⟨λnr nc mn=>?_,h1⟩;rw[vV h.2 (m':=1) (by simp[bY,h1]) (by decide)];simp[cnt]
theorem o7 (h:(bt s i:Int)≠64):(∀nr nc mn,V s 18 ⟨nr,nc,mn⟩ i=V s 2 ⟨nr,1,mn⟩ i)/\bt s i≠64:=by
 have h1:¬bt s i=64:=by omega
 exact⟨λnr nc mn=>MF (by decide) (by decide) (by simp[bY,h1]) (by simp[cnt]),h1⟩
theorem DR (h:iJ (bt s i)=true/\i<s.size):∀nr mn,V s 1 ⟨nr,1,mn⟩ i=V s 2 ⟨nr,1,mn⟩ (i+1):=λnr mn=>by
 rw[vV h.2 (m':=2) (by simp[bY,h.1,wh]) (by decide)];simp[cnt]
theorem yV (h:iJ (bt s i)=false):vj s 1 i i:=jV (by decide) (by simp[bY,h,wh])
theorem Kp (w:World)(b:Nat)(s:ByteArray)(i:Nat)(m:Int)(h:Rd w b s i m):
  Calls prog 157 #[.pointer (some ⟨b,0,none⟩)] w λe w'=>Jt w b s i m e w':=by
 go_enter func157,ntmps157;go_wp2_with fail;refine(jc _ b s i m 64 (by exact h) (by decide)).mono ?_;rintro e w1 (⟨rfl,ha,hf⟩ | ⟨rfl,ha,hf⟩)
 ·go_wp2_with fail;refine(mJ _ b s (i+1) m (by exact ha.rd)).mono ?_;rintro e w2 (⟨rfl,dB,bG⟩ | ⟨rfl,dB,bG⟩)
  ·go_wp2_with fail;go_ret2;exact af ⟨_,i+2,rfl,ha.trans dB,af ⟨(rR hf.out).2,rfl⟩,λnr nc mn=>by rw[(rR hf.out).1,DR bG.out],by unfold OL;rw[aq (rR hf.out).2]⟩
  ·go_wp2_with fail;go_ret2;exact ai ⟨_,i+1,rfl,ha.trans dB,λk=>by rw[(rR hf.out).1 k.nr k.nc k.mn,yV bG.out]⟩
 ·go_wp2_with fail;go_ret2;exact af ⟨_,i,rfl,ha,ai ⟨(o7 hf.out).2,rfl⟩,(o7 hf.out).1,by unfold OL;rw[aj (o7 hf.out).2]⟩
def sV (s:ByteArray)(i j:Nat)(r:dF):Prop:=
 ∃l q,lO s i l/\oH s l q r.ss/\l<q/\bt s q=123/\q<j/\Sim s 3 q 0 j/\r.ly=OL s i/\Cv s q j r.ds
def MB (w:World)(b:Nat)(s:ByteArray)(i:Nat)(m:Int)(e:Ending)(w':World):Prop:=
 (∃(lv:Int) (a:Option Addr) (c:Nat) (ss:List (List d9)) (xs:List Value) (a':Option Addr) (c':Nat) (ds:List PDc) (ys:List Value) (j:Nat) (m':Int),
  e=.returned (.tuple #[.agg #[.int .i64 lv,.slice a ss.length c,.slice a' ds.length c'],.bool true])/\At w w' b s j m'/\w'.ownsRow w.heap.size 141 1 (.slice a ss.length c) ss.length xs/\Sels w' w.heap.size xs ss/\w'.ownsRow w.heap.size 253 5 (.slice a' ds.length c') ds.length ys/\
  Hid (Decs ys ds/\sV s i j ⟨lv,ss,ds⟩/\i<j/\∃Ug,∀nr nc,V s 18 ⟨nr,nc,m⟩ i=V s 0 ⟨nr,Ug,m'⟩ j))∨
 (∃(j:Nat) (m':Int),e=.returned (.tuple #[.agg #[.int .i64 0,.slice none 0 0,.slice none 0 0],.bool false])/\At w w' b s j m'/\Hid (∀nr nc,V s 18 ⟨nr,nc,m⟩ i=((j:Int),-1)))
theorem Lf {w:World}{an:Nat}{xs:List Value}{ss:List (List d9)}(h:Sels w an xs ss){B:Nat}(hB:B<an)(v0 v1 v2:Value):
  Sels (((w.setCell ⟨B,0,none⟩ v0).setCell ⟨B,1,none⟩ v1).setCell ⟨B,2,none⟩ v2) an xs ss:=
 h.keep (((eO _ (by exact hB) _ _).trans (eO _ (by exact hB) _ _)).trans (eO _ (by exact hB) _ _)) (((eO _ (by exact hB) _ _).trans (eO _ (by exact hB) _ _)).trans (eO _ (by exact hB) _ _))
theorem Et (w:World)(b:Nat)(s:ByteArray)(i:Nat)(m:Int)(h:Rd w b s i m):
  Calls prog 124 #[.pointer (some ⟨b,0,none⟩)] w λe w'=>MB w b s i m e w':=by
 have hb:=h.lt;go_enter func124,ntmps124;go_wp2_with fail;refine(Kp _ b s i m (by exact h.alloc _)).mono ?_;rintro e w1 (⟨lv,l,rfl,ha,hf⟩ | ⟨lv,l,rfl,ha,hf⟩)
 ·have gK:w.heap.size<w1.heap.size:=by have:=ha.size;simp only[World.size_alloc] at this;omega
  go_wp2_with fail;refine(zg _ b s l m (by exact ha.rd)).mono ?_;rintro e w2 (⟨a,c,ss,xs,q,m2,rfl,dB,yN,Ct,bG⟩ | ⟨q,m2,rfl,dB,bG⟩)
  ·have dQ:=ha.trans dB;go_wp2_with fail;refine(JD _ b s q m2 (by exact dQ.rd) ⟨bG.out.2.2.1,bG.out.2.2.2.1,bG.out.2.2.2.2.1⟩).mono ?_;rintro e w3 (⟨a',c',j,ds,ys,rfl,jE,ho4,jn⟩ | ⟨a',n',c',j,rfl,jE,jn⟩)
   ·have oQ:=dQ.trans jE;obtain⟨hc,hz⟩:=oQ.cells w.heap.size (by simp) (by omega);have bA:=jE.owns yN (by omega);have adY:w.heap.size<w2.heap.size:=by have:=dQ.size;simp only[World.size_alloc] at this;omega
    have ad5:=Ct.keep (eS jE (by omega) _) (eS jE (by omega) _);go_wp2_with fail
    refine bodyPost_ret (v:=.tuple #[.agg #[.int .i64 lv,.slice a ss.length c,.slice a' ds.length c'],.bool true]) (by simp[results,Tryz.results124,go_sem,hc]) rfl
     (af ⟨lv,a,c,ss,xs,a',c',ds,ys,j,m2,rfl,oQ.ofAlloc.set3 hb au _ _ _,aP (xo bA gK _ _ _) (by omega),(Lf ad5 gK _ _ _).mono (by omega),aP (xo ho4 adY _ _ _) (by omega),?_⟩)
    obtain⟨p1,p2,p3,p4,p5,nc,p6⟩:=bG.out;obtain⟨q0,q1,q2,q3⟩:=jn.out;obtain⟨r1,r2,r3⟩:=hf.out;have jJ:i<=l:=by rcases r1 with⟨_,r⟩ | ⟨_,r⟩<;>omega
    exact⟨q0,⟨l,q,r1,p1,p2,q3.1,q2,q1,r3,q3⟩,by omega,nc,λnr Ug=>by rw[r2,p6,q1]⟩
   ·have oQ:=dQ.trans jE;obtain⟨hc,hz⟩:=oQ.cells w.heap.size (by simp) (by omega);go_wp2_with fail;refine bodyPost_ret (v:=.tuple #[.agg #[.int .i64 0,.slice none 0 0,.slice none 0 0],.bool false]) (by simp[results,Tryz.results124,go_sem,hc]) rfl (ai ⟨j,m2,rfl,oQ.ofAlloc.set3 hb au _ _ _,?_⟩);obtain⟨p1,p2,p3,p4,p5,nc,p6⟩:=bG.out;exact λnr Ug=>by rw[hf.out.2.1,p6,jn.out]
  ·have dQ:=ha.trans dB;obtain⟨hc,hz⟩:=dQ.cells w.heap.size (by simp) (by omega);go_wp2_with fail;exact bodyPost_ret (v:=.tuple #[.agg #[.int .i64 0,.slice none 0 0,.slice none 0 0],.bool false]) (by simp[results,Tryz.results124,go_sem,hc]) rfl (ai ⟨q,m2,rfl,dQ.ofAlloc.set3 hb au _ _ _,λnr Ug=>by rw[hf.out.2.1,bG.out]⟩)
 ·obtain⟨hc,hz⟩:=ha.cells w.heap.size (by simp) (by omega);go_wp2_with fail;exact bodyPost_ret (v:=.tuple #[.agg #[.int .i64 0,.slice none 0 0,.slice none 0 0],.bool false]) (by simp[results,Tryz.results124,go_sem,hc]) rfl (ai ⟨l,m,rfl,ha.ofAlloc.set3 hb au _ _ _,λnr nc=>hf.out _⟩)
end
section
variable {an:Nat}{w:World}
def Ruls (w:World)(an:Nat):List Value->List dF->Prop
 | xs,[]=>xs=[]
 | xs,r :: rs=>∃(a:Option Addr) (c:Nat) (a':Option Addr) (c':Nat) (ps qs ys:List Value),xs=.int .i64 r.ly :: .slice a r.ss.length c :: .slice a' r.ds.length c' :: ys/\w.ownsRow an 141 1 (.slice a r.ss.length c) r.ss.length ps/\Sels w an ps r.ss/\(w.ownsRow an 253 5 (.slice a' r.ds.length c') r.ds.length qs/\Decs qs r.ds)/\Ruls w an ys rs
theorem Ruls.keep {w':World}(hk:∀e,e≠138->Keeps w w' an e):∀{xs:List Value} {rs:List dF},Ruls w an xs rs->Ruls w' an xs rs
 | _,[],h=>h
 | _,_ :: _,⟨a,c,a',c',ps,qs,ys,h1,h2,h3,h5,h4⟩=>⟨a,c,a',c',ps,qs,ys,h1,(hk _ (by decide)).owns h2,h3.keep (hk _ (by decide)) (hk _ (by decide)),⟨(hk _ (by decide)).owns h5.1,h5.2⟩,Ruls.keep hk h4⟩
theorem Ruls.mono {iZ:Nat}(hb:iZ<=an):∀{xs:List Value} {rs:List dF},Ruls w an xs rs->Ruls w iZ xs rs
 | _,[],h=>h
 | _,_ :: _,⟨a,c,a',c',ps,qs,ys,h1,h2,h3,h5,h4⟩=>⟨a,c,a',c',ps,qs,ys,h1,aP h2 hb,h3.mono hb,⟨aP h5.1 hb,h5.2⟩,Ruls.mono hb h4⟩
theorem Ruls.snoc (lv:Int)(a:Option Addr)(c:Nat)(a':Option Addr)(c':Nat)(ss:List (List d9))(ds:List PDc)(ps qs:List Value)(ho:w.ownsRow an 141 1 (.slice a ss.length c) ss.length ps)(hk:Sels w an ps ss)(hd:w.ownsRow an 253 5 (.slice a' ds.length c') ds.length qs/\Decs qs ds):
  ∀{xs:List Value} {rs:List dF},Ruls w an xs rs->Ruls w an (xs++[.int .i64 lv,.slice a ss.length c,.slice a' ds.length c']) (rs++[⟨lv,ss,ds⟩])
 | _,[],h=>by simp only[Ruls] at h;subst h;exact⟨a,c,a',c',ps,qs,[],rfl,ho,hk,hd,rfl⟩
 | _,_ :: _,⟨a1,c1,a2,c2,uq,qs',ys,h1,h2,h3,h5,h4⟩=>⟨a1,c1,a2,c2,uq,qs',_,by rw[h1];rfl,h2,h3,h5,Ruls.snoc lv a c a' c' ss ds ps qs ho hk hd h4⟩
def RulsAt (s:ByteArray):Nat->Nat->List dF->Prop
 | i,j,[]=>i=j
 | i,j,ss :: rs=>∃l,sV s i l ss/\i<l/\RulsAt s l j rs
theorem RulsAt.snoc {s:ByteArray}{i j l:Nat}{rs:List dF}{ss:dF}(h:RulsAt s i j rs)(hc:sV s j l ss)(hl:j<l):RulsAt s i l (rs++[ss]):=by
 induction rs generalizing i with
 | nil=>simp only[RulsAt] at h;subst h;exact⟨l,hc,hl,rfl⟩
 | cons x rs ih=>
  obtain⟨l',h1,h2,h3⟩:=h;exact⟨l',h1,h2,ih h3⟩
structure vQ (w:World)(b:Nat)(s:ByteArray)(gk:Nat)(v:Value)(wr:World)(j:Nat)(mP:Int)(rs:List dF)(xs:List Value):Prop where
 at':At (w.alloc (.cells #[.slice none 0 0] 82)) wr b s j mP
 own:wr.ownsRow (w.heap.size+1) 138 3 v rs.length xs
 ruls:Ruls wr (w.heap.size+1) xs rs
 few:rs.length<=j
 gk:s.size - j<=gk
 text:RulsAt s 0 j rs
 run:∃nc,V s 0 ⟨0,0,-1⟩ 0=V s 0 ⟨rs.length,nc,mP⟩ j
def Jx (w:World)(b:Nat)(s:ByteArray)(e:Ending)(w':World):Prop:=
 (∃(a:Option Addr) (c:Nat) (rs:List dF) (xs:List Value) (m':Int),e=.returned (.tuple #[.agg #[.slice a rs.length c],.bool true])/\At w w' b s s.size m'/\w'.ownsRow w.heap.size 138 3 (.slice a rs.length c) rs.length xs/\Ruls w' w.heap.size xs rs/\
  Hid (RulsAt s 0 s.size rs/\V s 0 ⟨0,0,-1⟩ 0=(-1,m')))∨
 (∃(j:Nat) (m':Int),e=.returned (.tuple #[.agg #[.slice none 0 0],.bool false])/\At w w' b s j m'/\Hid (V s 0 ⟨0,0,-1⟩ 0=((j:Int),-1)))
theorem Pe (a:Int)(b:Option Addr)(n k:Nat)(b':Option Addr)(n' k':Nat):∀u∈[Value.int .i64 a,Value.slice b n k,Value.slice b' n' k'],u.oneCell'=true:=by
 intro u hu;simp only[List.mem_cons,List.not_mem_nil,or_false] at hu;rcases hu with rfl | rfl | rfl<;>rfl
theorem uj (w:World)(n an:Nat)(e:TypeId):Keeps w (w.drewN n) an e:=λ_ _ _ hh=>hh
theorem kW {e:TypeId}{size:Nat}{v:Value}{n:Nat}{xs:List Value}(h:w.ownsRow an e size v n xs)(k:Nat):(w.drewN k).ownsRow an e size v n xs:=(uj w k an e).owns h
theorem Li (w:World)(b:Nat)(s:ByteArray)(h:Rd w b s 0 (-1)):
  Calls prog 77 #[.pointer (some ⟨b,0,none⟩)] w λe w'=>Jx w b s e w':=by
 have hb:=h.lt;have wV:=h.top;obtain⟨i0,hi,gx,gA,gB⟩:=info_parts Tryz.info138;go_enter func77,ntmps77;go_wp2_with fail
 go_loopg [4] (s.size) (λgk v wr=>∃(j:Nat) (mP:Int) (rs:List dF) (xs:List Value),vQ w b s gk v wr j mP rs xs)
 case atStart=>exact⟨0,-1,[],[],h.allocAt _,er,rfl,by simp,by omega,rfl,0,rfl⟩
 case round=>
  obtain⟨j,mP,rs,xs,R⟩:=hrel;have qw:=R.at'.rd.le;obtain⟨a,c,hv⟩:=aA R.own;subst hv;go_wp2_with fail;refine(mO _ b s j mP (by exact R.at'.rd)).mono ?_;rintro e w0 ⟨rfl,n0,rfl⟩
  by_cases hend:s.size<=j
  ·obtain rfl:j=s.size:=by omega
   have R2:=R;have gK:w.heap.size<wr.heap.size:=by have:=R.at'.size;simp only[World.size_alloc] at this;omega
   obtain⟨hc,hz⟩:=R.at'.cells w.heap.size (by simp) (by omega);clear R;go_wp2;refine bodyPost_ret (v:=.tuple #[.agg #[.slice a rs.length c],.bool true]) (by simp[results,Tryz.results77,go_sem,hc]) rfl (af ⟨a,c,rs,xs,mP,rfl,?_,?_,?_,?_⟩)
   ·exact(R2.at'.ofAlloc.drewN n0).setNew hb au _
   ·exact aP (ownsRow_setCell_below (kW R2.own n0) (by simp) _) (by omega)
   ·exact(R2.ruls.keep (λe _=>(uj wr n0 _ _).trans (eO _ (by simp) _ _))).mono (by omega)
   ·obtain⟨nc,r1⟩:=R2.run;exact⟨R2.text,by rw[r1,vU au];simp⟩
  ·have hd:decide (s.size<=j)=false:=by simpa using hend
   have aU:j<s.size:=by omega
   by_cases h4:rs.length=20
   ·have g4:((rs.length:Int)==20)=true:=by simp[h4]
    have H4:=ae h4;clear h4;go_wp2_with fail;refine(rW _ b s j mP (by exact R.at'.rd.drewN _)).mono ?_;rintro e w1 ⟨rfl,ZI⟩;have rF:=(R.at'.rd.at0.drewN n0).trans ZI;have hM:Hid (∀nc,V s 0 ⟨rs.length,nc,mP⟩ j=V s 18 ⟨rs.length+1,1,ms mP j⟩ j):=λnc=>by rw[vW aU];simp[cZ,H4.out]
    generalize ms mP j=M at rF ZI hM;go_wp2_with fail;refine(Et _ b s j M (by exact rF.rd)).mono ?_;rintro e w2 (⟨lv,a2,c2,ss,ps,a3,c3,ds,qs,l,M2,rfl,dB,yN,Ct,iR,bG⟩ | ⟨l,M2,rfl,dB,bG⟩)
    ·have dQ:=(R.at'.trans rF).trans dB;have gK:=(R.at'.trans rF).size;simp only[World.size_alloc] at gK;have nE:w.heap.size<w2.heap.size:=by have:=dQ.size;simp only[World.size_alloc] at this;omega
     have di:=(rF.trans dB).owns R.own (by omega);have bX:=R.few;go_wp2_with (at_builtin;refine wpList_append_own _ rfl (.tmp 23) (.tmp 25) 80 rfl (w.heap.size+1) 138 i0 (.agg #[.int .i64 0,.slice none 0 0,.slice none 0 0]) 3 56 underlying80 hi gx gA gB rfl (by decide) _ _ _ rfl ((di.alloc _).alloc _) ⟨w2.heap.size+1,0,none⟩ 1 1 [.int .i64 lv,.slice a2 ss.length c2,.slice a3 ds.length c3] rfl rfl ?c1x ?c2x ?c3x ?c4x ?c5x ?_)
     case c1x=>exact aW (w2.alloc _) _ (by simp) _ _ _ rfl
     case c2x=>exact Pe _ _ _ _ _ _ _
     case c3x=>unfold maxLen;omega
     case c4x=>omega
     case c5x=>simp;omega
     ·intro v' w3 bU fk _;have bA:w3.ownsRow (w.heap.size+1) 138 3 v' (rs++[(⟨lv,ss,ds⟩:dF)]).length (xs++[.int .i64 lv,.slice a2 ss.length c2,.slice a3 ds.length c3]):=by simpa using bU
      have fT:∀e,Keeps wr w2 (w.heap.size+1) e:=λe=>eS (rF.trans dB) (by omega) _;have oS:∀e,e≠138->Keeps w2 w3 (w.heap.size+1) e:=λe he=>((cQ _ _ _ _).trans (cQ _ _ _ _)).trans (jY he ((di.alloc _).alloc _) fk)
      have Eu:Ruls w3 (w.heap.size+1) (xs++[.int .i64 lv,.slice a2 ss.length c2,.slice a3 ds.length c3]) (rs++[⟨lv,ss,ds⟩]):=
       Ruls.snoc lv a2 c2 a3 c3 ss ds ps qs ((oS 141 (by decide)).owns (aP yN gK)) ((Ct.mono gK).keep (oS _ (by decide)) (oS _ (by decide))) ⟨(oS 253 (by decide)).owns (aP iR gK),bG.out.1⟩ (R.ruls.keep (λe he=>(fT e).trans (oS e he)))
      have yG:At (w.alloc (.cells #[.slice none 0 0] 82)) w3 b s l M2:=((dQ.alloc _).alloc _).app (by simp;omega) (by simpa using((di.alloc _).alloc _)) fk;obtain⟨q0,q1,q2,Ug,q3⟩:=bG.out;obtain⟨nc,r1⟩:=R.run
      have R3:vQ w b s (s.size - l) v' w3 l M2 (rs++[⟨lv,ss,ds⟩]) (xs++[.int .i64 lv,.slice a2 ss.length c2,.slice a3 ds.length c3]):=by
       refine⟨yG,bA,Eu,by simp;omega,au,R.text.snoc q1 q2,Ug,?_⟩;rw[r1,hM.out nc,q3];simp
      have fS:=R.gk;have BF:=yG.rd.le;clear bU fk di R fT oS q0 q1 q3 bG r1 bA Eu;go_wp2;go_roundg (s.size - l)
      case measure=>omega
      case rel=>exact⟨l,M2,_,_,R3⟩
    ·have dQ:=(R.at'.trans rF).trans dB;have nE:w.heap.size<w2.heap.size:=by have:=dQ.size;simp only[World.size_alloc] at this;omega
     obtain⟨hc,hz⟩:=dQ.cells w.heap.size (by simp) (by omega);obtain⟨nc,r1⟩:=R.run;have HR:Hid (V s 0 ⟨0,0,-1⟩ 0=((l:Int),-1)):=by unfold Hid;rw[r1,hM.out nc,bG.out]
     clear r1;go_wp2_with fail;exact bodyPost_ret (v:=.tuple #[.agg #[.slice none 0 0],.bool false]) (by simp[results,Tryz.results77,go_sem,hc,nE]) rfl (ai ⟨l,M2,rfl,(dQ.ofAlloc.setNew hb au _).alloc _,HR.out⟩)
   ·have g4:((rs.length:Int)==20)=false:=by simp;omega
    obtain⟨M,rF,hM⟩:∃M,At wr (wr.drewN n0) b s j M/\Hid (∀nc,V s 0 ⟨rs.length,nc,mP⟩ j=V s 18 ⟨rs.length+1,1,M⟩ j):=⟨mP,R.at'.rd.at0.drewN n0,λnc=>by rw[vW aU];simp[cZ,h4]⟩;clear h4;go_wp2_with fail;refine(Et _ b s j M (by exact rF.rd)).mono ?_;rintro e w2 (⟨lv,a2,c2,ss,ps,a3,c3,ds,qs,l,M2,rfl,dB,yN,Ct,iR,bG⟩ | ⟨l,M2,rfl,dB,bG⟩)
    ·have dQ:=(R.at'.trans rF).trans dB;have gK:=(R.at'.trans rF).size;simp only[World.size_alloc] at gK;have nE:w.heap.size<w2.heap.size:=by have:=dQ.size;simp only[World.size_alloc] at this;omega
     have di:=(rF.trans dB).owns R.own (by omega);have bX:=R.few;go_wp2_with (at_builtin;refine wpList_append_own _ rfl (.tmp 23) (.tmp 25) 80 rfl (w.heap.size+1) 138 i0 (.agg #[.int .i64 0,.slice none 0 0,.slice none 0 0]) 3 56 underlying80 hi gx gA gB rfl (by decide) _ _ _ rfl ((di.alloc _).alloc _) ⟨w2.heap.size+1,0,none⟩ 1 1 [.int .i64 lv,.slice a2 ss.length c2,.slice a3 ds.length c3] rfl rfl ?c1y ?c2y ?c3y ?c4y ?c5y ?_)
     case c1y=>exact aW (w2.alloc _) _ (by simp) _ _ _ rfl
     case c2y=>exact Pe _ _ _ _ _ _ _
     case c3y=>unfold maxLen;omega
     case c4y=>omega
     case c5y=>simp;omega
     ·intro v' w3 bU fk _;have bA:w3.ownsRow (w.heap.size+1) 138 3 v' (rs++[(⟨lv,ss,ds⟩:dF)]).length (xs++[.int .i64 lv,.slice a2 ss.length c2,.slice a3 ds.length c3]):=by simpa using bU
      have fT:∀e,Keeps wr w2 (w.heap.size+1) e:=λe=>eS (rF.trans dB) (by omega) _;have oS:∀e,e≠138->Keeps w2 w3 (w.heap.size+1) e:=λe he=>((cQ _ _ _ _).trans (cQ _ _ _ _)).trans (jY he ((di.alloc _).alloc _) fk)
      have Eu:Ruls w3 (w.heap.size+1) (xs++[.int .i64 lv,.slice a2 ss.length c2,.slice a3 ds.length c3]) (rs++[⟨lv,ss,ds⟩]):=
       Ruls.snoc lv a2 c2 a3 c3 ss ds ps qs ((oS 141 (by decide)).owns (aP yN gK)) ((Ct.mono gK).keep (oS _ (by decide)) (oS _ (by decide))) ⟨(oS 253 (by decide)).owns (aP iR gK),bG.out.1⟩ (R.ruls.keep (λe he=>(fT e).trans (oS e he)))
      have yG:At (w.alloc (.cells #[.slice none 0 0] 82)) w3 b s l M2:=((dQ.alloc _).alloc _).app (by simp;omega) (by simpa using((di.alloc _).alloc _)) fk;obtain⟨q0,q1,q2,Ug,q3⟩:=bG.out;obtain⟨nc,r1⟩:=R.run
      have R3:vQ w b s (s.size - l) v' w3 l M2 (rs++[⟨lv,ss,ds⟩]) (xs++[.int .i64 lv,.slice a2 ss.length c2,.slice a3 ds.length c3]):=by
       refine⟨yG,bA,Eu,by simp;omega,au,R.text.snoc q1 q2,Ug,?_⟩;rw[r1,hM.out nc,q3];simp
      have fS:=R.gk;have BF:=yG.rd.le;clear bU fk di R fT oS q0 q1 q3 bG r1 bA Eu;go_wp2;go_roundg (s.size - l)
      case measure=>omega
      case rel=>exact⟨l,M2,_,_,R3⟩
    ·have dQ:=(R.at'.trans rF).trans dB;have nE:w.heap.size<w2.heap.size:=by have:=dQ.size;simp only[World.size_alloc] at this;omega
     obtain⟨hc,hz⟩:=dQ.cells w.heap.size (by simp) (by omega);obtain⟨nc,r1⟩:=R.run;have HR:Hid (V s 0 ⟨0,0,-1⟩ 0=((l:Int),-1)):=by unfold Hid;rw[r1,hM.out nc,bG.out]
     clear r1;go_wp2_with fail;exact bodyPost_ret (v:=.tuple #[.agg #[.slice none 0 0],.bool false]) (by simp[results,Tryz.results77,go_sem,hc,nE]) rfl (ai ⟨l,M2,rfl,(dQ.ofAlloc.setNew hb au _).alloc _,HR.out⟩)
end
def gP (s:ByteArray):Int × Int:=
 if 400<s.size then(1,0) else if 0<=(V s 0 ⟨0,0,-1⟩ 0).1 then(2,(V s 0 ⟨0,0,-1⟩ 0).1) else if(V s 0 ⟨0,0,-1⟩ 0).2=-1 then(0,0) else(3,(V s 0 ⟨0,0,-1⟩ 0).2)
def Mz (w:World)(s:ByteArray)(e:Ending)(w':World):Prop:=
 ∃(a:Option Addr) (n c:Nat),e=.returned (.tuple #[.agg #[.slice a n c],.int .i64 (gP s).1,.int .i64 (gP s).2])/\Below w.heap.size w w'/\
  ((gP s).1=0->∃rs xs,n=rs.length/\w'.ownsRow w.heap.size 138 3 (.slice a n c) n xs/\Ruls w' w.heap.size xs rs/\RulsAt s 0 s.size rs)
theorem At.below {w w0 w1:World}{b:Nat}{s:ByteArray}{j:Nat}{m:Int}(h:At w0 w1 b s j m)(hw:Below w.heap.size w w0)(hb:w.heap.size<=b):Below w.heap.size w w1:=
 hw.grown h.gb hw.size (λk e=>by injection e with e;omega)
theorem xL (w:World)(s:ByteArray)(hs:s.size<=maxLen):
  Calls prog 42 #[.string s] w λe w'=>Mz w s e w':=by
 unfold maxLen at hs
 by_cases h400:400<s.size
 ·have HC:Hid (gP s=(1,0)):=by unfold Hid gP;rw[aq h400]
  go_enter func42,ntmps42;go_wp2;refine bodyPost_ret (v:=.tuple #[.agg #[.slice none 0 0],.int .i64 1,.int .i64 0]) (by simp[results,Tryz.results42,go_sem]) rfl ⟨none,0,0,by rw[HC.out],?_,?_⟩
  ·exact bd.alloc au _
  ·rw[HC.out];intro h;simp at h
 ·have Zz:s.size<=400:=by omega
  have hr:Rd ((w.alloc (.cells #[.slice none 0 0] 82)).alloc (.cells #[.string s,.int .i64 0,.int .i64 (-1)] 146)) (w.heap.size+1) s 0 (-1):=by
   refine⟨?_,aZ,Zz,by omega,by omega⟩;have:=heap_alloc_new (w.alloc (.cells #[.slice none 0 0] 82)) (.cells #[.string s,.int .i64 0,.int .i64 (-1)] 146);simpa using this
  have mo:Below w.heap.size w ((w.alloc (.cells #[.slice none 0 0] 82)).alloc (.cells #[.string s,.int .i64 0,.int .i64 (-1)] 146)):=(bd.alloc au _).alloc (by simp) _;go_enter func42,ntmps42;go_wp2_with fail;refine(Li _ (w.heap.size+1) s (by exact hr)).mono ?_;rintro e w1 (⟨a,c,rs,xs,m,rfl,ha,ho,hR,hf⟩ | ⟨j,m,rfl,ha,hf⟩)
  ·have qW:=ha.below mo (by omega);have gK:w.heap.size+1<w1.heap.size:=by have:=ha.size;simp at this;omega
   have Ss:w.heap.size<w1.heap.size:=by omega
   obtain⟨hc,hz⟩:=ha.cells w.heap.size (by simp;omega) (by omega);have c2:=ha.rd.c2;have VL:w1.ownsRow (w.heap.size+2) 138 3 (.slice a rs.length c) rs.length xs:=aP ho (by simp);have TP:Ruls w1 (w.heap.size+2) xs rs:=hR.mono (by simp);clear ho hR;have Ka:=ha.rd.lo
   by_cases hm:m=-1
   ·subst hm;have HC:Hid (gP s=(0,0)):=by unfold Hid gP;rw[aj h400,hf.out.2];simp
    have gd:((-1:Int) != -1)=false:=by decide
    go_wp2;refine bodyPost_ret (v:=.tuple #[.agg #[.slice a rs.length c],.int .i64 0,.int .i64 0]) (by simp[results,Tryz.results42,go_sem,hc,Ss]) rfl ⟨a,rs.length,c,by rw[HC.out],?_,λ_=>⟨rs,xs,rfl,?_,?_,hf.out.1⟩⟩
    ·exact(qW.setCell (by simp) _).alloc (by simp[World.setCell];omega) _
    ·exact aP ((ownsRow_setCell_below VL (by simp) _).alloc _) (by omega)
    ·exact(TP.keep (λe _=>(eO _ (by simp) _ _).trans (cQ _ _ _ _))).mono (by omega)
   ·have HC:Hid (gP s=(3,m)):=by unfold Hid gP;rw[aj h400,hf.out.2];simp[hm]
    have gd:(m != -1)=true:=by simp[hm]
    clear hm;go_wp2
    go_region
    all_goals go_wp2
    all_goals refine bodyPost_ret (v:=.tuple #[.agg #[.slice none 0 0],.int .i64 3,.int .i64 m]) (by simp[results,Tryz.results42,go_sem,hc,Ss]) rfl ⟨none,0,0,by rw[HC.out],?_,?_⟩
    all_goals first | (rw[HC.out];intro h;simp at h;done) | skip
    all_goals repeat' (first | exact qW | refine Below.drew ?_ | refine Below.alloc ?_ (by simp[World.setCell];omega) _ | refine Below.setCell ?_ (by simp) _)
  ·have qW:=ha.below mo (by omega);have gK:w.heap.size+1<w1.heap.size:=by have:=ha.size;simp at this;omega
   have Ss:w.heap.size<w1.heap.size:=by omega
   obtain⟨hc,hz⟩:=ha.cells w.heap.size (by simp;omega) (by omega);have c1:=ha.rd.c1;have HC:Hid (gP s=(2,(j:Int))):=by unfold Hid gP;rw[aj h400,hf.out];simp
   go_wp2
   go_region
   all_goals go_wp2
   all_goals refine bodyPost_ret (v:=.tuple #[.agg #[.slice none 0 0],.int .i64 2,.int .i64 j]) (by simp[results,Tryz.results42,go_sem,hc,Ss]) rfl ⟨none,0,0,by rw[HC.out],?_,?_⟩
   all_goals first | (rw[HC.out];intro h;simp at h;done) | skip
   all_goals repeat' (first | exact qW | refine Below.drew ?_ | refine Below.alloc ?_ (by simp[World.setCell];omega) _ | refine Below.setCell ?_ (by simp) _)
end Go.Proofs.YtblfffbmklkhmaaGreat
