/- Own work. -/
import Derived.Test.YtblfffbmklkhmabGreatAl2
import Derived.Deep.RegionLaw
set_option maxRecDepth 100000
set_option maxHeartbeats 40000000
namespace Go.Proofs.YtblfffbmklkhmabGreat
open Go.RowKit Go.Proofs.Tryz
section
variable {i t:Nat}{s:ByteArray}
def Cf (s:ByteArray)(i:Nat):Nat->Int
 | 0=>0
 | t+1=>Cf s i t*10+((bt s (i+t):Int) - 48)
theorem wZ {c:Nat}(h:iS c=true):48<=c/\c<=57:=by simpa only[iS,bO] using h
structure M8 (w:World)(b:Nat)(s:ByteArray)(i:Nat)(m:Int)(gk:Nat)(wr:World)(t:Nat)(n:Int):Prop where
 at':At w wr b s (i+t) m
 lo:1<=t
 hi:t<=3
 gk:3 - t<=gk
 sim:Sim s 12 i (12+(t:Int)) (i+t)
 val:n=Cf s i t
 dig:∀k,i<=k->k<i+t->iS (bt s k)=true
 nlo:0<=n
 nhi:t<3->n<=99
def RZ (w:World)(b:Nat)(s:ByteArray)(i:Nat)(m:Int)(e:Ending)(w':World):Prop:=
 (∃(nv:Int) (j:Nat),e=.returned (.tuple #[.int .i64 nv,.bool true])/\At w w' b s j m/\Hid (Sim s 12 i 15 j/\i<j/\j<=i+3/\nv=Cf s i (j - i)/\(∀k,i<=k->k<j->iS (bt s k)=true)/\(j=i+3∨iS (bt s j)=false)))∨
 (e=.returned (.tuple #[.int .i64 0,.bool false])/\At w w' b s i m/\Hid (iS (bt s i)=false))
theorem Ll (h:iS (bt s i)=true/\i<s.size):Sim s 12 i 13 (i+1):=eR h.2 (by simp[ct,h.1]) (by decide) (λk=>by simp[cnt])
theorem PN (h:iS (bt s i)=true/\i<s.size)(ht:t=1∨t=2):Sim s (12+(t:Int)) i (12+((t+1:Nat):Int)) (i+1):=by
 rcases ht with rfl | rfl
 ·exact eR h.2 (by simp[ct,h.1]) (by decide) (λk=>by simp[cnt])
 ·exact eR h.2 (by simp[ct,h.1]) (by decide) (λk=>by simp[cnt])
theorem PO (h:iS (bt s i)=false)(ht:t=1∨t=2):Sim s (12+(t:Int)) i 15 i:=by
 rcases ht with rfl | rfl
 ·exact nP (by decide) (by decide) (by simp[ct,h]) (λk=>by simp[cnt])
 ·exact nP (by decide) (by decide) (by simp[ct,h]) (λk=>by simp[cnt])
theorem Hc (w:World)(b:Nat)(s:ByteArray)(i:Nat)(m:Int)(h:Rd w b s i m):
  Calls prog 176 #[.pointer (some ⟨b,0,none⟩)] w λe w'=>RZ w b s i m e w':=by
 go_enter func176,ntmps176;go_wp2_with fail;refine(m7 _ b s i m (by exact h)).mono ?_;rintro e w1 (⟨rfl,ha,hf⟩ | ⟨rfl,ha,hf⟩)
 ·go_wp2_with fail
  go_loopg [4,6] 2 (λgk nv tv wr=>∃(t:Nat) (n:Int),nv=.int .i64 n/\tv=.int .i64 t/\M8 w b s i m gk wr t n)
  case atStart=>exact⟨1,_,rfl,rfl,ha,by omega,by omega,by omega,Ll hf.out,by simp[Cf],λk h1 h2=>(show i=k from by omega)▸hf.out.1,by have:=wZ hf.out.1;omega,λ_=>by have:=wZ hf.out.1;omega⟩
  case round=>
   obtain⟨t,n,rfl,rfl,R⟩:=hrel;have KR:=R.lo;have hhi:=R.hi
   by_cases ht:t<3
   ·go_wp2_with fail;refine(m7 _ b s (i+t) m (by exact R.at'.rd)).mono ?_;rintro e w2 (⟨rfl,dK,bM⟩ | ⟨rfl,dK,bM⟩)
    ·have iC:=wZ bM.out.1;have UM:=R.nlo;have CO:=R.nhi ht
     have R2:M8 w b s i m (gk - 1) w2 (t+1) (n*10+((bt s (i+t):Int) - 48)):=⟨R.at'.trans dK,by omega,by omega,by have:=R.gk;omega,R.sim.trans (PN bM.out (by omega)),by rw[R.val];rfl,λk h1 h2=>by
      by_cases e:k=i+t
      ·rw[e];exact bM.out.1
      ·exact R.dig k h1 (by omega),by omega,λh3=>by
       obtain rfl:t=1:=by omega
       have h9:n<=9:=by
        have hv:=R.val;have:=wZ (R.dig i aF (by omega));simp[Cf] at hv;omega
       omega⟩
     have fT:=R.gk;clear R;go_wp2;go_roundg (gk - 1)
     case measure=>omega
     case rel=>exact⟨t+1,_,by go_num,by go_num,R2⟩
    ·go_wp2;go_ret2;exact ax ⟨_,i+t,rfl,R.at'.trans dK,R.sim.trans (PO bM.out (by omega)),by omega,by omega,by rw[Nat.add_sub_cancel_left];exact R.val,R.dig,az bM.out⟩
   ·obtain rfl:t=3:=by omega
    go_wp2;go_ret2;exact ax ⟨_,i+3,rfl,R.at',R.sim,by omega,by omega,by rw[Nat.add_sub_cancel_left];exact R.val,R.dig,ax rfl⟩
 ·go_wp2;go_ret2;exact az ⟨rfl,ha,hf⟩
def Dg (s:ByteArray)(i j:Nat)(kd nv vr:Int):Prop:=
 (bt s i=105/\kd=2/\nv=0/\vr=0/\j=i+1)∨(bt s i=114/\kd=3/\nv=0/\vr=0/\j=i+1)∨(bt s i=117/\kd=4/\nv=0/\vr=0/\j=i+1)∨
 (bt s i=36/\kd=5/\nv=0/\vr=bt s (i+1)/\tR (bt s (i+1))=true/\j=i+2)∨
 (kd=1/\nv=Cf s i (j - i)/\vr=0/\i<j/\j<=i+3/\(∀k,i<=k->k<j->iS (bt s k)=true)/\(j=i+3∨iS (bt s j)=false))
def Sg (w:World)(b:Nat)(s:ByteArray)(i:Nat)(m:Int)(e:Ending)(w':World):Prop:=
 (∃(kd nv vr:Int) (j:Nat),e=.returned (.tuple #[.agg #[.int .i64 kd,.int .i64 nv,.int .u8 vr],.bool true])/\At w w' b s j m/\Hid (Sim s 12 i 15 j/\i<j/\Dg s i j kd nv vr))∨
 (∃(kd nv vr:Int) (j:Nat),e=.returned (.tuple #[.agg #[.int .i64 kd,.int .i64 nv,.int .u8 vr],.bool false])/\At w w' b s j m/\Hid (vU s 12 i j))
theorem yK (h:bt s i=105∨bt s i=114∨bt s i=117):Sim s 12 i 15 (i+1)/\i+1<=s.size:=by
 have hi:i<s.size:=nE (by omega);refine⟨eR hi ?_ (by decide) (λk=>by simp[cnt]),hi⟩;have hd:iS (bt s i)=false:=by simp only[iS,ii];omega
 have vi:¬bt s i=36:=by omega
 simp[ct,hd,vi,wh,h]
theorem T5 (h:bt s i=36):Sim s 12 i 17 (i+1)/\i<s.size:=by
 have hi:i<s.size:=nE (by omega);exact⟨eR hi (by simp[ct,h,iS]) (by decide) (λk=>by simp[cnt]),hi⟩
theorem Xb (hd:iS (bt s i)=false)(h1:bt s i≠105)(h2:bt s i≠114)(h3:bt s i≠117)(h4:bt s i≠36):vU s 12 i i:=
 j5 (by decide) (by simp[ct,hd,h1,h2,h3,h4,wh])
theorem T6 (h:tR (bt s i)=true/\i<s.size):Sim s 17 i 15 (i+1):=eR h.2 (by simp[ct,h.1,wh]) (by decide) (λk=>by simp[cnt])
theorem Xc (h:tR (bt s i)=false):vU s 17 i i:=j5 (by decide) (by simp[ct,h,wh])
abbrev JF:Obj:=Obj.cells #[Value.int IntKind.i64 0,Value.int IntKind.i64 0,Value.int IntKind.u8 0] 206
theorem Ml (w:World)(b:Nat)(s:ByteArray)(i:Nat)(m:Int)(h:Rd w b s i m):
  Calls prog 168 #[.pointer (some ⟨b,0,none⟩)] w λe w'=>Sg w b s i m e w':=by
 have hb:=h.lt;have c1:=h.c1;have f1:=h.fr 1;have qU:=h.le;have xC:=h.top;go_enter func168,ntmps168;go_wp2_with fail;refine(kG _ b s i m (by exact h.alloc _)).mono ?_;rintro e w1 ⟨rfl,n1,rfl⟩
 by_cases k1:bt s i=105
 ·have g1:((bt s i:Int)==105)=true:=by simp[k1]
  have K1:=aw k1;clear k1;go_wp2_with fail;have hp:=yK (ax K1.out);exact bodyPost_ret (v:=.tuple #[.agg #[.int .i64 2,.int .i64 0,.int .u8 0],.bool true]) (by simp[results,Tryz.results168,go_sem]) rfl (ax ⟨2,0,0,i+1,rfl,((((h.at0.alloc _).drewN _).setAt hp.2 (by omega)).set3 hb aF _ _ _),hp.1,by omega,ax ⟨K1.out,rfl,rfl,rfl,rfl⟩⟩)
 have g1:((bt s i:Int)==105)=false:=by simp;omega
 by_cases k2:bt s i=114
 ·have g2:((bt s i:Int)==114)=true:=by simp[k2]
  have K1:=aw k2;clear k1 k2;go_wp2_with fail;have hp:=yK (az (ax K1.out));exact bodyPost_ret (v:=.tuple #[.agg #[.int .i64 3,.int .i64 0,.int .u8 0],.bool true]) (by simp[results,Tryz.results168,go_sem]) rfl (ax ⟨3,0,0,i+1,rfl,((((h.at0.alloc _).drewN _).setAt hp.2 (by omega)).set3 hb aF _ _ _),hp.1,by omega,(az <| ax ⟨K1.out,rfl,rfl,rfl,rfl⟩)⟩)
 have g2:((bt s i:Int)==114)=false:=by simp;omega
 by_cases k3:bt s i=117
 ·have g3:((bt s i:Int)==117)=true:=by simp[k3]
  have K1:=aw k3;clear k1 k2 k3;go_wp2_with fail;have hp:=yK (az (az K1.out));exact bodyPost_ret (v:=.tuple #[.agg #[.int .i64 4,.int .i64 0,.int .u8 0],.bool true]) (by simp[results,Tryz.results168,go_sem]) rfl (ax ⟨4,0,0,i+1,rfl,((((h.at0.alloc _).drewN _).setAt hp.2 (by omega)).set3 hb aF _ _ _),hp.1,by omega,(az <| az <| ax ⟨K1.out,rfl,rfl,rfl,rfl⟩)⟩)
 have g3:((bt s i:Int)==117)=false:=by simp;omega
 by_cases k4:bt s i=36
 ·have g4:((bt s i:Int)==36)=true:=by simp[k4]
  have K1:=aw k4;clear k1 k2 k3 k4;have hp:=T5 K1.out;have HP:=aw hp.1;have bc:=hp.2;clear hp;go_wp2_with fail;have ha:=((h.at0.alloc JF).drewN n1).setAt (j:=i+1) (v:=(i:Int)+1) (by omega) (by omega);refine(sY _ b s (i+1) m (by exact ha.rd)).mono ?_;rintro e w2 (⟨rfl,dK,bM⟩ | ⟨rfl,dK,bM⟩)
  ·have dY:=ha.trans dK;obtain⟨hc,hz⟩:=dK.cells w.heap.size (by simp[World.setCell]) (by omega);go_wp2_with fail;exact bodyPost_ret (v:=.tuple #[.agg #[.int .i64 5,.int .i64 0,.int .u8 (bt s (i+1))],.bool true]) (by simp[results,Tryz.results168,go_sem,hc]) rfl (ax ⟨5,0,_,i+2,rfl,dY.set3 hb aF _ _ _,HP.out.trans (T6 bM.out),by omega,az (az (az (ax ⟨K1.out,rfl,rfl,rfl,bM.out.1,rfl⟩)))⟩)
  ·have dY:=ha.trans dK;obtain⟨hc,hz⟩:=dK.cells w.heap.size (by simp[World.setCell]) (by omega);go_wp2_with fail;exact bodyPost_ret (v:=.tuple #[.agg #[.int .i64 5,.int .i64 0,.int .u8 0],.bool false]) (by simp[results,Tryz.results168,go_sem,hc]) rfl (az ⟨5,0,0,i+1,rfl,dY.set3 hb aF _ _ _,HP.out.bad (Xc bM.out)⟩)
 ·have g4:((bt s i:Int)==36)=false:=by simp;omega
  have HN:=uz k1 k2 k3 k4;clear k1 k2 k3 k4;go_wp2_with fail;have ha:=(h.at0.alloc JF).drewN n1;refine(Hc _ b s i m (by exact ha.rd)).mono ?_;rintro e w2 (⟨nv,j,rfl,dK,bM⟩ | ⟨rfl,dK,bM⟩)
  ·have dY:=ha.trans dK;obtain⟨hc,hz⟩:=dK.cells w.heap.size (by simp) (by omega);go_wp2_with fail;exact bodyPost_ret (v:=.tuple #[.agg #[.int .i64 1,.int .i64 nv,.int .u8 0],.bool true]) (by simp[results,Tryz.results168,go_sem,hc]) rfl (ax ⟨1,nv,0,j,rfl,dY.set3 hb aF _ _ _,bM.out.1,bM.out.2.1,az (az (az (az ⟨rfl,bM.out.2.2.2.1,rfl,bM.out.2.1,bM.out.2.2.1,bM.out.2.2.2.2⟩)))⟩)
  ·have dY:=ha.trans dK;obtain⟨hc,hz⟩:=dK.cells w.heap.size (by simp) (by omega);go_wp2_with fail;obtain⟨q1,q2,q3,q4⟩:=HN.out;exact bodyPost_ret (v:=.tuple #[.agg #[.int .i64 1,.int .i64 0,.int .u8 0],.bool false]) (by simp[results,Tryz.results168,go_sem,hc]) rfl (az ⟨1,0,0,i,rfl,dY.set3 hb aF _ _ _,Xb bM.out q1 q2 q3 q4⟩)
end
section
variable {aB i:Nat}{s:ByteArray}{w:World}
theorem Tryz.info71:(Tryz.prog.info? 71).map (λi=>(i.zero,i.size,i.bytes))=some (some (.agg #[.slice none 0 0]),1,24):=by kernel_rfl
def Sels (w:World)(aB:Nat):List Value->List (List eb)->Prop
 | xs,[]=>xs=[]
 | xs,cs :: ss=>∃(a:Option Addr) (c:Nat) (ps ys:List Value),xs=.slice a cs.length c :: ys/\w.ownsRow aB 115 3 (.slice a cs.length c) cs.length ps/\Comps w aB ps cs/\Sels w aB ys ss
theorem Sels.keep {w':World}(hk:Keeps w w' aB 151)(Rt:Keeps w w' aB 115):∀{xs:List Value} {ss:List (List eb)},Sels w aB xs ss->Sels w' aB xs ss
 | _,[],h=>h
 | _,_ :: _,⟨a,c,ps,ys,h1,h2,h3,h4⟩=>⟨a,c,ps,ys,h1,Rt.owns h2,h3.keep hk,Sels.keep hk Rt h4⟩
theorem Sels.mono {jd:Nat}(hb:jd<=aB):∀{xs:List Value} {ss:List (List eb)},Sels w aB xs ss->Sels w jd xs ss
 | _,[],h=>h
 | _,_ :: _,⟨a,c,ps,ys,h1,h2,h3,h4⟩=>⟨a,c,ps,ys,h1,ba h2 hb,h3.mono hb,Sels.mono hb h4⟩
theorem Sels.snoc (a:Option Addr)(c:Nat)(cs:List eb)(ps:List Value)(ho:w.ownsRow aB 115 3 (.slice a cs.length c) cs.length ps)(hk:Comps w aB ps cs):
  ∀{xs:List Value} {ss:List (List eb)},Sels w aB xs ss->Sels w aB (xs++[.slice a cs.length c]) (ss++[cs])
 | _,[],h=>by simp only[Sels] at h;subst h;exact⟨a,c,ps,[],rfl,ho,hk,rfl⟩
 | _,_ :: _,⟨a',c',tf,ys,h1,h2,h3,h4⟩=>⟨a',c',tf,_,by rw[h1];rfl,h2,h3,Sels.snoc a c cs ps ho hk h4⟩
def SelsPre (s:ByteArray):Nat->Nat->List (List eb)->Prop
 | i,j,[]=>i=j
 | i,j,cs :: ss=>∃l,lC s i l cs/\i<l/\bt s l=44/\SelsPre s (l+1) j ss
theorem SelsPre.snoc {j l:Nat}{ss:List (List eb)}{cs:List eb}(h:SelsPre s i j ss)(hc:lC s j l cs)(hl:j<l)(hs:bt s l=44):SelsPre s i (l+1) (ss++[cs]):=by
 induction ss generalizing i with
 | nil=>simp only[SelsPre] at h;subst h;exact⟨l,hc,hl,hs,rfl⟩
 | cons x ss ih=>
  obtain⟨l',h1,h2,h3,h4⟩:=h;exact⟨l',h1,h2,h3,ih h4⟩
def o8 (s:ByteArray)(i j:Nat)(ss:List (List eb)):Prop:=
 ∃pre l cs,ss=pre++[cs]/\SelsPre s i l pre/\lC s l j cs/\l<j/\bt s j≠44
theorem jx:∀{ss:List (List eb)} {i j:Nat},SelsPre s i j ss->i<=j
 | [],_,_,h=>by simp only[SelsPre] at h;omega
 | _ :: _,_,_,⟨_,_,h2,_,h5⟩=>by have:=jx h5;omega
structure BA (w:World)(b:Nat)(s:ByteArray)(i:Nat)(m:Int)(gk:Nat)(v:Value)(more:Bool)(wr:World)(j:Nat)(mP:Int)(ss:List (List eb))(xs:List Value):Prop where
 at':At w wr b s j mP
 own:wr.ownsRow w.heap.size 71 1 v ss.length xs
 sels:Sels wr w.heap.size xs ss
 le:i<=j
 few:ss.length<=j - i
 gk:more=true->s.size - j<gk
 go:more=true->SelsPre s i j ss/\∀nr,V s 2 ⟨nr,1,m⟩ i=V s 2 ⟨nr,1,mP⟩ j
 done:more=false->o8 s i j ss/\oX (bt s j)=false/\jf (bt s j)=false/\∃nc,∀nr,V s 2 ⟨nr,1,m⟩ i=V s 3 ⟨nr,nc,mP⟩ j
def Nh (w:World)(b:Nat)(s:ByteArray)(i:Nat)(m:Int)(e:Ending)(w':World):Prop:=
 (∃(a:Option Addr) (c:Nat) (ss:List (List eb)) (xs:List Value) (j:Nat) (m':Int),e=.returned (.tuple #[.slice a ss.length c,.bool true])/\At w w' b s j m'/\w'.ownsRow w.heap.size 71 1 (.slice a ss.length c) ss.length xs/\Sels w' w.heap.size xs ss/\
  Hid (o8 s i j ss/\i<j/\oX (bt s j)=false/\jf (bt s j)=false/\bt s j≠44/\∃nc,∀nr,V s 2 ⟨nr,1,m⟩ i=V s 3 ⟨nr,nc,m'⟩ j))∨
 (∃j m',e=.returned (.tuple #[.slice none 0 0,.bool false])/\At w w' b s j m'/\Hid (∀nr,V s 2 ⟨nr,1,m⟩ i=((j:Int),-1)))
theorem abc (c:Option Addr)(n k:Nat):∀u∈[Value.slice c n k],u.oneCell'=true:=by
 intro u hu;simp only[List.mem_cons,List.not_mem_nil,or_false] at hu;rcases hu with rfl;rfl
theorem wV {nr nc:Nat}{m:Int}(h:bt s i=44)(hi:i<s.size):V s 3 ⟨nr,nc,m⟩ i=V s 2 ⟨nr,1,m⟩ (i+1):=by
 rw[wH hi (m':=2) (by simp[ct,jg,h]) (by decide)];simp[cnt,h,jf]
theorem zF (w:World)(b:Nat)(s:ByteArray)(i:Nat)(m:Int)(h:Rd w b s i m):
  Calls prog 123 #[.pointer (some ⟨b,0,none⟩)] w λe w'=>Nh w b s i m e w':=by
 have hb:=h.lt;have xC:=h.top;obtain⟨i0,hi,gP,gQ,gR⟩:=info_parts Tryz.info71;go_enter func123,ntmps123;go_wp2_with fail
 go_loopg [4,5] (s.size - i+1) (λgk v mv wr=>∃(j:Nat) (mP:Int) (ss:List (List eb)) (xs:List Value) (more:Bool),mv=.bool more/\BA w b s i m gk v more wr j mP ss xs)
 case atStart=>
  exact⟨i,m,[],[],true,rfl,h.at0,eB,rfl,aF,by simp,λ_=>by omega,λ_=>⟨rfl,λnr=>rfl⟩,λe=>by cases e⟩
 case round=>
  obtain⟨j,mP,ss,xs,more,rfl,R⟩:=hrel;have qU:=R.at'.rd.le;obtain⟨a,c,hv⟩:=aK R.own;subst hv;cases more
  ·have R2:=R;clear R;go_wp2;go_ret2;refine ax ⟨a,c,ss,xs,j,mP,rfl,R2.at',R2.own,R2.sels,?_⟩;obtain⟨q1,q2,q3,q4⟩:=R2.done rfl;obtain⟨pre,l,cs,p1,p2,p3,p4,p5⟩:=q1;have:=jx p2;exact⟨⟨pre,l,cs,p1,p2,p3,p4,p5⟩,by omega,q2,q3,p5,q4⟩
  ·go_wp2_with fail;refine(CC _ b s j mP (by exact R.at'.rd)).mono ?_;rintro e w2 (⟨a2,c2,cs,ps,l,M,rfl,dK,zh,zf,bM⟩ | ⟨l,M,rfl,dK,bM⟩)
   ·have dY:=R.at'.trans dK;have gA:=R.at'.size;have nX:=dY.size;have dy:=dK.owns R.own (by omega);have bT:=R.few;go_wp2_with (at_builtin;refine wpList_append_own _ rfl (.tmp 16) (.tmp 18) 65 rfl w.heap.size 71 i0 (.agg #[.slice none 0 0]) 1 24 underlying65 hi gP gQ gR rfl (by decide) _ _ _ rfl ((dy.alloc _).alloc _) ⟨w2.heap.size+1,0,none⟩ 1 1 [.slice a2 cs.length c2] rfl rfl ?c1 ?c2 ?c3 ?c4 ?c5 ?_)
    case c1=>exact bg (w2.alloc _) _ (by simp) _ _ _ rfl
    case c2=>exact abc _ _ _
    case c3=>unfold maxLen;omega
    case c4=>omega
    case c5=>simp;omega
    ·intro v' w3 cj fB _;have bH:w3.ownsRow w.heap.size 71 1 v' (ss++[cs]).length (xs++[.slice a2 cs.length c2]):=by simpa using cj
     have gg:∀e,Keeps wr w2 w.heap.size e:=λe=>e9 dK (by omega) _;have pp:∀e,e≠71->Keeps w2 w3 w.heap.size e:=λe he=>((cX _ _ _ _).trans (cX _ _ _ _)).trans (j8 he ((dy.alloc _).alloc _) fB)
     have Jz:Sels w3 w.heap.size (xs++[.slice a2 cs.length c2]) (ss++[cs]):=
      Sels.snoc a2 c2 cs ps ((pp 115 (by decide)).owns (ba zh gA)) ((zf.mono gA).keep (pp 151 (by decide))) (R.sels.keep ((gg _).trans (pp _ (by decide))) ((gg _).trans (pp _ (by decide))))
     have zb:At w w3 b s l M:=((dY.alloc _).alloc _).app hb ((dy.alloc _).alloc _) fB;obtain⟨q1,q2,q3⟩:=bM.out
     have HV:Hid (SelsPre s i j ss/\lC s j l cs/\j<l/\∀nr,V s 2 ⟨nr,1,m⟩ i=V s 3 ⟨nr,cs.length,M⟩ l):=
      ⟨(R.go rfl).1,q1,q2,λnr=>by rw[(R.go rfl).2 nr,q3]⟩
     have qU:=R.le;have fT:=R.gk rfl;have bJ:(ss++[cs]).length<=l - i:=by simp;omega
     clear cj fB dy R gg pp q1 q3 bM;go_wp2_with fail;refine(jk _ b s l M 44 (by exact zb.rd) (by decide)).mono ?_;rintro e w4 (⟨rfl,jL,ju⟩ | ⟨rfl,jL,ju⟩)
     ·have R4:BA w b s i m (s.size - l) v' true w4 (l+1) M (ss++[cs]) (xs++[.slice a2 cs.length c2]):=by
       obtain⟨p1,p2,p3,p4⟩:=HV.out;have h4:=ju.out;have IN:bt s l=44:=by omega
       exact⟨zb.trans jL,jL.owns bH (by omega),Jz.keep (e9 jL (by omega) _) (e9 jL (by omega) _),by omega,by omega,λ_=>by omega,λ_=>⟨p1.snoc p2 p3 IN,λnr=>by rw[p4 nr,wV IN h4.2]⟩,λe=>by cases e⟩
      have B6:=ju.out.2;clear Jz bH;go_wp2;go_roundg (s.size - l)
      case measure=>omega
      case rel=>exact⟨l+1,M,_,_,_,rfl,R4⟩
     ·have R4:BA w b s i m 0 v' false w4 l M (ss++[cs]) (xs++[.slice a2 cs.length c2]):=by
       obtain⟨p1,p2,p3,p4⟩:=HV.out;have IN:bt s l≠44:=by have:=ju.out;omega
       have p2':=p2;obtain⟨_,_,_,_,_,_,_,_,hA,hS⟩:=p2';exact⟨zb.trans jL,jL.owns bH (by omega),Jz.keep (e9 jL (by omega) _) (e9 jL (by omega) _),by omega,by omega,λe=>(by cases e),λe=>(by cases e),λ_=>⟨⟨ss,j,cs,rfl,p1,p2,p3,IN⟩,hA,hS,cs.length,p4⟩⟩
      clear Jz bH;go_wp2;go_roundg 0
      case measure=>omega
      case rel=>exact⟨l,M,_,_,_,rfl,R4⟩
   ·have dY:=R.at'.trans dK;go_wp2_with fail;go_ret2;exact az ⟨l,M,rfl,dY.alloc _,λnr=>by rw[(R.go rfl).2 nr,bM.out]⟩
end
section
variable {i:Nat}{s:ByteArray}
theorem Tryz.info220:(Tryz.prog.info? 220).map (λi=>(i.zero,i.size,i.bytes))=some (some (.agg #[.int .u8 0,.int .i64 0,.int .i64 0,.int .u8 0,.bool false]),5,40):=by kernel_rfl
structure PDc where
 pr:Int
 kd:Int
 nu:Int
 va:Int
 im:Bool
def mD (s:ByteArray)(i j:Nat)(d:PDc):Prop:=
 xD (bt s i)=true/\d.pr=bt s i/\bt s (i+1)=58/\∃k,Dg s (i+2) k d.kd d.nu d.va/\i+2<k/\((d.im=true/\bt s k=33/\j=k+1)∨(d.im=false/\bt s k≠33/\j=k))
def Decs:List Value->List PDc->Prop
 | xs,[]=>xs=[]
 | xs,d :: ds=>∃ys,xs=.int .u8 d.pr :: .int .i64 d.kd :: .int .i64 d.nu :: .int .u8 d.va :: .bool d.im :: ys/\Decs ys ds
theorem Decs.snoc {xs:List Value}{ds:List PDc}(h:Decs xs ds)(p kd nv vr:Int)(im:Bool):Decs (xs++[.int .u8 p,.int .i64 kd,.int .i64 nv,.int .u8 vr,.bool im]) (ds++[⟨p,kd,nv,vr,im⟩]):=by
 induction ds generalizing xs with
 | nil=>simp only[Decs] at h;subst h;exact⟨[],rfl,rfl⟩
 | cons k ks ih=>
  obtain⟨ys,rfl,hy⟩:=h;exact⟨_,rfl,ih hy⟩
def DcPre (s:ByteArray):Nat->Nat->List PDc->Prop
 | i,j,[]=>i=j
 | i,j,d :: ds=>∃l,mD s i l d/\i<l/\bt s l=59/\DcPre s (l+1) j ds
theorem DcPre.snoc {j l:Nat}{ds:List PDc}{d:PDc}(h:DcPre s i j ds)(hc:mD s j l d)(hl:j<l)(hs:bt s l=59):DcPre s i (l+1) (ds++[d]):=by
 induction ds generalizing i with
 | nil=>simp only[DcPre] at h;subst h;exact⟨l,hc,hl,hs,rfl⟩
 | cons x ss ih=>
  obtain⟨l',h1,h2,h3,h4⟩:=h;exact⟨l',h1,h2,h3,ih h4⟩
def C0 (s:ByteArray)(i j:Nat)(ds:List PDc):Prop:=∃pre l d,ds=pre++[d]/\DcPre s i l pre/\mD s l j d/\l<j/\bt s j≠59
def CV (s:ByteArray)(i j:Nat)(ds:List PDc):Prop:=
 bt s i=123/\((bt s (i+1)=125/\ds=[]/\j=i+2)∨(bt s (i+1)≠125/\∃k,C0 s (i+1) k ds/\bt s k=125/\j=k+1))
def MT (w:World)(b:Nat)(s:ByteArray)(i:Nat)(m:Int)(e:Ending)(w':World):Prop:=
 (∃(p kd nv vr:Int) (im:Bool) (j:Nat),e=.returned (.tuple #[.agg #[.int .u8 p,.int .i64 kd,.int .i64 nv,.int .u8 vr,.bool im],.bool true])/\At w w' b s j m/\Hid (Sim s 10 i 16 j/\i<j/\mD s i j ⟨p,kd,nv,vr,im⟩))∨
 (∃(j:Nat),e=.returned (.tuple #[.agg #[.int .u8 0,.int .i64 0,.int .i64 0,.int .u8 0,.bool false],.bool false])/\At w w' b s j m/\Hid (vU s 10 i j))
theorem x0 (h:xD (bt s i)=true/\i<s.size):Sim s 10 i 11 (i+1):=eR h.2 (by simp[ct,lO,h.1]) (by decide) (λk=>by simp[cnt])
theorem TC (h:xD (bt s i)=false):vU s 10 i i:=j5 (by decide) (by simp[ct,lO,h])
theorem zU (h:(bt s i:Int)=58/\i<s.size):Sim s 11 i 12 (i+1):=by
 have h1:bt s i=58:=by omega
 exact eR h.2 (by simp[ct,wh,h1]) (by decide) (λk=>by simp[cnt])
theorem Om (h:(bt s i:Int)≠58):vU s 11 i i:=by
 have h1:¬bt s i=58:=by omega
 exact j5 (by decide) (by simp[ct,wh,h1])
theorem Ns (h:(bt s i:Int)=33/\i<s.size):Sim s 15 i 16 (i+1):=by
 have h1:bt s i=33:=by omega
 exact eR h.2 (by simp[ct,kX,h1]) (by decide) (λk=>by simp[cnt])
theorem Sk (h:(bt s i:Int)≠33):Sim s 15 i 16 i:=by
 have h1:¬bt s i=33:=by omega
 exact nP (by decide) (by decide) (by simp[ct,kX,h1]) (λk=>by simp[cnt])
theorem vh (w:World)(b:Nat)(s:ByteArray)(i:Nat)(m:Int)(h:Rd w b s i m):
  Calls prog 156 #[.pointer (some ⟨b,0,none⟩)] w λe w'=>MT w b s i m e w':=by
 have hb:=h.lt;go_enter func156,ntmps156;go_wp2_with fail;refine(Cq _ b s i m (by exact h.alloc _)).mono ?_;rintro e w1 (⟨rfl,ha,hf⟩ | ⟨rfl,ha,hf⟩)
 ·go_wp2_with fail;refine(jk _ b s (i+1) m 58 (by exact ha.rd) (by decide)).mono ?_;rintro e w2 (⟨rfl,dK,bM⟩ | ⟨rfl,dK,bM⟩)
  ·have dY:=ha.trans dK;go_wp2_with fail;refine(Ml _ b s (i+2) m (by exact dY.rd)).mono ?_;rintro e w3 (⟨kd,nv,vr,j,rfl,jL,ju⟩ | ⟨kd,nv,vr,j,rfl,jL,ju⟩)
   ·have pn:=dY.trans jL;have hz5:w.heap.size<w3.heap.size:=by have:=pn.size;simp only[World.size_alloc] at this;omega
    have HS:Hid (Sim s 10 i 15 j/\i<j/\xD (bt s i)=true/\bt s (i+1)=58/\Dg s (i+2) j kd nv vr/\i+2<j):=⟨((x0 hf.out).trans (zU bM.out)).trans ju.out.1,by have:=ju.out.2.1;omega,hf.out.1,by have:=bM.out.1;omega,ju.out.2.2,ju.out.2.1⟩;go_wp2_with fail;have UF:=pn.alloc (Obj.cells #[Value.int IntKind.i64 kd,Value.int IntKind.i64 nv,Value.int IntKind.u8 vr] 206);refine(jk _ b s j m 33 (by exact UF.rd) (by decide)).mono ?_;rintro e w4 (⟨rfl,ha7,UG⟩ | ⟨rfl,ha7,UG⟩)
    ·have ha8:=UF.trans ha7;obtain⟨hc,hz⟩:=ha8.cells w.heap.size (by simp) (by omega);obtain⟨Rn,hz'⟩:=ha7.cells w3.heap.size (by simp) (by omega);go_wp2_with fail;exact bodyPost_ret (v:=.tuple #[.agg #[.int .u8 (bt s i),.int .i64 kd,.int .i64 nv,.int .u8 vr,.bool true],.bool true]) (by simp[results,Tryz.results156,go_sem,hc]) rfl (ax ⟨_,kd,nv,vr,true,j+1,rfl,ha8.ofAlloc.set5 hb aF _ _ _ _ _,HS.out.1.trans (Ns UG.out),by have:=HS.out.2.1;omega,HS.out.2.2.1,rfl,HS.out.2.2.2.1,j,HS.out.2.2.2.2.1,HS.out.2.2.2.2.2,ax ⟨rfl,by have:=UG.out.1;omega,rfl⟩⟩)
    ·have ha8:=UF.trans ha7;obtain⟨hc,hz⟩:=ha8.cells w.heap.size (by simp) (by omega);obtain⟨Rn,hz'⟩:=ha7.cells w3.heap.size (by simp) (by omega);go_wp2_with fail;exact bodyPost_ret (v:=.tuple #[.agg #[.int .u8 (bt s i),.int .i64 kd,.int .i64 nv,.int .u8 vr,.bool false],.bool true]) (by simp[results,Tryz.results156,go_sem,hc]) rfl (ax ⟨_,kd,nv,vr,false,j,rfl,ha8.ofAlloc.set5 hb aF _ _ _ _ _,HS.out.1.trans (Sk UG.out),HS.out.2.1,HS.out.2.2.1,rfl,HS.out.2.2.2.1,j,HS.out.2.2.2.2.1,HS.out.2.2.2.2.2,az ⟨rfl,by have:=UG.out;omega,rfl⟩⟩)
   ·have pn:=dY.trans jL;have hz5:w.heap.size<w3.heap.size:=by have:=pn.size;simp only[World.size_alloc] at this;omega
    obtain⟨hc,hz⟩:=pn.cells w.heap.size (by simp) (by omega);go_wp2_with fail;exact bodyPost_ret (v:=.tuple #[.agg #[.int .u8 0,.int .i64 0,.int .i64 0,.int .u8 0,.bool false],.bool false]) (by simp[results,Tryz.results156,go_sem,hc,hz5]) rfl (az ⟨j,rfl,(pn.ofAlloc.set5 hb aF _ _ _ _ _).alloc _,((x0 hf.out).trans (zU bM.out)).bad ju.out⟩)
  ·have dY:=ha.trans dK;obtain⟨hc,hz⟩:=dY.cells w.heap.size (by simp) (by omega);go_wp2_with fail;exact bodyPost_ret (v:=.tuple #[.agg #[.int .u8 0,.int .i64 0,.int .i64 0,.int .u8 0,.bool false],.bool false]) (by simp[results,Tryz.results156,go_sem,hc]) rfl (az ⟨i+1,rfl,dY.ofAlloc.set5 hb aF _ _ _ _ _,(x0 hf.out).bad (Om bM.out)⟩)
 ·obtain⟨hc,hz⟩:=ha.cells w.heap.size (by simp) (by omega);go_wp2_with fail;exact bodyPost_ret (v:=.tuple #[.agg #[.int .u8 0,.int .i64 0,.int .i64 0,.int .u8 0,.bool false],.bool false]) (by simp[results,Tryz.results156,go_sem,hc]) rfl (az ⟨i,rfl,ha.ofAlloc.set5 hb aF _ _ _ _ _,TC hf.out⟩)
structure wg (w:World)(b:Nat)(s:ByteArray)(i:Nat)(m:Int)(gk:Nat)(v:Value)(more:Bool)(wr:World)(j:Nat)(ds:List PDc)(xs:List Value):Prop where
 at':At w wr b s j m
 own:wr.ownsRow w.heap.size 220 5 v ds.length xs
 decs:Decs xs ds
 le:i<=j
 few:ds.length<=j - i
 gk:more=true->s.size - j<gk
 go:more=true->Sim s 10 i 10 j/\DcPre s i j ds
 done:more=false->Sim s 10 i 16 j/\bt s j≠59/\i<j/\C0 s i j ds
def JQ (w:World)(b:Nat)(s:ByteArray)(i:Nat)(m:Int)(e:Ending)(w':World):Prop:=
 (∃(a:Option Addr) (c j:Nat) (ds:List PDc) (xs:List Value),e=.returned (.tuple #[.slice a ds.length c,.bool true])/\At w w' b s j m/\w'.ownsRow w.heap.size 220 5 (.slice a ds.length c) ds.length xs/\Hid (Decs xs ds/\Sim s 10 i 16 j/\bt s j≠59/\i<j/\C0 s i j ds))∨
 (∃(j:Nat),e=.returned (.tuple #[.slice none 0 0,.bool false])/\At w w' b s j m/\Hid (vU s 10 i j))
theorem abe (a b c d:Int)(e:Bool):∀u∈[Value.int .u8 a,Value.int .i64 b,Value.int .i64 c,Value.int .u8 d,Value.bool e],u.oneCell'=true:=by
 intro u hu;simp only[List.mem_cons,List.not_mem_nil,or_false] at hu;rcases hu with rfl | rfl | rfl | rfl | rfl<;>rfl
theorem QJ (h:(bt s i:Int)=59/\i<s.size):Sim s 16 i 10 (i+1):=by
 have h1:bt s i=59:=by omega
 exact eR h.2 (by simp[ct,jp,h1]) (by decide) (λk=>by simp[cnt])
theorem tH (w:World)(b:Nat)(s:ByteArray)(i:Nat)(m:Int)(h:Rd w b s i m):
  Calls prog 144 #[.pointer (some ⟨b,0,none⟩)] w λe w'=>JQ w b s i m e w':=by
 have hb:=h.lt;have xC:=h.top;obtain⟨i0,hi,gP,gQ,gR⟩:=info_parts Tryz.info220;go_enter func144,ntmps144;go_wp2_with fail
 go_loopg [4,5] (s.size - i+1) (λgk v mv wr=>∃(j:Nat) (ds:List PDc) (xs:List Value) (more:Bool),mv=.bool more/\wg w b s i m gk v more wr j ds xs)
 case atStart=>
  exact⟨i,[],[],true,rfl,h.at0,eB,rfl,aF,by simp,λ_=>by omega,λ_=>⟨λ_=>rfl,rfl⟩,λe=>by cases e⟩
 case round=>
  obtain⟨j,ds,xs,more,rfl,R⟩:=hrel;have qU:=R.at'.rd.le;obtain⟨a,c,hv⟩:=aK R.own;subst hv;cases more
  ·have R2:=R;clear R;go_wp2;go_ret2;exact ax ⟨a,c,j,ds,xs,rfl,R2.at',R2.own,R2.decs,R2.done rfl⟩
  ·go_wp2_with fail;refine(vh _ b s j m (by exact R.at'.rd)).mono ?_;rintro e w2 (⟨p,kd,nv,vr,im,l,rfl,dK,bM⟩ | ⟨l,rfl,dK,bM⟩)
   ·have dY:=R.at'.trans dK;have gA:=R.at'.size;have nX:=dY.size;have dy:=dK.owns R.own (by omega);have bT:=R.few;go_wp2_with (at_builtin;refine wpList_append_own _ rfl (.tmp 16) (.tmp 18) 66 rfl w.heap.size 220 i0 (.agg #[.int .u8 0,.int .i64 0,.int .i64 0,.int .u8 0,.bool false]) 5 40 underlying66 hi gP gQ gR rfl (by decide) _ _ _ rfl ((dy.alloc _).alloc _) ⟨w2.heap.size+1,0,none⟩ 1 1 [.int .u8 p,.int .i64 kd,.int .i64 nv,.int .u8 vr,.bool im] rfl rfl ?c1 ?c2 ?c3 ?c4 ?c5 ?_)
    case c1=>exact bg (w2.alloc _) _ (by simp) _ _ _ rfl
    case c2=>exact abe _ _ _ _ _
    case c3=>unfold maxLen;omega
    case c4=>omega
    case c5=>simp;omega
    ·intro v' w3 cj fB _;have zb:At w w3 b s l m:=((dY.alloc _).alloc _).app hb ((dy.alloc _).alloc _) fB;have HV:Hid (Sim s 10 i 16 l/\j<l/\DcPre s i j ds/\mD s j l ⟨p,kd,nv,vr,im⟩):=⟨(R.go rfl).1.trans bM.out.1,bM.out.2.1,(R.go rfl).2,bM.out.2.2⟩;have qU:=R.le;have fT:=R.gk rfl;have FR:=bM.out.2.1;have Q7:Hid (Decs (xs++[.int .u8 p,.int .i64 kd,.int .i64 nv,.int .u8 vr,.bool im]) (ds++[⟨p,kd,nv,vr,im⟩])):=R.decs.snoc _ _ _ _ _;have bJ:(ds++[(⟨p,kd,nv,vr,im⟩:PDc)]).length<=l - i:=by simp;omega
     have bH:w3.ownsRow w.heap.size 220 5 v' (ds++[(⟨p,kd,nv,vr,im⟩:PDc)]).length (xs++[.int .u8 p,.int .i64 kd,.int .i64 nv,.int .u8 vr,.bool im]):=by simpa using cj
     clear cj fB dy R bM;go_wp2_with fail;refine(jk _ b s l m 59 (by exact zb.rd) (by decide)).mono ?_;rintro e w4 (⟨rfl,jL,ju⟩ | ⟨rfl,jL,ju⟩)
     ·have R4:wg w b s i m (s.size - l) v' true w4 (l+1) (ds++[⟨p,kd,nv,vr,im⟩]) (xs++[.int .u8 p,.int .i64 kd,.int .i64 nv,.int .u8 vr,.bool im]):=
       ⟨zb.trans jL,jL.owns bH (by omega),Q7.out,by omega,by omega,λ_=>by have:=ju.out.2;omega,λ_=>⟨HV.out.1.trans (QJ ju.out),HV.out.2.2.1.snoc HV.out.2.2.2 HV.out.2.1 (by have:=ju.out.1;omega)⟩,λe=>by cases e⟩
      have B6:=ju.out.2;clear bH;go_wp2;go_roundg (s.size - l)
      case measure=>omega
      case rel=>exact⟨l+1,_,_,_,rfl,R4⟩
     ·have R4:wg w b s i m 0 v' false w4 l (ds++[⟨p,kd,nv,vr,im⟩]) (xs++[.int .u8 p,.int .i64 kd,.int .i64 nv,.int .u8 vr,.bool im]):=
       ⟨zb.trans jL,jL.owns bH (by omega),Q7.out,by omega,by omega,λe=>(by cases e),λe=>(by cases e),λ_=>⟨HV.out.1,by have:=ju.out;omega,by have:=HV.out.2.1;omega,ds,j,_,rfl,HV.out.2.2.1,HV.out.2.2.2,HV.out.2.1,by have:=ju.out;omega⟩⟩
      clear bH;go_wp2;go_roundg 0
      case measure=>omega
      case rel=>exact⟨l,_,_,_,rfl,R4⟩
   ·have dY:=R.at'.trans dK;go_wp2_with fail;go_ret2;exact az ⟨l,rfl,dY.alloc _,(R.go rfl).1.bad bM.out⟩
def JP (w:World)(b:Nat)(s:ByteArray)(i:Nat)(m:Int)(e:Ending)(w':World):Prop:=
 (∃(a:Option Addr) (c j:Nat) (ds:List PDc) (xs:List Value),e=.returned (.tuple #[.slice a ds.length c,.bool true])/\At w w' b s j m/\w'.ownsRow w.heap.size 220 5 (.slice a ds.length c) ds.length xs/\Hid (Decs xs ds/\Sim s 3 i 0 j/\i<j/\CV s i j ds))∨
 (∃(a:Option Addr) (n c j:Nat),e=.returned (.tuple #[.slice a n c,.bool false])/\At w w' b s j m/\Hid (vU s 3 i j))
theorem mX (h:(bt s i:Int)=123/\i<s.size):Sim s 3 i 9 (i+1)/\bt s i=123:=by
 have h1:bt s i=123:=by omega
 exact⟨eR h.2 (by simp[ct,jg,jf,h1]) (by decide) (λk=>by simp[cnt,jf,h1]),h1⟩
theorem Nz (h:(bt s i:Int)≠123)(hA:oX (bt s i)=false)(hS:jf (bt s i)=false)(IN:bt s i≠44):vU s 3 i i:=by
 simp only[oX,ii] at hA;have h1:¬bt s i=123:=by omega
 have h2:¬bt s i=33:=by omega
 have h3:¬bt s i=46:=by omega
 have h4:¬bt s i=35:=by omega
 have h5:¬bt s i=58:=by omega
 exact j5 (by decide) (by simp[ct,jg,jE,hS,IN,h1,h2,h3,h4,h5])
theorem Fg (h:(bt s i:Int)=125/\i<s.size):Sim s 9 i 0 (i+1)/\Sim s 16 i 0 (i+1):=by
 have h1:bt s i=125:=by omega
 exact⟨eR h.2 (by simp[ct,h1]) (by decide) (λk=>by simp[cnt]),eR h.2 (by simp[ct,jp,h1]) (by decide) (λk=>by simp[cnt])⟩
theorem Ff (h:(bt s i:Int)≠125):Sim s 9 i 10 i:=by
 have h1:¬bt s i=125:=by omega
 exact nP (by decide) (by decide) (by simp[ct,h1]) (λk=>by simp[cnt])
theorem L5 (h:(bt s i:Int)≠125)(KF:bt s i≠59):vU s 16 i i:=by
 have h1:¬bt s i=125:=by omega
 exact j5 (by decide) (by simp[ct,jp,h1,KF])
theorem Kh (w:World)(b:Nat)(s:ByteArray)(i:Nat)(m:Int)(h:Rd w b s i m)(hN:Hid (oX (bt s i)=false/\jf (bt s i)=false/\bt s i≠44)):
  Calls prog 124 #[.pointer (some ⟨b,0,none⟩)] w λe w'=>JP w b s i m e w':=by
 have hb:=h.lt;go_enter func124,ntmps124;go_wp2_with fail;refine(jk _ b s i m 123 (by exact h) (by decide)).mono ?_;rintro e w1 (⟨rfl,ha,hf⟩ | ⟨rfl,ha,hf⟩)
 ·go_wp2_with fail;refine(jk _ b s (i+1) m 125 (by exact ha.rd) (by decide)).mono ?_;rintro e w2 (⟨rfl,dK,bM⟩ | ⟨rfl,dK,bM⟩)
  ·go_wp2_with fail;go_ret2;exact ax ⟨none,0,i+2,[],[],rfl,ha.trans dK,eB,rfl,(mX hf.out).1.trans (Fg bM.out).1,by omega,(mX hf.out).2,ax ⟨by have:=bM.out.1;omega,rfl,rfl⟩⟩
  ·have dY:=ha.trans dK;go_wp2_with fail;refine(tH _ b s (i+1) m (by exact dY.rd)).mono ?_;rintro e w3 (⟨a,c,j,ds,xs,rfl,jL,ho4,ju⟩ | ⟨j,rfl,jL,ju⟩)
   ·have pn:=dY.trans jL;have HS:Hid (Sim s 3 i 16 j/\i<j/\bt s i=123/\bt s j≠59/\Decs xs ds/\C0 s (i+1) j ds/\bt s (i+1)≠125):=⟨((mX hf.out).1.trans (Ff bM.out)).trans ju.out.2.1,by have:=ju.out.2.2.2.1;omega,(mX hf.out).2,ju.out.2.2.1,ju.out.1,ju.out.2.2.2.2,by have:=bM.out;omega⟩;have aet:=dY.size;go_wp2_with fail;refine(jk _ b s j m 125 (by exact pn.rd) (by decide)).mono ?_;rintro e w4 (⟨rfl,UF,IT⟩ | ⟨rfl,UF,IT⟩)
    ·go_wp2_with fail;go_ret2;exact ax ⟨a,c,j+1,ds,xs,rfl,pn.trans UF,ba (UF.owns ho4 (by omega)) aet,HS.out.2.2.2.2.1,HS.out.1.trans (Fg IT.out).2,by have:=HS.out.2.1;omega,HS.out.2.2.1,az ⟨HS.out.2.2.2.2.2.2,j,HS.out.2.2.2.2.2.1,by have:=IT.out.1;omega,rfl⟩⟩
    ·go_wp2_with fail;go_ret2;exact az ⟨a,ds.length,c,j,rfl,pn.trans UF,HS.out.1.bad (L5 IT.out HS.out.2.2.2.1)⟩
   ·go_wp2_with fail;go_ret2;exact az ⟨none,0,0,j,rfl,dY.trans jL,((mX hf.out).1.trans (Ff bM.out)).bad ju.out⟩
 ·go_wp2_with fail;go_ret2;exact az ⟨none,0,0,i,rfl,ha,Nz hf.out hN.out.1 hN.out.2.1 hN.out.2.2⟩
end
section
variable {i:Nat}{s:ByteArray}
theorem Tryz.info68:(Tryz.prog.info? 68).map (λi=>(i.zero,i.size,i.bytes))=some (some (.agg #[.int .i64 0,.slice none 0 0,.slice none 0 0]),3,56):=by kernel_rfl
def mc (s:ByteArray)(i j:Nat):Prop:=(bt s i=64/\j=i+2)∨(bt s i≠64/\j=i)
def Pv (s:ByteArray)(i:Nat):Int:=if bt s i=64 then(bt s (i+1):Int) - 48 else 10
structure dx where
 ly:Int
 ss:List (List eb)
 ds:List PDc
def J5 (w:World)(b:Nat)(s:ByteArray)(i:Nat)(m:Int)(e:Ending)(w':World):Prop:=
 (∃(v:Int) (j:Nat),e=.returned (.tuple #[.int .i64 v,.bool true])/\At w w' b s j m/\Hid (mc s i j/\(∀nr nc mn,V s 18 ⟨nr,nc,mn⟩ i=V s 2 ⟨nr,1,mn⟩ j)/\v=Pv s i))∨
 (∃(v:Int) (j:Nat),e=.returned (.tuple #[.int .i64 v,.bool false])/\At w w' b s j m/\Hid (vU s 18 i j))
theorem sw (h:(bt s i:Int)=64/\i<s.size):(∀nr nc mn,V s 18 ⟨nr,nc,mn⟩ i=V s 1 ⟨nr,1,mn⟩ (i+1))/\bt s i=64:=by
 have h1:bt s i=64:=by omega
 refine⟨λnr nc mn=>?_,h1⟩;rw[wH h.2 (m':=1) (by simp[ct,h1]) (by decide)];simp[cnt]
theorem pG (h:(bt s i:Int)≠64):(∀nr nc mn,V s 18 ⟨nr,nc,mn⟩ i=V s 2 ⟨nr,1,mn⟩ i)/\bt s i≠64:=by
 have h1:¬bt s i=64:=by omega
 exact⟨λnr nc mn=>Nk (by decide) (by decide) (by simp[ct,h1]) (by simp[cnt]),h1⟩
theorem Ej (h:iS (bt s i)=true/\i<s.size):∀nr mn,V s 1 ⟨nr,1,mn⟩ i=V s 2 ⟨nr,1,mn⟩ (i+1):=λnr mn=>by
 rw[wH h.2 (m':=2) (by simp[ct,h.1,wh]) (by decide)];simp[cnt]
theorem zp (h:iS (bt s i)=false):vU s 1 i i:=j5 (by decide) (by simp[ct,h,wh])
theorem K9 (w:World)(b:Nat)(s:ByteArray)(i:Nat)(m:Int)(h:Rd w b s i m):
  Calls prog 122 #[.pointer (some ⟨b,0,none⟩)] w λe w'=>J5 w b s i m e w':=by
 go_enter func122,ntmps122;go_wp2_with fail;refine(jk _ b s i m 64 (by exact h) (by decide)).mono ?_;rintro e w1 (⟨rfl,ha,hf⟩ | ⟨rfl,ha,hf⟩)
 ·go_wp2_with fail;refine(m7 _ b s (i+1) m (by exact ha.rd)).mono ?_;rintro e w2 (⟨rfl,dK,bM⟩ | ⟨rfl,dK,bM⟩)
  ·go_wp2_with fail;go_ret2;exact ax ⟨_,i+2,rfl,ha.trans dK,ax ⟨(sw hf.out).2,rfl⟩,λnr nc mn=>by rw[(sw hf.out).1,Ej bM.out],by unfold Pv;rw[aE (sw hf.out).2]⟩
  ·go_wp2_with fail;go_ret2;exact az ⟨_,i+1,rfl,ha.trans dK,λk=>by rw[(sw hf.out).1 k.nr k.nc k.mn,zp bM.out]⟩
 ·go_wp2_with fail;go_ret2;exact ax ⟨_,i,rfl,ha,az ⟨(pG hf.out).2,rfl⟩,(pG hf.out).1,by unfold Pv;rw[aA (pG hf.out).2]⟩
def ts (s:ByteArray)(i j:Nat)(r:dx):Prop:=
 ∃l q,mc s i l/\o8 s l q r.ss/\l<q/\bt s q=123/\q<j/\Sim s 3 q 0 j/\r.ly=Pv s i/\CV s q j r.ds
def Ng (w:World)(b:Nat)(s:ByteArray)(i:Nat)(m:Int)(e:Ending)(w':World):Prop:=
 (∃(lv:Int) (a:Option Addr) (c:Nat) (ss:List (List eb)) (xs:List Value) (a':Option Addr) (c':Nat) (ds:List PDc) (ys:List Value) (j:Nat) (m':Int),
  e=.returned (.tuple #[.agg #[.int .i64 lv,.slice a ss.length c,.slice a' ds.length c'],.bool true])/\At w w' b s j m'/\w'.ownsRow w.heap.size 71 1 (.slice a ss.length c) ss.length xs/\Sels w' w.heap.size xs ss/\w'.ownsRow w.heap.size 220 5 (.slice a' ds.length c') ds.length ys/\
  Hid (Decs ys ds/\ts s i j ⟨lv,ss,ds⟩/\i<j/\∃U1,∀nr nc,V s 18 ⟨nr,nc,m⟩ i=V s 0 ⟨nr,U1,m'⟩ j))∨
 (∃(j:Nat) (m':Int),e=.returned (.tuple #[.agg #[.int .i64 0,.slice none 0 0,.slice none 0 0],.bool false])/\At w w' b s j m'/\Hid (∀nr nc,V s 18 ⟨nr,nc,m⟩ i=((j:Int),-1)))
theorem LW {w:World}{aB:Nat}{xs:List Value}{ss:List (List eb)}(h:Sels w aB xs ss){B:Nat}(hB:B<aB)(v0 v1 v2:Value):
  Sels (((w.setCell ⟨B,0,none⟩ v0).setCell ⟨B,1,none⟩ v1).setCell ⟨B,2,none⟩ v2) aB xs ss:=
 h.keep (((eW _ (by exact hB) _ _).trans (eW _ (by exact hB) _ _)).trans (eW _ (by exact hB) _ _)) (((eW _ (by exact hB) _ _).trans (eW _ (by exact hB) _ _)).trans (eW _ (by exact hB) _ _))
theorem EW (w:World)(b:Nat)(s:ByteArray)(i:Nat)(m:Int)(h:Rd w b s i m):
  Calls prog 90 #[.pointer (some ⟨b,0,none⟩)] w λe w'=>Ng w b s i m e w':=by
 have hb:=h.lt;go_enter func90,ntmps90;go_wp2_with fail;refine(K9 _ b s i m (by exact h.alloc _)).mono ?_;rintro e w1 (⟨lv,l,rfl,ha,hf⟩ | ⟨lv,l,rfl,ha,hf⟩)
 ·have gA:w.heap.size<w1.heap.size:=by have:=ha.size;simp only[World.size_alloc] at this;omega
  go_wp2_with fail;refine(zF _ b s l m (by exact ha.rd)).mono ?_;rintro e w2 (⟨a,c,ss,xs,q,m2,rfl,dK,zh,uG,bM⟩ | ⟨q,m2,rfl,dK,bM⟩)
  ·have dY:=ha.trans dK;go_wp2_with fail;refine(Kh _ b s q m2 (by exact dY.rd) ⟨bM.out.2.2.1,bM.out.2.2.2.1,bM.out.2.2.2.2.1⟩).mono ?_;rintro e w3 (⟨a',c',j,ds,ys,rfl,jL,ho4,ju⟩ | ⟨a',n',c',j,rfl,jL,ju⟩)
   ·have pn:=dY.trans jL;obtain⟨hc,hz⟩:=pn.cells w.heap.size (by simp) (by omega);have bH:=jL.owns zh (by omega);have aeM:w.heap.size<w2.heap.size:=by have:=dY.size;simp only[World.size_alloc] at this;omega
    have aeT:=uG.keep (e9 jL (by omega) _) (e9 jL (by omega) _);go_wp2_with fail
    refine bodyPost_ret (v:=.tuple #[.agg #[.int .i64 lv,.slice a ss.length c,.slice a' ds.length c'],.bool true]) (by simp[results,Tryz.results90,go_sem,hc]) rfl
     (ax ⟨lv,a,c,ss,xs,a',c',ds,ys,j,m2,rfl,pn.ofAlloc.set3 hb aF _ _ _,ba (xQ bH gA _ _ _) (by omega),(LW aeT gA _ _ _).mono (by omega),ba (xQ ho4 aeM _ _ _) (by omega),?_⟩)
    obtain⟨p1,p2,p3,p4,p5,nc,p6⟩:=bM.out;obtain⟨q0,q1,q2,q3⟩:=ju.out;obtain⟨r1,r2,r3⟩:=hf.out;have jQ:i<=l:=by rcases r1 with⟨_,r⟩ | ⟨_,r⟩<;>omega
    exact⟨q0,⟨l,q,r1,p1,p2,q3.1,q2,q1,r3,q3⟩,by omega,nc,λnr U1=>by rw[r2,p6,q1]⟩
   ·have pn:=dY.trans jL;obtain⟨hc,hz⟩:=pn.cells w.heap.size (by simp) (by omega);go_wp2_with fail;refine bodyPost_ret (v:=.tuple #[.agg #[.int .i64 0,.slice none 0 0,.slice none 0 0],.bool false]) (by simp[results,Tryz.results90,go_sem,hc]) rfl (az ⟨j,m2,rfl,pn.ofAlloc.set3 hb aF _ _ _,?_⟩);obtain⟨p1,p2,p3,p4,p5,nc,p6⟩:=bM.out;exact λnr U1=>by rw[hf.out.2.1,p6,ju.out]
  ·have dY:=ha.trans dK;obtain⟨hc,hz⟩:=dY.cells w.heap.size (by simp) (by omega);go_wp2_with fail;exact bodyPost_ret (v:=.tuple #[.agg #[.int .i64 0,.slice none 0 0,.slice none 0 0],.bool false]) (by simp[results,Tryz.results90,go_sem,hc]) rfl (az ⟨q,m2,rfl,dY.ofAlloc.set3 hb aF _ _ _,λnr U1=>by rw[hf.out.2.1,bM.out]⟩)
 ·obtain⟨hc,hz⟩:=ha.cells w.heap.size (by simp) (by omega);go_wp2_with fail;exact bodyPost_ret (v:=.tuple #[.agg #[.int .i64 0,.slice none 0 0,.slice none 0 0],.bool false]) (by simp[results,Tryz.results90,go_sem,hc]) rfl (az ⟨l,m,rfl,ha.ofAlloc.set3 hb aF _ _ _,λnr nc=>hf.out _⟩)
end
section
variable {aB:Nat}{w:World}
def Ruls (w:World)(aB:Nat):List Value->List dx->Prop
 | xs,[]=>xs=[]
 | xs,r :: rs=>∃(a:Option Addr) (c:Nat) (a':Option Addr) (c':Nat) (ps qs ys:List Value),xs=.int .i64 r.ly :: .slice a r.ss.length c :: .slice a' r.ds.length c' :: ys/\w.ownsRow aB 71 1 (.slice a r.ss.length c) r.ss.length ps/\Sels w aB ps r.ss/\(w.ownsRow aB 220 5 (.slice a' r.ds.length c') r.ds.length qs/\Decs qs r.ds)/\Ruls w aB ys rs
theorem Ruls.keep {w':World}(hk:∀e,e≠68->Keeps w w' aB e):∀{xs:List Value} {rs:List dx},Ruls w aB xs rs->Ruls w' aB xs rs
 | _,[],h=>h
 | _,_ :: _,⟨a,c,a',c',ps,qs,ys,h1,h2,h3,h5,h4⟩=>⟨a,c,a',c',ps,qs,ys,h1,(hk _ (by decide)).owns h2,h3.keep (hk _ (by decide)) (hk _ (by decide)),⟨(hk _ (by decide)).owns h5.1,h5.2⟩,Ruls.keep hk h4⟩
theorem Ruls.mono {jd:Nat}(hb:jd<=aB):∀{xs:List Value} {rs:List dx},Ruls w aB xs rs->Ruls w jd xs rs
 | _,[],h=>h
 | _,_ :: _,⟨a,c,a',c',ps,qs,ys,h1,h2,h3,h5,h4⟩=>⟨a,c,a',c',ps,qs,ys,h1,ba h2 hb,h3.mono hb,⟨ba h5.1 hb,h5.2⟩,Ruls.mono hb h4⟩
theorem Ruls.snoc (lv:Int)(a:Option Addr)(c:Nat)(a':Option Addr)(c':Nat)(ss:List (List eb))(ds:List PDc)(ps qs:List Value)(ho:w.ownsRow aB 71 1 (.slice a ss.length c) ss.length ps)(hk:Sels w aB ps ss)(hd:w.ownsRow aB 220 5 (.slice a' ds.length c') ds.length qs/\Decs qs ds):
  ∀{xs:List Value} {rs:List dx},Ruls w aB xs rs->Ruls w aB (xs++[.int .i64 lv,.slice a ss.length c,.slice a' ds.length c']) (rs++[⟨lv,ss,ds⟩])
 | _,[],h=>by simp only[Ruls] at h;subst h;exact⟨a,c,a',c',ps,qs,[],rfl,ho,hk,hd,rfl⟩
 | _,_ :: _,⟨a1,c1,a2,c2,tf,qs',ys,h1,h2,h3,h5,h4⟩=>⟨a1,c1,a2,c2,tf,qs',_,by rw[h1];rfl,h2,h3,h5,Ruls.snoc lv a c a' c' ss ds ps qs ho hk hd h4⟩
def RulsAt (s:ByteArray):Nat->Nat->List dx->Prop
 | i,j,[]=>i=j
 | i,j,ss :: rs=>∃l,ts s i l ss/\i<l/\RulsAt s l j rs
theorem RulsAt.snoc {s:ByteArray}{i j l:Nat}{rs:List dx}{ss:dx}(h:RulsAt s i j rs)(hc:ts s j l ss)(hl:j<l):RulsAt s i l (rs++[ss]):=by
 induction rs generalizing i with
 | nil=>simp only[RulsAt] at h;subst h;exact⟨l,hc,hl,rfl⟩
 | cons x rs ih=>
  obtain⟨l',h1,h2,h3⟩:=h;exact⟨l',h1,h2,ih h3⟩
structure wE (w:World)(b:Nat)(s:ByteArray)(gk:Nat)(v:Value)(wr:World)(j:Nat)(mP:Int)(rs:List dx)(xs:List Value):Prop where
 at':At (w.alloc (.cells #[.slice none 0 0] 60)) wr b s j mP
 own:wr.ownsRow (w.heap.size+1) 68 3 v rs.length xs
 ruls:Ruls wr (w.heap.size+1) xs rs
 few:rs.length<=j
 gk:s.size - j<=gk
 text:RulsAt s 0 j rs
 run:∃nc,V s 0 ⟨0,0,-1⟩ 0=V s 0 ⟨rs.length,nc,mP⟩ j
def Ka (w:World)(b:Nat)(s:ByteArray)(e:Ending)(w':World):Prop:=
 (∃(a:Option Addr) (c:Nat) (rs:List dx) (xs:List Value) (m':Int),e=.returned (.tuple #[.agg #[.slice a rs.length c],.bool true])/\At w w' b s s.size m'/\w'.ownsRow w.heap.size 68 3 (.slice a rs.length c) rs.length xs/\Ruls w' w.heap.size xs rs/\
  Hid (RulsAt s 0 s.size rs/\V s 0 ⟨0,0,-1⟩ 0=(-1,m')))∨
 (∃(j:Nat) (m':Int),e=.returned (.tuple #[.agg #[.slice none 0 0],.bool false])/\At w w' b s j m'/\Hid (V s 0 ⟨0,0,-1⟩ 0=((j:Int),-1)))
theorem PY (a:Int)(b:Option Addr)(n k:Nat)(b':Option Addr)(n' k':Nat):∀u∈[Value.int .i64 a,Value.slice b n k,Value.slice b' n' k'],u.oneCell'=true:=by
 intro u hu;simp only[List.mem_cons,List.not_mem_nil,or_false] at hu;rcases hu with rfl | rfl | rfl<;>rfl
theorem uH (w:World)(n aB:Nat)(e:TypeId):Keeps w (w.drewN n) aB e:=λ_ _ _ hh=>hh
theorem lw {e:TypeId}{size:Nat}{v:Value}{n:Nat}{xs:List Value}(h:w.ownsRow aB e size v n xs)(k:Nat):(w.drewN k).ownsRow aB e size v n xs:=(uH w k aB e).owns h
theorem LZ (w:World)(b:Nat)(s:ByteArray)(h:Rd w b s 0 (-1)):
  Calls prog 50 #[.pointer (some ⟨b,0,none⟩)] w λe w'=>Ka w b s e w':=by
 have hb:=h.lt;have xC:=h.top;obtain⟨i0,hi,gP,gQ,gR⟩:=info_parts Tryz.info68;go_enter func50,ntmps50;go_wp2_with fail
 go_loopg [4] (s.size) (λgk v wr=>∃(j:Nat) (mP:Int) (rs:List dx) (xs:List Value),wE w b s gk v wr j mP rs xs)
 case atStart=>exact⟨0,-1,[],[],h.allocAt _,eB,rfl,by simp,by omega,rfl,0,rfl⟩
 case round=>
  obtain⟨j,mP,rs,xs,R⟩:=hrel;have qU:=R.at'.rd.le;obtain⟨a,c,hv⟩:=aK R.own;subst hv;go_wp2_with fail;refine(ng _ b s j mP (by exact R.at'.rd)).mono ?_;rintro e w0 ⟨rfl,n0,rfl⟩
  by_cases hend:s.size<=j
  ·obtain rfl:j=s.size:=by omega
   have R2:=R;have gA:w.heap.size<wr.heap.size:=by have:=R.at'.size;simp only[World.size_alloc] at this;omega
   obtain⟨hc,hz⟩:=R.at'.cells w.heap.size (by simp) (by omega);clear R;go_wp2;refine bodyPost_ret (v:=.tuple #[.agg #[.slice a rs.length c],.bool true]) (by simp[results,Tryz.results50,go_sem,hc]) rfl (ax ⟨a,c,rs,xs,mP,rfl,?_,?_,?_,?_⟩)
   ·exact(R2.at'.ofAlloc.drewN n0).setNew hb aF _
   ·exact ba (ownsRow_setCell_below (lw R2.own n0) (by simp) _) (by omega)
   ·exact(R2.ruls.keep (λe _=>(uH wr n0 _ _).trans (eW _ (by simp) _ _))).mono (by omega)
   ·obtain⟨nc,r1⟩:=R2.run;exact⟨R2.text,by rw[r1,wG aF];simp⟩
  ·have hd:decide (s.size<=j)=false:=by simpa using hend
   have bc:j<s.size:=by omega
   by_cases h4:rs.length=20
   ·have g4:((rs.length:Int)==20)=true:=by simp[h4]
    have H4:=aw h4;clear h4;go_wp2_with fail;refine(sC _ b s j mP (by exact R.at'.rd.drewN _)).mono ?_;rintro e w1 ⟨rfl,aav⟩;have r7:=(R.at'.rd.at0.drewN n0).trans aav;have hM:Hid (∀nc,V s 0 ⟨rs.length,nc,mP⟩ j=V s 18 ⟨rs.length+1,1,mM mP j⟩ j):=λnc=>by rw[wI bc];simp[dq,H4.out]
    generalize mM mP j=M at r7 aav hM;go_wp2_with fail;refine(EW _ b s j M (by exact r7.rd)).mono ?_;rintro e w2 (⟨lv,a2,c2,ss,ps,a3,c3,ds,qs,l,M2,rfl,dK,zh,uG,iC,bM⟩ | ⟨l,M2,rfl,dK,bM⟩)
    ·have dY:=(R.at'.trans r7).trans dK;have gA:=(R.at'.trans r7).size;simp only[World.size_alloc] at gA;have nX:w.heap.size<w2.heap.size:=by have:=dY.size;simp only[World.size_alloc] at this;omega
     have dy:=(r7.trans dK).owns R.own (by omega);have bT:=R.few;go_wp2_with (at_builtin;refine wpList_append_own _ rfl (.tmp 23) (.tmp 25) 58 rfl (w.heap.size+1) 68 i0 (.agg #[.int .i64 0,.slice none 0 0,.slice none 0 0]) 3 56 underlying58 hi gP gQ gR rfl (by decide) _ _ _ rfl ((dy.alloc _).alloc _) ⟨w2.heap.size+1,0,none⟩ 1 1 [.int .i64 lv,.slice a2 ss.length c2,.slice a3 ds.length c3] rfl rfl ?c1x ?c2x ?c3x ?c4x ?c5x ?_)
     case c1x=>exact bg (w2.alloc _) _ (by simp) _ _ _ rfl
     case c2x=>exact PY _ _ _ _ _ _ _
     case c3x=>unfold maxLen;omega
     case c4x=>omega
     case c5x=>simp;omega
     ·intro v' w3 cj fB _;have bH:w3.ownsRow (w.heap.size+1) 68 3 v' (rs++[(⟨lv,ss,ds⟩:dx)]).length (xs++[.int .i64 lv,.slice a2 ss.length c2,.slice a3 ds.length c3]):=by simpa using cj
      have gg:∀e,Keeps wr w2 (w.heap.size+1) e:=λe=>e9 (r7.trans dK) (by omega) _;have pp:∀e,e≠68->Keeps w2 w3 (w.heap.size+1) e:=λe he=>((cX _ _ _ _).trans (cX _ _ _ _)).trans (j8 he ((dy.alloc _).alloc _) fB)
      have EX:Ruls w3 (w.heap.size+1) (xs++[.int .i64 lv,.slice a2 ss.length c2,.slice a3 ds.length c3]) (rs++[⟨lv,ss,ds⟩]):=
       Ruls.snoc lv a2 c2 a3 c3 ss ds ps qs ((pp 71 (by decide)).owns (ba zh gA)) ((uG.mono gA).keep (pp _ (by decide)) (pp _ (by decide))) ⟨(pp 220 (by decide)).owns (ba iC gA),bM.out.1⟩ (R.ruls.keep (λe he=>(gg e).trans (pp e he)))
      have zb:At (w.alloc (.cells #[.slice none 0 0] 60)) w3 b s l M2:=((dY.alloc _).alloc _).app (by simp;omega) (by simpa using((dy.alloc _).alloc _)) fB;obtain⟨q0,q1,q2,U1,q3⟩:=bM.out;obtain⟨nc,r1⟩:=R.run
      have R3:wE w b s (s.size - l) v' w3 l M2 (rs++[⟨lv,ss,ds⟩]) (xs++[.int .i64 lv,.slice a2 ss.length c2,.slice a3 ds.length c3]):=by
       refine⟨zb,bH,EX,by simp;omega,aF,R.text.snoc q1 q2,U1,?_⟩;rw[r1,hM.out nc,q3];simp
      have fT:=R.gk;have B6:=zb.rd.le;clear cj fB dy R gg pp q0 q1 q3 bM r1 bH EX;go_wp2;go_roundg (s.size - l)
      case measure=>omega
      case rel=>exact⟨l,M2,_,_,R3⟩
    ·have dY:=(R.at'.trans r7).trans dK;have nX:w.heap.size<w2.heap.size:=by have:=dY.size;simp only[World.size_alloc] at this;omega
     obtain⟨hc,hz⟩:=dY.cells w.heap.size (by simp) (by omega);obtain⟨nc,r1⟩:=R.run;have HR:Hid (V s 0 ⟨0,0,-1⟩ 0=((l:Int),-1)):=by unfold Hid;rw[r1,hM.out nc,bM.out]
     clear r1;go_wp2_with fail;exact bodyPost_ret (v:=.tuple #[.agg #[.slice none 0 0],.bool false]) (by simp[results,Tryz.results50,go_sem,hc,nX]) rfl (az ⟨l,M2,rfl,(dY.ofAlloc.setNew hb aF _).alloc _,HR.out⟩)
   ·have g4:((rs.length:Int)==20)=false:=by simp;omega
    obtain⟨M,r7,hM⟩:∃M,At wr (wr.drewN n0) b s j M/\Hid (∀nc,V s 0 ⟨rs.length,nc,mP⟩ j=V s 18 ⟨rs.length+1,1,M⟩ j):=⟨mP,R.at'.rd.at0.drewN n0,λnc=>by rw[wI bc];simp[dq,h4]⟩;clear h4;go_wp2_with fail;refine(EW _ b s j M (by exact r7.rd)).mono ?_;rintro e w2 (⟨lv,a2,c2,ss,ps,a3,c3,ds,qs,l,M2,rfl,dK,zh,uG,iC,bM⟩ | ⟨l,M2,rfl,dK,bM⟩)
    ·have dY:=(R.at'.trans r7).trans dK;have gA:=(R.at'.trans r7).size;simp only[World.size_alloc] at gA;have nX:w.heap.size<w2.heap.size:=by have:=dY.size;simp only[World.size_alloc] at this;omega
     have dy:=(r7.trans dK).owns R.own (by omega);have bT:=R.few;go_wp2_with (at_builtin;refine wpList_append_own _ rfl (.tmp 23) (.tmp 25) 58 rfl (w.heap.size+1) 68 i0 (.agg #[.int .i64 0,.slice none 0 0,.slice none 0 0]) 3 56 underlying58 hi gP gQ gR rfl (by decide) _ _ _ rfl ((dy.alloc _).alloc _) ⟨w2.heap.size+1,0,none⟩ 1 1 [.int .i64 lv,.slice a2 ss.length c2,.slice a3 ds.length c3] rfl rfl ?c1y ?c2y ?c3y ?c4y ?c5y ?_)
     case c1y=>exact bg (w2.alloc _) _ (by simp) _ _ _ rfl
     case c2y=>exact PY _ _ _ _ _ _ _
     case c3y=>unfold maxLen;omega
     case c4y=>omega
     case c5y=>simp;omega
     ·intro v' w3 cj fB _;have bH:w3.ownsRow (w.heap.size+1) 68 3 v' (rs++[(⟨lv,ss,ds⟩:dx)]).length (xs++[.int .i64 lv,.slice a2 ss.length c2,.slice a3 ds.length c3]):=by simpa using cj
      have gg:∀e,Keeps wr w2 (w.heap.size+1) e:=λe=>e9 (r7.trans dK) (by omega) _;have pp:∀e,e≠68->Keeps w2 w3 (w.heap.size+1) e:=λe he=>((cX _ _ _ _).trans (cX _ _ _ _)).trans (j8 he ((dy.alloc _).alloc _) fB)
      have EX:Ruls w3 (w.heap.size+1) (xs++[.int .i64 lv,.slice a2 ss.length c2,.slice a3 ds.length c3]) (rs++[⟨lv,ss,ds⟩]):=
       Ruls.snoc lv a2 c2 a3 c3 ss ds ps qs ((pp 71 (by decide)).owns (ba zh gA)) ((uG.mono gA).keep (pp _ (by decide)) (pp _ (by decide))) ⟨(pp 220 (by decide)).owns (ba iC gA),bM.out.1⟩ (R.ruls.keep (λe he=>(gg e).trans (pp e he)))
      have zb:At (w.alloc (.cells #[.slice none 0 0] 60)) w3 b s l M2:=((dY.alloc _).alloc _).app (by simp;omega) (by simpa using((dy.alloc _).alloc _)) fB;obtain⟨q0,q1,q2,U1,q3⟩:=bM.out;obtain⟨nc,r1⟩:=R.run
      have R3:wE w b s (s.size - l) v' w3 l M2 (rs++[⟨lv,ss,ds⟩]) (xs++[.int .i64 lv,.slice a2 ss.length c2,.slice a3 ds.length c3]):=by
       refine⟨zb,bH,EX,by simp;omega,aF,R.text.snoc q1 q2,U1,?_⟩;rw[r1,hM.out nc,q3];simp
      have fT:=R.gk;have B6:=zb.rd.le;clear cj fB dy R gg pp q0 q1 q3 bM r1 bH EX;go_wp2;go_roundg (s.size - l)
      case measure=>omega
      case rel=>exact⟨l,M2,_,_,R3⟩
    ·have dY:=(R.at'.trans r7).trans dK;have nX:w.heap.size<w2.heap.size:=by have:=dY.size;simp only[World.size_alloc] at this;omega
     obtain⟨hc,hz⟩:=dY.cells w.heap.size (by simp) (by omega);obtain⟨nc,r1⟩:=R.run;have HR:Hid (V s 0 ⟨0,0,-1⟩ 0=((l:Int),-1)):=by unfold Hid;rw[r1,hM.out nc,bM.out]
     clear r1;go_wp2_with fail;exact bodyPost_ret (v:=.tuple #[.agg #[.slice none 0 0],.bool false]) (by simp[results,Tryz.results50,go_sem,hc,nX]) rfl (az ⟨l,M2,rfl,(dY.ofAlloc.setNew hb aF _).alloc _,HR.out⟩)
end
def eH (s:ByteArray):Int × Int:=
 if 400<s.size then(1,0) else if 0<=(V s 0 ⟨0,0,-1⟩ 0).1 then(2,(V s 0 ⟨0,0,-1⟩ 0).1) else if(V s 0 ⟨0,0,-1⟩ 0).2=-1 then(0,0) else(3,(V s 0 ⟨0,0,-1⟩ 0).2)
def Nf (w:World)(s:ByteArray)(e:Ending)(w':World):Prop:=
 ∃(a:Option Addr) (n c:Nat),e=.returned (.tuple #[.agg #[.slice a n c],.int .i64 (eH s).1,.int .i64 (eH s).2])/\Below w.heap.size w w'/\
  ((eH s).1=0->∃rs xs,n=rs.length/\w'.ownsRow w.heap.size 68 3 (.slice a n c) n xs/\Ruls w' w.heap.size xs rs/\RulsAt s 0 s.size rs)
theorem At.below {w w0 w1:World}{b:Nat}{s:ByteArray}{j:Nat}{m:Int}(h:At w0 w1 b s j m)(hw:Below w.heap.size w w0)(hb:w.heap.size<=b):Below w.heap.size w w1:=
 hw.grown h.gb hw.size (λk e=>by injection e with e;omega)
theorem pP (w:World)(s:ByteArray)(hs:s.size<=maxLen):
  Calls prog 21 #[.string s] w λe w'=>Nf w s e w':=by
 unfold maxLen at hs
 by_cases h400:400<s.size
 ·have HC:Hid (eH s=(1,0)):=by unfold Hid eH;rw[aE h400]
  go_enter func21,ntmps21;go_wp2;refine bodyPost_ret (v:=.tuple #[.agg #[.slice none 0 0],.int .i64 1,.int .i64 0]) (by simp[results,Tryz.results21,go_sem]) rfl ⟨none,0,0,by rw[HC.out],?_,?_⟩
  ·exact bo.alloc aF _
  ·rw[HC.out];intro h;simp at h
 ·have aam:s.size<=400:=by omega
  have hr:Rd ((w.alloc (.cells #[.slice none 0 0] 60)).alloc (.cells #[.string s,.int .i64 0,.int .i64 (-1)] 105)) (w.heap.size+1) s 0 (-1):=by
   refine⟨?_,bm,aam,by omega,by omega⟩;have:=heap_alloc_new (w.alloc (.cells #[.slice none 0 0] 60)) (.cells #[.string s,.int .i64 0,.int .i64 (-1)] 105);simpa using this
  have lW:Below w.heap.size w ((w.alloc (.cells #[.slice none 0 0] 60)).alloc (.cells #[.string s,.int .i64 0,.int .i64 (-1)] 105)):=(bo.alloc aF _).alloc (by simp) _;go_enter func21,ntmps21;go_wp2_with fail;refine(LZ _ (w.heap.size+1) s (by exact hr)).mono ?_;rintro e w1 (⟨a,c,rs,xs,m,rfl,ha,ho,hR,hf⟩ | ⟨j,m,rfl,ha,hf⟩)
  ·have mS:=ha.below lW (by omega);have gA:w.heap.size+1<w1.heap.size:=by have:=ha.size;simp at this;omega
   have Tf:w.heap.size<w1.heap.size:=by omega
   obtain⟨hc,hz⟩:=ha.cells w.heap.size (by simp;omega) (by omega);have c2:=ha.rd.c2;have WD:w1.ownsRow (w.heap.size+2) 68 3 (.slice a rs.length c) rs.length xs:=ba ho (by simp);have UB:Ruls w1 (w.heap.size+2) xs rs:=hR.mono (by simp);clear ho hR;have KR:=ha.rd.lo
   by_cases hm:m=-1
   ·subst hm;have HC:Hid (eH s=(0,0)):=by unfold Hid eH;rw[aA h400,hf.out.2];simp
    have gd:((-1:Int) != -1)=false:=by decide
    go_wp2;refine bodyPost_ret (v:=.tuple #[.agg #[.slice a rs.length c],.int .i64 0,.int .i64 0]) (by simp[results,Tryz.results21,go_sem,hc,Tf]) rfl ⟨a,rs.length,c,by rw[HC.out],?_,λ_=>⟨rs,xs,rfl,?_,?_,hf.out.1⟩⟩
    ·exact(mS.setCell (by simp) _).alloc (by simp[World.setCell];omega) _
    ·exact ba ((ownsRow_setCell_below WD (by simp) _).alloc _) (by omega)
    ·exact(UB.keep (λe _=>(eW _ (by simp) _ _).trans (cX _ _ _ _))).mono (by omega)
   ·have HC:Hid (eH s=(3,m)):=by unfold Hid eH;rw[aA h400,hf.out.2];simp[hm]
    have gd:(m != -1)=true:=by simp[hm]
    clear hm;go_wp2
    go_region
    all_goals go_wp2
    all_goals refine bodyPost_ret (v:=.tuple #[.agg #[.slice none 0 0],.int .i64 3,.int .i64 m]) (by simp[results,Tryz.results21,go_sem,hc,Tf]) rfl ⟨none,0,0,by rw[HC.out],?_,?_⟩
    all_goals first | (rw[HC.out];intro h;simp at h;done) | skip
    all_goals repeat' (first | exact mS | refine Below.drew ?_ | refine Below.alloc ?_ (by simp[World.setCell];omega) _ | refine Below.setCell ?_ (by simp) _)
  ·have mS:=ha.below lW (by omega);have gA:w.heap.size+1<w1.heap.size:=by have:=ha.size;simp at this;omega
   have Tf:w.heap.size<w1.heap.size:=by omega
   obtain⟨hc,hz⟩:=ha.cells w.heap.size (by simp;omega) (by omega);have c1:=ha.rd.c1;have HC:Hid (eH s=(2,(j:Int))):=by unfold Hid eH;rw[aA h400,hf.out];simp
   go_wp2
   go_region
   all_goals go_wp2
   all_goals refine bodyPost_ret (v:=.tuple #[.agg #[.slice none 0 0],.int .i64 2,.int .i64 j]) (by simp[results,Tryz.results21,go_sem,hc,Tf]) rfl ⟨none,0,0,by rw[HC.out],?_,?_⟩
   all_goals first | (rw[HC.out];intro h;simp at h;done) | skip
   all_goals repeat' (first | exact mS | refine Below.drew ?_ | refine Below.alloc ?_ (by simp[World.setCell];omega) _ | refine Below.setCell ?_ (by simp) _)
def zH (w:World)(s:ByteArray)(e:Ending)(w':World):Prop:=e=.returned (.tuple #[.int .i64 (eH s).1,.int .i64 (eH s).2])/\Below w.heap.size w w'
theorem Kk (w:World)(s:ByteArray)(hs:s.size<=maxLen):
  Calls prog 8 #[.string s] w λe w'=>zH w s e w':=by
 go_enter func8,ntmps8;go_wp2_with fail;refine(pP _ s hs).mono ?_;rintro e w1 ⟨a,n,c,rfl,hb,_⟩;have hz:=hb.size;go_wp2_with fail;go_ret2;exact⟨rfl,hb.alloc hz _⟩
section
variable {aB jd f j k' l:Nat}{s:ByteArray}{Vi:Value}{w w' w2 w3:World}{xs ys':List Value}
theorem Tryz.info81:(Tryz.prog.info? 81).map (λi=>(i.zero,i.size,i.bytes))=some (some (.slice none 0 0),1,24):=by kernel_rfl
theorem Tryz.info79:(Tryz.prog.info? 79).map (λi=>(i.zero,i.size,i.bytes))=some (some (.agg #[.int .i64 0,.slice none 0 0,.slice none 0 0]),3,56):=by kernel_rfl
theorem uh {P:Program}{Cj:Array Oper}{o:Oper}{a:Act}{K:Act->World->Prop}{Q:Exit->Act->World->Prop}{E:Prop}
  (hg:o.guard=none) (s x:Operand) (t:TypeId) (hop:o.op=Op.call {callee:=Callee.builtin Builtin.append,args:=#[s,x],argTypes:=#[t,t]})
  (aB:Nat) (e:TypeId) (i:TypeInfo) (z:Value) (size bytes:Nat) (h1:P.underlying t=some (.slice e)) (h2:P.info? e=some i) (h3:i.zero=some z) (h4:i.size=size) (h5:i.bytes=bytes) (h6:z.cells.size=size) (h7:0<size)
  (v:Value) (n:Nat) (xs:List Value) (hs:a.eval s=v) (bS:w.ownsRow aB e size v n xs)
  (ad:Addr) (m c:Nat) (kb:List Value) (hx:a.eval x=.slice (some ad) m c) (hn:kb.length=m*size) (hc:∀j u,kb[j]?=some u->w.cell? (ad.add j)=some u) (h1c:∀u∈kb,u.oneCell'=true)
  (b1:n+m<=maxLen) (b2:(n+m)*bytes<=140737488355328) (hb:aB<=w.heap.size)
  (hK:∀v' w',w'.ownsRow aB e size v' (n+m) (xs++kb)->w.grownBy w' v.ownBlock->K (a.put o.dst v') w') :
  if Region.wanted o (yielded Cj a.tmps)=true then Oper.wp P o a w K Q else E:=by
 have hw:Region.wanted o (yielded Cj a.tmps)=true:=by simp[Region.wanted,hg]
 rw[aE hw];obtain⟨v',w',G1,r1,r2,_⟩:=run_append_own (P:=P) w aB t o.type e i z size bytes h1 h2 h3 h4 h5 h6 h7 v n xs bS ad m c kb hn hc h1c b1 b2 hb;unfold Oper.wp;simp only[execOp,hop,resolve,invoke,builtin,Sem.run_bind,Sem.run_pure,Result.andThen_ok,List.map_toArray,List.map_cons,List.map_nil,hs,hx,G1];exact hK v' w' r1 r2
def RSels (w:World)(s:ByteArray)(aB:Nat):List Value->List (List (Nat × Nat))->Prop
 | xs,[]=>xs=[]
 | xs,aV :: ss=>∃(a:Option Addr) (c:Nat) (ps ys:List Value),xs=.slice a aV.length c :: ys/\w.ownsRow aB 117 2 (.slice a aV.length c) aV.length ps/\(Txs s ps aV/\Sgs s ps aV)/\RSels w s aB ys ss
theorem RSels.keep (hk:Keeps w w' aB 117):∀{xs:List Value} {ss:List (List (Nat × Nat))},RSels w s aB xs ss->RSels w' s aB xs ss
 | _,[],h=>h
 | _,_ :: _,⟨a,c,ps,ys,h1,h2,h3,h4⟩=>⟨a,c,ps,ys,h1,hk.owns h2,h3,RSels.keep hk h4⟩
theorem RSels.mono (hb:jd<=aB):∀{xs:List Value} {ss:List (List (Nat × Nat))},RSels w s aB xs ss->RSels w s jd xs ss
 | _,[],h=>h
 | _,_ :: _,⟨a,c,ps,ys,h1,h2,h3,h4⟩=>⟨a,c,ps,ys,h1,ba h2 hb,h3,RSels.mono hb h4⟩
theorem RSels.snoc (a:Option Addr)(c:Nat)(aV:List (Nat × Nat))(ps:List Value)(ho:w.ownsRow aB 117 2 (.slice a aV.length c) aV.length ps)(hk:Txs s ps aV/\Sgs s ps aV):
  ∀{xs:List Value} {ss:List (List (Nat × Nat))},RSels w s aB xs ss->RSels w s aB (xs++[.slice a aV.length c]) (ss++[aV])
 | _,[],h=>by simp only[RSels] at h;subst h;exact⟨a,c,ps,[],rfl,ho,hk,rfl⟩
 | _,_ :: _,⟨a',c',tf,ys,h1,h2,h3,h4⟩=>⟨a',c',tf,_,by rw[h1];rfl,h2,h3,RSels.snoc a c aV ps ho hk h4⟩
def RRuls (w:World)(s:ByteArray)(aB:Nat):List Value->List (List (List (Nat × Nat)))->Prop
 | xs,[]=>xs=[]
 | xs,ss :: rs=>∃(lv:Int) (a:Option Addr) (c:Nat) (vD:Value) (ps ys:List Value),xs=.int .i64 lv :: .slice a ss.length c :: vD :: ys/\w.ownsRow aB 81 1 (.slice a ss.length c) ss.length ps/\RSels w s aB ps ss/\RRuls w s aB ys rs
theorem RRuls.keep (hk:Keeps w w' aB 117)(Rt:Keeps w w' aB 81):∀{xs:List Value} {rs:List (List (List (Nat × Nat)))},RRuls w s aB xs rs->RRuls w' s aB xs rs
 | _,[],h=>h
 | _,_ :: _,⟨lv,a,c,vD,ps,ys,h1,h2,h3,h4⟩=>⟨lv,a,c,vD,ps,ys,h1,Rt.owns h2,h3.keep hk,RRuls.keep hk Rt h4⟩
theorem RRuls.mono (hb:jd<=aB):∀{xs:List Value} {rs:List (List (List (Nat × Nat)))},RRuls w s aB xs rs->RRuls w s jd xs rs
 | _,[],h=>h
 | _,_ :: _,⟨lv,a,c,vD,ps,ys,h1,h2,h3,h4⟩=>⟨lv,a,c,vD,ps,ys,h1,ba h2 hb,h3.mono hb,RRuls.mono hb h4⟩
theorem RRuls.snoc (lv:Int)(a:Option Addr)(c:Nat)(vD:Value)(ss:List (List (Nat × Nat)))(ps:List Value)(ho:w.ownsRow aB 81 1 (.slice a ss.length c) ss.length ps)(hk:RSels w s aB ps ss):
  ∀{xs:List Value} {rs:List (List (List (Nat × Nat)))},RRuls w s aB xs rs->RRuls w s aB (xs++[.int .i64 lv,.slice a ss.length c,vD]) (rs++[ss])
 | _,[],h=>by simp only[RRuls] at h;subst h;exact⟨lv,a,c,vD,ps,[],rfl,ho,hk,rfl⟩
 | _,_ :: _,⟨lv',a1,c1,yW,tf,ys,h1,h2,h3,h4⟩=>⟨lv',a1,c1,yW,tf,_,by rw[h1];rfl,h2,h3,RRuls.snoc lv a c vD ss ps ho hk h4⟩
def RSelsPre (s:ByteArray):Nat->Nat->List (List (Nat × Nat))->Prop
 | i,j,[]=>i=j
 | i,j,aV :: ss=>∃l,mF s i l aV/\i<=l/\bt s l=44/\(∀k,i<=k->k<l->bt s k≠44)/\RSelsPre s (l+1) j ss
theorem RSelsPre.snoc {aV:List (Nat × Nat)}(h1:mF s j l aV)(h2:j<=l)(h3:bt s l=44)(h4:∀k,j<=k->k<l->bt s k≠44):∀{ss:List (List (Nat × Nat))} {i:Nat},RSelsPre s i j ss->RSelsPre s i (l+1) (ss++[aV])
 | [],_,h=>by simp only[RSelsPre] at h;subst h;exact⟨l,h1,h2,h3,h4,rfl⟩
 | _ :: _,_,⟨l',a,b,c,d,e⟩=>⟨l',a,b,c,d,RSelsPre.snoc h1 h2 h3 h4 e⟩
def rL (s:ByteArray)(i j:Nat)(ss:List (List (Nat × Nat))):Prop:=
 ∃pre l aV,ss=pre++[aV]/\RSelsPre s i l pre/\mF s l j aV/\l<=j/\∀k,l<=k->k<j->bt s k≠44
def rK (s:ByteArray)(i j:Nat)(ss:List (List (Nat × Nat))):Prop:=
 ∃p q,mc s i p/\rL s p q ss/\bt s q=123/\(∀k,p<=k->k<q->bt s k≠123)/\q+1<j/\bt s (j - 1)=125/\∀k,q<=k->k<j - 1->bt s k≠125
def RRulsAt (s:ByteArray):Nat->Nat->List (List (List (Nat × Nat)))->Prop
 | i,j,[]=>i=j
 | i,j,ss :: rs=>∃l,rK s i l ss/\i<l/\RRulsAt s l j rs
theorem RRulsAt.snoc {ss:List (List (Nat × Nat))}(hc:rK s j l ss)(hl:j<l):∀{rs:List (List (List (Nat × Nat)))} {i:Nat},RRulsAt s i j rs->RRulsAt s i l (rs++[ss])
 | [],_,h=>by simp only[RRulsAt] at h;subst h;exact⟨l,hc,hl,rfl⟩
 | _ :: _,_,⟨l',a,b,c⟩=>⟨l',a,b,RRulsAt.snoc hc hl c⟩
def RDecs (w:World)(aB:Nat):List Value->List (Int × List ei)->Prop
 | xs,[]=>xs=[]
 | xs,(ly,dl) :: r=>∃(vS:Value) (a:Option Addr) (c:Nat) (ys:List Value),xs=.int .i64 ly :: vS :: .slice a dl.length c :: ys/\w.ownsRow aB 149 3 (.slice a dl.length c) dl.length (kW dl)/\RDecs w aB ys r
theorem RDecs.keep (hk:Keeps w w' aB 149):∀{xs:List Value} {is:List (Int × List ei)},RDecs w aB xs is->RDecs w' aB xs is
 | _,[],h=>h
 | _,(_,_) :: _,⟨vS,a,c,ys,h1,h2,h3⟩=>⟨vS,a,c,ys,h1,hk.owns h2,RDecs.keep hk h3⟩
theorem RDecs.mono (hb:jd<=aB):∀{xs:List Value} {is:List (Int × List ei)},RDecs w aB xs is->RDecs w jd xs is
 | _,[],h=>h
 | _,(_,_) :: _,⟨vS,a,c,ys,h1,h2,h3⟩=>⟨vS,a,c,ys,h1,ba h2 hb,RDecs.mono hb h3⟩
theorem RDecs.snoc (ly:Int)(vS:Value)(a:Option Addr)(c:Nat)(dl:List ei)(ho:w.ownsRow aB 149 3 (.slice a dl.length c) dl.length (kW dl)):
  ∀{xs:List Value} {is:List (Int × List ei)},RDecs w aB xs is->RDecs w aB (xs++[.int .i64 ly,vS,.slice a dl.length c]) (is++[(ly,dl)])
 | _,[],h=>by simp only[RDecs] at h;subst h;exact⟨vS,a,c,[],rfl,ho,rfl⟩
 | _,(_,_) :: _,⟨Vi,a1,c1,ys,h1,h2,h3⟩=>⟨Vi,a1,c1,_,by rw[h1];rfl,h2,RDecs.snoc ly vS a c dl ho h3⟩
def xH (s:ByteArray)(i:Nat):Int:=if bt s i=64 then(bt s (i+1):Int) - 48 else 10
def Bx (s:ByteArray)(i j:Nat)(ly:Int)(dl:List ei):Prop:=
 ∃p q,mc s i p/\bt s q=123/\(∀k,p<=k->k<q->bt s k≠123)/\p<q/\q+1<j/\bt s (j - 1)=125/\(∀k,q<=k->k<j - 1->bt s k≠125)/\ly=xH s i/\rE (s.extract (q+1) (j - 1)) dl
def RInfsAt (s:ByteArray):Nat->Nat->List (Int × List ei)->Prop
 | i,j,[]=>i=j
 | i,j,(ly,dl) :: r=>∃l,Bx s i l ly dl/\i<l/\RInfsAt s l j r
theorem RInfsAt.snoc {ly:Int}{dl:List ei}(hc:Bx s j l ly dl)(hl:j<l):∀{is:List (Int × List ei)} {i:Nat},RInfsAt s i j is->RInfsAt s i l (is++[(ly,dl)])
 | [],_,h=>by simp only[RInfsAt] at h;subst h;exact⟨l,hc,hl,rfl⟩
 | (_,_) :: _,_,⟨l',a,b,c⟩=>⟨l',a,b,RInfsAt.snoc hc hl c⟩
def RInfo (w:World)(s:ByteArray)(aB f:Nat)(xs:List Value):Prop:=∃is,RDecs w aB xs is/\RInfsAt s 0 f is
theorem RInfo.keep (h:RInfo w s aB f xs)(hk:Keeps w w' aB 149):RInfo w' s aB f xs:=by
 obtain⟨is,h1,h2⟩:=h;exact⟨is,h1.keep hk,h2⟩
theorem RInfo.mono (h:RInfo w s aB f xs)(hb:jd<=aB):RInfo w s jd f xs:=by
 obtain⟨is,h1,h2⟩:=h;exact⟨is,h1.mono hb,h2⟩
structure In (wr wq:World)(b:Nat)(vL:Value)(hm:Int)(lv:Int)(vS vD:Value)(k:Nat)(ys:List Value):Prop where
 sh:Sh wq b vL hm
 gb:wr.grownBy wq (some b)
 rb:wq.heap[wr.heap.size]?=some (.cells #[.int .i64 lv,vS,vD] 79 (0,0))
 own:wq.ownsRow (wr.heap.size+1) 81 1 vS k ys
 lt:b<wr.heap.size
section
variable {wr wq:World}{b:Nat}{vL:Value}{hm lv:Int}{vS vD:Value}{k:Nat}{ys:List Value}
theorem In.blt (h:In wr wq b vL hm lv vS vD k ys):wr.heap.size<wq.heap.size:=(bG.1 h.rb).1
theorem In.cells (h:In wr wq b vL hm lv vS vD k ys):wq.cell? ⟨wr.heap.size,0,none⟩=some (.int .i64 lv)/\wq.cell? ⟨wr.heap.size,1,none⟩=some vS/\wq.cell? ⟨wr.heap.size,2,none⟩=some vD/\∀j,wq.frozen? ⟨wr.heap.size,j,none⟩=false:=
 ⟨au h.rb rfl,au h.rb rfl,au h.rb rfl,λ_=>aH h.rb⟩
theorem In.setO (h:In wr wq b vL hm lv vS vD k ys)(o:Nat)(u:Value){lv':Int}{yW:Value}(hu:(#[Value.int .i64 lv,vS,vD]:Array Value).setIfInBounds o u=#[.int .i64 lv',Vi,yW])(ho:wq.ownsRow (wr.heap.size+1) 81 1 Vi k' ys'):
  In wr (wq.setCell ⟨wr.heap.size,o,none⟩ u) b vL hm lv' Vi yW k' ys':=by
 have hl:=h.lt;refine⟨(Below.heap_setCell _ _ _ _ (by show b≠wr.heap.size;omega)).trans h.sh,nl h.gb aF _,?_,ownsRow_setCell_below ho (by show wr.heap.size<wr.heap.size+1;omega) _,hl⟩;rw[aP h.rb,hu]
theorem In.call (h:In wr wq b vL hm lv vS vD k ys){qv:Int}(hs:Sh w2 b vL qv)(hg:wq.grownBy w2 (some b)):In wr w2 b vL qv lv vS vD k ys:=by
 have hl:=h.lt;refine⟨hs,ns h.gb hg,(hg.block _ h.blt (λe=>by injection e with e;omega)).trans h.rb,h.own.kept hg ?_,hl⟩;cases hv:vS.ownBlock with
 | none=>exact ax rfl
 | some g=>right;intro e;injection e with e;have:=(h.own.lt g hv).1;omega
theorem In.alloc (h:In wr wq b vL hm lv vS vD k ys)(o:Obj):In wr (wq.alloc o) b vL hm lv vS vD k ys:=
 ⟨(Below.heap_alloc wq o b h.sh.lt).trans h.sh,xo h.gb o,(Below.heap_alloc wq o _ h.blt).trans h.rb,h.own.alloc o,h.lt⟩
theorem In.app (h:In wr wq b vL hm lv vS vD k ys)(hg:wq.grownBy w3 vS.ownBlock)(ho:w3.ownsRow (wr.heap.size+1) 81 1 Vi k' ys'):In wr (w3.setCell ⟨wr.heap.size,1,none⟩ Vi) b vL hm lv Vi vD k' ys':=by
 have hl:=h.lt
 have fG:∀j,j<=wr.heap.size->some j≠vS.ownBlock:=by
  intro j hj e;have:=(h.own.lt j e.symm).1;omega
 have hrb:w3.heap[wr.heap.size]?=some (.cells #[.int .i64 lv,vS,vD] 79 (0,0)):=(hg.block _ h.blt (fG _ aF)).trans h.rb;refine⟨(Below.heap_setCell _ _ _ _ (by show b≠wr.heap.size;omega)).trans ((hg.block b h.sh.lt (fG b (by omega))).trans h.sh),nl ?_ aF _,?_,ownsRow_setCell_below ho (by show wr.heap.size<wr.heap.size+1;omega) _,hl⟩
 ·exact⟨hg.os.trans h.gb.os,hg.tape.trans h.gb.tape,hg.output.trans h.gb.output,Nat.le_trans h.gb.size hg.size,
   λj hj hn=>(hg.block j (Nat.lt_of_lt_of_le hj h.gb.size) (fG j (by omega))).trans (h.gb.block j hj hn)⟩
 ·rw[aP hrb];rfl
theorem In.appBlk (h:In wr wq b vL hm lv vS vD k ys)(hg:wq.grownBy w3 vS.ownBlock):w3.heap[wr.heap.size]?=some (.cells #[.int .i64 lv,vS,vD] 79 (0,0)):=
 (hg.block _ h.blt (λe=>by have:=(h.own.lt _ e.symm).1;omega)).trans h.rb
theorem In.below (h:In wr wq b vL hm lv vS vD k ys)(hb:Below wq.heap.size wq w2):In wr w2 b vL hm lv vS vD k ys:=by
 have hg:wq.grownBy w2 (some b):=⟨hb.os,hb.tape,hb.output,hb.size,λj hj _=>hb.block j hj⟩;exact h.call ((hb.block b h.sh.lt).trans h.sh) hg
end
theorem pE {b:Nat}(h:w.grownBy w' (some b))(hb:b<aB)(e:TypeId):Keeps w w' aB e:=λg _ hg hh=>
 (h.block g (bG.1 hh).1 (λe=>by injection e with e;omega)).trans hh
theorem iE (h:Below w.heap.size w w')(aB:Nat)(e:TypeId):Keeps w w' aB e:=λg _ _ hh=>(h.block g (bG.1 hh).1).trans hh
structure RI (wr:World)(b:Nat)(s:ByteArray)(p q nr:Nat)(M:Int)(f:Nat)(wq:World)(hm:Int)(vL:Value)(lv:Int)(vS:Value)(ss:List (List (Nat × Nat)))(ys:List Value):Prop where
 inn:In wr wq b vL hm lv vS (.slice none 0 0) ss.length ys
 sels:RSels wq s (wr.heap.size+1) ys ss
 few:ss.length<=f - p
 lo:p<=f
 hi:f<=q+1
 go:f<q->RSelsPre s p f ss/\i9 hm f/\Acc s 2 ⟨nr,1,hm⟩ f M
 done:¬f<q->f=q+1/\rL s p q ss/\i9 hm q/\∃nc,Acc s 3 ⟨nr,nc,hm⟩ q M
structure RO (w:World)(b:Nat)(s:ByteArray)(M:Int)(f:Nat)(wr:World)(hm:Int)(vL:Value)(rs:List (List (List (Nat × Nat))))(xs:List Value):Prop where
 sh:Sh wr b vL hm
 bel:Below w.heap.size w wr
 own:wr.ownsRow (w.heap.size+1) 79 3 vL rs.length xs
 ruls:RRuls wr s (w.heap.size+1) xs rs
 info:RInfo wr s (w.heap.size+1) f xs
 few:rs.length<=f
 noted:i9 hm f
 le:f<=s.size
 text:RRulsAt s 0 f rs
 acc:∃nc,Acc s 0 ⟨rs.length,nc,hm⟩ f M
theorem Nj (s:ByteArray)(m:Int)(k:Cn)(i:Nat):(V s m k i).1=-1∨0<=(V s m k i).1:=by
 unfold V;generalize s.size - i=f
 induction f generalizing m k i with
 | zero=>simp only[Vf];split<;>simp
 | succ f ih=>
  simp only[Vf];split
  ·right;simp
  ·exact ih _ _ _
theorem bj {a e k:Nat}(he:e<=s.size)(hk:a+k<e):bt (s.extract a e) k=bt s (a+k):=by
 have h1:k<(s.extract a e).size:=by rw[ByteArray.size_extract];omega
 rw[bV _ _ h1,bV _ _ (by omega)];rw[ByteArray.getElem_extract]
theorem V3 {M:Int}{k:Cn}{q r:Nat}(h:Acc s 9 k (q+1) M)(ol:∀j,q+1<=j->j<r->bt s j≠125)(hr:r<=s.size)(Tc:q+1<=r)(GI:r<s.size->bt s r=125):DOK (s.extract (q+1) r):=by
 intro d hd hb;rw[ByteArray.size_extract] at hd;have hd':q+1+d<r:=by omega
 obtain⟨m,m1,m2,m3,m4⟩:=wX h ol hr d (by omega)
 have hm:m=9∨m=10:=by
  by_cases e:d=0
  ·exact ax (m3 e)
  ·rcases hb with hb | hb
   ·exact absurd hb e
   ·right;apply m4 (by omega);rw[bj hr (by omega)] at hb;rw[show q+1+d - 1=q+1+(d - 1) from by omega];exact hb
 obtain⟨t1,t2,t3,t4,t5,t6⟩:=Gt hm m2 (ol _ (by omega) hd')
 have hr3:q+1+d+2<r:=by
  apply Nat.lt_of_not_le;intro qU;have hc:r=q+1+d+1∨r=q+1+d+2:=by omega
  have:=GI (by omega);rcases hc with rfl | rfl
  ·exact t3 this
  ·exact t5 this
 refine⟨by rw[ByteArray.size_extract];omega,?_,?_,?_⟩
 ·rw[bj hr (by omega)];exact t1
 ·rw[bj hr (by omega)];exact t2
 ·rw[bj hr (by omega)];exact t4
end
end Go.Proofs.YtblfffbmklkhmabGreat
