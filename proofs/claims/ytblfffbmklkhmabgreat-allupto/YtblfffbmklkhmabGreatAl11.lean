/- Own work. -/
import Derived.Test.YtblfffbmklkhmabGreatAl10
set_option maxRecDepth 100000
set_option maxHeartbeats 40000000
namespace Go.Proofs.YtblfffbmklkhmabGreat
open Go.RowKit Go.Proofs.Tryz
section
variable {i p p0 q:Nat}{s u:ByteArray}{xs:List Nat}
theorem uZ (c:Nat):((c:Int)==35)=true/\rt c=1000000∨((c:Int)==35)=false/\(((c:Int)==46)=true/\rt c=1000∨((c:Int)==46)=false/\(((c:Int)==58)=true/\rt c=1000∨((c:Int)==58)=false/\(((c:Int)==42)=true/\rt c=0∨((c:Int)==42)=false/\rt c=1))):=by
 by_cases h1:c=35
 ·left;subst h1;exact⟨rfl,rfl⟩
 right;refine⟨by simp;omega,?_⟩
 by_cases h2:c=46
 ·left;subst h2;exact⟨rfl,rfl⟩
 right;refine⟨by simp;omega,?_⟩
 by_cases h3:c=58
 ·left;subst h3;exact⟨rfl,rfl⟩
 right;refine⟨by simp;omega,?_⟩
 by_cases h4:c=42
 ·left;subst h4;exact⟨rfl,rfl⟩
 right;exact⟨by simp;omega,by unfold rt;rw[aA h1,aA (by omega),aA h4]⟩
theorem yM (w:World)(t:ByteArray)(h1:gw t 0<t.size)(hs:t.size<=400):
  Calls prog 58 #[.string t] w λe w'=>e=.returned (.int .i64 (kN t 0))/\w'=w:=by
 by_cases i7:bt t 0=33
 ·have hk:gw t 0=1:=by unfold gw;rw[aE i7]
  rw[hk] at h1;have h0s:0<t.size:=by omega
  have OO:((t[0].toNat:Int)==33)=true:=by rw[<-bV t 0 h0s,i7];rfl
  have HV:Hid (kN t 0=rt (bt (t.extract 1 t.size) 0)):=by
   unfold Hid kN;rw[hk,bj aF (by omega)]
  have WK:0<(t.extract 1 t.size).size:=by rw[ByteArray.size_extract];omega
  have hvl:(t.extract 1 t.size).size<=400:=by rw[ByteArray.size_extract];omega
  clear hk i7;obtain⟨v,hv⟩:∃v,v=t.extract 1 t.size:=⟨_,rfl⟩;rw[<-hv] at HV WK hvl;have HVE:=aw hv;clear hv;have he:(v[0].toNat:Int)=(bt v 0:Int):=by rw[bV v 0 WK]
  have HE:=aw he;rw[HV.out];go_enter func58,ntmps58;go_upto_region 3 with fail;rw[<-HVE.out];rcases uZ (bt v 0) with⟨a,b⟩ | ⟨a,⟨a2,b⟩ | ⟨a2,⟨a3,b⟩ | ⟨a3,⟨a4,b⟩ | ⟨a4,b⟩⟩⟩⟩
  all_goals
   have HB:Hid _:=b;clear b;simp only[<-he] at *;go_wp2;go_ret;rw[HB.out];exact⟨rfl,rfl⟩
 ·have hk:gw t 0=0:=by unfold gw;rw[aA i7]
  rw[hk] at h1;have OO:((t[0].toNat:Int)==33)=false:=by rw[<-bV t 0 h1];simp;omega
  have HV:Hid (kN t 0=rt (bt t 0)):=by unfold Hid kN;rw[hk]
  have he:(bt t 0:Int)=(t[0].toNat:Int):=by rw[bV t 0 h1]
  rw[HV.out];have hw:=uZ (bt t 0);rw[he] at hw;clear hk i7 he HV;rcases hw with⟨a,b⟩ | ⟨a,⟨a2,b⟩ | ⟨a2,⟨a3,b⟩ | ⟨a3,⟨a4,b⟩ | ⟨a4,b⟩⟩⟩⟩
  all_goals
   rw[b];clear b;go_enter func58,ntmps58;go_wp2;go_ret;exact⟨rfl,rfl⟩
theorem Ot:∀{aV:List (Nat × Nat)} {cs:List eb},CS s aV cs->aV.length=cs.length
 | [],[],_=>rfl
 | (_,_) :: _,_ :: _,⟨_,h⟩=>by simp only[List.length_cons];rw[Ot h]
theorem QN:∀{a:List (List (Nat × Nat))} {b:List (List eb)},SS s a b->a.length=b.length
 | [],[],_=>rfl
 | _ :: _,_ :: _,⟨_,h⟩=>by simp only[List.length_cons];rw[QN h]
theorem QD:∀{a:List (List (List (Nat × Nat)))} {b:List dx},LRS s a b->a.length=b.length
 | [],[],_=>rfl
 | _ :: _,_ :: _,⟨_,h⟩=>by simp only[List.length_cons];rw[QD h]
theorem Vg:∀{a:List (List (Nat × Nat))} {b:List (List eb)} {i:Nat},SS s a b->(h:i<a.length)->(h':i<b.length)->CS s a[i] b[i]
 | _ :: _,_ :: _,0,⟨h,_⟩,_,_=>h
 | _ :: _,_ :: _,i+1,⟨_,h⟩,h1,h2=>Vg (i:=i) h (by simpa using h1) (by simpa using h2)
theorem Ve:∀{a:List (List (List (Nat × Nat)))} {b:List dx} {i:Nat},LRS s a b->(h:i<a.length)->(h':i<b.length)->SS s a[i] b[i].ss
 | _ :: _,_ :: _,0,⟨h,_⟩,_,_=>h
 | _ :: _,_ :: _,i+1,⟨_,h⟩,h1,h2=>Ve (i:=i) h (by simpa using h1) (by simpa using h2)
theorem Uv:∀{xs:List Value} {aV:List (Nat × Nat)} {cs:List eb} {i:Nat},Txs s xs aV->CS s aV cs->(h:i<cs.length)->∃p q,xs[i*2+1]?=some (.string (s.extract p q))/\fp s p q cs[i].ty cs[i].ps/\p<q/\q<=s.size
 | _,[],[],_,_,_,h=>absurd h (by simp)
 | _,[],_ :: _,_,_,hc,_=>hc.elim
 | _,(_,_) :: _,[],_,_,hc,_=>hc.elim
 | _,(p,q) :: _,_ :: _,0,⟨sg,ys,h1,_⟩,⟨h2,_⟩,_=>by subst h1;exact⟨p,q,rfl,h2⟩
 | _,(p,q) :: _,_ :: _,i+1,⟨sg,ys,h1,h3⟩,⟨_,h4⟩,h=>by
  obtain⟨p',q',e1,e2⟩:=Uv (i:=i) h3 h4 (by simpa using h);subst h1;rw[show(i+1)*2+1=i*2+1+2 from by omega];exact⟨p',q',by simpa using e1,by simpa using e2⟩
theorem mg {n:Nat}(hq:q<=s.size):(s.extract i q).extract n (s.extract i q).size=s.extract (i+n) q:=by
 apply ByteArray.ext;rw[ByteArray.size_extract];simp only[ByteArray.data_extract,Array.extract_extract]
 congr 1
 omega
theorem BS:s.extract q q=⟨#[]⟩:=by
 apply ByteArray.ext;simp
theorem IE:∀{xs:List Nat} {i q:Nat},yX s i q xs->i<=q
 | [],_,_,h=>by simp only[yX] at h;omega
 | _ :: _,_,_,⟨h,_,_⟩=>by omega
theorem Du:∀{xs:List Nat} {i q:Nat},yX s i q xs->xs.length<=q - i
 | [],_,_,_=>by simp
 | _ :: _,i,_,⟨h,_,h3⟩=>by
  have:=Du h3;have:=IE h3;have:=m6 s i;simp only[List.length_cons];omega
structure Rst (s:ByteArray)(q:Nat)(u:ByteArray)(i:Nat)(xs:List Nat)(p0 p:Nat):Prop where
 eq:u=s.extract i q
 le:i<=q
 cuts:yX s i q xs
 sum:p0+xs.sum=p
 all:∀x∈xs,x<=1000000
 few:xs.length<=q - i
theorem Rst.size (h:Rst s q u i xs p0 p)(hq:q<=s.size):u.size=q - i:=by
 rw[h.eq,ByteArray.size_extract];omega
theorem Rst.nil (h:Rst s q u i [] p0 p):u=⟨#[]⟩/\p0=p:=by
 have:=h.cuts;simp only[yX] at this;subst this;exact⟨by rw[h.eq,BS],by have:=h.sum;simpa using this⟩
theorem Rst.cons {x:Nat}(h:Rst s q u i (x :: xs) p0 p)(hq:q<=s.size):
  cB u 0<=u.size/\kN u 0=x/\Rst s q (u.extract (cB u 0) u.size) (i+cB u 0) xs (p0+x) p/\gw (u.extract 0 (cB u 0)) 0<(u.extract 0 (cB u 0)).size/\kN (u.extract 0 (cB u 0)) 0=x/\0<cB u 0:=by
 obtain⟨c1,c2,c3⟩:=h.cuts;have il:=h.size hq;obtain⟨e1,e2⟩:=BI c1 hq;rw[<-h.eq] at e1 e2;have hp:=m6 u 0;have hn:cB u 0<=u.size:=by rw[e1,il];omega
 have hb:bt (u.extract 0 (cB u 0)) 0=bt u 0:=by rw[bj hn (by omega)]
 have hK:gw (u.extract 0 (cB u 0)) 0=gw u 0:=by unfold gw;rw[hb]
 have uG:(u.extract 0 (cB u 0)).size=cB u 0:=by rw[ByteArray.size_extract];omega
 refine⟨hn,by rw[e2,c2],⟨?_,by rw[e1];omega,by rw[e1];exact c3,by have:=h.sum;simp only[List.sum_cons] at this;omega,λy hy=>h.all y (List.mem_cons_of_mem _ hy),?_⟩,by rw[hK,uG];omega,?_,by omega⟩
 ·rw[e1,h.eq];exact mg hq
 ·have:=h.few;simp only[List.length_cons] at this;have Rq:=m6 s i;rw[e1];have hx:=c3;have lX:=Du c3;omega
 ·unfold kN;rw[hK,Nat.zero_add,bj hn (by omega),Nat.zero_add];have:kN u 0=x:=by rw[e2,c2]
  unfold kN at this;rw[Nat.zero_add] at this;exact this
end
theorem Tl (v:ByteArray)(i:Nat)(r:List UInt8)(h:i<v.size∨r≠[]):ByteArray.toList.loop v i r≠[]:=by
 generalize hn:v.size - i=n
 induction n generalizing i r with
 | zero=>
  unfold ByteArray.toList.loop;rw[aA (by omega)];intro e;rcases h with h | h
  ·omega
  ·exact h (by simpa using e)
 | succ n ih=>
  unfold ByteArray.toList.loop;rw[aE (by omega)];exact ih _ _ (az (by simp)) (by omega)
theorem hE (v:ByteArray)(h:0<v.size):v.toList.isEmpty=false:=by
 have:=Tl v 0 [] (ax h);unfold ByteArray.toList;cases hl:ByteArray.toList.loop v 0 [] with
 | nil=>exact absurd hl this
 | cons a b=>rfl
theorem dE {B:Nat}{a w:World}(h:Below B a w)(n:Nat):Below B a (w.drewN n):=⟨h.os,h.tape,h.output,h.size,h.block⟩
theorem ER (w:World)(pa:Option Addr)(aB:Nat)(s:ByteArray)(a:Option Addr)(c:Nat)(aV:List (Nat × Nat))(cs:List eb)(xs:List Value)
  (ho:w.ownsRow aB 117 2 (.slice a aV.length c) aV.length xs) (ht:Txs s xs aV) (hc:CS s aV cs) (oS:o9 cs) (FX:s.size<=400) :
  Calls prog 24 #[.pointer pa,.slice a aV.length c] w λe w'=>VW w (qS cs) e w':=by
 have bT:=Ot hc;have HO:=uz ho ht hc oS;have hl:=oS.1;clear ho ht hc oS;rw[bT];rw[bT] at HO;clear bT;go_enter func24,ntmps24;go_wp2_with fail
 go_loopg [5,6] cs.length (λgk sv iv wr=>∃i:Nat,iv=.int .i64 i/\i<=cs.length/\cs.length - i<=gk/\sv=.int .i64 ((qS (cs.take i):Nat):Int)/\Below w.heap.size w wr)
 case atStart=>exact⟨0,rfl,bm,by omega,by simp[qS],bo⟩
 case round=>
  obtain⟨i,rfl,hi,fT,rfl,hB⟩:=hrel
  by_cases bc:i<cs.length
  ·have hd:decide ((i:Int)<(cs.length:Int))=true:=by simp;omega
   obtain⟨g,hg,di,gM⟩:=aX HO.out.1 (by omega);subst hg;obtain⟨p,q,e0,e1,e2,e3⟩:=Uv HO.out.2.1 HO.out.2.2.1 bc;have c0:=(hB.cell (p:=⟨g,i*2+1,none⟩) di).trans (gM _ _ e0);have HP:=aw (Dv bc);have mS:=mf HO.out.2.2.2 i;obtain⟨ws,f1,f2,f3,f4⟩:=zW e1 e2;have HR:Hid (Rst s q (s.extract p q) p ws (qS (cs.take i)) (qS (cs.take (i+1)))):=⟨rfl,by omega,f1,by rw[HP.out,f2],f3,f4⟩;have WL:ws.length<=400:=by omega
   clear e0 e1 e2 gM f1 f2 f3 f4 HP;generalize s.extract p q=u at c0 HR;generalize qS (cs.take i)=p0 at HR mS;obtain⟨P,hP⟩:∃P,P=qS (cs.take (i+1)):=⟨_,rfl⟩;rw[<-hP] at HR;have Ug:=aw hP;clear hP;obtain⟨wo,rfl⟩:∃wo,wo=wr:=⟨_,rfl⟩;go_wp2_with fail
   go_loopg [5,7] ws.length (λgk sv uv wr=>∃(v:ByteArray) (j:Nat) (ys:List Nat) (t:Nat),uv=.string v/\sv=.int .i64 (t:Int)/\ys.length<=gk/\ys.length<=ws.length/\t<=p0+1000000*(ws.length - ys.length)/\Hid (Rst s q v j ys t P)/\Below w.heap.size w wr)
   case atStart=>exact⟨u,p,ws,p0,rfl,rfl,aF,aF,by omega,HR.out,hB⟩
   case round=>
    obtain⟨v,j,ys,t,rfl,rfl,SW,hyl,htl,HR',hB'⟩:=hrel;cases ys with
    | nil=>
     obtain⟨r1,r2⟩:=HR'.out.nil;subst r1 r2;go_wp2;go_roundg (cs.length - (i+1))
     case measure=>omega
     case rel=>exact⟨i+1,by go_num,by omega,aF,by rw[<-Ug.out],hB'⟩
    | cons y ys=>
     obtain⟨r1,r2,r3,r4,r5,r6⟩:=HR'.out.cons e3;have WK:v.size<=400:=by rw[HR'.out.size e3];omega
     have fG:v.toList.isEmpty=false:=hE v (by omega);have hyy:=HR'.out.all y List.mem_cons_self;have HC:=uz r2 r3 r4 r5;have HN:=aw r1;simp only[List.length_cons] at SW hyl htl;clear r1 r2 r3 r4 r5 r6;go_wp2_with fail;refine(BH _ v HN.out WK).mono ?_;rintro e w2 ⟨rfl,n2,rfl⟩;go_wp2_with fail;refine(yM _ (v.extract 0 (cB v 0)) HC.out.2.2.1 (by rw[ByteArray.size_extract];omega)).mono ?_;rw[HC.out.2.2.2];rintro e w3 ⟨rfl,rfl⟩;have oG:=aw HC.out.2.1;generalize v.extract (cB v 0) v.size=v2 at oG;generalize v.extract 0 (cB v 0)=v3;clear HC HN fG;go_wp2;go_roundg ys.length
     case measure=>omega
     case rel=>exact⟨v2,_,ys,t+y,rfl,by go_num,aF,by omega,by omega,oG,dE hB' _⟩
  ·have hd:decide ((i:Int)<(cs.length:Int))=false:=by simp;omega
   obtain rfl:i=cs.length:=by omega
   go_wp2;go_ret;refine⟨?_,hB⟩;rw[List.take_length];rfl
structure wk (p:ByteArray):Prop where
 pos:0<p.size
 dot:bt p 0=46->1<p.size
 name:bt p 0=35->1<=p.size
 colon:bt p 0=58->1<p.size/\(bt p 1=102∨bt p 1=108∨bt p 1=101∨(3<p.size/\48<=bt p 2/\bt p 2<=57/\48<=bt p 3/\bt p 3<=57))
 few:p.size<=400
noncomputable def d8 (aa:List REl)(y:REl)(p:ByteArray):Bool:=
 if bt p 0=42 then true
 else if bt p 0=46 then ta (bt p 1) y.cl
 else if bt p 0=35 then(y.nm.toList==(p.extract 1 p.size).toList)
 else if bt p 0=58 then
  (if bt p 1=102 then decide ((dg aa y.num).1=1) else if bt p 1=108 then decide ((dg aa y.num).1=(dg aa y.num).2) else if bt p 1=101 then decide (y.kids.length=0) else lQ (dg aa y.num).1 (bt p 2 - 48) (bt p 3 - 48))
 else(y.kd.toList==p.toList)
def HPost (w:World)(r:Bool)(e:Ending)(w':World):Prop:=e=.returned (.bool r)/\Drew w w'
theorem Ao (w:World)(d:Nat)(aa:List REl)(ae:Nat)(hp:Option Addr)(vT:Value)(br:Bool)(vL:Value)(y:REl)(p:ByteArray)(h:RD w d aa ae hp vT br vL)(hy:y∈aa)(lX:y.cl.size<=maxLen)(qV:wk p):
  Calls prog 162 #[.pointer (some ⟨d,0,none⟩),.pointer (some ⟨y.blk,0,none⟩),.string p] w λe w'=>HPost w (d8 aa y p) e w':=by
 have HR:=aw h;have HO:=kC qV hy lX;have y0:w.cell? ⟨y.blk,0,none⟩=some (.int .i64 y.num):=au (h.el y hy) rfl;have y1:w.cell? ⟨y.blk,1,none⟩=some (.string y.kd):=au (h.el y hy) rfl;have y2:w.cell? ⟨y.blk,2,none⟩=some (.string y.cl):=au (h.el y hy) rfl;have y3:w.cell? ⟨y.blk,3,none⟩=some (.string y.nm):=au (h.el y hy) rfl;have y4:w.cell? ⟨y.blk,4,none⟩=some y.ks:=au (h.el y hy) rfl;have Po:=CF h y.num;obtain⟨ak,ck,te⟩:=aK (h.kid y hy);rw[te] at y4;have h0:0<p.size:=qV.pos;have lW:(p[0].toNat:Int)=(bt p 0:Int):=by rw[bV p 0 h0]
 have S3:=h.kfew y hy;clear h hy lX qV te;go_enter func162,ntmps162;go_wp2_with fail;refine(yw _ d aa ae hp vT br _ y.num HR.out).mono ?_;rintro e w1 ⟨rfl,rfl⟩;obtain⟨w,rfl⟩:∃w,w=w1:=⟨_,rfl⟩
 by_cases td:bt p 0=42
 ·have HE:Hid (d8 aa y p=true):=by unfold Hid d8;rw[aE td]
  have g42:((bt p 0:Int)==42)=true:=by simp[td]
  clear td;go_wp2;go_ret;exact⟨by rw[HE.out];rfl,0,rfl⟩
 have g42:((bt p 0:Int)==42)=false:=by rw[fq];omega
 by_cases h46:bt p 0=46
 ·have HE:Hid (d8 aa y p=ta (bt p 1) y.cl):=by unfold Hid d8;rw[aA td,aE h46]
  have g46:((bt p 0:Int)==46)=true:=by simp[h46]
  have h1:=HO.out.1.dot h46;have mS:(p[1].toNat:Int)=(bt p 1:Int):=by rw[bV p 1 h1]
  have HAM:Hid (∀k,Calls prog 92 #[.int .u8 (bt p 1),.string y.cl] (w.drewN k) λe w'=>e=.returned (.bool (ta (bt p 1) y.cl))/\w'=w.drewN k):=λk=>bI _ _ _ HO.out.2.2;clear td h46;go_upto_region 6 with fail;go_quiet ((go_at_call 92;exact Calls.quiet_of_same (HAM.out _)));go_wp2;go_ret;exact⟨by rw[HE.out];rfl,nq,rfl⟩
 have g46:((bt p 0:Int)==46)=false:=by rw[fq];omega
 by_cases h35:bt p 0=35
 ·have HE:Hid (d8 aa y p=(y.nm.toList==(p.extract 1 p.size).toList)):=by unfold Hid d8;rw[aA td,aA h46,aE h35]
  have g35:((bt p 0:Int)==35)=true:=by simp[h35]
  have h1:=HO.out.1.name h35;clear td h46 h35;go_upto_region 8 with fail;go_quiet (fail);go_wp2;go_ret;exact⟨by rw[HE.out];rfl,nq,rfl⟩
 have g35:((bt p 0:Int)==35)=false:=by rw[fq];omega
 by_cases h58:bt p 0=58
 ·have Wa:((bt p 0:Int)==58)=true:=by simp[h58]
  obtain⟨h1,hO⟩:=HO.out.1.colon h58;have mS:(p[1].toNat:Int)=(bt p 1:Int):=by rw[bV p 1 h1]
  have rF:Hid (d8 aa y p=if bt p 1=102 then decide ((dg aa y.num).1=1) else if bt p 1=108 then decide ((dg aa y.num).1=(dg aa y.num).2) else if bt p 1=101 then decide (y.kids.length=0) else lQ (dg aa y.num).1 (bt p 2 - 48) (bt p 3 - 48)):=by unfold Hid d8;rw[aA td,aA h46,aA h35,aE h58]
  clear td h46 h35 h58;obtain⟨Pi,uG⟩:=Po;generalize (dg aa y.num).1=af at rF Pi ⊢;generalize (dg aa y.num).2=n at rF uG ⊢
  by_cases h102:bt p 1=102
  ·have V5:((bt p 1:Int)==102)=true:=by simp[h102]
   have HE:Hid (d8 aa y p=((af:Int)==1)):=by unfold Hid;rw[rF.out,aE h102];by_cases e:af=1<;>simp[e];omega
   clear h102 rF hO;go_wp2;go_ret;exact⟨by rw[HE.out];rfl,0,rfl⟩
  have V5:((bt p 1:Int)==102)=false:=by rw[fq];omega
  by_cases h108:bt p 1=108
  ·have V7:((bt p 1:Int)==108)=true:=by simp[h108]
   have HE:Hid (d8 aa y p=((af:Int)==(n:Int))):=by unfold Hid;rw[rF.out,aA h102,aE h108];by_cases e:af=n<;>simp[e];omega
   clear h102 h108 rF hO;go_wp2;go_ret;exact⟨by rw[HE.out];rfl,0,rfl⟩
  have V7:((bt p 1:Int)==108)=false:=by rw[fq];omega
  by_cases h101:bt p 1=101
  ·have V4:((bt p 1:Int)==101)=true:=by simp[h101]
   have HE:Hid (d8 aa y p=((y.kids.length:Int)==0)):=by unfold Hid;rw[rF.out,aA h102,aA h108,aE h101];by_cases e:y.kids.length=0<;>simp[e]
   clear h102 h108 h101 rF hO;go_wp2;go_ret;exact⟨by rw[HE.out];rfl,0,rfl⟩
  have V4:((bt p 1:Int)==101)=false:=by rw[fq];omega
  obtain⟨h3,l2,u2,l3,u3⟩:3<p.size/\48<=bt p 2/\bt p 2<=57/\48<=bt p 3/\bt p 3<=57:=by rcases hO with h | h | h | h<;>first | exact h | omega
  have HE:Hid (d8 aa y p=lQ af (bt p 2 - 48) (bt p 3 - 48)):=by unfold Hid;rw[rF.out,aA h102,aA h108,aA h101]
  have h2:2<p.size:=by omega
  have oW:(p[2].toNat:Int)=(bt p 2:Int):=by rw[bV p 2 h2]
  have lu:(p[3].toNat:Int)=(bt p 3:Int):=by rw[bV p 3 h3]
  have Bs:Hid (∀k,Calls prog 172 #[.int .i64 (af:Nat),.int .i64 ((bt p 2:Int) - 48),.int .i64 ((bt p 3:Int) - 48)] (w.drewN k) λe w'=>e=.returned (.bool (lQ af (bt p 2 - 48) (bt p 3 - 48)))/\w'=w.drewN k):=λk=>by
   have:=EP (w.drewN k) af (bt p 2 - 48) (bt p 3 - 48) Pi (by omega) (by omega);rw[show((bt p 2 - 48:Nat):Int)=(bt p 2:Int) - 48 from by omega,show((bt p 3 - 48:Nat):Int)=(bt p 3:Int) - 48 from by omega] at this;exact this
  clear h102 h108 h101 rF hO;go_upto_region 17 with fail;go_quiet ((go_at_call 172;exact Calls.quiet_of_same (Bs.out _)));go_wp2;go_ret;exact⟨by rw[HE.out];rfl,nq,rfl⟩
 ·have Wa:((bt p 0:Int)==58)=false:=by rw[fq];omega
  have HE:Hid (d8 aa y p=(y.kd.toList==p.toList)):=by unfold Hid d8;rw[aA td,aA h46,aA h35,aA h58]
  clear td h46 h35 h58;go_wp2;go_ret;exact⟨by rw[HE.out];rfl,0,rfl⟩
noncomputable def oO (aa:List REl)(y:REl)(p:ByteArray):Bool:=if bt p 0=33 then !d8 aa y (p.extract 1 p.size) else d8 aa y p
structure PartOK (p:ByteArray):Prop where
 pos:0<p.size
 turned:bt p 0=33->wk (p.extract 1 p.size)
 plain:bt p 0≠33->wk p
def rO:Nat->ByteArray->Prop
 | 0,u=>u.size=0
 | f+1,u=>u.size=0∨(cB u 0<=u.size/\u.size<=400/\PartOK (u.extract 0 (cB u 0))/\rO f (u.extract (cB u 0) u.size))
noncomputable def gU (aa:List REl)(y:REl):Nat->ByteArray->Bool
 | 0,_=>true
 | f+1,u=>if u.size=0 then true else oO aa y (u.extract 0 (cB u 0))&&gU aa y f (u.extract (cB u 0) u.size)
theorem eS {u:ByteArray}(h:u.size=0):u=⟨#[]⟩:=by
 have:=ByteArray.size_eq_zero_iff.1 h;exact this
theorem OJ (w:World)(d:Nat)(aa:List REl)(ae:Nat)(hp:Option Addr)(vT:Value)(br:Bool)(vL:Value)(y:REl)(u:ByteArray)(f:Nat)(h:RD w d aa ae hp vT br vL)(hy:y∈aa)(lX:y.cl.size<=maxLen)(qV:rO f u):
  Calls prog 151 #[.pointer (some ⟨d,0,none⟩),.pointer (some ⟨y.blk,0,none⟩),.string u] w λe w'=>HPost w (gU aa y f u) e w':=by
 have HR:=aw h;have HO:=bZ hy lX;have HT:=aw qV;clear h hy lX qV;go_enter func151,ntmps151;go_wp2_with fail
 go_loopg [2] f (λgk sv wr=>∃(t:ByteArray),sv=.string t/\Hid (Drew w wr/\rO gk t/\gU aa y f u=gU aa y gk t))
 case atStart=>exact⟨u,rfl,⟨0,rfl⟩,HT.out,rfl⟩
 case round=>
  obtain⟨t,rfl,HN⟩:=hrel
  by_cases h0:t.size=0
  ·have HE:Hid (gU aa y f u=true):=by
    unfold Hid;rw[HN.out.2.2];cases gk with
    | zero=>rfl
    | succ g=>show(if _ then _ else _)=_;rw[aE h0]
   obtain rfl:=eS h0;clear h0;go_wp2;go_ret;exact⟨by rw[HE.out];rfl,HN.out.1⟩
  ·have fG:=hE t (by omega)
   obtain⟨g,rfl⟩:∃g,gk=g+1:=by
    cases gk with
    | zero=>exact absurd HN.out.2.1 h0
    | succ g=>exact⟨g,rfl⟩
   have UQ:=(show rO (g+1) t from HN.out.2.1).resolve_left h0;have HQ:=aw UQ
   have HF:Hid (gU aa y f u=(oO aa y (t.extract 0 (cB t 0))&&gU aa y g (t.extract (cB t 0) t.size))):=by
    unfold Hid;rw[HN.out.2.2];show(if _ then _ else _)=_;rw[aA h0]
   have HD:=aw HN.out.1;clear h0 UQ HN;go_wp2_with fail;refine(BH wr t HQ.out.1 HQ.out.2.1).mono ?_;rintro e w1 ⟨rfl,m,rfl⟩;have jK:=aw (ln HD.out m);clear HD fG;generalize wr.drewN m=wq at jK ⊢;have HRq:=aw (HR.out.below jK.out.below);have iL:=aw HQ.out.2.2;clear HQ;generalize t.extract 0 (cB t 0)=p at HF iL ⊢;generalize t.extract (cB t 0) t.size=r at HF iL ⊢;have h0:0<p.size:=iL.out.1.pos;have lW:(p[0].toNat:Int)=(bt p 0:Int):=by rw[bV p 0 h0]
   by_cases i7:bt p 0=33
   ·have OO:((bt p 0:Int)==33)=true:=by simp[i7]
    have HP:Hid (oO aa y p=!d8 aa y (p.extract 1 p.size)):=by unfold Hid oO;rw[aE i7]
    have HH:=aw (iL.out.1.turned i7);have h1:1<=p.size:=by omega
    clear i7;go_wp2_with fail;refine(Ao wq d aa ae hp vT br vL y (p.extract 1 p.size) HRq.out HO.out.1 HO.out.2 HH.out).mono ?_;rintro e w2 ⟨rfl,rB⟩
    have oZ:Hid (Drew w w2):=by
     obtain⟨k,hk⟩:=rB;rw[hk];exact ln jK.out k
    clear rB;cases hh:d8 aa y (p.extract 1 p.size) with
    | true=>
     have HE:Hid (gU aa y f u=false):=by unfold Hid;rw[HF.out,HP.out,hh];rfl
     clear hh lW;go_wp2;go_ret;exact⟨by rw[HE.out];rfl,oZ.out⟩
    | false=>
     have HE:Hid (gU aa y f u=gU aa y g r):=by unfold Hid;rw[HF.out,HP.out,hh];rfl
     clear hh lW;go_wp2;go_roundg g
     case measure=>omega
     case rel=>exact⟨r,rfl,oZ.out,iL.out.2,HE.out⟩
   ·have OO:((bt p 0:Int)==33)=false:=by rw[fq];omega
    have HP:Hid (oO aa y p=d8 aa y p):=by unfold Hid oO;rw[aA i7]
    have HH:=aw (iL.out.1.plain i7);clear i7;go_wp2_with fail;refine(Ao wq d aa ae hp vT br vL y p HRq.out HO.out.1 HO.out.2 HH.out).mono ?_;rintro e w2 ⟨rfl,rB⟩
    have oZ:Hid (Drew w w2):=by
     obtain⟨k,hk⟩:=rB;rw[hk];exact ln jK.out k
    clear rB;cases hh:d8 aa y p with
    | false=>
     have HE:Hid (gU aa y f u=false):=by unfold Hid;rw[HF.out,HP.out,hh];rfl
     clear hh lW;go_wp2;go_ret;exact⟨by rw[HE.out];rfl,oZ.out⟩
    | true=>
     have HE:Hid (gU aa y f u=gU aa y g r):=by unfold Hid;rw[HF.out,HP.out,hh];rfl
     clear hh lW;go_wp2;go_roundg g
     case measure=>omega
     case rel=>exact⟨r,rfl,oZ.out,iL.out.2,HE.out⟩
def Yl (w:World)(r:Bool)(e:Ending)(w':World):Prop:=e=.returned (.bool r)/\Below w.heap.size w w'
def nV (m1:Bool)(l1 h1 a1:Int)(m2:Bool)(l2 h2 a2:Int):Bool:=
 if m1≠m2 then m1 else if l1≠l2 then(if m1=true then decide (l1<l2) else decide (l2<l1)) else if h1≠h2 then decide (h2<h1) else decide (a2<a1)
theorem Q3 (w:World)(p1:Int)(v1:ByteArray)(m1:Bool)(l1 h1 a1:Int)(p2:Int)(v2:ByteArray)(m2:Bool)(l2 h2 a2:Int):
  Calls prog 102 #[.agg #[.int .u8 p1,.string v1,.bool m1,.int .i64 l1,.int .i64 h1,.int .i64 a1],.agg #[.int .u8 p2,.string v2,.bool m2,.int .i64 l2,.int .i64 h2,.int .i64 a2]] w λe w'=>Yl w (nV m1 l1 h1 a1 m2 l2 h2 a2) e w':=by
 by_cases hm:m1=m2
 ·subst hm
  by_cases hl:l1=l2
  ·subst hl
   by_cases hh:h1=h2
   ·subst hh;have HE:Hid (nV m1 l1 h1 a1 m1 l1 h1 a2=decide (a2<a1)):=by unfold Hid nV;simp
    go_enter func102,ntmps102;go_wp2;go_ret;exact⟨by rw[HE.out];rfl,(bo.alloc aF _).alloc (by simp) _⟩
   ·have gh:(h1 != h2)=true:=by rw[bne_iff_ne];exact hh
    have HE:Hid (nV m1 l1 h1 a1 m1 l1 h2 a2=decide (h2<h1)):=by unfold Hid nV;simp[hh]
    clear hh;go_enter func102,ntmps102;go_wp2;go_ret;exact⟨by rw[HE.out];rfl,(bo.alloc aF _).alloc (by simp) _⟩
  ·have gl:(l1 != l2)=true:=by rw[bne_iff_ne];exact hl
   cases m1 with
   | true=>
    have HE:Hid (nV true l1 h1 a1 true l2 h2 a2=decide (l1<l2)):=by unfold Hid nV;simp[hl]
    clear hl;go_enter func102,ntmps102;go_wp2;go_ret;exact⟨by rw[HE.out];rfl,(bo.alloc aF _).alloc (by simp) _⟩
   | false=>
    have HE:Hid (nV false l1 h1 a1 false l2 h2 a2=decide (l2<l1)):=by unfold Hid nV;simp[hl]
    clear hl;go_enter func102,ntmps102;go_wp2;go_ret;exact⟨by rw[HE.out];rfl,(bo.alloc aF _).alloc (by simp) _⟩
 ·have HE:Hid (nV m1 l1 h1 a1 m2 l2 h2 a2=m1):=by unfold Hid nV;rw[aE hm]
  have HM:=aw hm;clear hm;cases m1 with
  | true=>
   cases m2 with
   | true=>exact absurd rfl HM.out
   | false=>
    clear HM;go_enter func102,ntmps102;go_wp2;go_ret;exact⟨by rw[HE.out];rfl,(bo.alloc aF _).alloc (by simp) _⟩
  | false=>
   cases m2 with
   | false=>exact absurd rfl HM.out
   | true=>
    clear HM;go_enter func102,ntmps102;go_wp2;go_ret;exact⟨by rw[HE.out];rfl,(bo.alloc aF _).alloc (by simp) _⟩
def fa (s:ByteArray):Option Nat:=if s.size=0 then none else if bt s 0=36 then fw (bt s 1) else none
structure qA (s:ByteArray):Prop where
 few:s.size<=400
 var:0<s.size->bt s 0=36->1<s.size/\∃q,fw (bt s 1)=some q/\6<=q/\q<9
structure VO (cs:Array Value)(W:Nat->ByteArray):Prop where
 size:cs.size=9
 at':∀i,i<9->cs[i]?=some (.string (W i))
 ok:∀i,i<9->qA (W i)
def cg (W:Nat->ByteArray)(v:Nat):Nat->Nat->Bool
 | 0,_=>false
 | n+1,a=>match fa (W a) with | none=>false | some q=>if q=v then true else cg W v n q
theorem PK (w:World){cs:Array Value}{W:Nat->ByteArray}(h:VO cs W)(t:TypeId){i:Nat}(hi:i<9):(w.alloc (.cells cs t)).cell? ⟨w.heap.size,i,none⟩=some (.string (W i)):=by
 rw[cell_of_row _ _ i cs t (0,0) (heap_alloc_new w _)];exact h.at' i hi
theorem Nr (w:World)(cs:Array Value)(W:Nat->ByteArray)(v:Nat)(h:VO cs W)(hv:v<9):
  Calls prog 132 #[.agg cs,.int .i64 v] w λe w'=>Yl w (cg W v 9 v) e w':=by
 have HN:=aw h;have il:cs.size=9:=h.size;have HB:Hid (Below w.heap.size w (w.alloc (.cells cs 168))):=bo.alloc aF _;have HC:Hid (∀i,i<9->(w.alloc (.cells cs 168)).cell? ⟨w.heap.size,i,none⟩=some (.string (W i))):=λi hi=>PK w h _ hi;clear h;go_enter func132,ntmps132;go_wp2_with fail;obtain⟨W1,UE⟩:∃W1,W1=w.alloc (.cells cs 168):=⟨_,rfl⟩;rw[<-UE] at HB HC ⊢;clear UE il
 go_loop [5,6] (λav iv=>∃(a i:Nat),av=.int .i64 a/\iv=.int .i64 i/\a<9/\i<=9/\Hid (cg W v 9 v=cg W v (9 - i) a)) (λ_ iv=>9 - (intOf iv).toNat)
 case atStart=>exact⟨v,0,rfl,rfl,hv,by omega,rfl⟩
 case round=>
  obtain⟨a,i,rfl,rfl,ha,hi,HR⟩:=hrel
  by_cases bc:i<9
  ·have hd:decide ((i:Int)<9)=true:=by simp;omega
   have q:=HC.out a ha;have HV:=aw (HN.out.ok a ha)
   have HS:Hid (cg W v 9 v=match fa (W a) with | none=>false | some q=>if q=v then true else cg W v (9 - (i+1)) q):=by
    unfold Hid;rw[HR.out,show 9 - i=(9 - (i+1))+1 from by omega];rfl
   have hal:(a:Int)<9:=by omega
   clear HR;generalize W a=s at q HV HS
   by_cases h0:s.size=0
   ·have HE:Hid (cg W v 9 v=false):=by unfold Hid;rw[HS.out];unfold fa;rw[aE h0]
    obtain rfl:=eS h0;clear h0 HS;go_wp2;go_ret;exact⟨by rw[HE.out];rfl,HB.out⟩
   ·have fG:=hE s (by omega);have h0':0<s.size:=by omega
    have lW:(s[0].toNat:Int)=(bt s 0:Int):=by rw[bV s 0 h0']
    by_cases vi:bt s 0=36
    ·have g36:((bt s 0:Int) != 36)=false:=by simp[vi]
     obtain⟨h1,qq,sd,zj,hq3⟩:=HV.out.var h0' vi;have rF:Hid (cg W v 9 v=if qq=v then true else cg W v (9 - (i+1)) qq):=by unfold Hid;rw[HS.out];unfold fa;rw[aA h0,aE vi,sd]
     have mS:(s[1].toNat:Int)=(bt s 1:Int):=by rw[bV s 1 h1]
     have HQ:=aw sd;clear h0 vi HS sd;go_wp2_with fail;refine(qn W1 (bt s 1)).mono ?_;rintro e w2 ⟨r,rfl,rfl,Rg⟩;obtain⟨W1,rfl⟩:∃W1,W1=w2:=⟨_,rfl⟩
     obtain rfl:r=qq:=by
      have h1:=HQ.out;rcases Rg.out with⟨_,h2⟩ | ⟨_,h2⟩
      ·rw[h1] at h2;injection h2 with h2;exact h2.symm
      ·rw[h1] at h2;cases h2
     clear Rg HQ
     by_cases hrv:r=v
     ·have gr:((r:Int)==(v:Int))=true:=by simp[hrv]
      have HE:Hid (cg W v 9 v=true):=by unfold Hid;rw[rF.out,aE hrv]
      clear hrv rF;go_wp2;go_ret;exact⟨by rw[HE.out];rfl,HB.out⟩
     ·have gr:((r:Int)==(v:Int))=false:=by rw[fq];omega
      have HE:Hid (cg W v 9 v=cg W v (9 - (i+1)) r):=by unfold Hid;rw[rF.out,aA hrv]
      clear hrv rF;go_wp2
      go_round
      case rel=>exact⟨r,i+1,rfl,by go_num,by omega,by omega,HE⟩
      case measure=>simp[intOf];omega
    ·have g36:((bt s 0:Int) != 36)=true:=by rw[bne_iff_ne];omega
     have HE:Hid (cg W v 9 v=false):=by unfold Hid;rw[HS.out];unfold fa;rw[aA h0,aA vi]
     clear h0 vi HS;go_wp2;go_ret;exact⟨by rw[HE.out];rfl,HB.out⟩
  ·have hd:decide ((i:Int)<9)=false:=by simp;omega
   have HE:Hid (cg W v 9 v=false):=by unfold Hid;rw[HR.out,show 9 - i=0 from by omega];rfl
   go_wp2;go_ret;exact⟨by rw[HE.out];rfl,HB.out⟩
section
variable {W:Nat->ByteArray}{cs:List Value}
def kB (s:ByteArray):Nat->Nat
 | 0=>0
 | i+1=>kB s i*10+(bt s i - 48)
theorem Ou (s:ByteArray):∀i,i<=3->(∀k,k<i->bt s k<=57)->kB s i<=999
 | 0,_,_=>bm
 | 1,_,h=>by have:=h 0 (by omega);simp[kB];omega
 | 2,_,h=>by have:=h 0 (by omega);have:=h 1 (by omega);simp[kB];omega
 | 3,_,h=>by have:=h 0 (by omega);have:=h 1 (by omega);have:=h 2 (by omega);simp[kB];omega
 | i+4,h,_=>by omega
structure qN (s:ByteArray):Prop where
 num:0<s.size->bt s 0≠36->bt s 0≠105->bt s 0≠114->bt s 0≠117->s.size<=3/\∀k,k<s.size->48<=bt s k/\bt s k<=57
 one:bt s 0=117->s.size=1
noncomputable def du (W:Nat->ByteArray)(C:Nat->Int):Nat->Nat->Int
 | 0,p=>C p
 | f+1,p=>
  if(W p).size=0∨bt (W p) 0=117 then(if jr p=true then C p else eT p)
  else if bt (W p) 0=105 then C p
  else if bt (W p) 0=114 then eT p
  else if bt (W p) 0=36 then(if cg W p 9 p=true then C p else du W C f ((fw (bt (W p) 1)).getD 0))
  else(kB (W p) (W p).size:Int)
def wF (W:Nat->ByteArray):Nat->Nat->Prop
 | 0,p=>fa (W p)=none∨cg W p 9 p=true
 | f+1,p=>fa (W p)=none∨cg W p 9 p=true∨∃q,fa (W p)=some q/\wF W f q
structure NineL (cs:List Value)(W:Nat->ByteArray):Prop where
 len:cs.length=9
 at':∀i,i<9->cs[i]?=some (.string (W i))
 ok:∀i,i<9->qA (W i)
 num:∀i,i<9->qN (W i)
 one:∀v∈cs,v.oneCell'=true
structure qw (cs:List Value)(C:Nat->Int):Prop where
 len:cs.length=9
 at':∀i,i<9->cs[i]?=some (.int .i64 (C i))
 one:∀v∈cs,v.oneCell'=true
theorem NineL.nine (h:NineL cs W):VO cs.toArray W:=⟨by simp[h.len],λi hi=>by simpa using h.at' i hi,h.ok⟩
def Ni (w:World)(n:Int)(e:Ending)(w':World):Prop:=e=.returned (.int .i64 n)/\Below w.heap.size w w'
theorem nO {w wr:World}{aB:Nat}(hB:Below aB w wr){g o:Nat}(hg:g<aB)(h:w.rangeAt g o cs):wr.rangeAt g o cs:=
 λj v hv=>(hB.cell (p:=⟨g,o+j,none⟩) hg).trans (h j v hv)
theorem yc (w:World)(cs:List Value)(t:TypeId):(w.alloc (.cells cs.toArray t)).rangeAt w.heap.size 0 cs:=λj v hv=>by
 rw[Nat.zero_add,cell_of_row _ _ j cs.toArray t (0,0) (heap_alloc_new w _)];simpa using hv
theorem Ep (h:NineL cs W):cs.toArray=#[.string (W 0),.string (W 1),.string (W 2),.string (W 3),.string (W 4),.string (W 5),.string (W 6),.string (W 7),.string (W 8)]:=by
 apply Array.ext_getElem?;intro i
 by_cases hi:i<9
 ·have h1:=h.at' i hi;rw[List.getElem?_toArray,h1];have:i=0∨i=1∨i=2∨i=3∨i=4∨i=5∨i=6∨i=7∨i=8:=by omega
  rcases this with rfl | rfl | rfl | rfl | rfl | rfl | rfl | rfl | rfl<;>rfl
 ·rw[Array.getElem?_eq_none (by have:=h.len;simp;omega),Array.getElem?_eq_none (by simp;omega)]
theorem Cc {C:Nat->Int}(h:qw cs C):cs.toArray=#[.int .i64 (C 0),.int .i64 (C 1),.int .i64 (C 2),.int .i64 (C 3),.int .i64 (C 4),.int .i64 (C 5),.int .i64 (C 6),.int .i64 (C 7),.int .i64 (C 8)]:=by
 apply Array.ext_getElem?;intro i
 by_cases hi:i<9
 ·have h1:=h.at' i hi;rw[List.getElem?_toArray,h1];have:i=0∨i=1∨i=2∨i=3∨i=4∨i=5∨i=6∨i=7∨i=8:=by omega
  rcases this with rfl | rfl | rfl | rfl | rfl | rfl | rfl | rfl | rfl<;>rfl
 ·rw[Array.getElem?_eq_none (by have:=h.len;simp;omega),Array.getElem?_eq_none (by simp;omega)]
theorem Lb (v:ByteArray)(i:Nat)(r:List UInt8):ByteArray.toList.loop v i r=r.reverse++v.data.toList.drop i:=by
 generalize hn:v.size - i=n
 induction n generalizing i r with
 | zero=>
  unfold ByteArray.toList.loop;rw[aA (by omega),List.drop_of_length_le (by rw[Array.length_toList];exact Nat.le_of_sub_eq_zero hn),List.append_nil]
 | succ n ih=>
  unfold ByteArray.toList.loop;have hi:i<v.data.toList.length:=by rw[Array.length_toList];exact(show i<v.size from by omega)
  rw[aE (by omega),ih _ _ (by omega),List.drop_eq_getElem_cons hi,List.reverse_cons,List.append_assoc]
  congr 1
  have h2:i<v.data.size:=by simpa using hi
  have h3:v.get! i=v.data.toList[i]:=by
   show v.data[i]! = _;rw[getElem!_pos v.data i h2];simp
  rw[h3];rfl
theorem mC (v:ByteArray):v.toList=v.data.toList:=by
 unfold ByteArray.toList;rw[Lb];simp
theorem Fq (v:ByteArray)(h:0<v.size):(v.toList==[117])=decide (v.size=1/\bt v 0=117):=by
 rw[mC];have hl:v.data.toList.length=v.size:=by rw[Array.length_toList];rfl
 have hb:bt v 0=(v.data.toList[0]'(by omega)).toNat:=by
  rw[bV v 0 h];simp;rfl
 by_cases hc:v.size=1/\bt v 0=117
 ·rw[decide_eq_true hc,beq_iff_eq];obtain⟨h1,h2⟩:=hc;apply List.ext_getElem (by rw[hl,h1];rfl);intro j XJ MJ;have hj:j=0:=by simp at MJ;omega
  subst hj;rw[hb] at h2;simp only[List.getElem_cons_zero];exact UInt8.toNat_inj.1 h2
 ·rw[decide_eq_false hc,fq];intro he;refine hc ⟨by rw[<-hl,he];rfl,?_⟩;rw[hb];simp only[he,List.getElem_cons_zero];rfl
theorem Tryz.sz168:(Tryz.prog.info? 168).map (·.size)=some 9:=by kernel_rfl
theorem Tryz.sz131:(Tryz.prog.info? 131).map (·.size)=some 9:=by kernel_rfl
noncomputable def jW (W:Nat->ByteArray)(C V:Nat->Int)(p:Nat):Int:=
 if(W p).size=0∨bt (W p) 0=117 then(if jr p=true then C p else eT p)
 else if bt (W p) 0=105 then C p
 else if bt (W p) 0=114 then eT p
 else if bt (W p) 0=36 then(if cg W p 9 p=true then C p else V ((fw (bt (W p) 1)).getD 0))
 else(kB (W p) (W p).size:Int)
theorem yO (cs ci:List Value)(W:Nat->ByteArray)(C V:Nat->Int)(P:Nat->Prop)(h:NineL cs W)(hC:qw ci C)
  (ih:∀(w:World) (q:Nat),q<9->P q->Calls prog 104 #[.agg cs.toArray,.agg ci.toArray,.int .i64 q] w λe w'=>Ni w (V q) e w') (w:World) (p:Nat) (hp:p<9) (ht:fa (W p)=none∨cg W p 9 p=true∨∃q,fa (W p)=some q/\P q) :
  Calls prog 104 #[.agg cs.toArray,.agg ci.toArray,.int .i64 p] w λe w'=>Ni w (jW W C V p) e w':=by
 have HL:Hid (NineL cs W/\qw ci C):=⟨h,hC⟩;have HT:Hid (fa (W p)=none∨cg W p 9 p=true∨∃q,fa (W p)=some q/\P q):=ht;have Vt:Hid (∀(w:World) (q:Nat),q<9->P q->Calls prog 104 #[.agg cs.toArray,.agg ci.toArray,.int .i64 q] w λe w'=>Ni w (V q) e w'):=ih;have HB:Hid (Below w.heap.size w ((w.alloc (.cells cs.toArray 168)).alloc (.cells ci.toArray 131))):=(bo.alloc aF _).alloc (by simp) _
 have M3:Hid (((w.alloc (.cells cs.toArray 168)).alloc (.cells ci.toArray 131)).rangeAt w.heap.size 0 cs/\((w.alloc (.cells cs.toArray 168)).alloc (.cells ci.toArray 131)).rangeAt (w.heap.size+1) 0 ci/\w.heap.size+2<=((w.alloc (.cells cs.toArray 168)).alloc (.cells ci.toArray 131)).heap.size):=by
  refine⟨λj v hv=>?_,?_,by simp⟩
  ·have h1:Below (w.heap.size+1) (w.alloc (.cells cs.toArray 168)) ((w.alloc (.cells cs.toArray 168)).alloc (.cells ci.toArray 131)):=bo.alloc (by simp) _;exact(h1.cell (p:=⟨w.heap.size,0+j,none⟩) (Nat.lt_succ_self _)).trans (yc w cs _ j v hv)
  ·have:=yc (w.alloc (.cells cs.toArray 168)) ci 131;simpa using this
 clear h hC ht ih;go_enter func104,ntmps104;go_upto_region 1 with fail;generalize (w.alloc (.cells cs.toArray 168)).alloc (.cells ci.toArray 131)=W1 at HB M3 ⊢;have q1:W1.cell? ⟨w.heap.size,p,none⟩=some (.string (W p)):=by have:=M3.out.1 p _ (HL.out.1.at' p hp);rw[Nat.zero_add] at this;exact this
 have q2:W1.cell? ⟨w.heap.size+1,p,none⟩=some (.int .i64 (C p)):=by have:=M3.out.2.1 p _ (HL.out.2.at' p hp);rw[Nat.zero_add] at this;exact this
 have ml:(p:Int)<9:=by omega
 have HV:Hid (qA (W p)/\qN (W p)):=⟨HL.out.1.ok p hp,HL.out.1.num p hp⟩;have HW:Hid (jW W C V p=if(W p).size=0∨bt (W p) 0=117 then(if jr p=true then C p else eT p) else if bt (W p) 0=105 then C p else if bt (W p) 0=114 then eT p else if bt (W p) 0=36 then(if cg W p 9 p=true then C p else V ((fw (bt (W p) 1)).getD 0)) else(kB (W p) (W p).size:Int)):=rfl;generalize W p=s at q1 HV HW HT
 by_cases hU:s.size=0∨bt s 0=117
 ·have rF:Hid (jW W C V p=if jr p=true then C p else eT p):=by unfold Hid;rw[HW.out,aE hU]
  have XM:(s.toList.isEmpty||s.toList==[117])=true:=by
   by_cases h0:s.size=0
   ·obtain rfl:=eS h0;rw[mC];rfl
   ·rw[hE s (by omega),Fq s (by omega),decide_eq_true ⟨HV.out.2.one (hU.resolve_left h0),hU.resolve_left h0⟩];rfl
  by_cases he:s.toList.isEmpty=true
  ·clear XM hU HW;go_wp2_with fail;refine(Ac W1 p hp).mono ?_;rintro e w2 ⟨rfl,rfl⟩;obtain⟨W1,rfl⟩:∃W1,W1=w2:=⟨_,rfl⟩;cases hfa:jr p with
   | true=>
    have HE:Hid (jW W C V p=C p):=by unfold Hid;rw[rF.out,aE hfa]
    clear hfa rF;go_wp2;go_ret;exact⟨by rw[HE.out];rfl,HB.out⟩
   | false=>
    have HE:Hid (jW W C V p=eT p):=by unfold Hid;rw[rF.out,aA (by rw[hfa];decide)]
    clear hfa rF;go_wp2_with fail;refine(mo W1 p hp).mono ?_;rintro e w2 ⟨rfl,rfl⟩;go_wp2;go_ret;exact⟨by rw[HE.out];rfl,HB.out⟩
  ·have Ai:s.toList.isEmpty=false:=by simpa using he
   have GP:(s.toList==[117])=true:=by rw[Ai] at XM;simpa using XM
   clear XM hU HW he;go_wp2_with fail;refine(Ac W1 p hp).mono ?_;rintro e w2 ⟨rfl,rfl⟩;obtain⟨W1,rfl⟩:∃W1,W1=w2:=⟨_,rfl⟩;cases hfa:jr p with
   | true=>
    have HE:Hid (jW W C V p=C p):=by unfold Hid;rw[rF.out,aE hfa]
    clear hfa rF;go_wp2;go_ret;exact⟨by rw[HE.out];rfl,HB.out⟩
   | false=>
    have HE:Hid (jW W C V p=eT p):=by unfold Hid;rw[rF.out,aA (by rw[hfa];decide)]
    clear hfa rF;go_wp2_with fail;refine(mo W1 p hp).mono ?_;rintro e w2 ⟨rfl,rfl⟩;go_wp2;go_ret;exact⟨by rw[HE.out];rfl,HB.out⟩
 ·have h0:0<s.size:=by omega
  have BZ:bt s 0≠117:=λe=>hU (az e);have Ai:=hE s h0;have GP:(s.toList==[117])=false:=by rw[Fq s h0];exact decide_eq_false (λx=>BZ x.2)
  have Rh:Hid (jW W C V p=if bt s 0=105 then C p else if bt s 0=114 then eT p else if bt s 0=36 then(if cg W p 9 p=true then C p else V ((fw (bt s 1)).getD 0)) else(kB s s.size:Int)):=by unfold Hid;rw[HW.out,aA hU]
  have lW:(s[0].toNat:Int)=(bt s 0:Int):=by rw[bV s 0 h0]
  have Vm:Hid (bt s 0≠117):=BZ;clear hU HW BZ
  by_cases h105:bt s 0=105
  ·have V6:((bt s 0:Int)==105)=true:=by simp[h105]
   have HE:Hid (jW W C V p=C p):=by unfold Hid;rw[Rh.out,aE h105]
   clear h105 Rh;go_wp2;go_ret;exact⟨by rw[HE.out];rfl,HB.out⟩
  have V6:((bt s 0:Int)==105)=false:=by rw[fq];omega
  by_cases h114:bt s 0=114
  ·have V9:((bt s 0:Int)==114)=true:=by simp[h114]
   have HE:Hid (jW W C V p=eT p):=by unfold Hid;rw[Rh.out,aA h105,aE h114]
   clear h105 h114 Rh;go_wp2_with fail;refine(mo W1 p hp).mono ?_;rintro e w2 ⟨rfl,rfl⟩;go_wp2;go_ret;exact⟨by rw[HE.out];rfl,HB.out⟩
  have V9:((bt s 0:Int)==114)=false:=by rw[fq];omega
  by_cases vi:bt s 0=36
  ·have g36:((bt s 0:Int)==36)=true:=by simp[vi]
   obtain⟨h1,qq,sd,zj,hq3⟩:=HV.out.1.var h0 vi;have mS:(s[1].toNat:Int)=(bt s 1:Int):=by rw[bV s 1 h1]
   have iQ:Hid (fa s=some qq/\fw (bt s 1)=some qq):=by
    refine⟨?_,sd⟩;unfold fa;rw[aA (by omega),aE vi,sd]
   have rF:Hid (jW W C V p=if cg W p 9 p=true then C p else V qq):=by unfold Hid;rw[Rh.out,aA h105,aA h114,aE vi,sd];rfl
   have vc:Hid ((prog.info? 168).map (·.size)=some cs.length):=by unfold Hid;rw[HL.out.1.len];exact Tryz.sz168
   clear h105 h114 vi Rh sd;go_wp2_with (refine wpList_load_mid rfl 168 _ rfl w.heap.size 0 rfl cs _ M3.out.1 underlying168 rfl vc.out ?_);refine(Nr W1 cs.toArray W p HL.out.1.nine hp).mono ?_;rintro e w2 ⟨rfl,dk⟩;have eM:Hid (Below w.heap.size w w2):=HB.out.trans (dk.mono HB.out.size);have q3:w2.cell? ⟨w.heap.size+1,p,none⟩=some (.int .i64 (C p)):=(dk.cell (p:=⟨w.heap.size+1,p,none⟩) (by show w.heap.size+1<W1.heap.size;have:=M3.out.2.2;omega)).trans q2;have VI:Hid (w2.rangeAt w.heap.size 0 cs/\w2.rangeAt (w.heap.size+1) 0 ci/\w.heap.size+2<=w2.heap.size):=⟨nO dk (by have:=M3.out.2.2;omega) M3.out.1,nO dk (by have:=M3.out.2.2;omega) M3.out.2.1,by have:=dk.size;have:=M3.out.2.2;omega⟩;clear dk q1 q2;cases ze:cg W p 9 p with
   | true=>
    have HE:Hid (jW W C V p=C p):=by unfold Hid;rw[rF.out,aE ze]
    clear ze rF;go_wp2;go_ret;exact⟨by rw[HE.out];rfl,eM.out⟩
   | false=>
    have HE:Hid (jW W C V p=V qq):=by unfold Hid;rw[rF.out,aA (by rw[ze];decide)]
    have HP:Hid (P qq):=by
     rcases HT.out with h | h | ⟨q,h,hP⟩
     ·rw[iQ.out.1] at h;cases h
     ·rw[ze] at h;cases h
     ·rw[iQ.out.1] at h;injection h with h
      rw[h];exact hP
    have yZ:Hid (w2.drew.rangeAt w.heap.size 0 cs/\w2.drew.rangeAt (w.heap.size+1) 0 ci):=⟨VI.out.1,VI.out.2.1⟩;have HBD:Hid (Below w.heap.size w w2.drew/\w.heap.size+2<=w2.drew.heap.size):=⟨eM.out.drew,VI.out.2.2⟩;have hu1:=underlying168;have hu2:=underlying131;have XI:(prog.info? 168).map (·.size)=some cs.length:=vc.out;have Wt:(prog.info? 131).map (·.size)=some ci.length:=by rw[HL.out.2.len];exact Tryz.sz131
    clear ze rF q3 M3 HB;go_upto_region 15 with fail;have HBL:Hid (∀w3,Below w2.drew.heap.size w2.drew w3->(w3.rangeAt w.heap.size 0 cs/\w3.rangeAt (w.heap.size+1) 0 ci)/\Below w.heap.size w w3):=λw3 fA=>⟨⟨nO fA (by have:=HBD.out.2;omega) yZ.out.1,nO fA (by have:=HBD.out.2;omega) yZ.out.2⟩,HBD.out.1.trans (fA.mono HBD.out.1.size)⟩;generalize w.heap.size+1=b2 at yZ HBL ⊢;have a0:w2.drew.cell? ⟨w.heap.size,0,none⟩=some (.string (W 0)):=yZ.out.1 0 _ (HL.out.1.at' 0 (by omega));have b0:w2.drew.cell? ⟨b2,0,none⟩=some (.int .i64 (C 0)):=yZ.out.2 0 _ (HL.out.2.at' 0 (by omega));have a1:w2.drew.cell? ⟨w.heap.size,1,none⟩=some (.string (W 1)):=yZ.out.1 1 _ (HL.out.1.at' 1 (by omega));have b1:w2.drew.cell? ⟨b2,1,none⟩=some (.int .i64 (C 1)):=yZ.out.2 1 _ (HL.out.2.at' 1 (by omega));have a2:w2.drew.cell? ⟨w.heap.size,2,none⟩=some (.string (W 2)):=yZ.out.1 2 _ (HL.out.1.at' 2 (by omega));have b2x:w2.drew.cell? ⟨b2,2,none⟩=some (.int .i64 (C 2)):=yZ.out.2 2 _ (HL.out.2.at' 2 (by omega));have a3:w2.drew.cell? ⟨w.heap.size,3,none⟩=some (.string (W 3)):=yZ.out.1 3 _ (HL.out.1.at' 3 (by omega));have b3:w2.drew.cell? ⟨b2,3,none⟩=some (.int .i64 (C 3)):=yZ.out.2 3 _ (HL.out.2.at' 3 (by omega));have a4:w2.drew.cell? ⟨w.heap.size,4,none⟩=some (.string (W 4)):=yZ.out.1 4 _ (HL.out.1.at' 4 (by omega));have b4:w2.drew.cell? ⟨b2,4,none⟩=some (.int .i64 (C 4)):=yZ.out.2 4 _ (HL.out.2.at' 4 (by omega));have a5:w2.drew.cell? ⟨w.heap.size,5,none⟩=some (.string (W 5)):=yZ.out.1 5 _ (HL.out.1.at' 5 (by omega));have b5:w2.drew.cell? ⟨b2,5,none⟩=some (.int .i64 (C 5)):=yZ.out.2 5 _ (HL.out.2.at' 5 (by omega));have a6:w2.drew.cell? ⟨w.heap.size,6,none⟩=some (.string (W 6)):=yZ.out.1 6 _ (HL.out.1.at' 6 (by omega));have b6:w2.drew.cell? ⟨b2,6,none⟩=some (.int .i64 (C 6)):=yZ.out.2 6 _ (HL.out.2.at' 6 (by omega));have a7:w2.drew.cell? ⟨w.heap.size,7,none⟩=some (.string (W 7)):=yZ.out.1 7 _ (HL.out.1.at' 7 (by omega));have b7:w2.drew.cell? ⟨b2,7,none⟩=some (.int .i64 (C 7)):=yZ.out.2 7 _ (HL.out.2.at' 7 (by omega));have a8:w2.drew.cell? ⟨w.heap.size,8,none⟩=some (.string (W 8)):=yZ.out.1 8 _ (HL.out.1.at' 8 (by omega));have b8:w2.drew.cell? ⟨b2,8,none⟩=some (.int .i64 (C 8)):=yZ.out.2 8 _ (HL.out.2.at' 8 (by omega));have Xg:Hid (cs.toArray=#[.string (W 0),.string (W 1),.string (W 2),.string (W 3),.string (W 4),.string (W 5),.string (W 6),.string (W 7),.string (W 8)]):=Ep HL.out.1;have HCI:Hid (ci.toArray=#[.int .i64 (C 0),.int .i64 (C 1),.int .i64 (C 2),.int .i64 (C 3),.int .i64 (C 4),.int .i64 (C 5),.int .i64 (C 6),.int .i64 (C 7),.int .i64 (C 8)]):=Cc HL.out.2
    have acL:Hid (∀(w:World) (q:Nat),q<9->P q->Calls prog 104 #[.agg #[.string (W 0),.string (W 1),.string (W 2),.string (W 3),.string (W 4),.string (W 5),.string (W 6),.string (W 7),.string (W 8)],.agg #[.int .i64 (C 0),.int .i64 (C 1),.int .i64 (C 2),.int .i64 (C 3),.int .i64 (C 4),.int .i64 (C 5),.int .i64 (C 6),.int .i64 (C 7),.int .i64 (C 8)],.int .i64 q] w λe w'=>Ni w (V q) e w'):=by
     rw[<-Xg.out,<-HCI.out];exact Vt.out
    clear hu1 hu2 XI Wt
    go_cut [6] (λnv wx=>nv=.int .i64 (V qq)/\Below w.heap.size w wx)
    case first=>
     go_region_with (first | (go_at_call 53;refine(qn _ (bt s 1)).mono ?_;rintro e w3 ⟨r,rfl,rfl,Rg⟩;obtain rfl:r=qq:=(by
       have h1:=iQ.out.2;rcases Rg.out with⟨_,h2⟩ | ⟨_,h2⟩
       ·rw[h1] at h2;injection h2 with h2;exact h2.symm
       ·rw[h1] at h2;cases h2)) | (go_at_call 104;refine(acL.out _ _ (by omega) HP.out).mono ?_;rintro e w3 ⟨rfl,fA⟩;have qo:Hid (Below w.heap.size w w3):=(HBL.out w3 fA).2))
     all_goals
      go_wp2_with fail;go_meet;exact⟨rfl,qo.out⟩
    case rest=>
     obtain⟨rfl,qo⟩:=hcut;go_wp2;go_ret;exact⟨by rw[HE.out];rfl,qo⟩
  have g36:((bt s 0:Int)==36)=false:=by rw[fq];omega
  obtain⟨h3,hdg⟩:=HV.out.2.num h0 vi h105 h114 Vm.out;have HE:Hid (jW W C V p=(kB s s.size:Int)):=by unfold Hid;rw[Rh.out,aA h105,aA h114,aA vi]
  have HDG:Hid (∀k,k<s.size->48<=bt s k/\bt s k<=57):=hdg;clear h105 h114 vi Rh hdg;go_wp2_with fail
  go_loop [9,10] (λnv iv=>∃i:Nat,iv=.int .i64 i/\i<=s.size/\nv=.int .i64 (kB s i:Nat)) (λ_ iv=>s.size - (intOf iv).toNat)
  case atStart=>exact⟨0,rfl,bm,rfl⟩
  case round=>
   obtain⟨i,rfl,jQ,rfl⟩:=hrel
   by_cases bc:i<s.size
   ·have hd:decide ((i:Int)<(s.size:Int))=true:=by simp;omega
    have hbi:(s[i].toNat:Int)=(bt s i:Int):=by rw[bV s i bc]
    obtain⟨KR,hhi⟩:=HDG.out i bc;have Rp:=Ou s i (by omega) (λk hk=>(HDG.out k (by omega)).2);have HDS:Hid (kB s (i+1)=kB s i*10+(bt s i - 48)):=rfl;generalize kB s i=n0 at Rp HDS ⊢;go_wp2
    go_round
    case rel=>exact⟨i+1,by go_num,by omega,by rw[HDS.out];go_num⟩
    case measure=>simp[intOf];omega
   ·have hd:decide ((i:Int)<(s.size:Int))=false:=by simp;omega
    obtain rfl:i=s.size:=by omega
    go_wp2;go_ret;exact⟨by rw[HE.out];rfl,HB.out⟩
theorem Bk (cs ci:List Value)(W:Nat->ByteArray)(C:Nat->Int)(h:NineL cs W)(hC:qw ci C):∀(f:Nat) (w:World) (p:Nat),p<9->wF W f p->
  Calls prog 104 #[.agg cs.toArray,.agg ci.toArray,.int .i64 p] w λe w'=>Ni w (du W C (f+1) p) e w'
 | 0,w,p,hp,ht=>yO cs ci W C (du W C 0) (λ_=>False) h hC (λ_ _ _ hF=>hF.elim) w p hp (ht.imp id ax)
 | f+1,w,p,hp,ht=>yO cs ci W C (du W C (f+1)) (wF W f) h hC (λw q hq hP=>Bk cs ci W C h hC f w q hq hP) w p hp ht
end
section
variable {W:Nat->ByteArray}{a v:Nat}
theorem nG {s:ByteArray}(h:qA s){q:Nat}(hn:fa s=some q):6<=q/\q<9:=by
 unfold fa at hn;split at hn
 ·cases hn
 ·rename_i h0;split at hn
  ·rename_i vi;obtain⟨_,q',h1,h2,h3⟩:=h.var (by omega) vi;rw[hn] at h1;injection h1 with h1
   omega
  ·cases hn
theorem wP (h:fa (W v)=some v)(n:Nat):cg W v (n+1) v=true:=by
 unfold cg;rw[h];simp
theorem Dl (h:fa (W v)=some a)(h2:fa (W a)=some v)(n:Nat):cg W v (n+2) v=true:=by
 unfold cg;rw[h];show(if a=v then true else cg W v (n+1) a)=true;split
 ·rfl
 ·unfold cg;rw[h2];simp
theorem Gn {b:Nat}(h:fa (W v)=some a)(h2:fa (W a)=some b)(h3:fa (W b)=some v)(n:Nat):cg W v (n+3) v=true:=by
 unfold cg;rw[h];show(if a=v then true else cg W v (n+2) a)=true;split
 ·rfl
 ·unfold cg;rw[h2];show(if b=v then true else cg W v (n+1) b)=true;split
  ·rfl
  ·unfold cg;rw[h3];simp
theorem JD (hW:∀i,i<9->qA (W i)){p:Nat}(hp:p<9):wF W 3 p:=by
 cases ha:fa (W p) with
 | none=>exact ax ha
 | some a=>
  obtain⟨a1,a2⟩:=nG (hW p hp) ha;refine az (az ⟨a,ha,?_⟩);cases hb:fa (W a) with
  | none=>exact ax hb
  | some b=>
   obtain⟨b1,b2⟩:=nG (hW a a2) hb
   by_cases KH:b=a
   ·subst KH;exact az (ax (wP hb 8))
   ·refine az (az ⟨b,hb,?_⟩);cases hc:fa (W b) with
    | none=>exact ax hc
    | some c=>
     obtain⟨c1,c2⟩:=nG (hW b b2) hc
     by_cases B3:c=b
     ·subst B3;exact az (ax (wP hc 8))
     ·by_cases hca:c=a
      ·subst hca;exact az (ax (Dl hc hb 7))
      ·refine az (az ⟨c,hc,?_⟩);cases hd:fa (W c) with
       | none=>exact ax hd
       | some d=>
        obtain⟨d1,d2⟩:=nG (hW c c2) hd;right;have:d=a∨d=b∨d=c:=by omega
        rcases this with rfl | rfl | rfl
        ·exact Gn hd hb hc 6
        ·exact Dl hd hc 7
        ·exact wP hd 8
end
section
variable {C V:Nat->Int}{Tb:Nat->Nat->ByteArray}{b3 i:Nat}{ci ws:List Value}{w wr:World}
def iT (aa:List REl)(n:Int):Nat->Option Nat
 | 0=>none
 | i+1=>if(aa[i]?.map λe=>(e.num:Int))=some n then some i else iT aa n i
def ES (Tb:Nat->Nat->ByteArray)(o:Option Nat)(p:Nat):ByteArray:=match o with | some i=>Tb i p | none=>⟨#[]⟩
noncomputable def kS (aa:List REl)(Tb:Nat->Nat->ByteArray):Nat->Int->Nat->Int
 | 0,n=>λp=>du (ES Tb (iT aa n aa.length)) eT 4 p
 | f+1,n=>λp=>du (ES Tb (iT aa n aa.length)) (if bn aa n<0 then eT else kS aa Tb f (bn aa n)) 4 p
def wi (aa:List REl):Nat->Int->Prop
 | 0,n=>bn aa n<0
 | f+1,n=>bn aa n<0∨wi aa f (bn aa n)
def mi (Tb:Nat->Nat->ByteArray)(n:Nat):List Value:=(List.range n).flatMap λi=>(List.range 9).map λp=>Value.string (Tb i p)
def pR (Tb:Nat->Nat->ByteArray)(i:Nat):List Value:=(List.range 9).map λp=>Value.string (Tb i p)
theorem Af (Tb:Nat->Nat->ByteArray)(n:Nat):(mi Tb n).length=n*9:=by
 induction n with
 | zero=>rfl
 | succ n ih=>
  unfold mi at ih ⊢;rw[show List.range (n+1)=List.range n++[n] from List.range_succ,List.flatMap_append,List.length_append,ih];simp;omega
theorem DL (Tb:Nat->Nat->ByteArray){n p:Nat}(hi:i<n)(hp:p<9):(mi Tb n)[i*9+p]?=some (.string (Tb i p)):=by
 induction n with
 | zero=>omega
 | succ n ih=>
  unfold mi;rw[show List.range (n+1)=List.range n++[n] from List.range_succ,List.flatMap_append];have hl:=Af Tb n;unfold mi at hl
  by_cases h:i<n
  ·rw[List.getElem?_append_left (by omega)];have:=ih h;unfold mi at this;exact this
  ·obtain rfl:i=n:=by omega
   rw[List.getElem?_append_right (by omega),hl,show i*9+p - i*9=p from by omega];simp[hp]
structure TM (w:World)(vT:Value)(n:Nat)(Tb:Nat->Nat->ByteArray):Prop where
 row:w.ownsRow 0 168 9 vT n (mi Tb n)
 ok:∀i p,i<n->p<9->qA (Tb i p)/\qN (Tb i p)
theorem ET (h:∀p,p<9->qA (Tb i p)/\qN (Tb i p)):NineL (pR Tb i) (Tb i):=by
 refine⟨by simp[pR],λp hp=>by simp[pR,hp],λp hp=>(h p hp).1,λp hp=>(h p hp).2,λv hv=>?_⟩;obtain⟨p,_,rfl⟩:=bx.1 hv;rfl
def xa:List Value:=List.replicate 9 (.string ⟨#[]⟩)
theorem Gz:NineL xa (λ_=>⟨#[]⟩):=by
 refine⟨by simp[xa],λp hp=>by unfold xa;rw[List.getElem?_replicate,aE hp],λp _=>⟨by decide,λh=>absurd h (by decide)⟩,λp _=>⟨λh=>absurd h (by decide),λh=>absurd h (by decide)⟩,λv hv=>?_⟩
 ·rw[(List.mem_replicate.1 hv).2];rfl
def pC:List Value:=(List.range 9).map λp=>Value.int .i64 (eT p)
theorem K6:qw pC eT:=by
 refine⟨by simp[pC],λp hp=>by simp[pC,hp],λv hv=>?_⟩;obtain⟨p,_,rfl⟩:=bx.1 hv;rfl
def BC (w:World)(C:Nat->Int)(e:Ending)(w':World):Prop:=∃ci,e=.returned (.agg ci.toArray)/\qw ci C/\Below w.heap.size w w'
abbrev fg:Array Value:=#[.int .i64 0,.int .i64 0,.int .i64 0,.int .i64 0,.int .i64 0,.int .i64 0,.int .i64 0,.int .i64 0,.int .i64 0]
def oC (Tb:Nat->Nat->ByteArray)(o:Option Nat):List Value:=match o with | some i=>pR Tb i | none=>xa
structure SB (w wr:World)(ci:List Value)(C:Nat->Int)(b3:Nat)(ws:List Value):Prop where
 comes:wr.heap[w.heap.size+1]?=some (.cells ci.toArray 131 (0,0))
 nine:qw ci C
 res:wr.heap[w.heap.size]?=some (.cells fg 131 (0,0))
 win:wr.heap[b3]?=some (.cells ws.toArray 168 (0,0))
 below:Below w.heap.size w wr
 far:w.heap.size+2<=b3
 lt:b3<wr.heap.size
theorem SB.setWin (h:SB w wr ci C b3 ws)(ws':List Value):SB w (wr.setRow b3 ws'.toArray) ci C b3 ws':=by
 have hf:=h.far;refine⟨?_,h.nine,?_,setRow_heap wr _ _ _ _ _ h.win,h.below.trans ⟨rfl,rfl,rfl,by simp,λk hk=>setRow_other wr _ _ _ (by omega)⟩,hf,by have:=h.lt;simpa using this⟩
 ·rw[setRow_other wr _ _ _ (by omega)];exact h.comes
 ·rw[setRow_other wr _ _ _ (by omega)];exact h.res
theorem SB.go {w':World}(h:SB w wr ci C b3 ws)(hB:Below wr.heap.size wr w'):SB w w' ci C b3 ws:=by
 have hf:=h.far;have hl:=h.lt;have hs:=hB.size;have hb:=h.below.size;exact⟨(hB.block _ (by omega)).trans h.comes,h.nine,(hB.block _ (by omega)).trans h.res,(hB.block _ hl).trans h.win,h.below.trans (hB.mono hb),hf,by omega⟩
theorem SB.setOut (h:SB w wr ci C b3 ws){b4:Nat}(hb:b3<b4)(i:Nat)(u:Value):SB w (wr.setCell ⟨b4,i,none⟩ u) ci C b3 ws:=by
 have hf:=h.far;refine⟨(Below.heap_setCell _ _ _ _ (by show w.heap.size+1≠b4;omega)).trans h.comes,h.nine,(Below.heap_setCell _ _ _ _ (by show w.heap.size≠b4;omega)).trans h.res,(Below.heap_setCell _ _ _ _ (by show b3≠b4;omega)).trans h.win,h.below.setCell (by show w.heap.size<=b4;omega) _,hf,by have:=h.lt;simpa using this⟩
theorem SB.range (h:SB w wr ci C b3 ws):wr.rangeAt b3 0 ws/\wr.rangeAt (w.heap.size+1) 0 ci:=by
 refine⟨λj v hv=>?_,λj v hv=>?_⟩
 ·rw[Nat.zero_add,cell_of_row _ _ j ws.toArray _ (0,0) h.win];simpa using hv
 ·rw[Nat.zero_add,cell_of_row _ _ j ci.toArray _ (0,0) h.comes];simpa using hv
theorem uY {N:Nat}(h:∀i p,i<N->p<9->qA (Tb i p)/\qN (Tb i p)){o:Option Nat}(ho:∀i,o=some i->i<N):NineL (oC Tb o) (ES Tb o):=by
 cases o with
 | none=>exact Gz
 | some i=>exact ET (λp hp=>h i p (ho i rfl) hp)
theorem xG {aa:List REl}{n:Int}:∀{k i:Nat},iT aa n k=some i->i<k
 | 0,i,h=>by cases h
 | k+1,i,h=>by
  unfold iT at h;split at h
  ·injection h with h;omega
  ·have:=xG h;omega
def oA (V:Nat->Int):List Value:=(List.range 9).map λp=>Value.int .i64 (V p)
theorem jV (V:Nat->Int):(oA V).length=9:=by simp[oA]
theorem Fw (V:Nat->Int):qw (oA V) V:=by
 refine⟨jV V,λp hp=>by simp[oA,hp],λv hv=>?_⟩;obtain⟨p,_,rfl⟩:=bx.1 hv;rfl
def tX (V:Nat->Int)(i:Nat):List Value:=(oA V).take i++List.replicate (9 - i) (.int .i64 0)
theorem PW (h:i<=9):(tX V i).length=9:=by
 unfold tX;rw[List.length_append,List.length_take,jV,List.length_replicate];omega
theorem PX (h:i<9):(tX V i).set i (.int .i64 (V i))=tX V (i+1):=by
 unfold tX;have hl:((oA V).take i).length=i:=by rw[List.length_take,jV];omega
 have hg:(oA V)[i]'(by rw[jV];exact h)=.int .i64 (V i):=by simp[oA]
 rw[List.set_append_right _ _ (by omega),hl,Nat.sub_self,show 9 - i=(9 - (i+1))+1 from by omega,List.replicate_succ,List.set_cons_zero,gj (by rw[jV];exact h),hg,List.append_assoc];rfl
theorem PV (V:Nat->Int):tX V 9=oA V:=by
 unfold tX;rw[List.take_of_length_le (by rw[jV];exact aF)];simp
def vg (i:Nat):List Value:=(pC.take i)++List.replicate (9 - i) (.int .i64 0)
theorem nC:pC.length=9:=by simp[pC]
theorem Nx:(vg i).length=9 - i+min i 9:=by
 unfold vg;rw[List.length_append,List.length_take,nC,List.length_replicate];omega
theorem Ny (h:i<9):(vg i).set i (.int .i64 (eT i))=vg (i+1):=by
 unfold vg;have hl:(pC.take i).length=i:=by rw[List.length_take,nC];omega
 have hg:pC[i]'(by rw[nC];exact h)=.int .i64 (eT i):=by simp[pC]
 rw[List.set_append_right _ _ (by omega),hl,Nat.sub_self,show 9 - i=(9 - (i+1))+1 from by omega,List.replicate_succ,List.set_cons_zero,gj (by rw[nC];exact h),hg,List.append_assoc];rfl
theorem Nw:vg 9=pC:=by
 unfold vg;rw[List.take_of_length_le (by rw[nC];exact aF)];simp
theorem rp (aa:List REl)(Tb:Nat->Nat->ByteArray)(C:Nat->Int)(w:World)(d:Nat)(ae:Nat)(hp:Option Addr)(Vj:Value)(br:Bool)(vL:Value)(n:Int)(vT:Value)(h:RD w d aa ae hp Vj br vL)(hT:TM w vT aa.length Tb)
  (ih:bn aa n<0/\C=eT∨(¬bn aa n<0/\∀w1,Below w.heap.size w w1->Calls prog 66 #[.pointer (some ⟨d,0,none⟩),vT,.int .i64 (bn aa n)] w1 λe w'=>BC w1 C e w')) :
  Calls prog 66 #[.pointer (some ⟨d,0,none⟩),vT,.int .i64 n] w λe w'=>BC w (du (ES Tb (iT aa n aa.length)) C 4) e w':=by
 obtain⟨aT,cT,hvT⟩:=aK hT.row;subst hvT;obtain⟨aL,cL,vq⟩:=h.shape;subst vq;have HR:=bZ h hT;have Vt:=aw ih;have bJ:=h.few;clear h hT ih;have oE:Hid (Below w.heap.size w ((w.alloc (.cells fg 131)).alloc (.cells fg 131))):=(bo.alloc aF _).alloc (by simp) _
 have Uc:Hid (((w.alloc (.cells fg 131)).alloc (.cells fg 131)).heap[w.heap.size]?=some (.cells fg 131 (0,0))/\((w.alloc (.cells fg 131)).alloc (.cells fg 131)).heap[w.heap.size+1]?=some (.cells fg 131 (0,0))/\((w.alloc (.cells fg 131)).alloc (.cells fg 131)).heap.size=w.heap.size+2):=by
  refine⟨heap_alloc2_old w _ _,heap_alloc2_new w _ _,by simp⟩
 go_enter func66,ntmps66;go_upto_region 2 with fail;generalize (w.alloc (.cells fg 131)).alloc (.cells fg 131)=W1 at oE Uc ⊢;go_wp2_with fail;refine(gG _ d aa ae hp Vj br _ n (HR.out.1.below oE.out)).mono ?_;rintro e w1 ⟨rfl,rfl⟩;obtain⟨W1,rfl⟩:∃W1,W1=w1:=⟨_,rfl⟩;generalize bn aa n=up at Vt ⊢;go_upto_if 18 with fail
 go_cut [9] (λ_ wx=>∃ci:List Value,Hid (wx.heap[w.heap.size+1]?=some (.cells ci.toArray 131 (0,0))/\qw ci C/\wx.heap[w.heap.size]?=some (.cells fg 131 (0,0))/\Below w.heap.size w wx/\w.heap.size+2<=wx.heap.size))
 case first=>
  rcases Vt.out with⟨hneg,hCi⟩ | ⟨mb,nz⟩
  ·have gn:decide (0<=up)=false:=by simpa using hneg
   have HCI:=aw hCi;have Yb:Hid (W1.heap[w.heap.size+1]?=some (.cells (vg 0).toArray 131 (0,0))/\W1.heap[w.heap.size]?=some (.cells fg 131 (0,0))/\Below w.heap.size w W1/\w.heap.size+2<=W1.heap.size):=⟨Uc.out.2.1,Uc.out.1,oE.out,by have:=Uc.out.2.2;omega⟩;clear hneg hCi Vt;rw[gn];go_wp2_with fail
   go_loopg [9] 9 (λgk pv wr=>∃i:Nat,pv=.int .i64 i/\i<=9/\9 - i<=gk/\Hid (wr.heap[w.heap.size+1]?=some (.cells (vg i).toArray 131 (0,0))/\wr.heap[w.heap.size]?=some (.cells fg 131 (0,0))/\Below w.heap.size w wr/\w.heap.size+2<=wr.heap.size))
   case atStart=>exact⟨0,rfl,bm,by omega,Yb⟩
   case round=>
    obtain⟨i,rfl,jQ,fT,HN⟩:=hrel
    by_cases bc:i<9
    ·have hd:decide ((i:Int)<9)=true:=by simp;omega
     have aaO:(i:Int)<9:=by omega
     obtain⟨gB,xz⟩:∃gB,(vg i).toArray[i]?=some gB:=by
      have jM:i<(vg i).length:=by rw[Nx];omega
      exact⟨_,by rw[List.getElem?_toArray,bW jM]⟩
     have q:=au HN.out.1 xz;have qz:∀k,wr.frozen? ⟨w.heap.size+1,k,none⟩=false:=λ_=>aH HN.out.1
     have fj:Hid ((wr.setCell ⟨w.heap.size+1,i,none⟩ (.int .i64 (eT i))).heap[w.heap.size+1]?=some (.cells (vg (i+1)).toArray 131 (0,0))/\(wr.setCell ⟨w.heap.size+1,i,none⟩ (.int .i64 (eT i))).heap[w.heap.size]?=some (.cells fg 131 (0,0))/\Below w.heap.size w (wr.setCell ⟨w.heap.size+1,i,none⟩ (.int .i64 (eT i)))/\w.heap.size+2<=(wr.setCell ⟨w.heap.size+1,i,none⟩ (.int .i64 (eT i))).heap.size):=by
      refine⟨?_,(Below.heap_setCell _ _ _ _ (by show w.heap.size≠w.heap.size+1;omega)).trans HN.out.2.1,HN.out.2.2.1.setCell (by show w.heap.size<=w.heap.size+1;omega) _,by have:=HN.out.2.2.2;simpa using this⟩;rw[aP HN.out.1,<-Ny bc];simp
     clear HN xz;go_wp2_with fail;refine(mo wr i bc).mono ?_;rintro e w5 ⟨rfl,rfl⟩;go_wp2;go_roundg (9 - (i+1))
     case measure=>omega
     case rel=>exact⟨i+1,by go_num,by omega,aF,fj⟩
    ·have hd:decide ((i:Int)<9)=false:=by simp;omega
     obtain rfl:i=9:=by omega
     go_wp2;go_meet;exact⟨pC,by rw[<-Nw];exact HN.out.1,by rw[HCI.out];exact K6,HN.out.2⟩
  ·have gn:decide (0<=up)=true:=by simpa using mb
   have FG:=aw nz;clear mb nz Vt;rw[gn];go_wp2_with fail;refine(FG.out W1 oE.out).mono ?_;rintro e w2 ⟨ci,rfl,IR,dk⟩
   have CK:Hid (qw ci C/\w2.heap[w.heap.size+1]?=some (.cells fg 131 (0,0))/\w2.heap[w.heap.size]?=some (.cells fg 131 (0,0))/\Below w.heap.size w w2/\w.heap.size+2<=w2.heap.size):=by
    have hz:=Uc.out.2.2;exact⟨IR,(dk.block _ (by omega)).trans Uc.out.2.1,(dk.block _ (by omega)).trans Uc.out.1,oE.out.trans (dk.mono oE.out.size),by have:=dk.size;omega⟩
   have Gd:Hid ((prog.info? 131).map (·.size)=some ci.toArray.size/\(9:Nat)=ci.toArray.size/\ci.toArray.all (·.oneCell')=true):=⟨by simp only[List.size_toArray,IR.len];exact Tryz.sz131,by simp[IR.len],all_oneCell_toArray IR.one⟩;clear IR dk;go_wp2_with (refine wpList_store_row rfl 131 _ _ rfl (w.heap.size+1) ci.toArray rfl rfl 131 fg CK.out.2.1 Gd.out.1 Gd.out.2.1 Gd.out.2.2 ?_);go_meet;refine⟨ci,setRow_heap w2 _ _ _ _ _ CK.out.2.1,CK.out.1,?_,?_,?_⟩
   ·rw[setRow_other w2 _ _ _ (by omega)];exact CK.out.2.2.1
   ·exact CK.out.2.2.2.1.trans ⟨rfl,rfl,rfl,by simp,λk hk=>setRow_other w2 _ _ _ (by omega)⟩
   ·have:=CK.out.2.2.2.2;simpa using this
 case rest=>
  obtain⟨ci,HC⟩:=hcut;clear oE Uc Vt;have hz:=HC.out.2.2.2.2;have J1:Hid (SB w (wc.alloc (.cells xa.toArray 168)) ci C wc.heap.size (oC Tb none)):=⟨(Below.heap_alloc _ _ _ (by omega)).trans HC.out.1,HC.out.2.1,(Below.heap_alloc _ _ _ (by omega)).trans HC.out.2.2.1,heap_alloc_new wc _,HC.out.2.2.2.1.alloc (by omega) _,by omega,by simp⟩;go_upto_region 10 with fail;generalize lu:wc.heap.size=b3 at J1 ⊢;clear lu hz HC;go_wp2_with fail
  go_loopg [11] aa.length (λgk iv wr=>∃i:Nat,iv=.int .i64 i/\i<=aa.length/\aa.length - i<=gk/\Hid (SB w wr ci C b3 (oC Tb (iT aa n i))))
  case atStart=>exact⟨0,rfl,bm,by omega,J1⟩
  case round=>
   obtain⟨i,rfl,jQ,fT,HS⟩:=hrel;have d1:=(HR.out.1.below HS.out.below).c1
   by_cases bc:i<aa.length
   ·have hd:decide ((i:Int)<(aa.length:Int))=true:=by simp;omega
    have aaO:(i:Int)<(aa.length:Int):=by omega
    obtain⟨gL,hgL,e1⟩:=(HR.out.1.below HS.out.below).at' bc;subst hgL;have z0:wr.cell? ⟨aa[i].blk,0,none⟩=some (.int .i64 aa[i].num):=au ((HR.out.1.below HS.out.below).el _ (bN bc)) rfl
    have Ue:Hid (iT aa n (i+1)=if(aa[i].num:Int)=n then some i else iT aa n i):=by
     unfold Hid;show(if _ then _ else _)=_;rw[bW bc];simp
    generalize aa[i]=z at e1 z0 Ue
    by_cases hn:(z.num:Int)=n
    ·have gn:((z.num:Int)==n)=true:=by simp[hn]
     have X8:Hid (iT aa n (i+1)=some i):=by unfold Hid;rw[Ue.out,aE hn]
     obtain⟨gT,hgT,di,gM⟩:=aX HR.out.2.row (by omega);subst hgT
     have Ym:Hid (wr.rangeAt gT (i*9) (pR Tb i)):=nO HS.out.below di (λj v hv=>gM _ _ (by
      have hj:j<9:=by have:=(ee.1 hv).1;simpa[pR] using this
      rw[DL Tb bc hj];rw[<-hv];simp[pR,hj]))
     have MM:(pR Tb i).length=9:=by simp[pR]
     have vc:Hid ((prog.info? 168).map (·.size)=some (pR Tb i).length/\(prog.info? 168).map (·.size)=some (pR Tb i).toArray.size/\(oC Tb (iT aa n i)).toArray.size=(pR Tb i).toArray.size/\(pR Tb i).toArray.all (·.oneCell')=true):=by
      refine⟨by rw[MM];exact Tryz.sz168,by rw[List.size_toArray,MM];exact Tryz.sz168,?_,all_oneCell_toArray (ET (λp hp=>HR.out.2.ok i p bc hp)).one⟩;rw[List.size_toArray,List.size_toArray,MM];exact(uY HR.out.2.ok (λj hj=>by have:=xG hj;omega)).len
     have qK:Hid (SB w (wr.setRow b3 (pR Tb i).toArray) ci C b3 (oC Tb (iT aa n (i+1)))):=by
      rw[X8.out];exact HS.out.setWin (pR Tb i)
     clear gM hn Ue MM;go_wp2_with (first | (refine wpList_load_mid rfl 168 _ rfl gT (i*9) rfl (pR Tb i) _ Ym.out underlying168 rfl vc.out.1 ?_) | (refine wpList_store_row rfl 168 _ _ rfl b3 (pR Tb i).toArray rfl rfl 168 (oC Tb (iT aa n i)).toArray HS.out.win vc.out.2.1 vc.out.2.2.1 vc.out.2.2.2 ?_));go_roundg (aa.length - (i+1))
     case measure=>omega
     case rel=>exact⟨i+1,by go_num,by omega,aF,qK⟩
    ·have gn:((z.num:Int)==n)=false:=by simp[hn]
     have qK:Hid (SB w wr ci C b3 (oC Tb (iT aa n (i+1)))):=by
      rw[Ue.out,aA hn];exact HS.out
     clear hn Ue HS;go_wp2;go_roundg (aa.length - (i+1))
     case measure=>omega
     case rel=>exact⟨i+1,by go_num,by omega,aF,qK⟩
   ·have hd:decide ((i:Int)<(aa.length:Int))=false:=by simp;omega
    obtain rfl:i=aa.length:=by omega
    have MH:Hid (NineL (oC Tb (iT aa n aa.length)) (ES Tb (iT aa n aa.length))):=uY HR.out.2.ok (λj hj=>xG hj);generalize oC Tb (iT aa n aa.length)=ws at HS MH;generalize hWe:ES Tb (iT aa n aa.length)=W at MH;have VM:=aw hWe;clear hWe;have HO0:Hid (SB w (wr.alloc (.cells fg 131)) ci C b3 ws/\(wr.alloc (.cells fg 131)).heap[wr.heap.size]?=some (.cells (tX (du W C 4) 0).toArray 131 (0,0))/\b3<wr.heap.size/\wr.heap.size<(wr.alloc (.cells fg 131)).heap.size):=⟨HS.out.go (bo.alloc aF _),heap_alloc_new wr _,HS.out.lt,by simp⟩;go_upto_region 16 with fail;generalize wr.heap.size=b4 at HO0 ⊢;clear d1 HS;go_wp2_with fail
    go_loopg [13] 9 (λgk pv wq=>∃p:Nat,pv=.int .i64 p/\p<=9/\9 - p<=gk/\Hid (SB w wq ci C b3 ws/\wq.heap[b4]?=some (.cells (tX (du W C 4) p).toArray 131 (0,0))/\b3<b4/\b4<wq.heap.size))
    case atStart=>exact⟨0,rfl,bm,by omega,HO0⟩
    case round=>
     obtain⟨p,rfl,ml,O6,HO⟩:=hrel
     by_cases hpt:p<9
     ·have uA:decide ((p:Int)<9)=true:=by simp;omega
      have aek:(p:Int)<9:=by omega
      have vc:Hid ((prog.info? 168).map (·.size)=some ws.length/\(prog.info? 131).map (·.size)=some ci.length):=⟨by rw[MH.out.len];exact Tryz.sz168,by rw[HO.out.1.nine.len];exact Tryz.sz131⟩;go_wp2_with (first | (refine wpList_load_mid rfl 168 _ rfl b3 0 rfl ws _ HO.out.1.range.1 underlying168 rfl vc.out.1 ?_) | (refine wpList_load_mid rfl 131 _ rfl (w.heap.size+1) 0 rfl ci _ HO.out.1.range.2 underlying131 rfl vc.out.2 ?_));refine(Bk ws ci W C MH.out HO.out.1.nine 3 wr p hpt (JD MH.out.ok hpt)).mono ?_;rintro e w5 ⟨rfl,xr⟩;have Uf:Hid (SB w w5 ci C b3 ws/\w5.heap[b4]?=some (.cells (tX (du W C 4) p).toArray 131 (0,0))/\b3<b4/\b4<w5.heap.size):=⟨HO.out.1.go xr,(xr.block _ HO.out.2.2.2).trans HO.out.2.1,HO.out.2.2.1,by have:=xr.size;have:=HO.out.2.2.2;omega⟩;clear xr HO
      obtain⟨gB,xz⟩:∃gB,(tX (du W C 4) p).toArray[p]?=some gB:=by
       have jM:p<(tX (du W C 4) p).length:=by rw[PW ml];exact hpt
       exact⟨_,by rw[List.getElem?_toArray,bW jM]⟩
      have q:=au Uf.out.2.1 xz;have qz:∀k,w5.frozen? ⟨b4,k,none⟩=false:=λ_=>aH Uf.out.2.1
      have HO6:Hid (SB w (w5.setCell ⟨b4,p,none⟩ (.int .i64 (du W C 4 p))) ci C b3 ws/\(w5.setCell ⟨b4,p,none⟩ (.int .i64 (du W C 4 p))).heap[b4]?=some (.cells (tX (du W C 4) (p+1)).toArray 131 (0,0))/\b3<b4/\b4<(w5.setCell ⟨b4,p,none⟩ (.int .i64 (du W C 4 p))).heap.size):=by
       refine⟨Uf.out.1.setOut Uf.out.2.2.1 p _,?_,Uf.out.2.2.1,by have:=Uf.out.2.2.2;simpa using this⟩;rw[aP Uf.out.2.1,<-PX hpt];simp
      clear Uf xz;generalize du W C 4 p=vp at HO6 ⊢;go_wp2;go_roundg (9 - (p+1))
      case measure=>omega
      case rel=>exact⟨p+1,by go_num,by omega,aF,HO6⟩
     ·have uA:decide ((p:Int)<9)=false:=by simp;omega
      obtain rfl:p=9:=by omega
      rw[PV] at HO
      have HRO:Hid (wr.rangeAt b4 0 (oA (du W C 4))):=λj v hv=>by
       rw[Nat.zero_add,cell_of_row _ _ j _ _ (0,0) HO.out.2.1];simpa using hv
      have RQ:Hid ((prog.info? 131).map (·.size)=some (oA (du W C 4)).length/\(prog.info? 131).map (·.size)=some (oA (du W C 4)).toArray.size/\(9:Nat)=(oA (du W C 4)).toArray.size/\(oA (du W C 4)).toArray.all (·.oneCell')=true):=⟨by rw[jV];exact Tryz.sz131,by rw[List.size_toArray,jV];exact Tryz.sz131,by rw[List.size_toArray,jV],all_oneCell_toArray (Fw _).one⟩
      have qo:Hid (BC w (du W C 4) (.returned (.agg (oA (du W C 4)).toArray)) (wr.setRow w.heap.size (oA (du W C 4)).toArray)/\(wr.setRow w.heap.size (oA (du W C 4)).toArray).heap[w.heap.size]?=some (.cells (oA (du W C 4)).toArray 131 (0,0))):=by
       refine⟨⟨_,rfl,Fw _,HO.out.1.below.trans ⟨rfl,rfl,rfl,by simp,λk hk=>setRow_other wr _ _ _ (by omega)⟩⟩,setRow_heap wr _ _ _ _ _ HO.out.1.res⟩
      generalize oA (du W C 4)=vl at HO HRO RQ qo;go_wp2_with (first | (refine wpList_load_mid rfl 131 _ rfl b4 0 rfl vl _ HRO.out underlying131 rfl RQ.out.1 ?_) | (refine wpList_store_row rfl 131 _ _ rfl w.heap.size vl.toArray rfl rfl 131 fg HO.out.1.res RQ.out.2.1 RQ.out.2.2.1 RQ.out.2.2.2 ?_));exact bodyPost_ret (v:=.agg vl.toArray) (results_cell_row Tryz.results66 _ _ w.heap.size 131 vl.toArray (0,0) _ rfl qo.out.2 underlying131 rfl RQ.out.2.1) rfl (by rw[VM.out];exact qo.out.1)
theorem Bd (aa:List REl)(Tb:Nat->Nat->ByteArray)(d:Nat)(ae:Nat)(hp:Option Addr)(Vj:Value)(br:Bool)(vL:Value)(vT:Value):∀(f:Nat) (w:World) (n:Int),RD w d aa ae hp Vj br vL->TM w vT aa.length Tb->wi aa f n->
  Calls prog 66 #[.pointer (some ⟨d,0,none⟩),vT,.int .i64 n] w λe w'=>BC w (kS aa Tb f n) e w'
 | 0,w,n,h,hT,hd=>rp aa Tb eT w d ae hp Vj br vL n vT h hT (ax ⟨hd,rfl⟩)
 | f+1,w,n,h,hT,hd=>by
  by_cases hn:bn aa n<0
  ·have:=rp aa Tb (if bn aa n<0 then eT else kS aa Tb f (bn aa n)) w d ae hp Vj br vL n vT h hT (ax ⟨hn,aE hn⟩);exact this
  ·refine rp aa Tb (if bn aa n<0 then eT else kS aa Tb f (bn aa n)) w d ae hp Vj br vL n vT h hT (az ⟨hn,λw1 hB=>?_⟩);rw[aA hn];exact Bd aa Tb d ae hp Vj br vL vT f w1 (bn aa n) (h.below hB) ⟨aY hT.row hB,hT.ok⟩ (hd.resolve_left hn)
end
end Go.Proofs.YtblfffbmklkhmabGreat
