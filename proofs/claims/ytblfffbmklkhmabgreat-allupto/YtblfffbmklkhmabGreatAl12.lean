/- Own work. -/
import Derived.Test.YtblfffbmklkhmabGreatAl11
import Derived.BigRegion
set_option maxRecDepth 100000
set_option maxHeartbeats 40000000
namespace Go.Proofs.YtblfffbmklkhmabGreat
open Go.RowKit Go.Proofs.Tryz
section
variable {av:Value}{aB i n nb:Nat}{aa:List REl}{on:List Bool}{row:List Value}{w wq:World}
structure RComp where
 sg:Nat
 tx:ByteArray
def RComp.no:RComp:=⟨0,⟨#[]⟩⟩
def nj (cs:List RComp):List Value:=cs.flatMap λc=>[.int .u8 c.sg,.string c.tx]
theorem rX {cs:List RComp}(h:i<cs.length):(nj cs)[i*2]?=some (.int .u8 cs[i].sg)/\(nj cs)[i*2+1]?=some (.string cs[i].tx):=by
 induction cs generalizing i with
 | nil=>simp at h
 | cons c l ih=>
  unfold nj;rw[List.flatMap_cons];cases i with
  | zero=>exact⟨rfl,rfl⟩
  | succ i=>
   have:=ih (i:=i) (by simpa using h);unfold nj at this;rw[show(i+1)*2=i*2+2 from by omega];exact⟨by simpa using this.1,by simpa using this.2⟩
def Jf (aa:List REl)(a:Nat):Int:=((aa[a]?.map REl.num).getD 0:Nat)
theorem xO {a:Nat}(h:a<aa.length):Jf aa a=aa[a].num:=by
 unfold Jf;rw[bW h];rfl
noncomputable def fM (aa:List REl)(on:List Bool)(sg:Nat)(b:Int):Nat->Bool
 | 0=>false
 | a+1=>fM aa on sg b a||((on[a]?).getD false&&dA aa (Jf aa a) sg b)
noncomputable def kF (aa:List REl)(cs:List RComp):Nat->List Bool
 | 0=>[]
 | c+1=>aa.map λb=>gU aa b 400 (cs[c]?.getD RComp.no).tx&&(decide (c=0)||fM aa (kF aa cs c) (cs[c]?.getD RComp.no).sg b.num aa.length)
theorem sD {cs:List RComp}{c:Nat}(h:0<c):(kF aa cs c).length=aa.length:=by
 cases c with
 | zero=>omega
 | succ c=>simp[kF]
theorem Tryz.info4:(Tryz.prog.info? 4).map (λi=>(i.zero,i.size,i.bytes))=some (some (.bool false),1,1):=by kernel_rfl
abbrev it (l:List Bool):List Value:=l.map Value.bool
def XR (w:World)(l:List Bool)(e:Ending)(w':World):Prop:=∃(a:Option Addr) (c:Nat),e=.returned (.slice a l.length c)/\w'.ownsRow w.heap.size 4 1 (.slice a l.length c) l.length (it l)/\Below w.heap.size w w'
theorem Pw (w:World)(aB n:Nat)(hb:aB<=w.heap.size)(hn:n<=24):(w.alloc (.cells (madeCells #[.bool false] n) 4)).ownsRow aB 4 1 (.slice (some ⟨w.heap.size,0,none⟩) n n) n (List.replicate n (.bool false)):=
 ⟨by simp,az ⟨w.heap.size,n,madeCells #[.bool false] n,rfl,hb,heap_alloc_new w _,aF,by unfold maxLen;omega,by rw[size_madeCells,Nat.mul_one],by rw[toList_madeCells_one];simp⟩⟩
theorem QL {l:List Bool}(h:i<l.length)(hn:l.length=n):(it (l.take i)++List.replicate (n - i) (Value.bool false)).set i (.bool l[i])=it (l.take (i+1))++List.replicate (n - (i+1)) (.bool false):=by
 have hl:(it (l.take i)).length=i:=by simp;omega
 rw[List.set_append_right _ _ (by omega),hl,Nat.sub_self,show n - i=(n - (i+1))+1 from by omega,List.replicate_succ,List.set_cons_zero,gj h];unfold it;rw[List.map_append,List.append_assoc];rfl
theorem HPost.quiet {k:Nat}{r:Bool}{f:FuncId}{args:Array Value}(h:Calls prog f args (w.drewN k) λe w'=>HPost (w.drewN k) r e w'):Calls prog f args (w.drewN k) λe w''=>e=.returned (.bool r)/\∃m,w''=w.drewN m:=
 h.mono λ_ _ ⟨he,j,hj⟩=>⟨he,k+j,by rw[hj,World.drewN_drewN]⟩
structure NI (w:World)(aB:Nat)(wq:World)(av:Value)(on:List Bool)(nb n:Nat)(row:List Value):Prop where
 onr:wq.ownsRow aB 4 1 av on.length (it on)
 nowr:wq.ownsRow aB 4 1 (.slice (some ⟨nb,0,none⟩) n n) n row
 below:Below aB w wq
 ne:∀j,av.ownBlock=some j->j≠nb
theorem yt {sg:Nat}{b:Int}:∀{i n:Nat},i<=n->fM aa on sg b i=true->fM aa on sg b n=true
 | i,0,h,h1=>by
  obtain rfl:i=0:=by omega
  exact h1
 | i,n+1,h,h1=>by
  by_cases e:i=n+1
  ·rw[<-e];exact h1
  ·have:=yt (i:=i) (n:=n) (by omega) h1;show(fM aa on sg b n||_)=true;rw[this];rfl
theorem NI.set (h:NI w aB wq av on nb n row)(i:Nat)(u:Value):NI w aB (wq.setCell ⟨nb,i,none⟩ u) av on nb n (row.set i u):=by
 have hb:aB<=nb:=(h.nowr.lt nb rfl).1;exact⟨bw h.onr (λe=>h.ne nb e rfl) _,(h.nowr.stored i u).1,h.below.setCell hb _,h.ne⟩
theorem NI.drawn (h:NI w aB wq av on nb n row)(i8:aB<=wq.heap.size){w':World}(hd:Drew wq w'):NI w aB w' av on nb n row:=
 ⟨aY h.onr hd.below,aY h.nowr hd.below,h.below.trans (hd.below.mono i8),h.ne⟩
theorem Em (w:World)(d:Nat)(aa:List REl)(ae:Nat)(hp:Option Addr)(vT:Value)(br:Bool)(vL:Value)(h:RD w d aa ae hp vT br vL)(rk:Nat->Nat)(hr:rN aa rk)(lX:∀y∈aa,y.cl.size<=maxLen)
  (aB:Nat) (a:Option Addr) (c:Nat) (cs:List RComp) (ho:w.ownsRow aB 117 2 (.slice a cs.length c) cs.length (nj cs)) (qV:∀x∈cs,rO 400 x.tx) (kr:cs.length<=400) :
  Calls prog 130 #[.pointer (some ⟨d,0,none⟩),.slice a cs.length c] w λe w'=>XR w (kF aa cs cs.length) e w':=by
 obtain⟨i0,hi,gP,gQ,gR⟩:=info_parts Tryz.info4;have bJ:=h.few
 have FU:∀u:World,(Instr.makeSlice 190 (.int .i64 (aa.length:Int)) (.int .i64 (aa.length:Int))).run prog u=.ok (.slice (some ⟨u.heap.size,0,none⟩) aa.length aa.length) (u.alloc (.cells (madeCells #[.bool false] aa.length) 4)):=λu=>by
  have h:=run_make (P:=prog) u 190 4 i0 (.bool false) underlying190 hi gP .i64 .i64 (aa.length:Int) (aa.length:Int) (by omega) (Int.le_refl _) (by rw[gR];omega) (by omega);simpa[gQ,Value.cells] using h
 obtain⟨aL,cL,vq⟩:=h.shape;subst vq;have HR:Hid (RD w d aa ae hp vT br (.slice aL aa.length cL)/\rN aa rk/\∀y∈aa,y.cl.size<=maxLen):=⟨h,hr,lX⟩;have HO:Hid (w.ownsRow aB 117 2 (.slice a cs.length c) cs.length (nj cs)/\∀x∈cs,rO 400 x.tx):=⟨ho,qV⟩;clear h hr lX ho qV;go_enter func130,ntmps130;go_wp2_with fail
 go_loopg [5,6] cs.length (λgk onv cv wr=>∃k:Nat,cv=.int .i64 k/\k<=cs.length/\cs.length - k<=gk/\Hid (wr.ownsRow w.heap.size 4 1 onv (kF aa cs k).length (it (kF aa cs k))/\Below w.heap.size w wr))
 case atStart=>exact⟨0,rfl,bm,by omega,eB,bo⟩
 case round=>
  obtain⟨k,rfl,qu,fT,HN⟩:=hrel;obtain⟨a2,c2,jJ⟩:=aK HN.out.1;subst jJ;have i8:=HN.out.2.size
  by_cases bc:k<cs.length
  ·have hd:decide ((k:Int)<(cs.length:Int))=true:=by simp;omega
   obtain⟨g,hg,di,gM⟩:=aX HO.out.1 (by omega);subst hg;obtain⟨f0,f1⟩:=rX bc;have s0:=gM _ _ f0;have s1:=gM _ _ f1;have Yy:=aw (HO.out.2 _ (bN bc))
   have zK:Hid (kF aa cs (k+1)=aa.map λb=>gU aa b 400 cs[k].tx&&(decide (k=0)||fM aa (kF aa cs k) cs[k].sg b.num aa.length)):=by
    unfold Hid;show(aa.map λb=>_)=_;rw[bW bc];rfl
   have Re:Hid (k≠0->(kF aa cs k).length=aa.length):=λh0=>sD (by omega);clear gM f0 f1;generalize cs[k]=x at s0 s1 Yy zK;generalize kF aa cs k=on at HN zK Re ⊢;have d1:=(HR.out.1.below HN.out.2).c1
   have HNI:Hid (NI w w.heap.size (wr.alloc (.cells (madeCells #[.bool false] aa.length) 4)) (.slice a2 on.length c2) on wr.heap.size aa.length (it ((kF aa cs (k+1)).take 0)++List.replicate (aa.length - 0) (.bool false))):=
    ⟨HN.out.1.alloc _,Pw wr _ _ i8 bJ,HN.out.2.alloc i8 _,λj hj=>by have:=(HN.out.1.lt j hj).2;omega⟩
   have S8:(kF aa cs (k+1)).length=aa.length:=sD (by omega);clear HN;generalize hnw:kF aa cs (k+1)=nowT at zK HNI S8;have VD:=aw hnw.symm;clear hnw;go_wp2_with fail;clear d1;generalize wr.alloc (.cells (madeCells #[.bool false] aa.length) 4)=W0 at HNI ⊢;generalize wr.heap.size=nb at HNI ⊢
   have HNT:Hid (∀b (hb:b<aa.length),∃hb':b<nowT.length,nowT[b]=(gU aa aa[b] 400 x.tx&&(decide (k=0)||fM aa on x.sg aa[b].num aa.length))):=λb hb=>⟨by rw[S8];exact hb,by
    have h1:=zK.out;subst h1;simp⟩
   clear zK
   go_loopg [8] aa.length (λKC bv wq=>∃b:Nat,bv=.int .i64 b/\b<=aa.length/\aa.length - b<=KC/\Hid (NI w w.heap.size wq (.slice a2 on.length c2) on nb aa.length (it (nowT.take b)++List.replicate (aa.length - b) (.bool false))))
   case atStart=>exact⟨0,rfl,bm,by omega,HNI⟩
   case round=>
    obtain⟨b,rfl,jM,r9,HM⟩:=hrel;have d1:=(HR.out.1.below HM.out.below).c1
    by_cases GL:b<aa.length
    ·have iC:decide ((b:Int)<(aa.length:Int))=true:=by simp;omega
     obtain⟨gL,hgL,e1⟩:=(HR.out.1.below HM.out.below).at' GL;subst hgL;have Pq:=bN GL;have XP:=(HM.out.below.cell (p:=⟨g,k*2,none⟩) di).trans s0;have s1r:=(HM.out.below.cell (p:=⟨g,k*2+1,none⟩) di).trans s1;have Wq:=HM.out.below.size;obtain⟨hbn,HNB'⟩:=HNT.out b GL;have FH:=aw HNB';have Bu:=aw (QL hbn S8);have wj:Hid (∀j,Calls prog 151 #[.pointer (some ⟨d,0,none⟩),.pointer (some ⟨aa[b].blk,0,none⟩),.string x.tx] (wr.drewN j) λe w'=>e=.returned (.bool (gU aa aa[b] 400 x.tx))/\∃m,w'=wr.drewN m):=λj=>HPost.quiet (OJ _ d aa ae hp vT br _ aa[b] x.tx 400 (HR.out.1.below (HM.out.below.trans ((dF wr j).mono Wq))) Pq (HR.out.2.2 _ Pq) Yy.out);have Wo:(b:Int)<(aa.length:Int):=by omega
     have aaT:(k:Int)<(cs.length:Int):=by omega
     clear HNB';generalize nowT[b]=res at FH Bu;go_upto_region 9 with fail;go_quiet ((go_at_call 151;exact(wj.out _)));have Ra:Hid (NI w w.heap.size (wr.drewN nq) (.slice a2 on.length c2) on nb aa.length (it (nowT.take b)++List.replicate (aa.length - b) (.bool false))):=HM.out.drawn Wq ⟨nq,rfl⟩;generalize wr.drewN nq=wz at Ra ⊢;clear wj d1 e1 XP s1r HM
     have Bq:Hid ((it (nowT.take b)++List.replicate (aa.length - b) (Value.bool false))[b]?=some (.bool false)):=by
      unfold Hid;have hl:(it (nowT.take b)).length=b:=by simp;omega
      rw[List.getElem?_append_right (by omega),hl,Nat.sub_self,List.getElem?_replicate,aE (by omega)]
     generalize hy:aa[b]=y at FH Pq ⊢;have HY:=aw hy;clear hy;cases hf:gU aa y 400 x.tx with
     | false=>
      have Gb:Hid (res=false):=by unfold Hid;rw[FH.out,hf];rfl
      clear hf FH;have q:=Ra.out.nowr.cellAt b (by omega);rw[Bq.out] at q;have qz:=Ra.out.nowr.frozenAt b
      have Vy:Hid (NI w w.heap.size (wz.setCell ⟨nb,b,none⟩ (.bool false)) (.slice a2 on.length c2) on nb aa.length (it (nowT.take (b+1))++List.replicate (aa.length - (b+1)) (.bool false))):=by
       have:=Ra.out.set b (.bool res);rw[Bu.out,Gb.out] at this;exact this
      go_wp2_with fail;refine wp_loop_rounds 1 ?_;rw[rounds_succ];go_wp2;go_roundg (aa.length - (b+1))
      case measure=>omega
      case rel=>exact⟨b+1,by go_num,by omega,aF,Vy⟩
     | true=>
      by_cases D3:k=0
      ·have gk0:((k:Int)==0)=true:=by simp[D3]
       have Gb:Hid (res=true):=by unfold Hid;rw[FH.out,hf,decide_eq_true D3];rfl
       clear hf FH D3;have q:=Ra.out.nowr.cellAt b (by omega);rw[Bq.out] at q;have qz:=Ra.out.nowr.frozenAt b
       have Vy:Hid (NI w w.heap.size (wz.setCell ⟨nb,b,none⟩ (.bool true)) (.slice a2 on.length c2) on nb aa.length (it (nowT.take (b+1))++List.replicate (aa.length - (b+1)) (.bool false))):=by
        have:=Ra.out.set b (.bool res);rw[Bu.out,Gb.out] at this;exact this
       go_wp2_with fail;refine wp_loop_rounds 1 ?_;rw[rounds_succ];go_wp2;go_roundg (aa.length - (b+1))
       case measure=>omega
       case rel=>exact⟨b+1,by go_num,by omega,aF,Vy⟩
      ·have gk0:((k:Int)==0)=false:=by rw[fq];omega
       have Yc:Hid (res=fM aa on x.sg y.num aa.length):=by unfold Hid;rw[FH.out,hf,decide_eq_false D3];rfl
       have hol:=Re.out D3;clear hf FH D3;go_wp2_with fail
       go_loopg [10,11] aa.length (λgk3 sv av wq=>∃(i:Nat) (t:Bool),sv=.bool t/\av=.int .i64 i/\i<=aa.length/\aa.length - i<=gk3/\Hid (t=fM aa on x.sg y.num i/\NI w w.heap.size wq (.slice a2 on.length c2) on nb aa.length (it (nowT.take b)++List.replicate (aa.length - b) (.bool false))))
       case atStart=>exact⟨0,false,rfl,rfl,bm,by omega,rfl,Ra.out⟩
       case round=>
        obtain⟨i,t,rfl,rfl,jQ,O6,HJ⟩:=hrel;have d1:=(HR.out.1.below HJ.out.2.below).c1;cases t with
        | true=>
         have Gb:Hid (res=true):=by unfold Hid;rw[Yc.out];exact yt jQ HJ.out.1.symm
         have ry:=aw HJ.out.2;clear HJ d1;have q:=ry.out.nowr.cellAt b (by omega);rw[Bq.out] at q;have qz:=ry.out.nowr.frozenAt b
         have Vy:Hid (NI w w.heap.size (wr.setCell ⟨nb,b,none⟩ (.bool true)) (.slice a2 on.length c2) on nb aa.length (it (nowT.take (b+1))++List.replicate (aa.length - (b+1)) (.bool false))):=by
          have:=ry.out.set b (.bool res);rw[Bu.out,Gb.out] at this;exact this
         go_wp2;go_roundg (aa.length - (b+1))
         case measure=>omega
         case rel=>exact⟨b+1,by go_num,by omega,aF,Vy⟩
        | false=>
         by_cases hit:i<aa.length
         ·have uA:decide ((i:Int)<(aa.length:Int))=true:=by simp;omega
          obtain⟨gO,hgO,_,hoc⟩:=aX HJ.out.2.onr (by omega);have o1:=hoc i (.bool (on[i]'(by omega))) (by simp[hol,hit]);obtain⟨gL2,hgL2,e1⟩:=(HR.out.1.below HJ.out.2.below).at' hit;obtain rfl:gL=gL2:=by simpa using hgL2
          obtain⟨gL3,aaI,e2⟩:=(HR.out.1.below HJ.out.2.below).at' GL;obtain rfl:gL=gL3:=by simpa using aaI
          rw[HY.out] at e2;have y0:wr.cell? ⟨y.blk,0,none⟩=some (.int .i64 y.num):=au ((HR.out.1.below HJ.out.2.below).el y Pq) rfl;have z0:wr.cell? ⟨aa[i].blk,0,none⟩=some (.int .i64 aa[i].num):=au ((HR.out.1.below HJ.out.2.below).el _ (bN hit)) rfl;have XP:=(HJ.out.2.below.cell (p:=⟨g,k*2,none⟩) di).trans s0
          have ME:Hid (fM aa on x.sg y.num (i+1)=(on[i]'(by omega)&&dA aa aa[i].num x.sg y.num)):=by
           unfold Hid;show(fM aa on x.sg y.num i||_)=_;rw[<-HJ.out.1,bW (by omega),xO hit];rfl
          have HSA:Hid (∀j,Calls prog 152 #[.pointer (some ⟨d,0,none⟩),.int .i64 aa[i].num,.int .u8 x.sg,.int .i64 y.num] (wr.drewN j) λe w'=>e=.returned (.bool (dA aa aa[i].num x.sg y.num))/\w'=wr.drewN j):=λj=>Hz _ d aa ae hp vT br _ aa[i].num x.sg y.num (HR.out.1.below (HJ.out.2.below.trans ((dF wr j).mono HJ.out.2.below.size))) rk HR.out.2.1;have ry:=aw HJ.out.2;clear hoc HJ hgL2 aaI;subst hgO;generalize aa[i]=z at e1 z0 ME HSA;have ait:(b:Int)<(aa.length:Int):=by omega
          have ai7:(k:Int)<(cs.length:Int):=by omega
          have hio:(i:Int)<(on.length:Int):=by omega
          cases ho:on[i]'(by omega) with
          | false=>
           rw[ho] at o1 ME;have Io:Hid (false=fM aa on x.sg y.num (i+1)/\NI w w.heap.size wr (.slice (some ⟨gO,0,none⟩) on.length c2) on nb aa.length (it (nowT.take b)++List.replicate (aa.length - b) (.bool false))):=⟨by rw[ME.out];rfl,ry.out⟩;clear ho ME ry HSA;go_wp2;go_roundg (aa.length - (i+1))
           case measure=>omega
           case rel=>exact⟨i+1,false,rfl,by go_num,by omega,aF,Io⟩
          | true=>
           rw[ho] at o1 ME;clear ho;go_upto_region 15 with fail;go_quiet ((go_at_call 152;exact Calls.quiet_of_same (HSA.out _)));have Io:Hid (dA aa z.num x.sg y.num=fM aa on x.sg y.num (i+1)/\NI w w.heap.size (wr.drewN nq) (.slice (some ⟨gO,0,none⟩) on.length c2) on nb aa.length (it (nowT.take b)++List.replicate (aa.length - b) (.bool false))):=⟨by rw[ME.out];rfl,ry.out.drawn ry.out.below.size ⟨nq,rfl⟩⟩;generalize dA aa z.num x.sg y.num=st at Io ⊢;clear ME ry HSA;go_wp2;go_roundg (aa.length - (i+1))
           case measure=>omega
           case rel=>exact⟨i+1,st,rfl,by go_num,by omega,aF,Io⟩
         ·have uA:decide ((i:Int)<(aa.length:Int))=false:=by simp;omega
          obtain rfl:i=aa.length:=by omega
          have Gb:Hid (res=false):=by unfold Hid;rw[Yc.out];exact HJ.out.1.symm
          have ry:=aw HJ.out.2;clear HJ;have q:=ry.out.nowr.cellAt b (by omega);rw[Bq.out] at q;have qz:=ry.out.nowr.frozenAt b
          have Vy:Hid (NI w w.heap.size (wr.setCell ⟨nb,b,none⟩ (.bool false)) (.slice a2 on.length c2) on nb aa.length (it (nowT.take (b+1))++List.replicate (aa.length - (b+1)) (.bool false))):=by
           have:=ry.out.set b (.bool res);rw[Bu.out,Gb.out] at this;exact this
          go_wp2;go_roundg (aa.length - (b+1))
          case measure=>omega
          case rel=>exact⟨b+1,by go_num,by omega,aF,Vy⟩
    ·have iC:decide ((b:Int)<(aa.length:Int))=false:=by simp;omega
     obtain rfl:b=aa.length:=by omega
     have HF:Hid (wr.ownsRow w.heap.size 4 1 (.slice (some ⟨nb,0,none⟩) aa.length aa.length) (kF aa cs (k+1)).length (it (kF aa cs (k+1)))/\Below w.heap.size w wr):=by
      have h1:=HM.out.nowr;rw[Nat.sub_self,List.replicate_zero,List.append_nil,List.take_of_length_le (by omega)] at h1;refine⟨?_,HM.out.below⟩;rw[<-VD.out,S8];exact h1
     go_wp2;go_roundg (cs.length - (k+1))
     case measure=>omega
     case rel=>exact⟨k+1,by go_num,by omega,aF,HF⟩
  ·have hd:decide ((k:Int)<(cs.length:Int))=false:=by simp;omega
   obtain rfl:k=cs.length:=by omega
   go_wp2;go_ret;exact⟨a2,c2,rfl,HN.out.1,HN.out.2⟩
end
def Mn:Nat->ByteArray->Nat
 | 0,_=>0
 | f+1,u=>if u.size=0 then 0 else kN (u.extract 0 (cB u 0)) 0+Mn f (u.extract (cB u 0) u.size)
theorem ID (s:ByteArray)(i:Nat):kN s i<=1000000:=by
 unfold kN rt
 (repeat' split)<;>omega
theorem QZ:∀(f:Nat) (u:ByteArray),Mn f u<=1000000*f
 | 0,_=>bm
 | f+1,u=>by
  show(if _ then _ else _)<=_;split
  ·exact bm
  ·have h1:=ID (u.extract 0 (cB u 0)) 0;have h2:=QZ f (u.extract (cB u 0) u.size);exact Nat.le_trans (Nat.add_le_add h1 h2) (by omega)
def kT (cs:List RComp):Nat:=(cs.map λc=>Mn 400 c.tx).sum
theorem Mm {cs:List RComp}{i:Nat}(h:i<cs.length):kT (cs.take (i+1))=kT (cs.take i)+Mn 400 cs[i].tx:=by
 unfold kT;rw[gj h,List.map_append,List.sum_append];simp
theorem JH (cs:List RComp):kT cs<=400000000*cs.length:=by
 induction cs with
 | nil=>simp[kT]
 | cons c l ih=>
  have:=QZ 400 c.tx;unfold kT at ih ⊢;rw[List.map_cons,List.sum_cons,List.length_cons];omega
theorem PartOK.cut {p:ByteArray}(h:PartOK p):gw p 0<p.size:=by
 unfold gw;split
 ·rename_i i7;have:=(h.turned i7).pos;rw[ByteArray.size_extract] at this;omega
 ·exact h.pos
def VX (w:World)(n:Nat)(e:Ending)(w':World):Prop:=e=.returned (.int .i64 n)/\Drew w w'
theorem LX (w:World)(pa:Option Addr)(aB:Nat)(a:Option Addr)(c:Nat)(cs:List RComp)(ho:w.ownsRow aB 117 2 (.slice a cs.length c) cs.length (nj cs))(qV:∀x∈cs,rO 400 x.tx)(kr:cs.length<=400):
  Calls prog 24 #[.pointer pa,.slice a cs.length c] w λe w'=>VX w (kT cs) e w':=by
 have HO:Hid (w.ownsRow aB 117 2 (.slice a cs.length c) cs.length (nj cs)/\∀x∈cs,rO 400 x.tx):=⟨ho,qV⟩;clear ho qV;go_enter func24,ntmps24;go_wp2_with fail
 go_loopg [5,6] cs.length (λgk sv iv wr=>∃i:Nat,iv=.int .i64 i/\i<=cs.length/\cs.length - i<=gk/\sv=.int .i64 ((kT (cs.take i):Nat):Int)/\Hid (Drew w wr))
 case atStart=>exact⟨0,rfl,bm,by omega,by simp[kT],0,rfl⟩
 case round=>
  obtain⟨i,rfl,hi,fT,rfl,hD⟩:=hrel
  by_cases bc:i<cs.length
  ·have hd:decide ((i:Int)<(cs.length:Int))=true:=by simp;omega
   obtain⟨g,hg,di,gM⟩:=aX HO.out.1 (by omega);subst hg;have s1:=(hD.out.below.cell (p:=⟨g,i*2+1,none⟩) di).trans (gM _ _ (rX bc).2);have Yy:=aw (HO.out.2 _ (bN bc));have HP:=aw (Mm bc)
   have mS:kT (cs.take i)<=400000000*400:=by
    have h1:=JH (cs.take i);have h2:(cs.take i).length<=cs.length:=List.length_take_le' _ _;omega
   clear gM;generalize cs[i].tx=u at s1 Yy HP;generalize kT (cs.take i)=p0 at HP mS ⊢;obtain⟨P,hP⟩:∃P,P=kT (cs.take (i+1)):=⟨_,rfl⟩;rw[<-hP] at HP;have Ug:=aw hP;clear hP;go_wp2_with fail
   go_loopg [5,7] 400 (λgk sv uv wr=>∃(v:ByteArray) (t:Nat),uv=.string v/\sv=.int .i64 (t:Int)/\gk<=400/\t<=p0+1000000*(400 - gk)/\Hid (rO gk v/\t+Mn gk v=P/\Drew w wr))
   case atStart=>exact⟨u,p0,rfl,rfl,aF,by omega,Yy.out,HP.out.symm,hD.out⟩
   case round=>
    obtain⟨v,t,rfl,rfl,SW,htl,HR⟩:=hrel
    by_cases h0:v.size=0
    ·have HT:Hid (t=P):=by
      unfold Hid;have h1:=HR.out.2.1
      have h2:Mn gk v=0:=by
       cases gk with
       | zero=>rfl
       | succ n=>show(if _ then _ else _)=_;rw[aE h0]
      omega
     obtain rfl:=eS h0;have oZ:=aw HR.out.2.2;clear h0 HR;go_wp2;go_roundg (cs.length - (i+1))
     case measure=>omega
     case rel=>exact⟨i+1,by go_num,by omega,aF,by rw[<-Ug.out,<-HT.out],oZ⟩
    ·obtain⟨n,rfl⟩:∃n,gk=n+1:=by
      cases gk with
      | zero=>exact absurd HR.out.1 h0
      | succ n=>exact⟨n,rfl⟩
     have fG:=hE v (by omega);have HQ:Hid (cB v 0<=v.size/\v.size<=400/\PartOK (v.extract 0 (cB v 0))/\rO n (v.extract (cB v 0) v.size)):=(show rO (n+1) v from HR.out.1).resolve_left h0
     have HS:Hid (t+(kN (v.extract 0 (cB v 0)) 0+Mn n (v.extract (cB v 0) v.size))=P):=by
      unfold Hid;have h1:=HR.out.2.1;have h2:Mn (n+1) v=kN (v.extract 0 (cB v 0)) 0+Mn n (v.extract (cB v 0) v.size):=by show(if _ then _ else _)=_;rw[aA h0]
      rw[h2] at h1;exact h1
     have Q8:=aw HR.out.2.2;have hcv:=ID (v.extract 0 (cB v 0)) 0;clear h0 HR;go_wp2_with fail;refine(BH _ v HQ.out.1 HQ.out.2.1).mono ?_;rintro e w2 ⟨rfl,n2,rfl⟩;go_wp2_with fail;refine(yM _ (v.extract 0 (cB v 0)) HQ.out.2.2.1.cut (by have:=HQ.out.2.1;rw[ByteArray.size_extract];omega)).mono ?_;rintro e w3 ⟨rfl,rfl⟩;have oZ:=aw (ln Q8.out n2);have iL:=aw HQ.out.2.2.2;generalize kN (v.extract 0 (cB v 0)) 0=y at HS hcv ⊢;generalize v.extract (cB v 0) v.size=v2 at HS iL ⊢;generalize v.extract 0 (cB v 0)=v3;clear HQ fG Q8;go_wp2;go_roundg n
     case measure=>omega
     case rel=>exact⟨v2,t+y,rfl,by go_num,by omega,by omega,iL.out,by have:=HS.out;omega,oZ.out⟩
  ·have hd:decide ((i:Int)<(cs.length:Int))=false:=by simp;omega
   obtain rfl:i=cs.length:=by omega
   go_wp2;go_ret;refine⟨?_,hD.out⟩;rw[List.take_length];rfl
section
variable {W0 wr:World}{aB i n nb:Nat}{l m:List Int}{x:Int}
noncomputable def cq (aa:List REl)(sels:List (List RComp)):Nat->List Int
 | 0=>List.replicate aa.length (-1)
 | k+1=>(List.range aa.length).map λi=>
  if(kF aa (sels[k]?.getD []) (sels[k]?.getD []).length)[i]?.getD false=true/\(cq aa sels k)[i]?.getD 0<(kT (sels[k]?.getD []):Int) then(kT (sels[k]?.getD []):Int) else(cq aa sels k)[i]?.getD 0
theorem gx (aa:List REl)(sels:List (List RComp))(k:Nat):(cq aa sels k).length=aa.length:=by
 cases k<;>simp[cq]
theorem OY {aa:List REl}{sels:List (List RComp)}{k:Nat}(hk:k<sels.length)(hi:i<aa.length)(hs:0<sels[k].length):
  ∃(o:Bool) (l:Int),(kF aa sels[k] sels[k].length)[i]?=some o/\(cq aa sels k)[i]?=some l/\(cq aa sels (k+1))[i]?=some (if o=true/\l<(kT sels[k]:Int) then(kT sels[k]:Int) else l):=by
 have l2:=gx aa sels k;have l3:=sD (aa:=aa) (cs:=sels[k]) hs;have e1:sels[k]?.getD []=sels[k]:=by rw[bW hk];rfl
 refine⟨(kF aa sels[k] sels[k].length)[i]'(by omega),(cq aa sels k)[i]'(by omega),bW _,bW _,?_⟩;show((List.range aa.length).map λi=>_)[i]?=_;rw[List.getElem?_map,List.getElem?_range hi,e1];show some (if _ then _ else _)=_;rw[bW (by omega),bW (by omega)];rfl
def SelsM (w:World)(aB:Nat)(xs:List Value)(sels:List (List RComp)):Prop:=
 ∀i (hi:i<sels.length),∃(a:Option Addr) (c:Nat),xs[i]?=some (.slice a sels[i].length c)/\w.ownsRow aB 117 2 (.slice a sels[i].length c) sels[i].length (nj sels[i])
structure Iw (cs:List RComp):Prop where
 some:0<cs.length
 few:cs.length<=400
 ok:∀x∈cs,rO 400 x.tx
abbrev pD (l:List Int):List Value:=l.map (Value.int .i64)
def Ur (w:World)(l:List Int)(e:Ending)(w':World):Prop:=∃(a:Option Addr) (c:Nat),e=.returned (.slice a l.length c)/\w'.ownsRow w.heap.size 3 1 (.slice a l.length c) l.length (pD l)/\Below w.heap.size w w'
theorem Ld (w:World)(aB n:Nat)(hb:aB<=w.heap.size)(hn:n<=24):(w.alloc (.cells (madeCells #[.int .i64 0] n) 3)).ownsRow aB 3 1 (.slice (some ⟨w.heap.size,0,none⟩) n n) n (pD (List.replicate n 0)):=
 ⟨by simp,az ⟨w.heap.size,n,madeCells #[.int .i64 0] n,rfl,hb,heap_alloc_new w _,aF,by unfold maxLen;omega,by rw[size_madeCells,Nat.mul_one],by rw[toList_madeCells_one];simp[pD]⟩⟩
def pI (l m:List Int)(i:Nat):List Int:=m.take i++l.drop i
theorem PA (hm:m.length=n)(hi:i<n):(pI l m i)[i]?=l[i]?:=by
 unfold pI;have:(m.take i).length=i:=by rw[List.length_take];omega
 rw[List.getElem?_append_right (by omega),this,Nat.sub_self,List.getElem?_drop,Nat.add_zero]
theorem Jc (hl:l.length=n)(hm:m.length=n)(hi:i<n)(hx:m[i]?=some x):(pI l m i).set i x=pI l m (i+1):=by
 obtain rfl:m[i]'(by omega)=x:=(ee.1 hx).2;unfold pI;have h1:(m.take i).length=i:=by rw[List.length_take];omega
 rw[List.set_append_right _ _ (by omega),h1,Nat.sub_self,gj (by omega),List.append_assoc]
 congr 1
 rw[List.drop_eq_getElem_cons (by omega)];rfl
theorem PC (hl:l.length=n)(hm:m.length=n)(hi:i<n)(Ws:m[i]?=l[i]?):pI l m i=pI l m (i+1):=by
 have he:m[i]'(by omega)=l[i]'(by omega):=by
  rw[bW (by omega),bW (by omega)] at Ws;injection Ws
 unfold pI;rw[gj (by omega),List.append_assoc,he,List.drop_eq_getElem_cons (i:=i) (by omega)];rfl
theorem Ja (hl:l.length=n)(hm:m.length=n):pI l m n=m:=by
 unfold pI;rw[List.take_of_length_le (by omega),List.drop_of_length_le (by omega),List.append_nil]
theorem TS:(pD l).set i (.int .i64 x)=pD (l.set i x):=by
 unfold pD;rw[List.map_set]
structure HI (W0:World)(aB:Nat)(wr:World)(nb n:Nat)(l:List Int):Prop where
 row:wr.ownsRow aB 3 1 (.slice (some ⟨nb,0,none⟩) n n) n (pD l)
 below:Below aB W0 wr
theorem HI.set (h:HI W0 aB wr nb n l)(i:Nat)(x:Int):HI W0 aB (wr.setCell ⟨nb,i,none⟩ (.int .i64 x)) nb n (l.set i x):=by
 refine⟨?_,h.below.setCell ((h.row.lt nb rfl).1) _⟩;have:=(h.row.stored i (.int .i64 x)).1;rw[TS] at this;exact this
theorem HI.go (h:HI W0 aB wr nb n l)(hb:aB<=wr.heap.size){w':World}(hB:Below wr.heap.size wr w'):HI W0 aB w' nb n l:=⟨aY h.row hB,h.below.trans (hB.mono hb)⟩
theorem KO (w:World)(d:Nat)(aa:List REl)(ae:Nat)(hp:Option Addr)(vT:Value)(br:Bool)(vL:Value)(h:RD w d aa ae hp vT br vL)(rk:Nat->Nat)(hr:rN aa rk)(lX:∀y∈aa,y.cl.size<=maxLen)
  (aB:Nat) (ly:Int) (a:Option Addr) (c:Nat) (vD:Value) (sels:List (List RComp)) (xs:List Value) (ho:w.ownsRow aB 81 1 (.slice a sels.length c) sels.length xs) (hs:SelsM w aB xs sels) (qV:∀x∈sels,Iw x) (hfs:sels.length<=400) :
  Calls prog 101 #[.pointer (some ⟨d,0,none⟩),.agg #[.int .i64 ly,.slice a sels.length c,vD]] w λe w'=>Ur w (cq aa sels sels.length) e w':=by
 obtain⟨i0,hi,gP,gQ,gR⟩:=info_parts Tryz.info3;have bJ:=h.few
 have FU:∀u:World,(Instr.makeSlice 28 (.int .i64 (aa.length:Int)) (.int .i64 (aa.length:Int))).run prog u=.ok (.slice (some ⟨u.heap.size,0,none⟩) aa.length aa.length) (u.alloc (.cells (madeCells #[.int .i64 0] aa.length) 3)):=λu=>by
  have h:=run_make (P:=prog) u 28 3 i0 (.int .i64 0) underlying28 hi gP .i64 .i64 (aa.length:Int) (aa.length:Int) (by omega) (Int.le_refl _) (by rw[gR];omega) (by omega);simpa[gQ,Value.cells] using h
 obtain⟨aL,cL,vq⟩:=h.shape;subst vq;have oE:Hid (Below w.heap.size w (w.alloc (.cells #[.int .i64 ly,.slice a sels.length c,vD] 79))):=bo.alloc aF _;have HR:Hid (RD (w.alloc (.cells #[.int .i64 ly,.slice a sels.length c,vD] 79)) d aa ae hp vT br (.slice aL aa.length cL)/\rN aa rk/\∀y∈aa,y.cl.size<=maxLen):=⟨h.below oE.out,hr,lX⟩;have HO:Hid (w.ownsRow aB 81 1 (.slice a sels.length c) sels.length xs/\SelsM w aB xs sels/\∀x∈sels,Iw x):=⟨ho,hs,qV⟩;have rx:Hid ((w.alloc (.cells #[.int .i64 ly,.slice a sels.length c,vD] 79)).heap[w.heap.size]?=some (.cells #[.int .i64 ly,.slice a sels.length c,vD] 79 (0,0))):=heap_alloc_new w _;have d1:=HR.out.1.c1;have UY:(w.alloc (.cells #[.int .i64 ly,.slice a sels.length c,vD] 79)).heap.size=w.heap.size+1:=by simp
 clear h hr lX ho hs qV;go_enter func101,ntmps101;go_wp2_with fail
 have JW:Hid (HI (w.alloc (.cells #[.int .i64 ly,.slice a sels.length c,vD] 79)) (w.heap.size+1) ((w.alloc (.cells #[.int .i64 ly,.slice a sels.length c,vD] 79)).alloc (.cells (madeCells #[.int .i64 0] aa.length) 3)) (w.heap.size+1) aa.length (pI (List.replicate aa.length 0) (cq aa sels 0) 0)):=by
  have:=Ld (w.alloc (.cells #[.int .i64 ly,.slice a sels.length c,vD] 79)) (w.heap.size+1) aa.length (by omega) bJ;rw[UY] at this;refine⟨?_,bo.alloc (by omega) _⟩;show World.ownsRow _ _ _ _ _ _ (pD (List.take 0 _++List.drop 0 _));exact this
 generalize hW0:w.alloc (.cells #[.int .i64 ly,.slice a sels.length c,vD] 79)=W0 at oE HR rx d1 UY JW ⊢;generalize W0.alloc (.cells (madeCells #[.int .i64 0] aa.length) 3)=W1 at JW ⊢;clear hW0 d1
 go_loopg [6] aa.length (λgk iv wr=>∃i:Nat,iv=.int .i64 i/\i<=aa.length/\aa.length - i<=gk/\Hid (HI W0 (w.heap.size+1) wr (w.heap.size+1) aa.length (pI (List.replicate aa.length 0) (cq aa sels 0) i)))
 case atStart=>exact⟨0,rfl,bm,by omega,JW⟩
 case round=>
  obtain⟨i,rfl,jQ,fT,HN⟩:=hrel
  by_cases bc:i<aa.length
  ·have hd:decide ((i:Int)<(aa.length:Int))=true:=by simp;omega
   have zg:(List.replicate aa.length (0:Int)).length=aa.length:=by simp
   have CM:=gx aa sels 0;have q:=HN.out.row.cellAt i (by omega);have qz:=HN.out.row.frozenAt i;rw[List.getElem?_map,PA CM bc,List.getElem?_replicate,aE bc] at q;have Ec:(cq aa sels 0)[i]?=some (-1):=by simp[cq,bc]
   have fj:Hid (HI W0 (w.heap.size+1) (wr.setCell ⟨w.heap.size+1,i,none⟩ (.int .i64 (-1))) (w.heap.size+1) aa.length (pI (List.replicate aa.length 0) (cq aa sels 0) (i+1))):=by
    have:=HN.out.set i (-1);rw[<-Jc zg CM bc Ec];exact this
   clear HN zg CM Ec;go_wp2;go_roundg (aa.length - (i+1))
   case measure=>omega
   case rel=>exact⟨i+1,by go_num,by omega,aF,fj⟩
  ·have hd:decide ((i:Int)<(aa.length:Int))=false:=by simp;omega
   obtain rfl:i=aa.length:=by omega
   have kU:Hid (HI W0 (w.heap.size+1) wr (w.heap.size+1) aa.length (cq aa sels 0)):=by
    have:=HN.out;rw[Ja (by simp) (gx aa sels 0)] at this;exact this
   clear HN;go_wp2_with fail
   go_loopg [7] sels.length (λgk kv wr=>∃k:Nat,kv=.int .i64 k/\k<=sels.length/\sels.length - k<=gk/\Hid (HI W0 (w.heap.size+1) wr (w.heap.size+1) aa.length (cq aa sels k)))
   case atStart=>exact⟨0,rfl,bm,by omega,kU⟩
   case round=>
    obtain⟨k,rfl,qu,fT,HN⟩:=hrel
    by_cases hkt:k<sels.length
    ·have iC:decide ((k:Int)<(sels.length:Int))=true:=by simp;omega
     have i8:=HN.out.below.size;have WA:=(HN.out.row.lt (w.heap.size+1) rfl).2;have C1:=aw (oE.out.trans (HN.out.below.mono (Nat.le_succ _)));have r1:wr.cell? ⟨w.heap.size,1,none⟩=some (.slice a sels.length c):=(HN.out.below.cell (p:=⟨w.heap.size,1,none⟩) (Nat.lt_succ_self _)).trans (au rx.out rfl);obtain⟨g,hg,di,gM⟩:=aX HO.out.1 (by omega);subst hg;obtain⟨ak,ck,hx,Pj⟩:=HO.out.2.1 k hkt;have s0:=gM _ _ hx;have XP:=(C1.out.cell (p:=⟨g,k,none⟩) di).trans s0;have Pn:=HO.out.2.2 _ (bN hkt);have RL:=bZ Pn (aY Pj C1.out);have FK:=aw Pj;have Bm:Hid (∀i,i<aa.length->∃(o:Bool) (l:Int),(kF aa sels[k] sels[k].length)[i]?=some o/\(cq aa sels k)[i]?=some l/\(cq aa sels (k+1))[i]?=some (if o=true/\l<(kT sels[k]:Int) then(kT sels[k]:Int) else l)):=λi hi=>OY hkt hi Pn.some;have S4:=gx aa sels k;have O9:=gx aa sels (k+1);have hwb:kT sels[k]<=160000000000:=by have h1:=JH sels[k];have h2:=Pn.few;omega
     have hol:=sD (aa:=aa) (cs:=sels[k]) Pn.some;clear gM hx Pj Pn;generalize sels[k]=sel at s0 XP RL FK Bm hwb hol;generalize qa:cq aa sels (k+1)=m1 at Bm O9;have HK1:=aw qa;clear qa;generalize cq aa sels k=m0 at HN Bm S4;have Bt:Hid (RD wr d aa ae hp vT br (.slice aL aa.length cL)):=HR.out.1.below (by rw[UY];exact HN.out.below);go_wp2_with fail;refine(Em wr d aa ae hp vT br _ Bt.out rk HR.out.2.1 HR.out.2.2 aB ak ck sel RL.out.2 RL.out.1.ok RL.out.1.few).mono ?_;rintro e w2 ⟨a2,c2,rfl,MK,dk⟩;have fj:Hid (HI W0 (w.heap.size+1) w2 (w.heap.size+1) aa.length m0):=HN.out.go (by omega) dk;have zK:=aw MK;have eM:=aw (C1.out.trans (dk.mono C1.out.size));have HWT:Hid (∀j,Calls prog 24 #[.pointer hp,.slice ak sel.length ck] (w2.drewN j) λe w'=>e=.returned (.int .i64 (kT sel))/\∃m,w'=w2.drewN m):=λj=>(LX _ hp aB ak ck sel (aY FK.out (eM.out.trans ((dF w2 j).mono eM.out.size))) RL.out.1.ok RL.out.1.few).mono λ_ _ ⟨he,i,hi⟩=>⟨he,j+i,by rw[hi,World.drewN_drewN]⟩;have t0:w2.cell? ⟨d,0,none⟩=some (.pointer hp):=au (Bt.out.below dk).doc rfl;have r2:w2.cell? ⟨w.heap.size,1,none⟩=some (.slice (some ⟨g,0,none⟩) sels.length c):=(dk.cell (p:=⟨w.heap.size,1,none⟩) (by show w.heap.size<wr.heap.size;omega)).trans r1;have s2:=(dk.cell (p:=⟨g,k,none⟩) (by show g<wr.heap.size;omega)).trans XP;have aaT:(k:Int)<(sels.length:Int):=by omega
     clear MK s0 XP r1 dk HN Bt;go_upto_region 10 with fail;go_quiet ((go_at_call 24;exact(HWT.out _)));have oF:Hid (HI W0 (w.heap.size+1) (w2.drewN nq) (w.heap.size+1) aa.length (pI m0 m1 0)):=fj.out.go (by have:=fj.out.below.size;omega) (dF w2 nq);have RG:=aw (aY zK.out (dF w2 nq));generalize w2.drewN nq=w3 at oF RG ⊢;clear t0 r2 s2 HWT fj zK eM RL FK;have Yd:Hid (∀j,(Value.slice a2 (kF aa sel sel.length).length c2).ownBlock=some j->j≠w.heap.size+1):=λj hj e=>by have h1:=(RG.out.lt j hj).1;omega
     generalize kF aa sel sel.length=on at RG Bm hol Yd ⊢;generalize kT sel=ws at Bm hwb ⊢;go_wp2_with fail
     go_loopg [10] aa.length (λKC iv wq=>∃i:Nat,iv=.int .i64 i/\i<=aa.length/\aa.length - i<=KC/\Hid (HI W0 (w.heap.size+1) wq (w.heap.size+1) aa.length (pI m0 m1 i)/\wq.ownsRow 0 4 1 (.slice a2 on.length c2) on.length (it on)))
     case atStart=>exact⟨0,rfl,bm,by omega,oF.out,ba RG.out bm⟩
     case round=>
      obtain⟨i,rfl,aaO,r9,HJ⟩:=hrel
      by_cases hit:i<aa.length
      ·have uA:decide ((i:Int)<(aa.length:Int))=true:=by simp;omega
       obtain⟨o,l,UP,B5,yT⟩:=Bm.out i hit;have q:=HJ.out.1.row.cellAt i (by omega);rw[List.getElem?_map,PA O9 hit,B5] at q;have qz:=HJ.out.1.row.frozenAt i;obtain⟨gO,hgO,_,hoc⟩:=aX HJ.out.2 (by omega);subst hgO;have q2:=hoc i (.bool o) (by rw[List.getElem?_map,UP];rfl);have hio:(i:Int)<(on.length:Int):=by omega
       clear hoc
       by_cases hc:o=true/\l<(ws:Int)
       ·obtain⟨rfl,hlw⟩:=hc;have CN:m1[i]?=some (ws:Int):=by rw[yT,aE ⟨rfl,hlw⟩]
        have gl:decide (l<(ws:Int))=true:=by simpa using hlw
        have ry:Hid (HI W0 (w.heap.size+1) (wr.setCell ⟨w.heap.size+1,i,none⟩ (.int .i64 (ws:Int))) (w.heap.size+1) aa.length (pI m0 m1 (i+1))/\(wr.setCell ⟨w.heap.size+1,i,none⟩ (.int .i64 (ws:Int))).ownsRow 0 4 1 (.slice (some ⟨gO,0,none⟩) on.length c2) on.length (it on)):=by
         refine⟨?_,bw HJ.out.2 (λe=>Yd.out _ e rfl) _⟩;have:=HJ.out.1.set i (ws:Int);rw[Jc S4 O9 hit CN] at this;exact this
        clear HJ yT CN UP B5 hlw;go_wp2;go_roundg (aa.length - (i+1))
        case measure=>omega
        case rel=>exact⟨i+1,by go_num,by omega,aF,ry⟩
       ·have CN:m1[i]?=some l:=by rw[yT,aA hc]
        have ry:Hid (HI W0 (w.heap.size+1) wr (w.heap.size+1) aa.length (pI m0 m1 (i+1))/\wr.ownsRow 0 4 1 (.slice (some ⟨gO,0,none⟩) on.length c2) on.length (it on)):=by
         refine⟨?_,HJ.out.2⟩;rw[<-PC S4 O9 hit (CN.trans B5.symm)];exact HJ.out.1
        cases o with
        | false=>
         clear HJ yT CN UP B5 hc;go_wp2;go_roundg (aa.length - (i+1))
         case measure=>omega
         case rel=>exact⟨i+1,by go_num,by omega,aF,ry⟩
        | true=>
         have gl:decide (l<(ws:Int))=false:=by simpa using hc
         clear HJ yT CN UP B5 hc;go_wp2;go_roundg (aa.length - (i+1))
         case measure=>omega
         case rel=>exact⟨i+1,by go_num,by omega,aF,ry⟩
      ·have uA:decide ((i:Int)<(aa.length:Int))=false:=by simp;omega
       obtain rfl:i=aa.length:=by omega
       have HF:Hid (HI W0 (w.heap.size+1) wr (w.heap.size+1) aa.length (cq aa sels (k+1))):=by
        have:=HJ.out.1;rw[Ja S4 O9] at this;rw[HK1.out];exact this
       clear HJ;go_wp2;go_roundg (sels.length - (k+1))
       case measure=>omega
       case rel=>exact⟨k+1,by go_num,by omega,aF,HF⟩
    ·have iC:decide ((k:Int)<(sels.length:Int))=false:=by simp;omega
     obtain rfl:k=sels.length:=by omega
     have HF:Hid (Ur w (cq aa sels sels.length) (.returned (.slice (some ⟨w.heap.size+1,0,none⟩) aa.length aa.length)) wr):=by
      refine⟨some ⟨w.heap.size+1,0,none⟩,aa.length,by rw[gx],?_,oE.out.trans (HN.out.below.mono (Nat.le_succ _))⟩;rw[gx];exact ba HN.out.row (Nat.le_succ _)
     have r1:wr.cell? ⟨w.heap.size,1,none⟩=some (.slice a sels.length c):=(HN.out.below.cell (p:=⟨w.heap.size,1,none⟩) (Nat.lt_succ_self _)).trans (au rx.out rfl);go_wp2;go_ret;exact HF.out
end
section
variable {i j n p:Nat}{w wr:World}
structure Cl where
 d:ei
 ly:Int
 hv:Int
 no:Int
def pc:Cl:=⟨⟨0,⟨#[]⟩,false⟩,0,0,0⟩
def tF (c:Cl):Nat->Value
 | 0=>.int .u8 c.d.pr
 | 1=>.string c.d.val
 | 2=>.bool c.d.must
 | 3=>.int .i64 c.ly
 | 4=>.int .i64 c.hv
 | _=>.int .i64 c.no
abbrev clL (c:Cl):List Value:=[.int .u8 c.d.pr,.string c.d.val,.bool c.d.must,.int .i64 c.ly,.int .i64 c.hv,.int .i64 c.no]
def yN (a b:Cl):Bool:=nV a.d.must a.ly a.hv a.no b.d.must b.ly b.hv b.no
abbrev qr:=Nat->Nat->ByteArray × Cl
def uj (hi:Int)(c:Cl)(o:ByteArray × Cl):ByteArray × Cl:=
 if hi<0 then o else if o.1.size=0∨yN {c with hv:=hi} o.2=true then(c.d.val,{c with hv:=hi}) else o
def ic (S:qr)(c:Cl)(hv:Nat->Int)(p k:Nat):qr:=λi q=>if i<k/\q=p then uj (hv i) c (S i q) else S i q
theorem H6 (S:qr)(c:Cl)(hv:Nat->Int)(p:Nat):ic S c hv p 0=S:=by
 funext i q;unfold ic;rw[aA (by omega)]
def gH (S:qr)(i p:Nat)(x:ByteArray × Cl):qr:=λi' p'=>if i'=i/\p'=p then x else S i' p'
theorem QO (S:qr)(c:Cl)(hv:Nat->Int)(p k:Nat):ic S c hv p k k p=S k p:=by
 unfold ic;rw[aA (by omega)]
theorem H5 (S:qr)(c:Cl)(hv:Nat->Int)(p k:Nat):ic S c hv p (k+1)=gH (ic S c hv p k) k p (uj (hv k) c (S k p)):=by
 funext i q;unfold gH ic
 by_cases h:i=k/\q=p
 ·obtain⟨rfl,rfl⟩:=h;rw[aE ⟨by omega,rfl⟩,aE ⟨rfl,rfl⟩]
 ·rw[aA h]
  by_cases h2:i<k/\q=p
  ·rw[aE ⟨by omega,h2.2⟩,aE h2]
  ·rw[aA h2,aA (λh3=>h2 ⟨Nat.lt_of_le_of_ne (by omega) (λe=>h ⟨e,h3.2⟩),h3.2⟩)]
theorem uT (S:qr)(i p:Nat):gH S i p (S i p)=S:=by
 funext i' p';unfold gH;split
 ·rename_i h;rw[h.1,h.2]
 ·rfl
structure eI where
 ly:Int
 sels:List (List RComp)
 dl:List ei
def Lz (c:Nat):Nat:=(fw c).getD 9
def pY (n:Nat)(hv:Nat->Int)(ly:Int)(dl:List ei)(n0:Nat)(S:qr):Nat->qr
 | 0=>S
 | d+1=>match dl[d]? with
  | none=>pY n hv ly dl n0 S d
  | some x=>ic (pY n hv ly dl n0 S d) ⟨x,ly,0,((n0+d+1:Nat):Int)⟩ hv (Lz x.pr) n
def lY (rs:List eI):Nat->Nat
 | 0=>0
 | r+1=>lY rs r+(rs[r]?.map λx=>x.dl.length).getD 0
noncomputable def sV (aa:List REl)(rs:List eI):Nat->qr
 | 0=>λ_ _=>(⟨#[]⟩,pc)
 | r+1=>match rs[r]? with
  | none=>sV aa rs r
  | some x=>pY aa.length (λi=>(cq aa x.sels x.sels.length)[i]?.getD 0) x.ly x.dl (lY rs r) (sV aa rs r) x.dl.length
noncomputable def Me (aa:List REl)(rs:List eI)(i p:Nat):ByteArray:=(sV aa rs rs.length i p).1
def ph (S:qr)(n:Nat):List Value:=(List.range (n*54)).map λj=>tF (S (j / 54) (j / 6 % 9)).2 (j % 6)
def mh (S:qr)(n:Nat):List Value:=(List.range (n*9)).map λj=>Value.string (S (j / 9) (j % 9)).1
theorem gY (S:qr)(n:Nat):(ph S n).length=n*54:=by simp[ph]
theorem lr (S:qr)(n:Nat):(mh S n).length=n*9:=by simp[mh]
theorem tL {S:qr}(h:j<n*54):(ph S n)[j]?=some (tF (S (j / 54) (j / 6 % 9)).2 (j % 6)):=by
 unfold ph;rw[List.getElem?_map,List.getElem?_range h];rfl
theorem p9 {S:qr}(h:j<n*9):(mh S n)[j]?=some (.string (S (j / 9) (j % 9)).1):=by
 unfold mh;rw[List.getElem?_map,List.getElem?_range h];rfl
theorem DI {S:qr}{r:Nat}(hi:i<n)(hp:p<9)(hr:r<6):(ph S n)[i*54+p*6+r]?=some (tF (S i p).2 r):=by
 rw[tL (by omega),show(i*54+p*6+r) / 54=i from by omega,show(i*54+p*6+r) / 6 % 9=p from by omega,show(i*54+p*6+r) % 6=r from by omega]
theorem DJ {S:qr}(hi:i<n)(hp:p<9):(mh S n)[i*9+p]?=some (.string (S i p).1):=by
 rw[p9 (by omega),show(i*9+p) / 9=i from by omega,show(i*9+p) % 9=p from by omega]
theorem DK (S:qr)(n:Nat):mh S n=mi (λi p=>(S i p).1) n:=by
 apply List.ext_getElem?;intro j
 by_cases h:j<n*9
 ·have h2:=DL (λi p=>(S i p).1) (n:=n) (i:=j / 9) (p:=j % 9) (by omega) (by omega);rw[show j / 9*9+j % 9=j from by omega] at h2;rw[p9 h,h2]
 ·rw[List.getElem?_eq_none (by rw[lr];omega),List.getElem?_eq_none (by rw[Af];omega)]
theorem Kx {S:qr}(hp:p<9)(v:ByteArray)(c:Cl):(mh S n).set (i*9+p) (.string v)=mh (gH S i p (v,c)) n:=by
 apply List.ext_getElem?;intro j
 by_cases h:j<n*9
 ·rw[p9 h]
  by_cases he:i*9+p=j
  ·subst he;rw[List.getElem?_set_self (by rw[lr];omega)];unfold gH;rw[aE ⟨by omega,by omega⟩]
  ·rw[List.getElem?_set_ne he,p9 h];unfold gH;rw[aA (by omega)]
 ·rw[List.getElem?_eq_none (by rw[List.length_set,lr];omega),List.getElem?_eq_none (by rw[lr];omega)]
theorem Kv {S:qr}(hp:p<9)(v:ByteArray)(c:Cl):
  ((((((ph S n).set (i*54+p*6) (.int .u8 c.d.pr)).set (i*54+p*6+1) (.string c.d.val)).set (i*54+p*6+2) (.bool c.d.must)).set (i*54+p*6+3) (.int .i64 c.ly)).set (i*54+p*6+4) (.int .i64 c.hv)).set (i*54+p*6+5) (.int .i64 c.no)=ph (gH S i p (v,c)) n:=by
 apply List.ext_getElem?;intro j
 by_cases h:j<n*54
 ·rw[tL h]
  by_cases he:j / 54=i/\j / 6 % 9=p
  ·have Ec:gH S i p (v,c) (j / 54) (j / 6 % 9)=(v,c):=by unfold gH;rw[aE he]
   rw[Ec];have h6:j % 6=0∨j % 6=1∨j % 6=2∨j % 6=3∨j % 6=4∨j % 6=5:=by omega
   rcases h6 with h6 | h6 | h6 | h6 | h6 | h6<;>rw[h6]
   ·obtain rfl:j=i*54+p*6:=by omega
    rw[List.getElem?_set_ne (by omega),List.getElem?_set_ne (by omega),List.getElem?_set_ne (by omega),List.getElem?_set_ne (by omega),List.getElem?_set_ne (by omega),List.getElem?_set_self (by simp only[gY];omega)];rfl
   ·obtain rfl:j=i*54+p*6+1:=by omega
    rw[List.getElem?_set_ne (by omega),List.getElem?_set_ne (by omega),List.getElem?_set_ne (by omega),List.getElem?_set_ne (by omega),List.getElem?_set_self (by simp only[List.length_set,gY];omega)];rfl
   ·obtain rfl:j=i*54+p*6+2:=by omega
    rw[List.getElem?_set_ne (by omega),List.getElem?_set_ne (by omega),List.getElem?_set_ne (by omega),List.getElem?_set_self (by simp only[List.length_set,gY];omega)];rfl
   ·obtain rfl:j=i*54+p*6+3:=by omega
    rw[List.getElem?_set_ne (by omega),List.getElem?_set_ne (by omega),List.getElem?_set_self (by simp only[List.length_set,gY];omega)];rfl
   ·obtain rfl:j=i*54+p*6+4:=by omega
    rw[List.getElem?_set_ne (by omega),List.getElem?_set_self (by simp only[List.length_set,gY];omega)];rfl
   ·obtain rfl:j=i*54+p*6+5:=by omega
    rw[List.getElem?_set_self (by simp only[List.length_set,gY];omega)];rfl
  ·have Ec:gH S i p (v,c) (j / 54) (j / 6 % 9)=S (j / 54) (j / 6 % 9):=by unfold gH;rw[aA he]
   rw[Ec,List.getElem?_set_ne (by omega),List.getElem?_set_ne (by omega),List.getElem?_set_ne (by omega),List.getElem?_set_ne (by omega),List.getElem?_set_ne (by omega),List.getElem?_set_ne (by omega),tL h]
 ·rw[List.getElem?_eq_none (by simp only[List.length_set,gY];omega),List.getElem?_eq_none (by rw[gY];omega)]
def zB:Array Value:=((List.range 54).map λr=>tF pc (r % 6)).toArray
def zT:Array Value:=((List.range 9).map λ_=>Value.string ⟨#[]⟩).toArray
theorem JN:zB.size=54:=rfl
theorem JO:zT.size=9:=rfl
theorem Tryz.info170:(Tryz.prog.info? 170).map (λi=>(i.zero,i.size,i.bytes))=some (some (.agg zB),54,504):=by kernel_rfl
theorem Tryz.infoq168:(Tryz.prog.info? 168).map (λi=>(i.zero,i.size,i.bytes))=some (some (.agg zT),9,144):=by kernel_rfl
theorem G7 (n:Nat):(madeCells zB (n*54)).toList=ph (λ_ _=>(⟨#[]⟩,pc)) n:=by
 unfold madeCells ph;rw[Array.toList_map,Array.toList_range];apply List.map_congr_left;intro j _;have hj:j % 54<zB.size:=by rw[JN];omega
 have h2:zB[j % 54]?=some (tF pc (j % 6)):=by
  unfold zB;rw[List.getElem?_toArray,List.getElem?_map,List.getElem?_range (by omega),<-show j % 54 % 6=j % 6 from by omega];rfl
 rw[JN,getElem!_pos zB (j % 54) hj];exact(bG.1 h2).2
theorem G8 (n:Nat):(madeCells zT (n*9)).toList=mh (λ_ _=>(⟨#[]⟩,pc)) n:=by
 unfold madeCells mh;rw[Array.toList_map,Array.toList_range];apply List.map_congr_left;intro j _;have hj:j % 9<zT.size:=by rw[JO];omega
 have h2:zT[j % 9]?=some (.string ⟨#[]⟩):=by
  unfold zT;rw[List.getElem?_toArray,List.getElem?_map,List.getElem?_range (by omega)];rfl
 rw[JO,getElem!_pos zT (j % 9) hj];exact(bG.1 h2).2
theorem Lc (w:World)(aB n:Nat)(hb:aB<=w.heap.size)(hn:n<=24):(w.alloc (.cells (madeCells zB (n*54)) 170)).ownsRow aB 170 54 (.slice (some ⟨w.heap.size,0,none⟩) n n) n (ph (λ_ _=>(⟨#[]⟩,pc)) n):=
 ⟨gY _ _,az ⟨w.heap.size,n,madeCells zB (n*54),rfl,hb,heap_alloc_new w _,aF,by unfold maxLen;omega,size_madeCells _ _,by rw[G7,List.take_of_length_le (by rw[gY];exact aF)]⟩⟩
theorem Le (w:World)(aB n:Nat)(hb:aB<=w.heap.size)(hn:n<=24):(w.alloc (.cells (madeCells zT (n*9)) 168)).ownsRow aB 168 9 (.slice (some ⟨w.heap.size,0,none⟩) n n) n (mh (λ_ _=>(⟨#[]⟩,pc)) n):=
 ⟨lr _ _,az ⟨w.heap.size,n,madeCells zT (n*9),rfl,hb,heap_alloc_new w _,aF,by unfold maxLen;omega,size_madeCells _ _,by rw[G8,List.take_of_length_le (by rw[lr];exact aF)]⟩⟩
structure TB (w:World)(n:Nat)(wr:World)(S:qr):Prop where
 out:wr.ownsRow w.heap.size 168 9 (.slice (some ⟨w.heap.size,0,none⟩) n n) n (mh S n)
 best:wr.ownsRow w.heap.size 170 54 (.slice (some ⟨w.heap.size+1,0,none⟩) n n) n (ph S n)
 below:Below w.heap.size w wr
theorem TB.far {S:qr}(h:TB w n wr S):w.heap.size+2<=wr.heap.size:=by
 have:=(h.best.lt (w.heap.size+1) rfl).2;omega
theorem TB.go {S:qr}(h:TB w n wr S){w':World}(hB:Below wr.heap.size wr w'):TB w n w' S:=
 ⟨aY h.out hB,aY h.best hB,h.below.trans (hB.mono h.below.size)⟩
theorem TB.put {S:qr}(h:TB w n wr S){b:Nat}(hb:w.heap.size+1<b)(k:Nat)(u:Value):TB w n (wr.setCell ⟨b,k,none⟩ u) S:=
 ⟨bw h.out (λe=>by simp[Value.ownBlock] at e;omega) _,bw h.best (λe=>by simp[Value.ownBlock] at e;omega) _,h.below.setCell (by show w.heap.size<=b;omega) _⟩
theorem TB.setBest {S:qr}(h:TB w n wr S)(hi:i<n)(hp:p<9)(v:ByteArray)(c:Cl):
  wr.there (w.heap.size+1) (i*54+p*6) 6/\TB w n ((wr.setCells (w.heap.size+1) (i*54+p*6) (clL c)).setCell ⟨w.heap.size,i*9+p,none⟩ (.string v)) (gH S i p (v,c))/\
   (wr.setCells (w.heap.size+1) (i*54+p*6) (clL c)).cell? ⟨w.heap.size,i*9+p,none⟩=some (.string (S i p).1)/\(wr.setCells (w.heap.size+1) (i*54+p*6) (clL c)).frozen? ⟨w.heap.size,i*9+p,none⟩=false:=by
 have hb:=(((((((h.best.stored (i*54+p*6) (.int .u8 c.d.pr)).1).stored (i*54+p*6+1) (.string c.d.val)).1.stored (i*54+p*6+2) (.bool c.d.must)).1.stored (i*54+p*6+3) (.int .i64 c.ly)).1.stored (i*54+p*6+4) (.int .i64 c.hv)).1.stored (i*54+p*6+5) (.int .i64 c.no)).1;rw[Kv hp v c] at hb;have ho:∀{wq:World},wq.ownsRow w.heap.size 168 9 (.slice (some ⟨w.heap.size,0,none⟩) n n) n (mh S n)->∀k u,(wq.setCell ⟨w.heap.size+1,k,none⟩ u).ownsRow w.heap.size 168 9 (.slice (some ⟨w.heap.size,0,none⟩) n n) n (mh S n):=λhq k u=>bw hq (λe=>by simp[Value.ownBlock] at e) _;have D7:=ho (ho (ho (ho (ho (ho h.out (i*54+p*6) (.int .u8 c.d.pr)) (i*54+p*6+1) (.string c.d.val)) (i*54+p*6+2) (.bool c.d.must)) (i*54+p*6+3) (.int .i64 c.ly)) (i*54+p*6+4) (.int .i64 c.hv)) (i*54+p*6+5) (.int .i64 c.no);have jM:∀{wq:World},Below w.heap.size w wq->∀k u,Below w.heap.size w (wq.setCell ⟨w.heap.size+1,k,none⟩ u):=λhq k u=>hq.setCell (by show w.heap.size<=w.heap.size+1;omega) _;have adO:=jM (jM (jM (jM (jM (jM h.below (i*54+p*6) (.int .u8 c.d.pr)) (i*54+p*6+1) (.string c.d.val)) (i*54+p*6+2) (.bool c.d.must)) (i*54+p*6+3) (.int .i64 c.ly)) (i*54+p*6+4) (.int .i64 c.hv)) (i*54+p*6+5) (.int .i64 c.no);refine⟨λj hj=>⟨?_,h.best.frozenAt _⟩,⟨?_,?_,?_⟩,?_,?_⟩
 ·rw[h.best.cellAt _ (by omega),DI hi hp hj];rfl
 ·have:=(D7.stored (i*9+p) (.string v)).1;rw[Kx hp v c] at this;exact this
 ·exact bw hb (λe=>by simp[Value.ownBlock] at e) _
 ·exact adO.setCell aF _
 ·exact(D7.cellAt _ (by omega)).trans (DJ hi hp)
 ·exact D7.frozenAt _
end
section
variable {S:qr}{ah:Option Addr}{b9 ch n:Nat}{c:Cl}{l:List Int}{w w' wq:World}
def RuM (w:World)(xs:List Value)(r:Nat)(x:eI):Prop:=
 ∃(aS:Option Addr) (cS:Nat) (aD:Option Addr) (cD:Nat) (ys:List Value),xs[r*3]?=some (.int .i64 x.ly)/\xs[r*3+1]?=some (.slice aS x.sels.length cS)/\xs[r*3+2]?=some (.slice aD x.dl.length cD)/\
  w.ownsRow 0 81 1 (.slice aS x.sels.length cS) x.sels.length ys/\SelsM w 0 ys x.sels/\w.ownsRow 0 149 3 (.slice aD x.dl.length cD) x.dl.length (kW x.dl)
structure J9 (x:eI):Prop where
 sels:x.sels.length<=400
 sok:∀y∈x.sels,Iw y
 few:x.dl.length<=400
 dok:∀d∈x.dl,∃q,fw d.pr=some q/\q<9
def ShM (w:World)(hp:Option Addr)(rs:List eI):Prop:=
 ∃(b:Nat) (a:Option Addr) (c:Nat) (xs:List Value) (mn:Int),hp=some ⟨b,0,none⟩/\Sh w b (.slice a rs.length c) mn/\w.ownsRow 0 79 3 (.slice a rs.length c) rs.length xs/\∀r (h:r<rs.length),RuM w xs r rs[r]
theorem SelsM.below {aB:Nat}{xs:List Value}{sels:List (List RComp)}(h:SelsM w aB xs sels)(hB:Below w.heap.size w w'):SelsM w' aB xs sels:=λi hi=>by
 obtain⟨a,c,h1,h2⟩:=h i hi;exact⟨a,c,h1,aY h2 hB⟩
def Us (w:World)(aa:List REl)(rs:List eI)(e:Ending)(w':World):Prop:=
 e=.returned (.slice (some ⟨w.heap.size,0,none⟩) aa.length aa.length)/\w'.ownsRow w.heap.size 168 9 (.slice (some ⟨w.heap.size,0,none⟩) aa.length aa.length) aa.length (mi (Me aa rs) aa.length)/\Below w.heap.size w w'
structure TH (w:World)(n:Nat)(wq:World)(S:qr)(ah:Option Addr)(ch:Nat)(l:List Int):Prop where
 tb:TB w n wq S
 hv:wq.ownsRow (w.heap.size+2) 3 1 (.slice ah l.length ch) l.length (pD l)
theorem TH.go (h:TH w n wq S ah ch l)(hB:Below wq.heap.size wq w'):TH w n w' S ah ch l:=⟨h.tb.go hB,aY h.hv hB⟩
structure TI (w:World)(n:Nat)(wq:World)(S:qr)(ah:Option Addr)(ch:Nat)(l:List Int)(b9:Nat)(c:Cl):Prop where
 th:TH w n wq S ah ch l
 blk:∃h4:Int,wq.heap[b9]?=some (.cells #[.int .u8 c.d.pr,.string c.d.val,.bool c.d.must,.int .i64 c.ly,.int .i64 h4,.int .i64 c.no] 167 (0,0))
 far:w.heap.size+2<=b9
 ne:(Value.slice ah l.length ch).ownBlock≠some b9
theorem TI.setH (h:TI w n wq S ah ch l b9 c)(x:Int):
  TI w n (wq.setCell ⟨b9,4,none⟩ (.int .i64 x)) S ah ch l b9 c/\(wq.setCell ⟨b9,4,none⟩ (.int .i64 x)).heap[b9]?=some (.cells #[.int .u8 c.d.pr,.string c.d.val,.bool c.d.must,.int .i64 c.ly,.int .i64 x,.int .i64 c.no] 167 (0,0)):=by
 obtain⟨h4,hb⟩:=h.blk;have hf:=h.far
 have nw:(wq.setCell ⟨b9,4,none⟩ (.int .i64 x)).heap[b9]?=some (.cells #[.int .u8 c.d.pr,.string c.d.val,.bool c.d.must,.int .i64 c.ly,.int .i64 x,.int .i64 c.no] 167 (0,0)):=by
  rw[aP hb];rfl
 exact⟨⟨⟨h.th.tb.put (by omega) _ _,bw h.th.hv h.ne _⟩,⟨x,nw⟩,hf,h.ne⟩,nw⟩
theorem TI.go (h:TI w n wq S ah ch l b9 c)(hB:Below wq.heap.size wq w'):TI w n w' S ah ch l b9 c:=by
 obtain⟨h4,hb⟩:=h.blk;exact⟨h.th.go hB,⟨h4,(hB.block _ (bG.1 hb).1).trans hb⟩,h.far,h.ne⟩
theorem TI.tab {S':qr}(h:TI w n wq S ah ch l b9 c)(hS:S=S'):TI w n wq S' ah ch l b9 c:=by rw[<-hS];exact h
theorem TI.win (h:TI w n wq S ah ch l b9 c){i p:Nat}(hi:i<n)(hp:p<9)(v:ByteArray)(c':Cl):
  TI w n ((wq.setCells (w.heap.size+1) (i*54+p*6) (clL c')).setCell ⟨w.heap.size,i*9+p,none⟩ (.string v)) (gH S i p (v,c')) ah ch l b9 c:=by
 obtain⟨h4,hb⟩:=h.blk;have hf:=h.far;have WA:∀k,k<=w.heap.size+1->(Value.slice ah l.length ch).ownBlock≠some k:=λk hk e=>by have:=(h.th.hv.lt k e).1;omega
 have h1:∀{wx:World},wx.ownsRow (w.heap.size+2) 3 1 (.slice ah l.length ch) l.length (pD l)->∀k u,(wx.setCell ⟨w.heap.size+1,k,none⟩ u).ownsRow (w.heap.size+2) 3 1 (.slice ah l.length ch) l.length (pD l):=λhx k u=>bw hx (WA _ aF) u;have h2:∀{wx:World} {cs:Array Value},wx.heap[b9]?=some (.cells cs 167 (0,0))->∀k u,(wx.setCell ⟨w.heap.size+1,k,none⟩ u).heap[b9]?=some (.cells cs 167 (0,0)):=λhx k u=>(Below.heap_setCell _ _ _ _ (by show b9≠w.heap.size+1;omega)).trans hx;refine⟨⟨(h.th.tb.setBest hi hp v c').2.1,bw (h1 (h1 (h1 (h1 (h1 (h1 h.th.hv _ _) _ _) _ _) _ _) _ _) _ _) (WA w.heap.size (by omega)) _⟩,⟨h4,?_⟩,hf,h.ne⟩;exact(Below.heap_setCell _ _ _ _ (by show b9≠w.heap.size;omega)).trans (h2 (h2 (h2 (h2 (h2 (h2 hb _ _) _ _) _ _) _ _) _ _) _ _)
end
section
variable {j k:Nat}{l:List Nat}{s t:ByteArray}{y:REl}
structure RM (els:List REl)(M:Nat->Mk):Prop where
 kd:∀y∈els,aQ y.kd=true/\(M y.num).kd=bt y.kd 0
 cl:∀y∈els,∀c,ta c y.cl=(decide (97<=c/\c<=122)&&(M y.num).cl (c - 97))
 nm:∀y∈els,(y.nm.size=0/\(M y.num).nm=0)∨(aQ y.nm=true/\(M y.num).nm=bt y.nm 0)
theorem Ay (hn:l.Nodup)(hj:l[j]?=some k):∀i,iZ l k i=if j<i then j+1 else 0
 | 0=>by rw[aA (by omega)];rfl
 | i+1=>by
  unfold iZ
  by_cases h:(l[i]?.map λk:Nat=>(k:Int))=some (k:Int)
  ·rw[aE h]
   have h1:l[i]?=some k:=by
    cases hl:l[i]? with
    | none=>rw[hl] at h;cases h
    | some x=>
     rw[hl] at h;have h':(x:Int)=(k:Int):=Option.some.inj h;rw[show x=k from by omega]
   have h2:i=j:=by
    obtain⟨hi,e1⟩:=ee.1 h1;obtain⟨vn,e2⟩:=ee.1 hj;rcases Nat.lt_trichotomy i j with h3 | h3 | h3
    ·exact absurd (e1.trans e2.symm) (List.pairwise_iff_getElem.1 hn i j hi vn h3)
    ·exact h3
    ·exact absurd (e2.trans e1.symm) (List.pairwise_iff_getElem.1 hn j i vn hi h3)
   rw[aE (by omega),h2]
  ·rw[aA h,Ay hn hj i];have h2:i≠j:=λe=>h (by rw[e,hj];rfl)
   by_cases h3:j<i
   ·rw[aE h3,aE (by omega)]
   ·rw[aA h3,aA (by omega)]
theorem FC (hn:l.Nodup)(hj:l[j]?=some k):(l.takeWhile λ(x:Nat)=>decide (¬(x:Int)=(k:Int)))=l.take j/\(l.dropWhile λ(x:Nat)=>decide (¬(x:Int)=(k:Int)))=l.drop j:=by
 induction l generalizing j with
 | nil=>simp at hj
 | cons y l ih=>
  rw[List.nodup_cons] at hn;rw[List.takeWhile_cons,List.dropWhile_cons];cases j with
  | zero=>
   have h1:y=k:=by simpa using hj
   rw[h1];simp
  | succ j=>
   have h1:l[j]?=some k:=by simpa using hj
   have h2:decide (¬(y:Int)=(k:Int))=true:=by
    rw[bO];intro e;exact hn.1 (by rw[show y=k from by omega];exact List.mem_of_getElem? h1)
   obtain⟨h3,h4⟩:=ih hn.2 h1;rw[h2,aE rfl,aE rfl,h3,h4];exact⟨rfl,rfl⟩
section
variable {aa:List REl}{ae:Nat}{M:Nat->Mk}
theorem jR (h:y∈aa):(y.num,y.kids)∈aW aa:=bx.2 ⟨y,h,rfl⟩
theorem xP (h:(k,l)∈aW aa):∃y∈aa,y.num=k/\y.kids=l:=by
 obtain⟨y,hy,he⟩:=bx.1 h;injection he with h1 h2
 exact⟨y,hy,h1,h2⟩
theorem n9 (hw:TW (aW aa) ae)(h:y∈aa):bF (aW aa) y.num=some y.kids:=eg hw.nums (jR h)
theorem Es (T:aU):bF T (-1)=none:=by
 unfold bF;rw[List.find?_eq_none.2 (λx _=>by simp)];rfl
theorem uf (hw:TW (aW aa) ae)(hy:y∈aa):((dg aa y.num).1:Int)=((dO (aW aa) y.num).length:Int)+1/\(decide ((dg aa y.num).1=(dg aa y.num).2)=qE (aW aa) y.num):=by
 have hf:=n9 hw hy;unfold dg dO qE;rw[hf,Option.isSome_some,aE rfl,Bool.true_and,<-ea]
 by_cases h0:y.num=0
 ·have hp:bi (aW aa) y.num=-1:=by rw[h0];exact hw.root_par
  rw[hp,aE (by decide)];unfold ep;rw[Es];exact⟨rfl,rfl⟩
 ·obtain⟨q,hq,hm,hp⟩:=hw.up (jR hy) h0;rw[hp,aA (by omega)];obtain⟨z,hz,gA,nX⟩:=xP (k:=q.1) (l:=q.2) hq
  have fF:bR aa (q.1:Int)=some z∨∃z',bR aa (q.1:Int)=some z'/\z'.kids=q.2:=by
   have h1:=rP aa (q.1:Int);rw[eg hw.nums hq] at h1;cases hfz:bR aa (q.1:Int) with
   | none=>rw[hfz] at h1;cases h1
   | some z'=>
    rw[hfz] at h1;injection h1 with h1
    exact az ⟨z',rfl,h1.symm⟩
  have hk:ep (aW aa) (q.1:Int)=q.2:=by unfold ep;rw[eg hw.nums hq];rfl
  have UN:=hw.kdup q hq;obtain⟨j,hj,hje⟩:=List.getElem_of_mem hm;have vn:q.2[j]?=some y.num:=by rw[bW hj,hje]
  obtain⟨w1,w2⟩:=FC UN vn
  have nY:∀z':REl,z'.kids=q.2->(((iZ z'.kids y.num z'.kids.length:Nat):Int)=((((q.2.takeWhile λ(k:Nat)=>decide (¬(k:Int)=(y.num:Int))).map λ(k:Nat)=>(k:Int)).reverse).length:Int)+1)/\(decide (iZ z'.kids y.num z'.kids.length=z'.kids.length)=decide ((q.2.dropWhile λ(k:Nat)=>decide (¬(k:Int)=(y.num:Int))).length<=1)):=λz' hz'=>by
   rw[hz',Ay UN vn,aE hj,w1,w2,List.length_reverse,List.length_map,List.length_take,List.length_drop];refine⟨by omega,?_⟩;rw[decide_eq_decide];omega
  rw[hk];rcases fF with h1 | ⟨z',h1,h2⟩
  ·rw[h1];exact nY z nX
  ·rw[h1];exact nY z' h2
theorem LO {af a b:Nat}:lQ af a b=nH (af:Int) (a:Int) (b:Int):=by
 rw[Bool.eq_iff_iff,rl];unfold nH Nd
 by_cases h:(a:Int)<=0∨(af:Int)<(b:Int)
 ·rw[aE h,beq_iff_eq];constructor
  ·rintro⟨k,hk,he⟩;rcases h with h | h
   ·have:a=0:=by omega
    subst this;omega
   ·have:b<=a*k+b:=Nat.le_add_left _ _;omega
  ·intro e;exact⟨0,bm,by omega⟩
 ·rw[aA h,beq_iff_eq];have ha:0<a:=by omega
  have hb:b<=af:=by omega
  have hz:((af:Int) - (b:Int))=((af - b:Nat):Int):=by omega
  rw[hz];constructor
  ·rintro⟨k,hk,he⟩;have h1:af - b=a*k:=by omega
   rw[h1,Int.natCast_mul,Int.mul_emod_right]
  ·intro e
   have h1:(af - b) % a=0:=by
    exact_mod_cast e
   refine⟨(af - b) / a,?_,?_⟩
   ·have:=Nat.div_le_self (af - b) a;omega
   ·have:=Nat.div_add_mod (af - b) a;omega
theorem yG (h:s.size=1):s=⟨#[UInt8.ofNat (bt s 0)]⟩:=by
 apply ByteArray.ext;apply Array.ext
 ·exact h
 ·intro i h1 h2
  have:i=0:=by
   have:s.data.size=1:=h;omega
  subst this;show s.data[0]=UInt8.ofNat (bt s 0);rw[bV s 0 (by omega)];simp;rfl
theorem rS:(s.toList==t.toList)=true↔s=t:=by
 rw[beq_iff_eq];constructor
 ·intro h;apply ByteArray.ext;rw[mC,mC] at h;exact Array.toList_inj.1 h
 ·intro h;rw[h]
theorem Ci (h1:s.size=1)(h2:t.size=1):(s.toList==t.toList)=((bt s 0:Int)==(bt t 0:Int)):=by
 rw[Bool.eq_iff_iff,rS,beq_iff_eq];constructor
 ·intro h;rw[h]
 ·intro h;rw[yG h1,yG h2,show bt s 0=bt t 0 from by omega]
end
end
section
variable {c i j q:Nat}{p:PPt}{y:REl}
section
variable {aa:List REl}{ae:Nat}{M:Nat->Mk}{s:ByteArray}
theorem J4 (h:gN c=true):97<=c/\c<=122:=by simpa[gN] using h
theorem yY (h:iS c=true):48<=c/\c<=57:=by simpa[iS] using h
theorem dP (h:j<=s.size):(s.extract i j).size=j - i:=by rw[ByteArray.size_extract];omega
theorem An (hw:TW (aW aa) ae)(hm:RM aa M)(hy:y∈aa)(hj:i+1<=s.size)(hl:gN (bt s i)=true):d8 aa y (s.extract i (i+1))=(bp (aW aa) M).ty y.num (bt s i)/\wk (s.extract i (i+1)):=by
 have h0:bt (s.extract i (i+1)) 0=bt s i:=by rw[bj hj (by omega)];rfl
 have hb:=J4 hl;have hz:=dP (i:=i) hj;refine⟨?_,⟨by omega,λh=>by omega,λh=>by omega,λh=>by omega,by omega⟩⟩;unfold d8;rw[h0,aA (by omega),aA (by omega),aA (by omega),aA (by omega)];obtain⟨k1,k2⟩:=hm.kd y hy
 have hk:y.kd.size=1:=by
  unfold aQ at k1;rw[Bool.and_eq_true,bO] at k1;exact k1.1
 rw[Ci hk (by omega),h0];show _=fS (aW aa) M y.num (bt s i);unfold fS;rw[n9 hw hy,Option.isSome_some,Bool.true_and,Int.toNat_natCast,k2]
theorem uD (hw:TW (aW aa) ae)(hm:RM aa M)(hy:y∈aa)(hs:s.size<=400)(hj:j<=s.size)(h:iA s i p j):d8 aa y (s.extract i j)=pV (bp (aW aa) M) p y.num/\wk (s.extract i j)/\(bt s i=46∨bt s i=35∨bt s i=58):=by
 obtain⟨hp,_,_,FR,hb,_,qV⟩:=h;have CT:2<=sl s i:=by unfold sl;split<;>omega
 have h0:bt (s.extract i j) 0=bt s i:=by rw[bj hj (by omega)];rfl
 have h1:bt (s.extract i j) 1=bt s (i+1):=by rw[bj hj (by omega)]
 have hz:=dP (i:=i) hj;have hf:=n9 hw hy;obtain⟨sp1,sp2⟩:=uf hw hy;rcases hb with hb | hb | hb
 ·
  have hl:gN (bt s (i+1))=true:=by
   rcases qV with h | h
   ·exact h.2
   ·omega
  have hlb:=J4 hl;refine⟨?_,⟨by omega,λ_=>by omega,λh=>by omega,λh=>by omega,by omega⟩,ax hb⟩;unfold d8;rw[h0,hb,aA (by decide),aE rfl,h1,hm.cl y hy];rw[hp];unfold iH;rw[aE hb];show _=eV (aW aa) M y.num (bt s (i+1):Nat);unfold eV;rw[hf,Option.isSome_some,Bool.true_and,Int.toNat_natCast]
  congr 1
  ·rw[decide_eq_decide];omega
  ·rw[show(((bt s (i+1):Nat):Int) - 97).toNat=bt s (i+1) - 97 from by omega]
 ·
  have hl:gN (bt s (i+1))=true:=by
   rcases qV with h | h
   ·exact h.2
   ·omega
  have hlb:=J4 hl;have ajt:sl s i=2:=by unfold sl;rw[aA (by omega)]
  refine⟨?_,⟨by omega,λh=>by omega,λ_=>by omega,λh=>by omega,by omega⟩,az (ax hb)⟩;unfold d8;rw[h0,hb,aA (by decide),aA (by decide),aE rfl];have he:(s.extract i j).extract 1 (s.extract i j).size=s.extract (i+1) j:=mg hj;have nX:(s.extract (i+1) j).size=1:=by rw[dP hj];omega
  have oW:bt (s.extract (i+1) j) 0=bt s (i+1):=by rw[bj hj (by omega)]
  rw[he,hp];unfold iH;rw[aA (by omega),aE hb];show _=fR (aW aa) M y.num (bt s (i+1):Nat);unfold fR;rw[hf,Option.isSome_some,Bool.true_and,Int.toNat_natCast];rcases hm.nm y hy with⟨n1,n2⟩ | ⟨n1,n2⟩
  ·rw[n2,Bool.eq_iff_iff,rS,beq_iff_eq];constructor
   ·intro e;rw[e] at n1;omega
   ·intro e;omega
  ·have hk:y.nm.size=1:=by
    unfold aQ at n1;rw[Bool.and_eq_true,bO] at n1;exact n1.1
   rw[Ci hk nX,oW,n2]
 ·
  have hpk:XA s (i+1):=by
   rcases qV with h | h
   ·omega
   ·exact h.2
  have Te:iH s i=fL s (i+1):=by unfold iH;rw[aA (by omega),aA (by omega)]
  have hc:1<(s.extract i j).size/\(bt (s.extract i j) 1=102∨bt (s.extract i j) 1=108∨bt (s.extract i j) 1=101∨(3<(s.extract i j).size/\48<=bt (s.extract i j) 2/\bt (s.extract i j) 2<=57/\48<=bt (s.extract i j) 3/\bt (s.extract i j) 3<=57)):=by
   refine⟨by omega,?_⟩;rw[h1];rcases hpk with h | h | h | ⟨h,d1,d2⟩
   ·exact ax h
   ·exact az (ax h)
   ·exact az (az (ax h))
   ·have aep:sl s i=4:=by unfold sl;rw[aE ⟨hb,h⟩]
    have e1:=yY d1;have e2:=yY d2;refine az (az (az ⟨by omega,?_⟩));rw[bj hj (by omega),bj hj (by omega),show i+2=i+1+1 from rfl,show i+3=i+1+2 from rfl];omega
  refine⟨?_,⟨by omega,λh=>by omega,λh=>by omega,λ_=>hc,by omega⟩,az (az hb)⟩;unfold d8;rw[h0,hb,aA (by decide),aA (by decide),aA (by decide),aE rfl,h1,hp,Te];unfold fL
  by_cases k1:bt s (i+1)=102
  ·rw[aE k1,aE k1];show decide ((dg aa y.num).1=1)=decide (((dO (aW aa) y.num).length:Int)+1=1);rw[decide_eq_decide];omega
  rw[aA k1,aA k1]
  by_cases k2:bt s (i+1)=108
  ·rw[aE k2,aE k2];exact sp2
  rw[aA k2,aA k2]
  by_cases k3:bt s (i+1)=101
  ·rw[aE k3,aE k3];show decide (y.kids.length=0)=mI (aW aa) y.num;unfold mI ep;rw[hf,Option.isSome_some,Bool.true_and];show _=y.kids.isEmpty;cases y.kids<;>rfl
  rw[aA k3,aA k3];rcases hpk with h | h | h | ⟨h,d1,d2⟩
  ·exact absurd h k1
  ·exact absurd h k2
  ·exact absurd h k3
  ·have aep:sl s i=4:=by unfold sl;rw[aE ⟨hb,h⟩]
   have e1:=yY d1;have e2:=yY d2;rw[bj hj (by omega),bj hj (by omega),show i+2=i+1+1 from rfl,show i+3=i+1+2 from rfl,LO];show _=nH (((dO (aW aa) y.num).length:Int)+1) ((bt s (i+1+1):Int) - 48) ((bt s (i+1+2):Int) - 48);rw[sp1,show((bt s (i+1+1) - 48:Nat):Int)=(bt s (i+1+1):Int) - 48 from by omega,show((bt s (i+1+2) - 48:Nat):Int)=(bt s (i+1+2):Int) - 48 from by omega]
theorem Lo (hw:TW (aW aa) ae)(hm:RM aa M)(hy:y∈aa)(hs:s.size<=400)(hj:j<=s.size)(h:jP s i p j):oO aa y (s.extract i j)=(pV (bp (aW aa) M) p y.num != p.nt)/\PartOK (s.extract i j):=by
 have bc:=lb h;have h0:bt (s.extract i j) 0=bt s i:=by rw[bj hj (by omega)];rfl
 have hz:=dP (i:=i) hj;have he:(s.extract i j).extract 1 (s.extract i j).size=s.extract (i+1) j:=mg hj;obtain⟨hp,h2⟩:=h;unfold oO;rw[h0]
 by_cases i7:bt s i=33
 ·rw[aE i7] at h2 ⊢;rw[he]
  by_cases hl:gN (bt s (i+1))=true
  ·rw[aE hl] at h2;obtain⟨k1,k2⟩:=h2;subst k2;obtain⟨t1,t2⟩:=An hw hm hy (i:=i+1) hj hl;refine⟨?_,⟨by omega,λ_=>by rw[he];exact t2,λh=>absurd i7 (by rw[h0] at h;exact h)⟩⟩;rw[t1,hp];unfold mN;rw[aE i7,aE hl];show _=((bp (aW aa) M).ty y.num (bt s (i+1):Nat) != true);cases (bp (aW aa) M).ty y.num (bt s (i+1):Nat)<;>rfl
  ·rw[aA hl] at h2;obtain⟨t1,t2,_⟩:=uD hw hm hy hs hj h2;refine⟨?_,⟨by omega,λ_=>by rw[he];exact t2,λh=>absurd i7 (by rw[h0] at h;exact h)⟩⟩;have S9:p.nt=true:=by rw[hp];unfold mN;rw[aE i7,aA hl];rfl
   have hsv:pV (bp (aW aa) M) ⟨false,p.kd,p.lt,p.st,p.sr⟩ y.num=pV (bp (aW aa) M) p y.num:=rfl;rw[t1,hsv,S9];cases pV (bp (aW aa) M) p y.num<;>rfl
 ·rw[aA i7] at h2 ⊢;obtain⟨t1,t2,_⟩:=uD hw hm hy hs hj h2;refine⟨?_,⟨by omega,λh=>absurd (by rw[h0] at h;exact h) i7,λ_=>t2⟩⟩;have S9:p.nt=false:=by rw[h2.1];exact JC s i
  rw[t1,S9];cases pV (bp (aW aa) M) p y.num<;>rfl
theorem rV (hjq:j<=q)(hq:q<=s.size)(hcut:i+cB s i=j):cB (s.extract i q) 0=j - i/\(s.extract i q).extract 0 (j - i)=s.extract i j/\(s.extract i q).extract (j - i) (s.extract i q).size=s.extract j q:=by
 obtain⟨e1,_⟩:=BI (s:=s) (i:=i) (q:=q) (by omega) hq;refine⟨by omega,?_,?_⟩
 ·apply ByteArray.ext;simp only[ByteArray.data_extract,Array.extract_extract]
  congr 1<;>omega
 ·rw[mg hq,show i+(j - i)=j from by omega]
theorem oi (hw:TW (aW aa) ae)(hm:RM aa M)(hy:y∈aa)(hs:s.size<=400)(hq:q<=s.size):∀{ks:List PPt} {i:Nat} (f:Nat),PartsAt s i q ks->q - i<=f->gU aa y f (s.extract i q)=(ks.all λp=>pV (bp (aW aa) M) p y.num != p.nt)/\rO f (s.extract i q)
 | [],i,f,h,hf=>by
  simp only[PartsAt] at h;subst h;have hz:(s.extract i i).size=0:=by rw[dP hq];omega
  cases f with
  | zero=>exact⟨rfl,hz⟩
  | succ f=>
   refine⟨?_,ax hz⟩;unfold gU;rw[aE hz];rfl
 | p :: ks,i,f,⟨_,l,hg,hr⟩,hf=>by
  have bc:=lb hg;have qU:=(pK hr).1;obtain⟨hc,_⟩:=Ez hg;obtain⟨c1,c2,c3⟩:=rV qU hq hc;have hz:(s.extract i q).size=q - i:=dP hq;cases f with
  | zero=>omega
  | succ f=>
   obtain⟨WN,Tg⟩:=oi hw hm hy hs hq (i:=l) f hr (by omega);obtain⟨t1,t2⟩:=Lo hw hm hy hs (by omega) hg;refine⟨?_,az ⟨by omega,by omega,by rw[c1,c2];exact t2,by rw[c1,c3];exact Tg⟩⟩;unfold gU;rw[aA (by omega),c1,c2,c3,t1,WN,List.all_cons]
theorem Ae (hw:TW (aW aa) ae)(hm:RM aa M)(hy:y∈aa)(hs:s.size<=400){p ty:Nat}(hq:q<=s.size)(kK:p<q){ks:List PPt}(h:fp s p q ty ks)(sg:Int):gU aa y 400 (s.extract p q)=me (bp (aW aa) M) ⟨sg,ty,ks⟩ y.num/\rO 400 (s.extract p q):=by
 have hz:(s.extract p q).size=q - p:=dP hq;have h0:bt (s.extract p (p+1)) 0=bt s p:=by rw[bj (by omega) (by omega)];rfl
 have gA:(s.extract p (p+1)).size=1:=by rw[dP (by omega)];omega
 unfold me;rcases h with⟨h1,rfl,h2⟩ | ⟨h1,td,rfl,h2⟩ | ⟨_,_,rfl,h2,_⟩
 ·have hb:=J4 h1
  have oL:p+cB s p=p+1:=by
   have Ro:gw s p=0:=by unfold gw;rw[aA (by omega)]
   unfold cB;rw[Ro,Nat.add_zero];unfold mZ;rw[aA (by omega),aA (by omega)]
  obtain⟨c1,c2,c3⟩:=rV (j:=p+1) (by omega) hq oL;obtain⟨WN,Tg⟩:=oi hw hm hy hs hq (i:=p+1) 399 h2 (by omega);obtain⟨t1,t2⟩:=An hw hm hy (i:=p) (by omega) h1
  have Pg:oO aa y (s.extract p (p+1))=(bp (aW aa) M).ty y.num (bt s p):=by
   unfold oO;rw[h0,aA (by omega)];exact t1
  refine⟨?_,az ⟨by omega,by omega,?_,?_⟩⟩
  ·unfold gU;rw[aA (by omega),c1,c2,c3,Pg,WN];have fG:((bt s p:Nat)==0)=false:=by rw[fq];omega
   show _=((((bt s p:Nat)==0)||(bp (aW aa) M).ty y.num (bt s p:Nat))&&_);rw[fG,Bool.false_or]
  ·rw[c1,c2];exact⟨by omega,λh=>by omega,λ_=>t2⟩
  ·rw[c1,c3];exact Tg
 ·have oL:p+cB s p=p+1:=by
   have Ro:gw s p=0:=by unfold gw;rw[aA (by omega)]
   unfold cB;rw[Ro,Nat.add_zero];unfold mZ;rw[aA (by omega),aA (by omega)]
  obtain⟨c1,c2,c3⟩:=rV (j:=p+1) (by omega) hq oL;obtain⟨WN,Tg⟩:=oi hw hm hy hs hq (i:=p+1) 399 h2 (by omega)
  have Pg:oO aa y (s.extract p (p+1))=true:=by
   unfold oO;rw[h0,aA (by omega)];unfold d8;rw[h0,aE td]
  refine⟨?_,az ⟨by omega,by omega,?_,?_⟩⟩
  ·unfold gU;rw[aA (by omega),c1,c2,c3,Pg,WN];rfl
  ·rw[c1,c2];exact⟨by omega,λh=>by omega,λ_=>⟨by omega,λh=>by omega,λh=>by omega,λh=>by omega,by omega⟩⟩
  ·rw[c1,c3];exact Tg
 ·obtain⟨WN,Tg⟩:=oi hw hm hy hs hq (i:=p) 400 h2 (by omega);refine⟨?_,Tg⟩;rw[WN];rfl
end
end
end Go.Proofs.YtblfffbmklkhmabGreat
