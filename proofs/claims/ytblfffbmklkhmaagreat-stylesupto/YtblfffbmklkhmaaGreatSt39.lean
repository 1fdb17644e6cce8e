import Derived.Test.YtblfffbmklkhmaaGreatSt38
import Derived.Test.YtblfffbmklkhmaaGreatSt30
import Derived.BigRegion
import Derived.Deep.RegionHeld3
import Derived.RangeFuncCalls
namespace Go.Proofs.YtblfffbmklkhmaaGreat
open Go.RowKit
def NT (s dG:ByteArray):Bool:=(List.range (s.size - 1)).any fun n=>(s.extract n (n+2)).toList==dG.toList
def D2 (cs:List ex) (dG:ByteArray):Bool:=cs.any fun c=>NT c.tx dG
def Ro (x:dx) (dG:ByteArray):Bool:=x.sels.any fun cs=>D2 cs dG
def er (Rr:List dx) (dG:ByteArray):Bool:=Rr.any fun x=>Ro x dG
theorem Dl {α:Type} {l:List α} {f:α→Bool} (h:∀ j (hj:j<l.length),f l[j]=false):l.any f=false:=by
 rw [List.any_eq_false]
 intro x hx
 obtain ⟨j,hj,rfl⟩:=List.getElem_of_mem hx
 rw [h j hj]
 decide
theorem zu {α:Type} {l:List α} {f:α→Bool} {j:Nat} (hj:j<l.length) (h:f l[j]=true):l.any f=true:=List.any_eq_true.2 ⟨_,List.getElem_mem hj,h⟩
theorem Va {s dG:ByteArray} (h:∀ n,n+1<s.size→((s.extract n (n+2)).toList==dG.toList)=false):NT s dG=false:=by
 unfold NT
 rw [List.any_eq_false]
 intro n hn
 rw [h n (by have:=List.mem_range.1 hn;omega)]
 decide
theorem Qv {s dG:ByteArray} {n:Nat} (hn:n+1<s.size) (h:((s.extract n (n+2)).toList==dG.toList)=true):NT s dG=true:=List.any_eq_true.2 ⟨n,List.mem_range.2 (by omega),h⟩
def za (w:World) (Rr:List dx) (dG:ByteArray) (e:Ending) (w':World):Prop:=e=.returned (.bool (er Rr dG))∧w'=w
set_option maxRecDepth 100000 in
set_option maxHeartbeats 8000000 in
theorem oV (w:World) (hp:Option Addr) (Rr:List dx) (dG:ByteArray) (hs:WX w hp Rr) (oE:∀ x∈Rr,Db x) (MX:Rr.length≤400) :
  Calls Tryz.prog 149 #[.pointer hp,.string dG] w fun e w'=>za w Rr dG e w':=by
 obtain ⟨b,a,c,xs,mn,rfl,vz,Sq,OR⟩:=hs
 have HS:Hid (Sh w b (.slice a Rr.length c) mn∧w.ownsRow 0 164 3 (.slice a Rr.length c) Rr.length xs∧(∀ r (h:r<Rr.length),WD w xs r Rr[r])∧∀ x∈Rr,Db x):=⟨vz,Sq,OR,oE⟩
 have s0:w.cell? ⟨b,0,none⟩=some (.slice a Rr.length c):=vz.c0
 clear vz Sq OR oE
 go_enter Tryz.func149,Tryz.ntmps149
 go_wp2_with fail
 go_loopg [5] Rr.length (fun gk rv wr=>∃ r:Nat,rv=.int .i64 r∧r≤Rr.length∧Rr.length - r≤gk∧wr=w∧Hid (∀ j (hj:j<Rr.length),j<r→Ro Rr[j] dG=false))
 case atStart=>exact ⟨0,rfl,Nat.zero_le _,by omega,rfl,fun _ _ h=>absurd h (Nat.not_lt_zero _)⟩
 case round=>
  obtain ⟨r,rfl,jC,fK,rfl,HN⟩:=hrel
  by_cases aN:r<Rr.length
  ·have hd:decide ((r:Int)<(Rr.length:Int))=true:=by simp;omega
   have Uo:(r:Int)<(Rr.length:Int):=by omega
   obtain ⟨g,hg,db,fN⟩:=aH HS.out.2.1 (by omega)
   subst hg
   obtain ⟨aS,cS,aD,cD,ys,x1,x2,x3,x4,x5,x6⟩:=HS.out.2.2.1 r aN
   have Ng:=HS.out.2.2.2 _ (List.getElem_mem aN)
   have Ws:Hid (Ro Rr[r] dG=true→za wr Rr dG (.returned (.bool true)) wr):=fun h=>by
    refine ⟨?_,rfl⟩
    have:er Rr dG=true:=zu aN h
    rw [this]
   have HNO:Hid (Ro Rr[r] dG=false→∀ j (hj:j<Rr.length),j<r+1→Ro Rr[j] dG=false):=fun h j hj hl=>by
    rcases Nat.lt_or_ge j r with h1 | h1
    ·exact HN.out j hj h1
    ·obtain rfl:j=r:=by omega
     exact h
   have q1:=fN _ _ x2
   generalize Rr[r]=x at x1 x2 x3 x4 x5 x6 Ng Ws HNO q1
   have HX:Hid (Db x∧wr.ownsRow 0 166 1 (.slice aS x.sels.length cS) x.sels.length ys∧SelsM wr 0 ys x.sels):=⟨Ng,x4,x5⟩
   have hsf:=Ng.sels
   have Vg:Hid (_∧_):=⟨fK,aN⟩
   clear x1 x2 x3 x4 x5 x6 Ng fN HN fK aN jC hd
   go_wp2_with fail
   go_loopg [6] x.sels.length (fun H7 jv wq=>∃ j:Nat,jv=.int .i64 j∧j≤x.sels.length∧x.sels.length - j≤H7∧wq=wr∧Hid (∀ i (hi:i<x.sels.length),i<j→D2 x.sels[i] dG=false))
   case atStart=>exact ⟨0,rfl,Nat.zero_le _,by omega,rfl,fun _ _ h=>absurd h (Nat.not_lt_zero _)⟩
   case round=>
    obtain ⟨j,rfl,Il,r7,rfl,eL⟩:=hrel
    by_cases hjt:j<x.sels.length
    ·have iL:decide ((j:Int)<(x.sels.length:Int))=true:=by simp;omega
     have adX:(j:Int)<(x.sels.length:Int):=by omega
     obtain ⟨gS,hgS,aeW,VF⟩:=aH HX.out.2.1 (by omega)
     subst hgS
     obtain ⟨aC,cC,y1,y2⟩:=HX.out.2.2 j hjt
     have MM:=HX.out.1.sok _ (List.getElem_mem hjt)
     have O1:Hid (D2 x.sels[j] dG=true→Ro x dG=true):=fun h=>zu hjt h
     have VQ:Hid (D2 x.sels[j] dG=false→∀ i (hi:i<x.sels.length),i<j+1→D2 x.sels[i] dG=false):=fun h i hi hl=>by
      rcases Nat.lt_or_ge i j with h1 | h1
      ·exact eL.out i hi h1
      ·obtain rfl:i=j:=by omega
       exact h
     have q2:=VF _ _ y1
     generalize x.sels[j]=cs at y1 y2 MM O1 VQ q2
     have HC:Hid (xX cs∧wr.ownsRow 0 206 2 (.slice aC cs.length cC) cs.length (jB cs)):=⟨MM,y2⟩
     have hcf:=MM.few
     have Ag:Hid (_∧_):=⟨r7,hjt⟩
     clear y1 y2 MM VF eL r7 hjt Il iL
     go_wp2_with fail
     go_loopg [7] cs.length (fun UG kv wq=>∃ k:Nat,kv=.int .i64 k∧k≤cs.length∧cs.length - k≤UG∧wq=wr∧Hid (∀ i (hi:i<cs.length),i<k→NT cs[i].tx dG=false))
     case atStart=>exact ⟨0,rfl,Nat.zero_le _,by omega,rfl,fun _ _ h=>absurd h (Nat.not_lt_zero _)⟩
     case round=>
      obtain ⟨k,rfl,om,LM,rfl,nR⟩:=hrel
      by_cases hkt:k<cs.length
      ·have Bi:decide ((k:Int)<(cs.length:Int))=true:=by simp;omega
       have V2:(k:Int)<(cs.length:Int):=by omega
       obtain ⟨gC,hgC,afO,VP⟩:=aH HC.out.2 (by omega)
       subst hgC
       have ZL:=(HC.out.1.ok _ (List.getElem_mem hkt))
       have q3:=VP _ _ (qe hkt).2
       have PG:Hid (NT cs[k].tx dG=true→D2 cs dG=true):=fun h=>zu hkt h
       have UO:Hid (NT cs[k].tx dG=false→∀ i (hi:i<cs.length),i<k+1→NT cs[i].tx dG=false):=fun h i hi hl=>by
        rcases Nat.lt_or_ge i k with h1 | h1
        ·exact nR.out i hi h1
        ·obtain rfl:i=k:=by omega
         exact h
       generalize cs[k].tx=s at ZL q3 PG UO
       have fT:s.size≤400:=by
        rcases ZL with h | h
        ·omega
        ·exact h.2.1
       have HG3:Hid (_∧_):=⟨LM,hkt⟩
       clear ZL VP nR LM hkt om Bi
       go_wp2_with fail
       go_loopg [9] s.size (fun gk4 nv wq=>∃ n:Nat,nv=.int .i64 n∧n≤s.size∧s.size - n≤gk4∧wq=wr∧Hid (∀ i,i<n→i+1<s.size→((s.extract i (i+2)).toList==dG.toList)=false))
       case atStart=>exact ⟨0,rfl,Nat.zero_le _,by omega,rfl,fun _ h=>absurd h (Nat.not_lt_zero _)⟩
       case round=>
        obtain ⟨n,rfl,OL,aep,rfl,HN4⟩:=hrel
        by_cases Nr:n+1<s.size
        ·have NW:decide ((n:Int)+1<(s.size:Int))=true:=by simp;omega
         have h1:(0:Int)≤(n:Int):=by omega
         have h2:(n:Int)+2≤(s.size:Int):=by omega
         have h3:(n:Int)≤(n:Int)+2:=by omega
         cases he:((s.extract n (n+2)).toList==dG.toList) with
         | true=>
          have HE:Hid (za wr Rr dG (.returned (.bool true)) wr):=Ws.out (O1.out (PG.out (Qv Nr he)))
          go_wp2
          go_ret
          exact HE.out
         | false=>
          have vn:Hid (∀ i,i<n+1→i+1<s.size→((s.extract i (i+2)).toList==dG.toList)=false):=fun i hi WZ=>by
           rcases Nat.lt_or_ge i n with h1 | h1
           ·exact HN4.out i h1 WZ
           ·obtain rfl:i=n:=by omega
            exact he
          go_wp2
          go_roundg (s.size - (n+1))
          case measure=>omega
          case rel=>exact ⟨n+1,by go_num,by omega,Nat.le_refl _,rfl,vn⟩
        ·have NW:decide ((n:Int)+1<(s.size:Int))=false:=by simp;omega
         have HF:Hid (∀ i (hi:i<cs.length),i<k+1→NT cs[i].tx dG=false):=UO.out (Va (fun i hi=>HN4.out i (by omega) hi))
         go_wp2
         go_roundg (cs.length - (k+1))
         case measure=>have:=HG3.out;omega
         case rel=>exact ⟨k+1,by go_num,HG3.out.2,Nat.le_refl _,rfl,HF⟩
      ·have Bi:decide ((k:Int)<(cs.length:Int))=false:=by simp;omega
       obtain rfl:k=cs.length:=by omega
       have HF:Hid (∀ i (hi:i<x.sels.length),i<j+1→D2 x.sels[i] dG=false):=VQ.out (Dl (fun i hi=>nR.out i hi hi))
       go_wp2
       go_roundg (x.sels.length - (j+1))
       case measure=>have:=Ag.out;omega
       case rel=>exact ⟨j+1,by go_num,Ag.out.2,Nat.le_refl _,rfl,HF⟩
    ·have iL:decide ((j:Int)<(x.sels.length:Int))=false:=by simp;omega
     obtain rfl:j=x.sels.length:=by omega
     have HF:Hid (∀ i (hi:i<Rr.length),i<r+1→Ro Rr[i] dG=false):=HNO.out (Dl (fun i hi=>eL.out i hi hi))
     go_wp2
     go_roundg (Rr.length - (r+1))
     case measure=>have:=Vg.out;omega
     case rel=>exact ⟨r+1,by go_num,Vg.out.2,Nat.le_refl _,rfl,HF⟩
  ·have hd:decide ((r:Int)<(Rr.length:Int))=false:=by simp;omega
   obtain rfl:r=Rr.length:=by omega
   have HE:Hid (za wr Rr dG (.returned (.bool false)) wr):=⟨by rw [show er Rr dG=false from Dl (fun i hi=>HN.out i hi hi)],rfl⟩
   go_wp2
   go_ret
   exact HE.out
end Go.Proofs.YtblfffbmklkhmaaGreat
namespace Go.Proofs.YtblfffbmklkhmaaGreat
open Go.RowKit
def reg? (n:Nat):Code→Option Code
 | .region m o d=>if m=n then some (.region m o d) else none
 | .loop c=>reg? n c
 | .seq a b=>match reg? n a with
  | some c=>some c
  | none=>reg? n b
 | .block _ c=>reg? n c
 | .scope c=>reg? n c
 | .cond _ a b=>match reg? n a with
  | some c=>some c
  | none=>reg? n b
 | _=>none
noncomputable def r22:Code:=((Tryz.f140.body.bind (reg? 22)).getD .skip)
noncomputable def r23:Code:=((Tryz.f140.body.bind (reg? 23)).getD .skip)
set_option maxRecDepth 1000000 in
set_option maxHeartbeats 2000000 in
theorem EM (W:World) (g g3 b9 n i q:Nat) (hi:i<n) (hq:q<9) (p0 p3 p4 p5:Int) (p1:ByteArray) (p2:Bool) (o0 o1 o2 o3 o4 o5:Value)
  (k0:W.cell? ⟨b9,0,none⟩=some (.int .u8 p0)) (k1:W.cell? ⟨b9,1,none⟩=some (.string p1)) (k2:W.cell? ⟨b9,2,none⟩=some (.bool p2)) (k3:W.cell? ⟨b9,3,none⟩=some (.int .i64 p3)) (k4:W.cell? ⟨b9,4,none⟩=some (.int .i64 p4)) (k5:W.cell? ⟨b9,5,none⟩=some (.int .i64 p5))
  (m0:W.cell? ⟨g,i*54+q*6,none⟩=some o0) (m1:W.cell? ⟨g,i*54+q*6+1,none⟩=some o1) (m2:W.cell? ⟨g,i*54+q*6+2,none⟩=some o2) (m3:W.cell? ⟨g,i*54+q*6+3,none⟩=some o3) (m4:W.cell? ⟨g,i*54+q*6+4,none⟩=some o4) (m5:W.cell? ⟨g,i*54+q*6+5,none⟩=some o5)
  (fz:∀ j,W.frozen? ⟨g,j,none⟩=false) (eV:¬ b9=g) (c0 c1 c2 c5 c6 c7 c8 Qe RG RJ Sx S7 Qf Qm P0 Qz Q6 Tj Sg RK Rb SL S8 Tp Rg P7 P8 Tr St Qq Qn QN SJ Ql QA SU QY Tl Tf Q8 P2 SV RC QC SM SC SK S5 S6 SO S4 QO Qg QQ RR RV QT Rt QX SG R8 SX QS Ti Rq Sy Qp Ta Rs Q3 Sl Q4 Ra Sc Rh Tk Qw Qi RH RW Ri Qu Tc Rz Rp Tg QG QL Rj QV Q5 Te Rn Sf QM Ek Et CP CY Cs CH CR Dy Ew D3 CG Cw CQ D8 Cz DX DT CZ CA DK D7 Cx Dt Dg D0 CB Ep Ej Cu Dq DA DF Do Ex D1 Dc DC Kr Lv KO KS Jr LR Ji Kb L7 LQ Ln Jt Km KZ D5:Value)
  (Q:Exit→Act→World→Prop)
  (hQ:∀ (RL S3 Ss QJ Sa P3:Value) ,Q .normal ⟨#[c0,c1,c2,.slice (some ⟨g3,0,none⟩) n n,.slice (some ⟨g,0,none⟩) n n,c5,c6,c7,c8,.pointer (some ⟨b9,0,none⟩),.int .i64 (q:Int),.int .i64 (i:Int),Qe,RG,RJ,Sx,S7,Qf,Qm,P0,Qz,Q6,Tj,Sg,RK,Rb,SL,S8,Tp,Rg,P7,P8,Tr,St,Qq,Qn,QN,SJ,Ql,QA,SU,QY,Tl,Tf,Q8,P2,SV,RC,QC,SM,SC,SK,S5,S6,SO,S4,QO,Qg,QQ,RR,RV,QT,Rt,QX,SG,R8,SX,QS,Ti,Rq,Sy,Qp,Ta,Rs,Q3,Sl,Q4,Ra,Sc,Rh,Tk,Qw,Qi,RH,RW,Ri,Qu,Tc,Rz,Rp,Tg,QG,QL,Rj,QV,Q5,Te,Rn,Sf,QM,Ek,Et,CP,CY,Cs,CH,CR,Dy,Ew,D3,CG,Cw,CQ,D8,Cz,DX,DT,CZ,CA,DK,D7,Cx,Dt,Dg,D0,CB,Ep,Ej,Cu,Dq,DA,DF,Do,Ex,D1,Dc,DC,RL,S3,Ss,QJ,Sa,P3,Ji,Kb,L7,LQ,Ln,Jt,Km,KZ,D5],[]⟩ ((W.setCells g (i*54+q*6) [.int .u8 p0,.string p1,.bool p2,.int .i64 p3,.int .i64 p4,.int .i64 p5]).drew)) :
  Code.wp Tryz.prog r22 Q ⟨#[c0,c1,c2,.slice (some ⟨g3,0,none⟩) n n,.slice (some ⟨g,0,none⟩) n n,c5,c6,c7,c8,.pointer (some ⟨b9,0,none⟩),.int .i64 (q:Int),.int .i64 (i:Int),Qe,RG,RJ,Sx,S7,Qf,Qm,P0,Qz,Q6,Tj,Sg,RK,Rb,SL,S8,Tp,Rg,P7,P8,Tr,St,Qq,Qn,QN,SJ,Ql,QA,SU,QY,Tl,Tf,Q8,P2,SV,RC,QC,SM,SC,SK,S5,S6,SO,S4,QO,Qg,QQ,RR,RV,QT,Rt,QX,SG,R8,SX,QS,Ti,Rq,Sy,Qp,Ta,Rs,Q3,Sl,Q4,Ra,Sc,Rh,Tk,Qw,Qi,RH,RW,Ri,Qu,Tc,Rz,Rp,Tg,QG,QL,Rj,QV,Q5,Te,Rn,Sf,QM,Ek,Et,CP,CY,Cs,CH,CR,Dy,Ew,D3,CG,Cw,CQ,D8,Cz,DX,DT,CZ,CA,DK,D7,Cx,Dt,Dg,D0,CB,Ep,Ej,Cu,Dq,DA,DF,Do,Ex,D1,Dc,DC,Kr,Lv,KO,KS,Jr,LR,Ji,Kb,L7,LQ,Ln,Jt,Km,KZ,D5],[]⟩ W:=by
 conv=>arg 2;whnf
 have h1:(0:Int)≤(i:Int):=by omega
 have h2:(i:Int)<(n:Int):=by omega
 have h3:(0:Int)≤(q:Int):=by omega
 have h4:(q:Int)<9:=by omega
 have HQ:Hid (∀ (RL S3 Ss QJ Sa P3:Value) ,Q .normal ⟨#[c0,c1,c2,.slice (some ⟨g3,0,none⟩) n n,.slice (some ⟨g,0,none⟩) n n,c5,c6,c7,c8,.pointer (some ⟨b9,0,none⟩),.int .i64 (q:Int),.int .i64 (i:Int),Qe,RG,RJ,Sx,S7,Qf,Qm,P0,Qz,Q6,Tj,Sg,RK,Rb,SL,S8,Tp,Rg,P7,P8,Tr,St,Qq,Qn,QN,SJ,Ql,QA,SU,QY,Tl,Tf,Q8,P2,SV,RC,QC,SM,SC,SK,S5,S6,SO,S4,QO,Qg,QQ,RR,RV,QT,Rt,QX,SG,R8,SX,QS,Ti,Rq,Sy,Qp,Ta,Rs,Q3,Sl,Q4,Ra,Sc,Rh,Tk,Qw,Qi,RH,RW,Ri,Qu,Tc,Rz,Rp,Tg,QG,QL,Rj,QV,Q5,Te,Rn,Sf,QM,Ek,Et,CP,CY,Cs,CH,CR,Dy,Ew,D3,CG,Cw,CQ,D8,Cz,DX,DT,CZ,CA,DK,D7,Cx,Dt,Dg,D0,CB,Ep,Ej,Cu,Dq,DA,DF,Do,Ex,D1,Dc,DC,RL,S3,Ss,QJ,Sa,P3,Ji,Kb,L7,LQ,Ln,Jt,Km,KZ,D5],[]⟩ ((W.setCells g (i*54+q*6) [.int .u8 p0,.string p1,.bool p2,.int .i64 p3,.int .i64 p4,.int .i64 p5]).drew)):=hQ
 clear hQ
 have YT:¬ g=b9:=fun e=>eV e.symm
 go_region_held3 (fun w'=>w'.cell? ⟨b9,0,none⟩=some (.int .u8 p0)∧w'.cell? ⟨b9,1,none⟩=some (.string p1)∧w'.cell? ⟨b9,2,none⟩=some (.bool p2)∧w'.cell? ⟨b9,3,none⟩=some (.int .i64 p3)∧w'.cell? ⟨b9,4,none⟩=some (.int .i64 p4)∧w'.cell? ⟨b9,5,none⟩=some (.int .i64 p5)) (go_keep) (fail)
 all_goals exact HQ.out _ _ _ _ _ _
set_option maxRecDepth 1000000 in
set_option maxHeartbeats 2000000 in
theorem FT (W:World) (g g3 b9 n i q:Nat) (hi:i<n) (hq:q<9) (p1:ByteArray) (o:Value)
  (k1:W.cell? ⟨b9,1,none⟩=some (.string p1))
  (m0:W.cell? ⟨g3,i*9+q,none⟩=some o)
  (fz:W.frozen? ⟨g3,i*9+q,none⟩=false) (eV:¬ b9=g3) (c0 c1 c2 c5 c6 c7 c8 Qe RG RJ Sx S7 Qf Qm P0 Qz Q6 Tj Sg RK Rb SL S8 Tp Rg P7 P8 Tr St Qq Qn QN SJ Ql QA SU QY Tl Tf Q8 P2 SV RC QC SM SC SK S5 S6 SO S4 QO Qg QQ RR RV QT Rt QX SG R8 SX QS Ti Rq Sy Qp Ta Rs Q3 Sl Q4 Ra Sc Rh Tk Qw Qi RH RW Ri Qu Tc Rz Rp Tg QG QL Rj QV Q5 Te Rn Sf QM Ek Et CP CY Cs CH CR Dy Ew D3 CG Cw CQ D8 Cz DX DT CZ CA DK D7 Cx Dt Dg D0 CB Ep Ej Cu Dq DA DF Do Ex D1 Dc DC Kr Lv KO KS Jr LR Ji Kb L7 LQ Ln Jt Km KZ D5:Value)
  (Q:Exit→Act→World→Prop)
  (hQ:∀ (QF P4 Sj Tq R0 Rl Tm Qa:Value),Q .normal ⟨#[c0,c1,c2,.slice (some ⟨g3,0,none⟩) n n,.slice (some ⟨g,0,none⟩) n n,c5,c6,c7,c8,.pointer (some ⟨b9,0,none⟩),.int .i64 (q:Int),.int .i64 (i:Int),Qe,RG,RJ,Sx,S7,Qf,Qm,P0,Qz,Q6,Tj,Sg,RK,Rb,SL,S8,Tp,Rg,P7,P8,Tr,St,Qq,Qn,QN,SJ,Ql,QA,SU,QY,Tl,Tf,Q8,P2,SV,RC,QC,SM,SC,SK,S5,S6,SO,S4,QO,Qg,QQ,RR,RV,QT,Rt,QX,SG,R8,SX,QS,Ti,Rq,Sy,Qp,Ta,Rs,Q3,Sl,Q4,Ra,Sc,Rh,Tk,Qw,Qi,RH,RW,Ri,Qu,Tc,Rz,Rp,Tg,QG,QL,Rj,QV,Q5,Te,Rn,Sf,QM,Ek,Et,CP,CY,Cs,CH,CR,Dy,Ew,D3,CG,Cw,CQ,D8,Cz,DX,DT,CZ,CA,DK,D7,Cx,Dt,Dg,D0,CB,Ep,Ej,Cu,Dq,DA,DF,Do,Ex,D1,Dc,DC,Kr,Lv,KO,KS,Jr,LR,QF,P4,Sj,Tq,R0,Rl,Tm,Qa,D5],[]⟩ ((W.setCell ⟨g3,i*9+q,none⟩ (.string p1)).drew)) :
  Code.wp Tryz.prog r23 Q ⟨#[c0,c1,c2,.slice (some ⟨g3,0,none⟩) n n,.slice (some ⟨g,0,none⟩) n n,c5,c6,c7,c8,.pointer (some ⟨b9,0,none⟩),.int .i64 (q:Int),.int .i64 (i:Int),Qe,RG,RJ,Sx,S7,Qf,Qm,P0,Qz,Q6,Tj,Sg,RK,Rb,SL,S8,Tp,Rg,P7,P8,Tr,St,Qq,Qn,QN,SJ,Ql,QA,SU,QY,Tl,Tf,Q8,P2,SV,RC,QC,SM,SC,SK,S5,S6,SO,S4,QO,Qg,QQ,RR,RV,QT,Rt,QX,SG,R8,SX,QS,Ti,Rq,Sy,Qp,Ta,Rs,Q3,Sl,Q4,Ra,Sc,Rh,Tk,Qw,Qi,RH,RW,Ri,Qu,Tc,Rz,Rp,Tg,QG,QL,Rj,QV,Q5,Te,Rn,Sf,QM,Ek,Et,CP,CY,Cs,CH,CR,Dy,Ew,D3,CG,Cw,CQ,D8,Cz,DX,DT,CZ,CA,DK,D7,Cx,Dt,Dg,D0,CB,Ep,Ej,Cu,Dq,DA,DF,Do,Ex,D1,Dc,DC,Kr,Lv,KO,KS,Jr,LR,Ji,Kb,L7,LQ,Ln,Jt,Km,KZ,D5],[]⟩ W:=by
 conv=>arg 2;whnf
 have h1:(0:Int)≤(i:Int):=by omega
 have h2:(i:Int)<(n:Int):=by omega
 have h3:(0:Int)≤(q:Int):=by omega
 have h4:(q:Int)<9:=by omega
 have YT:¬ g3=b9:=fun e=>eV e.symm
 have HQ:Hid (∀ (QF P4 Sj Tq R0 Rl Tm Qa:Value),Q .normal ⟨#[c0,c1,c2,.slice (some ⟨g3,0,none⟩) n n,.slice (some ⟨g,0,none⟩) n n,c5,c6,c7,c8,.pointer (some ⟨b9,0,none⟩),.int .i64 (q:Int),.int .i64 (i:Int),Qe,RG,RJ,Sx,S7,Qf,Qm,P0,Qz,Q6,Tj,Sg,RK,Rb,SL,S8,Tp,Rg,P7,P8,Tr,St,Qq,Qn,QN,SJ,Ql,QA,SU,QY,Tl,Tf,Q8,P2,SV,RC,QC,SM,SC,SK,S5,S6,SO,S4,QO,Qg,QQ,RR,RV,QT,Rt,QX,SG,R8,SX,QS,Ti,Rq,Sy,Qp,Ta,Rs,Q3,Sl,Q4,Ra,Sc,Rh,Tk,Qw,Qi,RH,RW,Ri,Qu,Tc,Rz,Rp,Tg,QG,QL,Rj,QV,Q5,Te,Rn,Sf,QM,Ek,Et,CP,CY,Cs,CH,CR,Dy,Ew,D3,CG,Cw,CQ,D8,Cz,DX,DT,CZ,CA,DK,D7,Cx,Dt,Dg,D0,CB,Ep,Ej,Cu,Dq,DA,DF,Do,Ex,D1,Dc,DC,Kr,Lv,KO,KS,Jr,LR,QF,P4,Sj,Tq,R0,Rl,Tm,Qa,D5],[]⟩ ((W.setCell ⟨g3,i*9+q,none⟩ (.string p1)).drew)):=hQ
 clear hQ
 go_region_held3 (fun w'=>w'.cell? ⟨b9,1,none⟩=some (.string p1)) (go_keep) (fail)
 all_goals exact HQ.out _ _ _ _ _ _ _ _
theorem KU (w:World) (a:Addr) (u:Value):w.drew.setCell a u=(w.setCell a u).drew:=by
 unfold World.setCell World.drew
 split<;>rfl
theorem TI.end1 {w:World} {n:Nat} {W:World} {S:ms} {ah:Option Addr} {ch:Nat} {l:List Int} {b9:Nat} {c:Cl} (h:TI w n W S ah ch l b9 c) {v:Int} (hb:W.heap[b9]?=some (.cells #[.int .u8 c.d.pr,.string c.d.val,.bool c.d.must,.int .i64 c.ly,.int .i64 v,.int .i64 c.no] 233 (0,0))) {i p:Nat} (hi:i<n) (hp:p<9) :
  (W.setCells (w.heap.size+1) (i*54+p*6) [.int .u8 c.d.pr,.string c.d.val,.bool c.d.must,.int .i64 c.ly,.int .i64 v,.int .i64 c.no]).drew.cell? ⟨b9,1,none⟩=some (.string c.d.val)∧
  (W.setCells (w.heap.size+1) (i*54+p*6) [.int .u8 c.d.pr,.string c.d.val,.bool c.d.must,.int .i64 c.ly,.int .i64 v,.int .i64 c.no]).drew.cell? ⟨w.heap.size,i*9+p,none⟩=some (.string (S i p).1)∧
  (W.setCells (w.heap.size+1) (i*54+p*6) [.int .u8 c.d.pr,.string c.d.val,.bool c.d.must,.int .i64 c.ly,.int .i64 v,.int .i64 c.no]).drew.frozen? ⟨w.heap.size,i*9+p,none⟩=false∧
  TI w n (((W.setCells (w.heap.size+1) (i*54+p*6) [.int .u8 c.d.pr,.string c.d.val,.bool c.d.must,.int .i64 c.ly,.int .i64 v,.int .i64 c.no]).drew.setCell ⟨w.heap.size,i*9+p,none⟩ (.string c.d.val)).drew) (eR S i p (c.d.val,{c with hv:=v})) ah ch l b9 c:=by
 have e:V8 {c with hv:=v}=[.int .u8 c.d.pr,.string c.d.val,.bool c.d.must,.int .i64 c.ly,.int .i64 v,.int .i64 c.no]:=rfl
 obtain ⟨_,_,h3,h4⟩:=h.th.tb.setBest hi hp c.d.val {c with hv:=v}
 have hw:=h.win hi hp c.d.val {c with hv:=v}
 rw [e] at h3 h4 hw
 have hf:=h.far
 have h2:∀ {wx:World} {cs:Array Value},wx.heap[b9]?=some (.cells cs 233 (0,0))→∀ k u,(wx.setCell ⟨w.heap.size+1,k,none⟩ u).heap[b9]?=some (.cells cs 233 (0,0)):=fun hx k u=>(Below.heap_setCell _ _ _ _ (by show b9≠w.heap.size+1;omega)).trans hx
 have hb6:=h2 (h2 (h2 (h2 (h2 (h2 hb (i*54+p*6) (.int .u8 c.d.pr)) (i*54+p*6+1) (.string c.d.val)) (i*54+p*6+2) (.bool c.d.must)) (i*54+p*6+3) (.int .i64 c.ly)) (i*54+p*6+4) (.int .i64 v)) (i*54+p*6+5) (.int .i64 c.no)
 refine ⟨?_,?_,?_,?_⟩
 ·rw [cell_drew_own]
  exact aa hb6 rfl
 ·rw [cell_drew_own];exact h3
 ·rw [frozen_drew_own];exact h4
 ·rw [KU]
  exact (hw.go (Below.refl _ _).drew).go (Below.refl _ _).drew
end Go.Proofs.YtblfffbmklkhmaaGreat
