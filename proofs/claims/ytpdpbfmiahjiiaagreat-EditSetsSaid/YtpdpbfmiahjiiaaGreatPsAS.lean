/- Several texts in one. -/
import Derived.Test.YtpdpbfmiahjiiaaGreatPsAB
import Derived.Test.YtpdpbfmiahjiiaaGreatPsAF
import Derived.Test.YtpdpbfmiahjiiaaGreatPsAG
import Derived.Test.YtpdpbfmiahjiiaaGreatPsAR
set_option linter.unusedSectionVars false
set_option linter.unusedSimpArgs false
set_option linter.unusedVariables false
set_option maxRecDepth 100000
set_option maxHeartbeats 16000000
namespace Go.Proofs.YtpdpbfmiahjiiaaGreat
open Go.RowKit
open _root_.Go.Value renaming slice→γ,string→μ,agg→φ,bool→Β,tuple→Ξ
open _root_.Go.Obj renaming cells→δ
open _root_.Option renaming none→ε
open _root_.Go.Proofs.Tryz renaming prog→η
open _root_.Bool renaming false→ρ
open _root_.Go.RowKit renaming Below→σ
open _root_.Go renaming Calls→Ζ
section
variable {W:World} {A:Option Addr} {n c:Nat} {Vs:List VC} {B:Option Addr} {m k:Nat} {Es:List EC} {C:Option Addr} {r rc:Nat} {G:List Gn}
theorem rres_any (h:bz W A n c Vs B m k Es) (hg:bg W W.heap.size 6 C r rc (ah cZ G)) (hn:n≤1000) (hr:∀y∈Vs,y.2.1.2.1≤1000000) (qx:r≤1000) (d:D):
 Ζ η 98 #[φ #[γ A n c,γ B m k,γ C r rc],φ #[J d.1,J d.2.1,J d.2.2]] W fun e w'=>e=.returned (φ #[J (kr (xW Vs) G r d).1,J (kr (xW Vs) G r d).2.1,J (kr (xW Vs) G r d).2.2])∧σ W.heap.size W w':=by
 have HA:Hid (∀X,σ W.heap.size W X→∀x1 x2 x3,Ζ η 29 #[φ #[γ A n c,γ B m k],φ #[J x1,J x2,J x3]] X fun e w'=>e=.returned (Ξ #[φ #[J (lE Vs (x1,x2,x3)).1.1,J (lE Vs (x1,x2,x3)).1.2],Β (lE Vs (x1,x2,x3)).2])∧σ X.heap.size X w'):=qh (fun X hX x1 x2 x3=>Bl A n c Vs B m k Es x1 x2 x3 X (h.below hX) (by omega) (fun y hy=>by have:=hr y hy;omega));have HF:Hid (∀X,σ W.heap.size W X→∀x:D,Ζ η 101 #[γ C r rc,φ #[J x.1,J x.2.1,J x.2.2]] X fun e w'=>e=.returned (Ξ #[φ #[J (fX G x).1.1,J (fX G x).1.2.1,J (fX G x).1.2.2],Β (fX G x).2])∧σ X.heap.size X w'):=qh (fun X hX x=>rfind_any C r rc G x X (hg.bl hX) (by omega));obtain⟨z,gz⟩:=aB (kr (xW Vs) G r d);have KT:Hid (if 0≤r then kr (xW Vs) G (r - 0) d=z else z=zD):=qh (by rw[if_pos (Nat.zero_le _)];exact gz);rw[gz];obtain⟨d1,d2,d3⟩:=d;obtain⟨z1,z2,z3⟩:=z;clear h hg hr gz;go_enter Tryz.func98,Tryz.ntmps98;go_upto_region 1 with fail
 obtain⟨W0,b0,b1,b2,bO,bp,dE,jc,aQ,aL,aZ,bw,-,-,oa,-,iP,-,eI,uW,RA,tU⟩:=Bs W 28 [γ A n c,γ B m k,γ C r rc] 32 [J d1,J d2,J d3] 32 [J 0,J 0,J 0];rw[bO,jc,dE,bp];clear bO bp dE jc;go_upto_region 2 with fail
 go_loopw [5] (fun vi wr=>∃(j:Nat) (e1 e2 e3:Int),j≤r+1∧vi=J (j:Int)∧Hid (σ W.heap.size W wr)∧Hid (Whole wr b0 28 [γ A n c,γ B m k,γ C r rc])∧Hid (Whole wr b1 32 [J e1,J e2,J e3])∧Hid (Whole wr b2 32 [J 0,J 0,J 0])∧Hid (if j≤r then kr (xW Vs) G (r - j) (e1,e2,e3)=(z1,z2,z3) else(z1,z2,z3)=zD)) (fun vi _=>r+1 - (intOf vi).toNat)
 case atStart=>exact⟨0,d1,d2,d3,Nat.zero_le _,rfl,bw,aQ,aL,aZ,KT⟩
 case round=>
  clear bw aQ aL aZ KT;obtain⟨j,e1,e2,e3,hj,rfl,HB,aQ,aL,aZ,HN⟩:=hrel;obtain⟨wo,cS⟩:=aB wr;rw[cS] at HB aQ aL aZ ⊢;clear cS
  by_cases hjr:j≤r
  ·have hi:(j:Int)≤(r:Int):=by omega
   have x0:=aQ.out.cell (i:=0) rfl;have x1:=aQ.out.cell (i:=1) rfl;have x2:=aQ.out.cell (i:=2) rfl;have p0:=aL.out.cell (i:=0) rfl;have p1:=aL.out.cell (i:=1) rfl;have p2:=aL.out.cell (i:=2) rfl;obtain⟨⟨⟨a1,a2⟩,st⟩,ga⟩:∃z,lE Vs (e1,e2,e3)=z:=⟨_,rfl⟩
   have Py:xW Vs (e1,e2,e3)=st:=by unfold xW;rw[ga]
   have Ny:=qh (HA.out wo HB.out e1 e2 e3);rw[ga] at Ny;have Xg:=qh Py;have Ed:Hid (kr (xW Vs) G (r - j) (e1,e2,e3)=(z1,z2,z3)):=qh (by have:=HN.out;rwa [if_pos hjr] at this);clear ga Py HN
   go_upto_region 5 with (first
    |(go_at_call 29
      refine Ny.out.mono ?_;rintro e w2 ⟨rfl,aP⟩;have bG:=qh (aI (ag HB.out aP) (δ #[J a1,J a2] 30));have vG:=qh ((aQ.out.bl aP).al (δ #[J a1,J a2] 30));have j7:=qh ((aL.out.bl aP).al (δ #[J a1,J a2] 30));have iq:=qh ((aZ.out.bl aP).al (δ #[J a1,J a2] 30));clear aP HB aQ aL aZ Ny x0 x1 x2 p0 p1 p2))
   obtain⟨w3,gw3⟩:=aB (w2.alloc (δ #[J a1,J a2] 30));rw[gw3] at bG vG j7 iq ⊢;clear gw3;cases st with
   |true=>
    have hz:(e1,e2,e3)=(z1,z2,z3):=by rw[←Ed.out,Jb _ _ _ Xg.out]
    injection hz with h1 h2
    injection h2 with h2 h3
    subst h1 h2 h3;have p0:=j7.out.cell (i:=0) rfl;have p1:=j7.out.cell (i:=1) rfl;have p2:=j7.out.cell (i:=2) rfl;have zz0:=iq.out.cell (i:=0) rfl;have zz1:=iq.out.cell (i:=1) rfl;have zz2:=iq.out.cell (i:=2) rfl;have y0:=iq.out.free 0;have y1:=iq.out.free 1;have y2:=iq.out.free 2;have nb:=tU.out;go_wp2;exact dO rfl b2 rfl (((iq.out.set_ 0 (J e1)).set_ 1 (J e2)).set_ 2 (J e3)) Tryz.underlying32 rfl (by kernel_rfl) rfl ⟨rfl,(((bG.out.setCell (p:=⟨b2,0,ε⟩) eI.out (J e1)).setCell (p:=⟨b2,1,ε⟩) eI.out (J e2)).setCell (p:=⟨b2,2,ε⟩) eI.out (J e3))⟩
   |false=>
    have x0:=vG.out.cell (i:=0) rfl;have x1:=vG.out.cell (i:=1) rfl;have x2:=vG.out.cell (i:=2) rfl;have p0:=j7.out.cell (i:=0) rfl;have p1:=j7.out.cell (i:=1) rfl;have p2:=j7.out.cell (i:=2) rfl;obtain⟨⟨⟨t1,t2,t3⟩,ok⟩,gf⟩:∃z,fX G (e1,e2,e3)=z:=⟨_,rfl⟩
    have Bh:=qh (HF.out w3 bG.out (e1,e2,e3));rw[gf] at Bh;have HGf:=qh gf;clear gf
    go_upto_region 8 with (first
     |(go_at_call 101
       refine Bh.out.mono ?_;rintro e w4 ⟨rfl,ns⟩;have kC:=qh (aI (ag bG.out ns) (δ #[J t1,J t2,J t3] 32));have Um:=qh ((vG.out.bl ns).al (δ #[J t1,J t2,J t3] 32));have mN:=qh ((j7.out.bl ns).al (δ #[J t1,J t2,J t3] 32));have uM:=qh ((iq.out.bl ns).al (δ #[J t1,J t2,J t3] 32));have HT4:=qh (Whole.new_ w4 32 [J t1,J t2,J t3]);have Nt4:Hid (b1≠w4.heap.size):=qh (by have:=(j7.out.bl ns).lt;omega);clear ns bG vG j7 iq Bh x0 x1 x2 p0 p1 p2))
    obtain⟨w5,gw5⟩:=aB (w4.alloc (δ #[J t1,J t2,J t3] 32));obtain⟨b5,FU⟩:=aB w4.heap.size;rw[gw5] at kC Um mN uM HT4 ⊢;rw[FU] at HT4 Nt4 ⊢;clear gw5 FU;have XO:¬xW Vs (e1,e2,e3)=true:=by rw[Xg.out];decide
    cases ok with
    |false=>
     have hz:(z1,z2,z3)=zD:=by rw[←Ed.out,J4 _ _ _ XO (by rw[HGf.out];exact Bool.false_ne_true)]
     injection hz with h1 h2
     injection h2 with h2 h3
     subst h1 h2 h3;clear XO;have zz0:=uM.out.cell (i:=0) rfl;have zz1:=uM.out.cell (i:=1) rfl;have zz2:=uM.out.cell (i:=2) rfl;have y0:=uM.out.free 0;have y1:=uM.out.free 1;have y2:=uM.out.free 2;go_wp2;exact dO rfl b2 rfl (((uM.out.set_ 0 (J 0)).set_ 1 (J 0)).set_ 2 (J 0)) Tryz.underlying32 rfl (by kernel_rfl) rfl ⟨rfl,(((kC.out.setCell (p:=⟨b2,0,ε⟩) eI.out (J 0)).setCell (p:=⟨b2,1,ε⟩) eI.out (J 0)).setCell (p:=⟨b2,2,ε⟩) eI.out (J 0))⟩
    |true=>
     have HNn:Hid (if j+1≤r then kr (xW Vs) G (r - (j+1)) (t1,t2,t3)=(z1,z2,z3) else(z1,z2,z3)=zD):=qh (by
      have h:=Ed.out
      by_cases dz:j+1≤r
      ·rw[if_pos dz];rw[show r - j=(r - (j+1))+1 by omega,Jf _ _ _ XO (by rw[HGf.out]),HGf.out] at h;exact h
      ·rw[if_neg dz];rw[show r - j=0 by omega,M9 _ _ XO] at h;exact h.symm)
     clear XO Ed HGf Xg;have tt0:=HT4.out.cell (i:=0) rfl;have tt1:=HT4.out.cell (i:=1) rfl;have tt2:=HT4.out.cell (i:=2) rfl;have p0:=mN.out.cell (i:=0) rfl;have p1:=mN.out.cell (i:=1) rfl;have p2:=mN.out.cell (i:=2) rfl;have y0:=mN.out.free 0;have y1:=mN.out.free 1;have y2:=mN.out.free 2;go_wp2;go_roundw
     case rel=>exact⟨j+1,t1,t2,t3,by omega,by go_num,qh (((kC.out.setCell (p:=⟨b1,0,ε⟩) iP.out (J t1)).setCell (p:=⟨b1,1,ε⟩) iP.out (J t2)).setCell (p:=⟨b1,2,ε⟩) iP.out (J t3)),qh (((Um.out.set_far' (i:=0) uW.out (J t1)).set_far' (i:=1) uW.out (J t2)).set_far' (i:=2) uW.out (J t3)),qh (((mN.out.set_ 0 (J t1)).set_ 1 (J t2)).set_ 2 (J t3)),qh (((uM.out.set_far' (i:=0) tU.out.symm (J t1)).set_far' (i:=1) tU.out.symm (J t2)).set_far' (i:=2) tU.out.symm (J t3)),HNn⟩
     case measure=>simp[intOf];omega
  ·have hi:¬(j:Int)≤(r:Int):=by omega
   have hz:(z1,z2,z3)=zD:=by have:=HN.out;rwa [if_neg hjr] at this
   injection hz with h1 h2
   injection h2 with h2 h3
   subst h1 h2 h3;clear HN;have x2:=aQ.out.cell (i:=2) rfl;have zz0:=aZ.out.cell (i:=0) rfl;have zz1:=aZ.out.cell (i:=1) rfl;have zz2:=aZ.out.cell (i:=2) rfl;have y0:=aZ.out.free 0;have y1:=aZ.out.free 1;have y2:=aZ.out.free 2;go_wp2;exact dO rfl b2 rfl (((aZ.out.set_ 0 (J 0)).set_ 1 (J 0)).set_ 2 (J 0)) Tryz.underlying32 rfl (by kernel_rfl) rfl ⟨rfl,(((HB.out.setCell (p:=⟨b2,0,ε⟩) eI.out (J 0)).setCell (p:=⟨b2,1,ε⟩) eI.out (J 0)).setCell (p:=⟨b2,2,ε⟩) eI.out (J 0))⟩
end
theorem fndV_mem {Vs:List VC} {x:Nm} (h:(eP Vs x).2=true):(eP Vs x).1∈Vs:=by
 rcases II (fun v:VC=>v.1) zV Vs x with h1|h1
 ·exact h1
 ·have h2:(eP Vs x).2=ρ:=congrArg (·.2) h1;rw[h2] at h;cases h
section
variable {W:World} {A:Option Addr} {n c:Nat} {Vs:List VC} {B:Option Addr} {m k:Nat} {Es:List EC} {C:Option Addr} {r rc:Nat} {G:List Gn}
theorem rcornN (h:bz W A n c Vs B m k Es) (hg:bg W W.heap.size 6 C r rc (ah cZ G)) (hn:n≤1000) (hr:∀y∈Vs,y.2.1.2.1≤1000000) (qx:r≤1000) (v1 v2 a1 a2 a3:Int) (hv:bu (Vs.map vS) (v1,v2)=ρ):Ζ η 72 #[φ #[γ A n c,γ B m k,γ C r rc],φ #[J v1,J v2,J a1,J a2,J a3]] W fun e w'=>e=.returned (Ξ #[φ #[J 0,J 0,J 0,J 0,J 0],J 13])∧σ W.heap.size W w':=by
 have HV:Hid (∀X,σ W.heap.size W X→Ζ η 27 #[φ #[γ A n c,γ B m k],φ #[J v1,J v2]] X fun e w'=>e=.returned (Ξ #[φ (vC (eP Vs (v1,v2)).1).toArray,Β (eP Vs (v1,v2)).2])∧σ X.heap.size X w'):=qh (fun X hX=>Vr A n c Vs B m k Es v1 v2 X (h.v.bl hX) (by omega));have OY:=(tK Vs (v1,v2)).1.trans hv;obtain⟨⟨u,ok⟩,gu⟩:∃z,eP Vs (v1,v2)=z:=⟨_,rfl⟩
 rw[gu] at HV OY;obtain rfl:ok=ρ:=OY;obtain⟨⟨i1,i2⟩,⟨rA,rn,jg,rL⟩,lb,at_⟩:=u;replace HV:Hid (∀X,σ W.heap.size W X→Ζ η 27 #[φ #[γ A n c,γ B m k],φ #[J v1,J v2]] X fun e w'=>e=.returned (Ξ #[φ #[J i1,J i2,γ rA rn jg,μ lb,J at_],Β ρ])∧σ X.heap.size X w'):=HV;clear h hg hr hv gu;go_enter Tryz.func72,Tryz.ntmps72;go_upto_region 1 with fail
 obtain⟨W0,b0,b1,b2,bO,bp,dE,jc,aQ,aL,aZ,bw,-,-,oa,-,iP,-,eI,uW,RA,tU⟩:=Bs W 28 [γ A n c,γ B m k,γ C r rc] 34 [J v1,J v2,J a1,J a2,J a3] 34 [J 0,J 0,J 0,J 0,J 0];rw[bO,jc,dE,bp];clear bO bp dE jc;have x0:=aQ.out.cell (i:=0) rfl;have x1:=aQ.out.cell (i:=1) rfl;have x2:=aQ.out.cell (i:=2) rfl;have p0:=aL.out.cell (i:=0) rfl;have p1:=aL.out.cell (i:=1) rfl;have p2:=aL.out.cell (i:=2) rfl;have p3:=aL.out.cell (i:=3) rfl;have p4:=aL.out.cell (i:=4) rfl
 go_upto_region 2 with (first
  |(go_at_call 27
    refine(HV.out _ bw.out).mono ?_
    rintro e w2 ⟨rfl,aP⟩;have bG:=qh (aI (ag bw.out aP) (δ #[J i1,J i2,γ rA rn jg,μ lb,J at_] 59));have HX2_:=qh ((aZ.out.bl aP).al (δ #[J i1,J i2,γ rA rn jg,μ lb,J at_] 59));clear aP aQ aL aZ bw x0 x1 x2 p0 p1 p2 p3 p4))
 obtain⟨w3,gw3⟩:=aB (w2.alloc (δ #[J i1,J i2,γ rA rn jg,μ lb,J at_] 59));rw[gw3] at bG HX2_ ⊢;clear gw3;have z0:=HX2_.out.cell (i:=0) rfl;have z1:=HX2_.out.cell (i:=1) rfl;have z2:=HX2_.out.cell (i:=2) rfl;have z3:=HX2_.out.cell (i:=3) rfl;have z4:=HX2_.out.cell (i:=4) rfl;have y0:=HX2_.out.free 0;have y1:=HX2_.out.free 1;have y2:=HX2_.out.free 2;have y3:=HX2_.out.free 3;have y4:=HX2_.out.free 4;go_wp2;exact bS rfl b2 rfl rfl (((((HX2_.out.set_ 0 (J 0)).set_ 1 (J 0)).set_ 2 (J 0)).set_ 3 (J 0)).set_ 4 (J 0)) Tryz.underlying34 rfl (by kernel_rfl) rfl ⟨rfl,(((((bG.out.setCell (p:=⟨b2,0,ε⟩) eI.out (J 0)).setCell (p:=⟨b2,1,ε⟩) eI.out (J 0)).setCell (p:=⟨b2,2,ε⟩) eI.out (J 0)).setCell (p:=⟨b2,3,ε⟩) eI.out (J 0)).setCell (p:=⟨b2,4,ε⟩) eI.out (J 0))⟩
theorem rcornY (h:bz W A n c Vs B m k Es) (hg:bg W W.heap.size 6 C r rc (ah cZ G)) (hn:n≤1000) (hr:∀y∈Vs,y.2.1.2.1≤1000000) (qx:r≤1000) (v1 v2 a1 a2 a3:Int) (hv:bu (Vs.map vS) (v1,v2)=true) (Tw:G.length=r):Ζ η 72 #[φ #[γ A n c,γ B m k,γ C r rc],φ #[J v1,J v2,J a1,J a2,J a3]] W fun e w'=>e=.returned (Ξ #[φ #[J (lz (Vs.map vS) G ((v1,v2),(a1,a2,a3))).1.1,J (lz (Vs.map vS) G ((v1,v2),(a1,a2,a3))).1.2,J (lz (Vs.map vS) G ((v1,v2),(a1,a2,a3))).2.1,J (lz (Vs.map vS) G ((v1,v2),(a1,a2,a3))).2.2.1,J (lz (Vs.map vS) G ((v1,v2),(a1,a2,a3))).2.2.2],J 0])∧σ W.heap.size W w':=by
 have HV:Hid (∀X,σ W.heap.size W X→Ζ η 27 #[φ #[γ A n c,γ B m k],φ #[J v1,J v2]] X fun e w'=>e=.returned (Ξ #[φ (vC (eP Vs (v1,v2)).1).toArray,Β (eP Vs (v1,v2)).2])∧σ X.heap.size X w'):=qh (fun X hX=>Vr A n c Vs B m k Es v1 v2 X (h.v.bl hX) (by omega));have OY:=(tK Vs (v1,v2)).1.trans hv;have ec:=(tK Vs (v1,v2)).2;have eE:=fndV_mem OY;obtain⟨⟨u,ok⟩,gu⟩:∃z,eP Vs (v1,v2)=z:=⟨_,rfl⟩
 rw[gu] at HV OY ec eE;obtain rfl:ok=true:=OY;obtain⟨⟨i1,i2⟩,⟨rA,rn,jg,rL⟩,lb,at_⟩:=u;replace HV:Hid (∀X,σ W.heap.size W X→Ζ η 27 #[φ #[γ A n c,γ B m k],φ #[J v1,J v2]] X fun e w'=>e=.returned (Ξ #[φ #[J i1,J i2,γ rA rn jg,μ lb,J at_],Β true])∧σ X.heap.size X w'):=HV;have ec:rL=eS (Vs.map vS) (v1,v2):=ec;have uH:RgOk W (rA,rn,jg,rL):=h.r _ eE;have kc:rn≤1000000:=hr _ eE;obtain⟨t,gt⟩:=aB (kr (xW Vs) G r (a1,a2,a3));obtain⟨⟨c1,q⟩,gq⟩:∃z,lz (Vs.map vS) G ((v1,v2),(a1,a2,a3))=z:=⟨_,rfl⟩
 have hc:(if t∈rL then t else zD)=q∧c1=(v1,v2):=by
  unfold lz at gq;rw[←YJ,Tw,gt,←ec] at gq;exact⟨congrArg (·.2) gq,(congrArg (·.1) gq).symm⟩
 rw[gq]
 have Iw:Hid (∀X,σ W.heap.size W X→Ζ η 98 #[φ #[γ A n c,γ B m k,γ C r rc],φ #[J a1,J a2,J a3]] X fun e w'=>e=.returned (φ #[J t.1,J t.2.1,J t.2.2])∧σ X.heap.size X w'):=qh (fun X hX=>by
  have:=rres_any (h.below hX) (hg.bl hX) hn hr qx (a1,a2,a3)
  rwa [gt] at this)
 have HI:Hid (∀X,σ W.heap.size W X→Ζ η 33 #[γ rA rn jg,φ #[J t.1,J t.2.1,J t.2.2]] X fun e w'=>e=.returned (J (fC rL t))∧σ X.heap.size X w'):=qh (fun X hX=>oN rA rn jg rL t X (uH.2.bl hX) (by omega));have SM:(t∈rL→0≤fC rL t)∧(¬t∈rL→fC rL t= -1):=⟨fun h=>by rw[(j3 h).1];omega,fun h=>lK h⟩;obtain⟨ix,gx⟩:=aB (fC rL t);rw[gx] at HI SM;obtain⟨t1,t2,t3⟩:=t;obtain⟨q1,q2,q3⟩:=q;obtain⟨c11,c12⟩:=c1;obtain⟨hc,qB⟩:=hc;injection qB with k1 k2
 obtain rfl:v1=c11:=k1.symm;obtain rfl:v2=c12:=k2.symm;have HC:=qh hc;have ZF:=qh SM;clear h hg hr hv gu ec eE uH gt gq gx hc SM;go_enter Tryz.func72,Tryz.ntmps72;go_upto_region 1 with fail
 obtain⟨W0,b0,b1,b2,bO,bp,dE,jc,aQ,aL,aZ,bw,-,-,oa,-,iP,-,eI,uW,RA,tU⟩:=Bs W 28 [γ A n c,γ B m k,γ C r rc] 34 [J v1,J v2,J a1,J a2,J a3] 34 [J 0,J 0,J 0,J 0,J 0];rw[bO,jc,dE,bp];clear bO bp dE jc;have x0:=aQ.out.cell (i:=0) rfl;have x1:=aQ.out.cell (i:=1) rfl;have x2:=aQ.out.cell (i:=2) rfl;have p0:=aL.out.cell (i:=0) rfl;have p1:=aL.out.cell (i:=1) rfl;have p2:=aL.out.cell (i:=2) rfl;have p3:=aL.out.cell (i:=3) rfl;have p4:=aL.out.cell (i:=4) rfl
 go_upto_region 4 with (first
  |(go_at_call 27
    refine(HV.out _ bw.out).mono ?_
    rintro e w2 ⟨rfl,aP⟩;have bG:=qh (aI (ag bw.out aP) (δ #[J i1,J i2,γ rA rn jg,μ lb,J at_] 59));have vG:=qh ((aQ.out.bl aP).al (δ #[J i1,J i2,γ rA rn jg,μ lb,J at_] 59));have j7:=qh ((aL.out.bl aP).al (δ #[J i1,J i2,γ rA rn jg,μ lb,J at_] 59));have iq:=qh ((aZ.out.bl aP).al (δ #[J i1,J i2,γ rA rn jg,μ lb,J at_] 59));have SA:=qh (Whole.new_ w2 59 [J i1,J i2,γ rA rn jg,μ lb,J at_]);clear aP aQ aL aZ bw HV x0 x1 x2 p0 p1 p2 p3 p4))
 obtain⟨w3,gw3⟩:=aB (w2.alloc (δ #[J i1,J i2,γ rA rn jg,μ lb,J at_] 59));obtain⟨b3,Z6⟩:=aB w2.heap.size;rw[gw3] at bG vG j7 iq SA ⊢;rw[Z6] at SA ⊢;clear gw3 Z6;have x0:=vG.out.cell (i:=0) rfl;have x1:=vG.out.cell (i:=1) rfl;have x2:=vG.out.cell (i:=2) rfl;have p0:=j7.out.cell (i:=0) rfl;have p1:=j7.out.cell (i:=1) rfl;have p2:=j7.out.cell (i:=2) rfl;have p3:=j7.out.cell (i:=3) rfl;have p4:=j7.out.cell (i:=4) rfl
 go_upto_region 5 with (first
  |(go_at_call 98
    refine(Iw.out _ bG.out).mono ?_
    rintro e w4 ⟨rfl,ns⟩;have kC:=qh (aI (ag bG.out ns) (δ #[J t1,J t2,J t3] 32));have mN:=qh ((j7.out.bl ns).al (δ #[J t1,J t2,J t3] 32));have uM:=qh ((iq.out.bl ns).al (δ #[J t1,J t2,J t3] 32));have Qi:=qh ((SA.out.bl ns).al (δ #[J t1,J t2,J t3] 32));have HT4:=qh (Whole.new_ w4 32 [J t1,J t2,J t3]);have Lt4:Hid (W.heap.size≤w4.heap.size):=qh (ag bG.out ns).size;clear ns bG vG j7 iq SA Iw x0 x1 x2 p0 p1 p2 p3 p4))
 obtain⟨w5,gw5⟩:=aB (w4.alloc (δ #[J t1,J t2,J t3] 32));obtain⟨b5,FU⟩:=aB w4.heap.size;rw[gw5] at kC mN uM Qi HT4 ⊢;rw[FU] at HT4 Lt4 ⊢;clear gw5 FU
 have N52:Hid (b2≠b5):=qh (fun e=>by
  have h1:_=_:=uM.out;have h2:_=_:=HT4.out;rw[e] at h1;rw[h1] at h2;cases h2)
 have N51:Hid (b1≠b5):=qh (fun e=>by
  have h1:_=_:=mN.out;have h2:_=_:=HT4.out;rw[e] at h1;rw[h1] at h2;cases h2)
 have v2_:=Qi.out.cell (i:=2) rfl;have tt0:=HT4.out.cell (i:=0) rfl;have tt1:=HT4.out.cell (i:=1) rfl;have tt2:=HT4.out.cell (i:=2) rfl
 by_cases hm:(t1,t2,t3)∈rL
 ·have hi:¬ix<0:=by have:=ZF.out.1 hm;omega
  have hq:=HC.out;rw[if_pos hm] at hq;injection hq with k1 k2
  injection k2 with k2 k3
  subst k1 k2 k3;clear hm HC ZF
  go_upto_region 7 with (first
   |(go_at_call 33
     refine(HI.out _ kC.out).mono ?_
     rintro e w6 ⟨rfl,oE⟩;have s7:=qh (ag kC.out oE);have aen:=qh (mN.out.bl oE);have HX26:=qh (uM.out.bl oE);have vv:=qh (HT4.out.bl oE);clear oE kC mN uM Qi HT4 HI v2_ tt0 tt1 tt2))
  have p0:=aen.out.cell (i:=0) rfl;have p1:=aen.out.cell (i:=1) rfl;have tt0:=vv.out.cell (i:=0) rfl;have tt1:=vv.out.cell (i:=1) rfl;have tt2:=vv.out.cell (i:=2) rfl;have zz0:=HX26.out.cell (i:=0) rfl;have zz1:=HX26.out.cell (i:=1) rfl;have zz2:=HX26.out.cell (i:=2) rfl;have zz3:=HX26.out.cell (i:=3) rfl;have zz4:=HX26.out.cell (i:=4) rfl;have y0:=HX26.out.free 0;have y1:=HX26.out.free 1;have y2:=HX26.out.free 2;have y3:=HX26.out.free 3;have y4:=HX26.out.free 4;go_wp2;exact bS rfl b2 rfl rfl (((((HX26.out.set_ 0 (J v1)).set_ 1 (J v2)).set_ 2 (J t1)).set_ 3 (J t2)).set_ 4 (J t3)) Tryz.underlying34 rfl (by kernel_rfl) rfl ⟨rfl,(((((s7.out.setCell (p:=⟨b2,0,ε⟩) eI.out (J v1)).setCell (p:=⟨b2,1,ε⟩) eI.out (J v2)).setCell (p:=⟨b2,2,ε⟩) eI.out (J t1)).setCell (p:=⟨b2,3,ε⟩) eI.out (J t2)).setCell (p:=⟨b2,4,ε⟩) eI.out (J t3))⟩
 ·have hi:ix<0:=by have:=ZF.out.2 hm;omega
  have hq:=HC.out;rw[if_neg hm] at hq;injection hq with k1 k2
  injection k2 with k2 k3
  subst k1 k2 k3;clear hm HC ZF
  go_upto_region 6 with (first
   |(go_at_call 33
     refine(HI.out _ kC.out).mono ?_
     rintro e w6 ⟨rfl,oE⟩;have s7:=qh (ag kC.out oE);have aen:=qh (mN.out.bl oE);have HX26:=qh (uM.out.bl oE);have vv:=qh (HT4.out.bl oE);clear oE kC mN uM Qi HT4 HI v2_ tt0 tt1 tt2))
  have tt0:=vv.out.cell (i:=0) rfl;have tt1:=vv.out.cell (i:=1) rfl;have tt2:=vv.out.cell (i:=2) rfl;have ft0:=vv.out.free 0;have ft1:=vv.out.free 1;have ft2:=vv.out.free 2;go_upto_region 7 with fail
  have s7:=qh (((s7.out.setCell (p:=⟨b5,0,ε⟩) Lt4.out (J 0)).setCell (p:=⟨b5,1,ε⟩) Lt4.out (J 0)).setCell (p:=⟨b5,2,ε⟩) Lt4.out (J 0));have aen:=qh (((aen.out.set_far' (i:=0) N51.out (J 0)).set_far' (i:=1) N51.out (J 0)).set_far' (i:=2) N51.out (J 0));have HX26:=qh (((HX26.out.set_far' (i:=0) N52.out (J 0)).set_far' (i:=1) N52.out (J 0)).set_far' (i:=2) N52.out (J 0));have vv:=qh (((vv.out.set_ 0 (J 0)).set_ 1 (J 0)).set_ 2 (J 0));obtain⟨w7,gw7⟩:=aB (((w6.setCell ⟨b5,0,ε⟩ (J 0)).setCell ⟨b5,1,ε⟩ (J 0)).setCell ⟨b5,2,ε⟩ (J 0));rw[gw7] at s7 aen HX26 vv ⊢;clear gw7 tt0 tt1 tt2 ft0 ft1 ft2;have p0:=aen.out.cell (i:=0) rfl;have p1:=aen.out.cell (i:=1) rfl;have tt0:=vv.out.cell (i:=0) rfl;have tt1:=vv.out.cell (i:=1) rfl;have tt2:=vv.out.cell (i:=2) rfl;have zz0:=HX26.out.cell (i:=0) rfl;have zz1:=HX26.out.cell (i:=1) rfl;have zz2:=HX26.out.cell (i:=2) rfl;have zz3:=HX26.out.cell (i:=3) rfl;have zz4:=HX26.out.cell (i:=4) rfl;have y0:=HX26.out.free 0;have y1:=HX26.out.free 1;have y2:=HX26.out.free 2;have y3:=HX26.out.free 3;have y4:=HX26.out.free 4;go_wp2;exact bS rfl b2 rfl rfl (((((HX26.out.set_ 0 (J v1)).set_ 1 (J v2)).set_ 2 (J 0)).set_ 3 (J 0)).set_ 4 (J 0)) Tryz.underlying34 rfl (by kernel_rfl) rfl ⟨rfl,(((((s7.out.setCell (p:=⟨b2,0,ε⟩) eI.out (J v1)).setCell (p:=⟨b2,1,ε⟩) eI.out (J v2)).setCell (p:=⟨b2,2,ε⟩) eI.out (J 0)).setCell (p:=⟨b2,3,ε⟩) eI.out (J 0)).setCell (p:=⟨b2,4,ε⟩) eI.out (J 0))⟩
end
end Go.Proofs.YtpdpbfmiahjiiaaGreat
