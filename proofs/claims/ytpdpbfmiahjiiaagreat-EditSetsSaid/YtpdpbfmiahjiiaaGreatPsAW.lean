/- Several texts in one. -/
import Derived.Test.YtpdpbfmiahjiiaaGreatPsAB
import Derived.Test.YtpdpbfmiahjiiaaGreatPsAP
import Derived.Test.YtpdpbfmiahjiiaaGreatPsAV
set_option linter.unusedSectionVars false
set_option linter.unusedSimpArgs false
set_option linter.unusedVariables false
set_option maxRecDepth 100000
set_option maxHeartbeats 16000000
namespace Go.Proofs.YtpdpbfmiahjiiaaGreat
open Go.RowKit
open _root_.Go.Value renaming slice→γ,string→μ,pointer→υ,agg→φ,bool→Β,tuple→Ξ
open _root_.Go.Obj renaming cells→δ
open _root_.Option renaming none→ε,some→ζ
open _root_.Go.Proofs.Tryz renaming prog→η
open _root_.List renaming map_cons→ι,map_nil→π,mem_map→Α,mem_cons→Η,not_mem_nil→Jbh
open _root_.Go.Act renaming put→ξ
open _root_.Go renaming World→ο,Value→ψ,Calls→Ζ,Addr→Κ,TypeId→Υ
open _root_.Bool renaming false→ρ
open _root_.Go.RowKit renaming Below→σ
open _root_.Nat renaming le_refl→Δ,le_trans→Λ
open _root_.Go.RowKit.Below renaming refl→Θ
open _root_.Option.some renaming inj→Μ
open _root_.Go.World renaming setCell→JbB
theorem rahead_any {W:ο} {A:Option Κ} {n c:Nat} {Vs:List VC} {B:Option Κ} {m k:Nat} {Es:List EC} (h:bz W A n c Vs B m k Es) (hn:n≤1000) (hr:∀x∈Vs,x.2.1.2.1≤900000) (a1 a2 a3:Int):
 Ζ η 76 #[φ #[γ A n c,γ B m k],φ #[J a1,J a2,J a3]] W fun e w'=>e=.returned (φ #[J (kW (Vs.map vS) (a1,a2,a3)).1,J (kW (Vs.map vS) (a1,a2,a3)).2.1,J (kW (Vs.map vS) (a1,a2,a3)).2.2])∧σ W.heap.size W w':=by
 have NO:Hid (∀X,σ W.heap.size W X→Ζ η 29 #[φ #[γ A n c,γ B m k],φ #[J a1,J a2,J a3]] X fun e w'=>e=.returned (Ξ #[φ #[J (lE Vs (a1,a2,a3)).1.1,J (lE Vs (a1,a2,a3)).1.2],Β (lE Vs (a1,a2,a3)).2])∧σ X.heap.size X w'):=qh (fun X hX=>Bl A n c Vs B m k Es a1 a2 a3 X (h.below hX) (by omega) (fun y hy=>by have:=hr y hy;omega));have SU:=congrArg (·.1) (SO Vs (a1,a2,a3));dsimp only at SU;obtain⟨⟨⟨v1,v2⟩,st⟩,gat⟩:∃z,lE Vs (a1,a2,a3)=z:=⟨_,rfl⟩
 rw[gat] at NO SU;clear gat;have HV:Hid (∀X,σ W.heap.size W X→Ζ η 27 #[φ #[γ A n c,γ B m k],φ #[J v1,J v2]] X fun e w'=>e=.returned (Ξ #[φ (vC (eP Vs (v1,v2)).1).toArray,Β (eP Vs (v1,v2)).2])∧σ X.heap.size X w'):=qh (fun X hX=>Vr A n c Vs B m k Es v1 v2 X (h.v.bl hX) (by omega));have ec:=(tK Vs (v1,v2)).2
 have uH:RgOk W (eP Vs (v1,v2)).1.2.1∧(eP Vs (v1,v2)).1.2.1.2.1≤900000:=by
  rcases II (fun v:VC=>v.1) zV Vs (v1,v2) with h1|h1
  ·exact⟨h.r _ h1,hr _ h1⟩
  ·rw[show(eP Vs (v1,v2))=(zV,ρ) from h1];exact⟨⟨by decide,rds_nil_ W _⟩,by decide⟩
 obtain⟨⟨u,ok⟩,gu⟩:∃z,eP Vs (v1,v2)=z:=⟨_,rfl⟩
 rw[gu] at HV ec uH;obtain⟨⟨i1,i2⟩,⟨rA,rn,jg,rL⟩,lb,at_⟩:=u;replace HV:Hid (∀X,σ W.heap.size W X→Ζ η 27 #[φ #[γ A n c,γ B m k],φ #[J v1,J v2]] X fun e w'=>e=.returned (Ξ #[φ #[J i1,J i2,γ rA rn jg,μ lb,J at_],Β ok])∧σ X.heap.size X w'):=HV;obtain⟨uH,kc⟩:=uH;dsimp only at ec uH kc;have HP:Hid (∀d1 d2 d3 X,σ W.heap.size W X→Ζ η 35 #[γ rA rn jg,φ #[J d1,J d2,J d3]] X (GM X (kT rL (d1,d2,d3)) (decide ((d1,d2,d3)∈rL)))):=qh (fun d1 d2 d3 X hX=>rfprev_any rA rn jg rL (d1,d2,d3) X (uH.2.bl hX) (by omega))
 have hz:kW (Vs.map vS) (a1,a2,a3)=(let q:=if dI (kT rL (a1,a2,a3))=(a1,a2) then kT rL (kT rL (a1,a2,a3)) else kT rL (a1,a2,a3);if dI q=(a1,a2) then zD else q):=by
  unfold kW;rw[←SU,←ec];rfl
 have X8:=qh (HP.out a1 a2 a3);obtain⟨⟨p1,p2,p3⟩,gp⟩:∃z,kT rL (a1,a2,a3)=z:=⟨_,rfl⟩
 rw[gp] at hz X8;obtain⟨o1,go1⟩:=aB (decide ((a1,a2,a3)∈rL));rw[go1] at X8;obtain⟨⟨z1,z2,z3⟩,gz⟩:∃z,kW (Vs.map vS) (a1,a2,a3)=z:=⟨_,rfl⟩
 rw[gz] at hz ⊢;have mf:=qh hz;clear h hr gu SU ec uH kc hz gp go1 gz;go_enter Tryz.func76,Tryz.ntmps76;go_upto_region 1 with fail
 obtain⟨W0,b0,b1,b2,bO,bp,dE,jc,aQ,aL,aZ,bw,-,-,oa,-,iP,-,eI,uW,RA,tU⟩:=Bs W 25 [γ A n c,γ B m k] 32 [J a1,J a2,J a3] 32 [J 0,J 0,J 0];rw[bO,jc,dE,bp];clear bO bp dE jc;have x0:=aQ.out.cell (i:=0) rfl;have x1:=aQ.out.cell (i:=1) rfl;have s0:=aL.out.cell (i:=0) rfl;have s1:=aL.out.cell (i:=1) rfl;have s2:=aL.out.cell (i:=2) rfl
 go_upto_region 2 with (first
  |(go_at_call 29
    refine(NO.out _ bw.out).mono ?_
    rintro e w2 ⟨rfl,aP⟩;have Zk:=qh aP;clear aP x0 x1 s0 s1 s2))
 have aP:=Zk.out;have HBs0:=qh (aI (ag bw.out aP) (δ #[J v1,J v2] 30));have HX0s:=qh ((aQ.out.bl aP).al (δ #[J v1,J v2] 30));have HX1s:=qh ((aL.out.bl aP).al (δ #[J v1,J v2] 30));have HX2s:=qh ((aZ.out.bl aP).al (δ #[J v1,J v2] 30));have KT:=qh (Whole.new_ w2 30 [J v1,J v2]);have LN0:Hid (W.heap.size≤w2.heap.size):=qh (ag bw.out aP).size;have Nqb1:Hid (b1≠w2.heap.size):=qh (Nat.ne_of_lt (aL.out.bl aP).lt);have Nqb2:Hid (b2≠w2.heap.size):=qh (Nat.ne_of_lt (aZ.out.bl aP).lt);obtain⟨Wn0,gWn⟩:=aB (w2.alloc (δ #[J v1,J v2] 30));obtain⟨b3,gbn⟩:=aB w2.heap.size;rw[gWn] at HBs0 KT HX0s HX1s HX2s ⊢;rw[gbn] at KT LN0 Nqb1 Nqb2 ⊢;clear gWn gbn aP Zk bw aQ aL aZ;have x0:=HX0s.out.cell (i:=0) rfl;have x1:=HX0s.out.cell (i:=1) rfl;have s0:=KT.out.cell (i:=0) rfl;have s1:=KT.out.cell (i:=1) rfl
 go_upto_region 3 with (first
  |(go_at_call 27
    refine(HV.out _ HBs0.out).mono ?_
    rintro e w2 ⟨rfl,aP⟩;have Zk:=qh aP;clear aP x0 x1 s0 s1))
 have aP:=Zk.out;have HBs1:=qh (aI (ag HBs0.out aP) (δ #[J i1,J i2,γ rA rn jg,μ lb,J at_] 59));have HX0ss:=qh ((HX0s.out.bl aP).al (δ #[J i1,J i2,γ rA rn jg,μ lb,J at_] 59));have HX1ss:=qh ((HX1s.out.bl aP).al (δ #[J i1,J i2,γ rA rn jg,μ lb,J at_] 59));have HX2ss:=qh ((HX2s.out.bl aP).al (δ #[J i1,J i2,γ rA rn jg,μ lb,J at_] 59));have HN0s:=qh ((KT.out.bl aP).al (δ #[J i1,J i2,γ rA rn jg,μ lb,J at_] 59));have Ed:=qh (Whole.new_ w2 59 [J i1,J i2,γ rA rn jg,μ lb,J at_]);have LN1:Hid (W.heap.size≤w2.heap.size):=qh (ag HBs0.out aP).size;have Nqb1:Hid (b1≠w2.heap.size):=qh (Nat.ne_of_lt (HX1s.out.bl aP).lt);have Nqb2:Hid (b2≠w2.heap.size):=qh (Nat.ne_of_lt (HX2s.out.bl aP).lt);obtain⟨Wn1,gWn⟩:=aB (w2.alloc (δ #[J i1,J i2,γ rA rn jg,μ lb,J at_] 59));obtain⟨b4,gbn⟩:=aB w2.heap.size;rw[gWn] at HBs1 Ed HX0ss HX1ss HX2ss HN0s ⊢;rw[gbn] at Ed LN1 Nqb1 Nqb2 ⊢;clear gWn gbn aP Zk HBs0 HX0s HX1s HX2s KT;have x2:=Ed.out.cell (i:=2) rfl;have s0:=HX1ss.out.cell (i:=0) rfl;have s1:=HX1ss.out.cell (i:=1) rfl;have s2:=HX1ss.out.cell (i:=2) rfl
 go_upto_region 4 with (first
  |(go_at_call 35
    refine(X8.out _ HBs1.out).mono ?_
    rintro e w2 ⟨rfl,aP⟩;have Zk:=qh aP;clear aP x2 s0 s1 s2))
 have aP:=Zk.out;have HBs2:=qh (aI (ag HBs1.out aP) (δ #[J p1,J p2,J p3] 32));have HX0sss:=qh ((HX0ss.out.bl aP).al (δ #[J p1,J p2,J p3] 32));have HX1sss:=qh ((HX1ss.out.bl aP).al (δ #[J p1,J p2,J p3] 32));have HX2sss:=qh ((HX2ss.out.bl aP).al (δ #[J p1,J p2,J p3] 32));have HN0ss:=qh ((HN0s.out.bl aP).al (δ #[J p1,J p2,J p3] 32));have HN1s:=qh ((Ed.out.bl aP).al (δ #[J p1,J p2,J p3] 32));have Xc:=qh (Whole.new_ w2 32 [J p1,J p2,J p3]);have LN2:Hid (W.heap.size≤w2.heap.size):=qh (ag HBs1.out aP).size;have Nqb1:Hid (b1≠w2.heap.size):=qh (Nat.ne_of_lt (HX1ss.out.bl aP).lt);have Nqb2:Hid (b2≠w2.heap.size):=qh (Nat.ne_of_lt (HX2ss.out.bl aP).lt);obtain⟨Wn2,gWn⟩:=aB (w2.alloc (δ #[J p1,J p2,J p3] 32));obtain⟨b5,gbn⟩:=aB w2.heap.size;rw[gWn] at HBs2 Xc HX0sss HX1sss HX2sss HN0ss HN1s ⊢;rw[gbn] at Xc LN2 Nqb1 Nqb2 ⊢;clear gWn gbn aP Zk HBs1 HX0ss HX1ss HX2ss HN0s Ed
 by_cases To:(p1,p2)=(a1,a2)
 ·have he:∀X,(binOp .eql 30 (φ #[J p1,J p2]) (φ #[J a1,J a2])).run η X=.ok (Β true) X:=fun X=>by rw[eqlI_run,decide_eq_true To]
  have qW:=qh (HP.out p1 p2 p3);have hz:=mf.out;rw[show dI (p1,p2,p3)=(a1,a2) from To,if_pos rfl] at hz;obtain⟨⟨q1,q2,q3⟩,gq⟩:∃z,kT rL (p1,p2,p3)=z:=⟨_,rfl⟩
  rw[gq] at qW hz;obtain⟨o2,go2⟩:=aB (decide ((p1,p2,p3)∈rL));rw[go2] at qW;have Jz:=qh hz;clear mf HP X8 hz gq go2 To;have u0:=Xc.out.cell (i:=0) rfl;have u1:=Xc.out.cell (i:=1) rfl;have u2:=Xc.out.cell (i:=2) rfl;have v0:=HX1sss.out.cell (i:=0) rfl;have v1:=HX1sss.out.cell (i:=1) rfl;have v2:=HX1sss.out.cell (i:=2) rfl;go_upto_region 5 with fail
  clear v0 v1 v2 he;have x2:=HN1s.out.cell (i:=2) rfl
  go_upto_region 6 with (first
   |(go_at_call 35
     refine(qW.out _ HBs2.out).mono ?_
     rintro e w7 ⟨rfl,nh⟩;have tM:=qh (ag HBs2.out nh);have O9:=qh (Xc.out.bl nh);have HX1_:=qh (HX1sss.out.bl nh);have HX2_:=qh (HX2sss.out.bl nh);have r0:=O9.out.cell (i:=0) rfl;have r1:=O9.out.cell (i:=1) rfl;have r2:=O9.out.cell (i:=2) rfl;have g0:=O9.out.free 0;have g1:=O9.out.free 1;have g2:=O9.out.free 2;clear nh u0 u1 u2 x2))
  have hN15:b1≠b5:=Nqb1.out;have hN25:b2≠b5:=Nqb2.out;have ue:=qh (((O9.out.set_ 0 (J q1)).set_ 1 (J q2)).set_ 2 (J q3));have mZ:=qh (((HX1_.out.far (p:=⟨b5,0,ε⟩) hN15 (J q1)).far (p:=⟨b5,1,ε⟩) hN15 (J q2)).far (p:=⟨b5,2,ε⟩) hN15 (J q3));have rG:=qh (((HX2_.out.far (p:=⟨b5,0,ε⟩) hN25 (J q1)).far (p:=⟨b5,1,ε⟩) hN25 (J q2)).far (p:=⟨b5,2,ε⟩) hN25 (J q3));have nV:=qh (((tM.out.setCell (p:=⟨b5,0,ε⟩) LN2.out (J q1)).setCell (p:=⟨b5,1,ε⟩) LN2.out (J q2)).setCell (p:=⟨b5,2,ε⟩) LN2.out (J q3));clear hN15 hN25 r0 r1 r2 g0 g1 g2 O9 HX1_ HX2_ tM;generalize JbB (JbB (JbB w7 _ _) _ _) _ _=W8 at ue mZ rG nV ⊢;have u0:=ue.out.cell (i:=0) rfl;have u1:=ue.out.cell (i:=1) rfl;have u2:=ue.out.cell (i:=2) rfl;have v0:=mZ.out.cell (i:=0) rfl;have v1:=mZ.out.cell (i:=1) rfl;have v2:=mZ.out.cell (i:=2) rfl;have t0:=rG.out.cell (i:=0) rfl;have y0:=rG.out.free 0;have t1:=rG.out.cell (i:=1) rfl;have y1:=rG.out.free 1;have t2:=rG.out.cell (i:=2) rfl;have y2:=rG.out.free 2;have HZ:Hid ((z1,z2,z3)=if (q1,q2)=(a1,a2) then zD else(q1,q2,q3)):=qh (Jz.out)
  by_cases hqx:(q1,q2)=(a1,a2)
  ·have hv:=HZ.out;rw[if_pos hqx] at hv;have he:∀X,(binOp .eql 30 (φ #[J q1,J q2]) (φ #[J a1,J a2])).run η X=.ok (Β true) X:=fun X=>by rw[eqlI_run,decide_eq_true hqx]
   clear HZ hqx;have HV0:=qh hv;clear hv;go_wp2;exact dO rfl b2 rfl (((rG.out.set_ 0 (J 0)).set_ 1 (J 0)).set_ 2 (J 0)) Tryz.underlying32 rfl (by kernel_rfl) rfl ⟨by injection HV0.out with k1 k2;injection k2 with k2 k3;rw[k1,k2,k3];rfl,(((nV.out.setCell (p:=⟨b2,0,ε⟩) eI.out (J 0)).setCell (p:=⟨b2,1,ε⟩) eI.out (J 0)).setCell (p:=⟨b2,2,ε⟩) eI.out (J 0))⟩
  ·have hv:=HZ.out;rw[if_neg hqx] at hv;have he:∀X,(binOp .eql 30 (φ #[J q1,J q2]) (φ #[J a1,J a2])).run η X=.ok (Β ρ) X:=fun X=>by rw[eqlI_run,decide_eq_false hqx]
   clear HZ hqx;have HV0:=qh hv;clear hv;go_wp2;exact dO rfl b2 rfl (((rG.out.set_ 0 (J q1)).set_ 1 (J q2)).set_ 2 (J q3)) Tryz.underlying32 rfl (by kernel_rfl) rfl ⟨by injection HV0.out with k1 k2;injection k2 with k2 k3;rw[k1,k2,k3];rfl,(((nV.out.setCell (p:=⟨b2,0,ε⟩) eI.out (J q1)).setCell (p:=⟨b2,1,ε⟩) eI.out (J q2)).setCell (p:=⟨b2,2,ε⟩) eI.out (J q3))⟩
 ·have he:∀X,(binOp .eql 30 (φ #[J p1,J p2]) (φ #[J a1,J a2])).run η X=.ok (Β ρ) X:=fun X=>by rw[eqlI_run,decide_eq_false To]
  have hz:=mf.out;rw[if_neg (show ¬dI (p1,p2,p3)=(a1,a2) from To)] at hz;have Jz:=qh hz;clear mf HP X8 hz To;have u0:=Xc.out.cell (i:=0) rfl;have u1:=Xc.out.cell (i:=1) rfl;have u2:=Xc.out.cell (i:=2) rfl;have v0:=HX1sss.out.cell (i:=0) rfl;have v1:=HX1sss.out.cell (i:=1) rfl;have v2:=HX1sss.out.cell (i:=2) rfl;go_upto_region 6 with fail
  clear u0 u1 u2 v0 v1 v2 he;obtain⟨q1,gq1⟩:=aB p1;obtain⟨q2,gq2⟩:=aB p2;obtain⟨q3,gq3⟩:=aB p3;rw[gq1,gq2,gq3] at Xc Jz ⊢;clear gq1 gq2 gq3;have u0:=Xc.out.cell (i:=0) rfl;have u1:=Xc.out.cell (i:=1) rfl;have u2:=Xc.out.cell (i:=2) rfl;have v0:=HX1sss.out.cell (i:=0) rfl;have v1:=HX1sss.out.cell (i:=1) rfl;have v2:=HX1sss.out.cell (i:=2) rfl;have t0:=HX2sss.out.cell (i:=0) rfl;have y0:=HX2sss.out.free 0;have t1:=HX2sss.out.cell (i:=1) rfl;have y1:=HX2sss.out.free 1;have t2:=HX2sss.out.cell (i:=2) rfl;have y2:=HX2sss.out.free 2;have HZ:Hid ((z1,z2,z3)=if (q1,q2)=(a1,a2) then zD else(q1,q2,q3)):=qh (Jz.out)
  by_cases hqx:(q1,q2)=(a1,a2)
  ·have hv:=HZ.out;rw[if_pos hqx] at hv;have he:∀X,(binOp .eql 30 (φ #[J q1,J q2]) (φ #[J a1,J a2])).run η X=.ok (Β true) X:=fun X=>by rw[eqlI_run,decide_eq_true hqx]
   clear HZ hqx;have HV0:=qh hv;clear hv;go_wp2;exact dO rfl b2 rfl (((HX2sss.out.set_ 0 (J 0)).set_ 1 (J 0)).set_ 2 (J 0)) Tryz.underlying32 rfl (by kernel_rfl) rfl ⟨by injection HV0.out with k1 k2;injection k2 with k2 k3;rw[k1,k2,k3];rfl,(((HBs2.out.setCell (p:=⟨b2,0,ε⟩) eI.out (J 0)).setCell (p:=⟨b2,1,ε⟩) eI.out (J 0)).setCell (p:=⟨b2,2,ε⟩) eI.out (J 0))⟩
  ·have hv:=HZ.out;rw[if_neg hqx] at hv;have he:∀X,(binOp .eql 30 (φ #[J q1,J q2]) (φ #[J a1,J a2])).run η X=.ok (Β ρ) X:=fun X=>by rw[eqlI_run,decide_eq_false hqx]
   clear HZ hqx;have HV0:=qh hv;clear hv;go_wp2;exact dO rfl b2 rfl (((HX2sss.out.set_ 0 (J q1)).set_ 1 (J q2)).set_ 2 (J q3)) Tryz.underlying32 rfl (by kernel_rfl) rfl ⟨by injection HV0.out with k1 k2;injection k2 with k2 k3;rw[k1,k2,k3];rfl,(((HBs2.out.setCell (p:=⟨b2,0,ε⟩) eI.out (J q1)).setCell (p:=⟨b2,1,ε⟩) eI.out (J q2)).setCell (p:=⟨b2,2,ε⟩) eI.out (J q3))⟩
theorem rds_not {α:Type} {f:α→List ψ} {L:List α} {W:ο} {Z s n c g:Nat} {A:Option Κ} {T:Υ} {cs:List ψ} (h:bg W Z s A n c (ah f L)) (hs:∀x,(f x).length=s) (h0:0<s) (h1:∀x,∃i:Int,(f x)[0]? =ζ (J i)) (hw:Whole W g T cs) (hc:∀v∈cs,∀i:Int,v≠J i):∀a,A=ζ a→0<n→a.block≠g:=fun a ha hn e=>by
 subst ha;have hl:=h.rlen hs h0;obtain⟨x,hx⟩:∃x,L[0]? =ζ x:=⟨_,List.getElem?_eq_getElem (by omega)⟩
 obtain⟨i,hi⟩:=h1 x;have h2:=pQ f hs L 0 x hx 0 _ hi;have h3:=h.cell a rfl _ _ h2;simp only[Nat.zero_mul,Nat.add_zero] at h3;have h4:a.add 0=a:=by unfold Addr.add;split<;>simp_all
 rw[h4] at h3;have h5:W.heap[g]? =ζ (δ cs.toArray T (0,0)):=hw;subst e;obtain⟨b,o,p⟩:=a;dsimp only at h5;unfold World.cell? at h3;rw[h5] at h3;cases p with
 |none=>
  simp only[List.getElem?_toArray] at h3;exact hc _ (List.mem_of_getElem? h3) i rfl
 |some p=>simp at h3
theorem v_not {W:ο} {Z n c g:Nat} {A:Option Κ} {Vs:List VC} {T:Υ} {cs:List ψ} (h:bg W Z 5 A n c (ah vC Vs)) (hw:Whole W g T cs) (hc:∀v∈cs,∀i:Int,v≠J i):∀a,A=ζ a→0<n→a.block≠g:=rds_not h aS (by decide) (fun x=>⟨x.1.1,rfl⟩) hw hc
theorem e_not {W:ο} {Z n c g:Nat} {A:Option Κ} {Es:List EC} {T:Υ} {cs:List ψ} (h:bg W Z 4 A n c (ah eC Es)) (hw:Whole W g T cs) (hc:∀v∈cs,∀i:Int,v≠J i):∀a,A=ζ a→0<n→a.block≠g:=rds_not h bM (by decide) (fun x=>⟨x.1.1,rfl⟩) hw hc
theorem g_not {W:ο} {Z n c g:Nat} {A:Option Κ} {G:List Gn} {T:Υ} {cs:List ψ} (h:bg W Z 6 A n c (ah cZ G)) (hw:Whole W g T cs) (hc:∀v∈cs,∀i:Int,v≠J i):∀a,A=ζ a→0<n→a.block≠g:=rds_not h bT (by decide) (fun x=>⟨x.1.1,rfl⟩) hw hc
def d3C (d:D):List ψ:=[J d.1,J d.2.1,J d.2.2]
theorem d3_rows:∀L:List D,aA L=ah d3C L
 |[]=>rfl
 |d::L=>by rw[show ah d3C (d::L)=d3C d++ah d3C L by simp[ah],←d3_rows L];rfl
theorem r_not {W:ο} {Z n c g:Nat} {A:Option Κ} {L:List D} {T:Υ} {cs:List ψ} (h:bg W Z 3 A n c (aA L)) (hw:Whole W g T cs) (hc:∀v∈cs,∀i:Int,v≠J i):∀a,A=ζ a→0<n→a.block≠g:=rds_not (f:=d3C) (d3_rows L▸h) (fun _=>rfl) (by decide) (fun x=>⟨x.1,rfl⟩) hw hc
theorem ne_some {A:Option Κ} {n g:Nat} (h:∀a,A=ζ a→0<n→a.block≠g):∀a,A=ζ a→0<n→ζ a.block≠ζ g:=fun a ha hn e=>h a ha hn (Μ e)
theorem sl2_not {a b:ψ} (ha:∀i:Int,a≠J i) (hb:∀i:Int,b≠J i):∀v∈[a,b],∀i:Int,v≠J i:=fun v hv i=>by
 simp only[Η,Jbh,or_false] at hv;rcases hv with rfl|rfl
 ·exact ha i
 ·exact hb i
theorem sl3_not {a b d:ψ} (ha:∀i:Int,a≠J i) (hb:∀i:Int,b≠J i) (hd:∀i:Int,d≠J i):∀v∈[a,b,d],∀i:Int,v≠J i:=fun v hv i=>by
 simp only[Η,Jbh,or_false] at hv;rcases hv with rfl|rfl|rfl
 ·exact ha i
 ·exact hb i
 ·exact hd i
theorem dg_row {W:ο} {A:Option Κ} {n c:Nat} {Vs:List VC} {B:Option Κ} {m k:Nat} {Es:List EC} (h:bz W A n c Vs B m k Es) {g:Nat} {T:Υ} {cs:List ψ} (hw:Whole W g T cs) (hc:∀v∈cs,∀i:Int,v≠J i) (ds:Array ψ):bz (W.setRow g ds) A n c Vs B m k Es:=
 ⟨h.v.row_far (ne_some (v_not h.v hw hc)) ds,h.e.row_far (ne_some (e_not h.e hw hc)) ds,fun x hx=>⟨(h.r x hx).1,(h.r x hx).2.row_far (ne_some (r_not (h.r x hx).2 hw hc)) ds⟩⟩
theorem dg_set {W:ο} {A:Option Κ} {n c:Nat} {Vs:List VC} {B:Option Κ} {m k:Nat} {Es:List EC} (h:bz W A n c Vs B m k Es) {g:Nat} {T:Υ} {cs:List ψ} (hw:Whole W g T cs) (hc:∀v∈cs,∀i:Int,v≠J i) (i:Nat) (u:ψ):bz (W.setCell ⟨g,i,ε⟩ u) A n c Vs B m k Es:=
 ⟨by rw[size_setCell];exact h.v.far_ (v_not h.v hw hc) u,by rw[size_setCell];exact h.e.far_ (e_not h.e hw hc) u,fun x hx=>⟨(h.r x hx).1,by rw[size_setCell];exact(h.r x hx).2.far_ (r_not (h.r x hx).2 hw hc) u⟩⟩
theorem gn_set {W:ο} {C:Option Κ} {r rc:Nat} {G:List Gn} (h:bg W W.heap.size 6 C r rc (ah cZ G)) {g:Nat} {T:Υ} {cs:List ψ} (hw:Whole W g T cs) (hc:∀v∈cs,∀i:Int,v≠J i) (i:Nat) (u:ψ):bg (W.setCell ⟨g,i,ε⟩ u) (W.setCell ⟨g,i,ε⟩ u).heap.size 6 C r rc (ah cZ G):=by
 rw[size_setCell];exact h.far_ (g_not h hw hc) u
def DgU (V:List VS) (E:List EC) (v:ψ) (W:ο):Prop:=
 ∃A n c B m k Ws,v=φ #[γ A n c,γ B m k]∧bz W A n c Ws B m k E∧Ws.map vS=V
theorem DgU.up {V:List VS} {E:List EC} {v:ψ} {W W':ο} (h:DgU V E v W) (hx:Ext W W'):DgU V E v W':=by
 obtain⟨A,n,c,B,m,k,Ws,e,h1,h2⟩:=h;exact⟨A,n,c,B,m,k,Ws,e,h1.bl hx,h2⟩
def DgV (n m:Nat) (V:List VS) (E:List EC) (v:ψ) (W:ο):Prop:=
 ∃A c B k Ws,v=φ #[γ A n c,γ B m k]∧bz W A n c Ws B m k E∧Ws.map vS=V
theorem DgV.up {n m:Nat} {V:List VS} {E:List EC} {v:ψ} {W W':ο} (h:DgV n m V E v W) (hx:Ext W W'):DgV n m V E v W':=by
 obtain⟨A,c,B,k,Ws,e,h1,h2⟩:=h;exact⟨A,c,B,k,Ws,e,h1.bl hx,h2⟩
def GivesSt (W:ο) (R:SS × Int) (e:Ending) (w':ο):Prop:=
 ∃A n c B m k C r rc Ws,e=.returned (Ξ #[φ #[γ A n c,γ B m k,γ C r rc],J R.2])∧bz w' A n c Ws B m k R.1.2.1∧Ws.map vS=R.1.1∧bg w' w'.heap.size 6 C r rc (ah cZ R.1.2.2)∧σ W.heap.size W w'
theorem dg_nil (W:ο):bz W ε 0 0 [] ε 0 0 []:=⟨bg.no W _ _,bg.no W _ _,fun _ q=>by cases q⟩
theorem fndE_has (Es:List EC) (x:Nm):(wu Es x).2=bI Es x:=by
 induction Es with
 |nil=>rfl
 |cons e Es ih=>
  unfold wu KR bI pf at*
  by_cases h:e.1=x
  ·simp[h]
  ·simp only[List.any_cons,decide_eq_false h,Bool.false_or];rw[←ih];simp[h]
def remF (V:List VS) (x:D):List VS:=dS V (D4 V x) (aM (kt (eS V (D4 V x)) x))
def RgL (K:Nat) (V:List VS):Prop:=∀v∈V,v.2.1.length≤K
theorem RgL.mono {K K':Nat} {V:List VS} (h:RgL K V) (hk:K≤K'):RgL K' V:=fun v hv=>Λ (h v hv) hk
theorem RgL.ring {K:Nat} {V:List VS} (h:RgL K V) (x:Nm):(eS V x).length≤K:=by
 unfold eS;cases hf:V.find? (fun v=>decide (v.1=x)) with
 |none=>simp
 |some v=>exact h v (List.mem_of_find?_eq_some hf)
theorem RgL.at_ {K:Nat} {V:List VS} (h:RgL K V) (x:Nm) {l:List D} (hl:l.length≤K):RgL K (dS V x l):=fun v hv=>by
 rcases iA hv with⟨h1,-⟩|⟨u,hu,-,rfl⟩
 ·exact h v h1
 ·exact hl
theorem RgL.rem {K:Nat} {V:List VS} (h:RgL K V) (x:D):RgL K (remF V x):=h.at_ _ (by
 rw[kB];exact Λ (List.length_filter_le _ _) (h.ring _))
theorem RgL.ins {K:Nat} {V:List VS} (h:RgL K V) (c:Nm × D) (x:D):RgL (K+1) (cO V c x):=(h.mono (Nat.le_succ K)).at_ _ (by
 have:=h.ring c.1
 rw[kB];unfold ja;split
 ·omega
 ·simp only[List.length_append,List.length_cons,List.length_take,List.length_drop];omega)
theorem RgL.of {W:ο} {A B:Option Κ} {n c m k K:Nat} {Vs:List VC} {Es:List EC} (h:bz W A n c Vs B m k Es) (hr:∀y∈Vs,y.2.1.2.1≤K):RgL K (Vs.map vS):=fun v hv=>by
 obtain⟨y,hy,rfl⟩:=Α.1 hv;have h1:=(h.r y hy).2.len;rw[dj] at h1
 have:=hr y hy
 show y.2.1.2.2.2.length≤K;omega
theorem RgL.to {W:ο} {A B:Option Κ} {n c m k K:Nat} {Vs:List VC} {Es:List EC} (h:bz W A n c Vs B m k Es) (hr:RgL K (Vs.map vS)):∀y∈Vs,y.2.1.2.1≤K:=fun y hy=>by
 have h1:=(h.r y hy).2.len;rw[dj] at h1;have h2:y.2.1.2.2.2.length≤K:=hr (vS y) (Α.2 ⟨y,hy,rfl⟩);omega
theorem rcut_any {W:ο} {A:Option Κ} {n c:Nat} {Vs:List VC} {B:Option Κ} {m k:Nat} {Es:List EC} {C:Option Κ} {r rc:Nat} {G:List Gn} (h:bz W A n c Vs B m k Es) (hg:bg W W.heap.size 6 C r rc (ah cZ G)) (hn:n≤1000) (hm:m≤1000) (hr:∀x∈Vs,x.2.1.2.1≤900000) (hG:G.length≤400) (hRi:cT G) (hz:∀v∈Vs.map vS,¬v.1=(0,0)) (o:dR):
 Ζ η 49 #[φ #[γ A n c,γ B m k,γ C r rc],φ (ak o).toArray] W (GivesSt W (if bI Es (o.s,o.n)=ρ then(dv,13) else((remF (remF (Vs.map vS) (bh (o.s,o.n) 0)) (bh (o.s,o.n) 1),jX Es (o.s,o.n),dP (dP G (bh (o.s,o.n) 0,kW (Vs.map vS) (bh (o.s,o.n) 0))) (bh (o.s,o.n) 1,kW (Vs.map vS) (bh (o.s,o.n) 1))),0))):=by
 have HE:Hid (∀X,σ W.heap.size W X→Ζ η 30 #[φ #[γ A n c,γ B m k],φ #[J o.s,J o.n]] X fun e w'=>e=.returned (Ξ #[φ (eC (wu Es (o.s,o.n)).1).toArray,Β (wu Es (o.s,o.n)).2])∧σ X.heap.size X w'):=qh (fun X hX=>UZ A n c Vs B m k Es o.s o.n X (h.e.bl hX) (by omega));have OY:=fndE_has Es (o.s,o.n);obtain⟨⟨u,ok⟩,gu⟩:∃z,wu Es (o.s,o.n)=z:=⟨_,rfl⟩
 rw[gu] at HE OY;obtain⟨⟨i1,i2⟩,lb,at_⟩:=u;replace HE:Hid (∀X,σ W.heap.size W X→Ζ η 30 #[φ #[γ A n c,γ B m k],φ #[J o.s,J o.n]] X fun e w'=>e=.returned (Ξ #[φ #[J i1,J i2,μ lb,J at_],Β ok])∧σ X.heap.size X w'):=HE;dsimp only at OY;rw[←OY];have YQ:Hid (∀(s:Int) X,σ W.heap.size W X→Ζ η 76 #[φ #[γ A n c,γ B m k],φ #[J o.s,J o.n,J s]] X fun e w'=>e=.returned (φ #[J (kW (Vs.map vS) (bh (o.s,o.n) s)).1,J (kW (Vs.map vS) (bh (o.s,o.n) s)).2.1,J (kW (Vs.map vS) (bh (o.s,o.n) s)).2.2])∧σ X.heap.size X w'):=qh (fun s X hX=>rahead_any (h.below hX) hn hr o.s o.n s);have HGl:Hid (r=G.length):=qh (hg.rlen bT (by decide)).symm;have HAd1:Hid (∀X,σ W.heap.size W X→∀x:Gn,Ζ η 75 #[γ C r rc,φ #[J x.1.1,J x.1.2.1,J x.1.2.2,J x.2.1,J x.2.2.1,J x.2.2.2]] X fun e w'=>∃A' n' c',e=.returned (γ A' n' c')∧bg w' w'.heap.size 6 A' n' c' (ah cZ (dP G x))∧σ X.heap.size X w'):=qh (fun X hX x=>radd_any C r rc G x X (hg.bl hX) (by have:=HGl.out;omega) hRi);have HAd2:Hid (∀X,σ W.heap.size W X→∀(x y:Gn) C' r' iv,bg X X.heap.size 6 C' r' iv (ah cZ (dP G x))→Ζ η 75 #[γ C' r' iv,φ #[J y.1.1,J y.1.2.1,J y.1.2.2,J y.2.1,J y.2.2.1,J y.2.2.2]] X fun e w'=>∃A' n' c',e=.returned (γ A' n' c')∧bg w' w'.heap.size 6 A' n' c' (ah cZ (dP (dP G x) y))∧σ X.heap.size X w'):=qh (fun X hX x y C' r' iv Tb=>radd_any C' r' iv (dP G x) y X Tb (by have h1:=Tb.rlen bT (by decide);have h2:=mT G x hG hRi;omega) (fN x hRi))
 have HRm1:Hid (∀X,σ W.heap.size W X→∀s:Int,Ζ η 77 #[φ #[γ A n c,γ B m k],φ #[J o.s,J o.n,J s]] X (GivesDg X n m (remF (Vs.map vS) (bh (o.s,o.n) s)) Es)):=qh (fun X hX s=>rremoved_any (h.below hX) hn hm hr o.s o.n s)
 have HRm2:Hid (∀X (x:D) A' c' B' k' Ws,bz X A' n c' Ws B' m k' Es→Ws.map vS=remF (Vs.map vS) x→∀s:Int,Ζ η 77 #[φ #[γ A' n c',γ B' m k'],φ #[J o.s,J o.n,J s]] X (GivesDg X n m (remF (remF (Vs.map vS) x) (bh (o.s,o.n) s)) Es)):=qh (fun X x A' c' B' k' Ws hd hW s=>by
  have:=rremoved_any hd hn hm (RgL.to hd (by rw[hW];exact(RgL.of h hr).rem x)) o.s o.n s
  rw[hW] at this;exact this)
 have HWo:Hid (∀X (V:List VS) A' c' B' k' Ws,bz X A' n c' Ws B' m k' Es→Ws.map vS=V→Ζ η 47 #[φ #[γ A' n c',γ B' m k'],φ #[J 0,J 0],φ #[J o.s,J o.n]] X fun e w'=>∃v,e=.returned v∧DgU (dM V (0,0)) (jX Es (o.s,o.n)) v w'∧σ X.heap.size X w'):=qh (fun X V A' c' B' k' Ws hd hW=>by
  refine(rwithout_any hd (0,0) (o.s,o.n) hn hm).mono ?_
  rintro e w' ⟨A5,n5,c5,B5,m5,k5,rfl,hdg,-,-,hb⟩
  refine⟨_,rfl,⟨A5,n5,c5,B5,m5,k5,_,rfl,hdg,?_⟩,hb⟩
  rw[←hW];unfold dM CL;rw[List.filter_map];rfl)
 have Tq:Hid (∀x y,dM (remF (remF (Vs.map vS) x) y) (0,0)=remF (remF (Vs.map vS) x) y):=qh (fun x y=>by
  unfold dM CL;refine List.filter_eq_self.2 (fun v hv=>?_);have hk:v.1∈(remF (remF (Vs.map vS) x) y).map (·.1):=Α.2 ⟨v,hv,rfl⟩;unfold remF at hk;rw[lI,lI] at hk;obtain⟨u,hu,e⟩:=Α.1 hk;simpa [←e] using hz u hu)
 obtain⟨V,gV⟩:=aB (Vs.map vS);rw[gV] at YQ HRm1 HRm2 Tq ⊢;have HO:=qh (rfl:ak o=ak o);clear h hr hg hRi hz OY gu gV hG;go_enter Tryz.func49,Tryz.ntmps49;go_upto_region 1 with fail
 obtain⟨W0,b0,b1,b2,bO,bp,dE,jc,aQ,aL,aZ,bw,-,-,oa,-,iP,-,eI,uW,RA,tU⟩:=Bs W 28 [γ A n c,γ B m k,γ C r rc] 36 (ak o) 28 [γ ε 0 0,γ ε 0 0,γ ε 0 0];rw[bO,jc,dE,bp];clear bO bp dE jc;have x0:=aQ.out.cell (i:=0) rfl;have x1:=aQ.out.cell (i:=1) rfl;have o1:=aL.out.cell (i:=1) rfl;have o2:=aL.out.cell (i:=2) rfl
 go_upto_region 2 with (first
  |(go_at_call 30
    refine(HE.out _ bw.out).mono ?_
    rintro e w2 ⟨rfl,aP⟩;have Zk:=qh aP;clear aP x0 x1 o1 o2))
 have aP:=Zk.out;have bE:=qh (aI (ag bw.out aP) (δ #[J i1,J i2,μ lb,J at_] 67));have HX0s:=qh ((aQ.out.bl aP).al (δ #[J i1,J i2,μ lb,J at_] 67));have HX1s:=qh ((aL.out.bl aP).al (δ #[J i1,J i2,μ lb,J at_] 67));have HX2s:=qh ((aZ.out.bl aP).al (δ #[J i1,J i2,μ lb,J at_] 67));obtain⟨W1,aV⟩:=aB (w2.alloc (δ #[J i1,J i2,μ lb,J at_] 67));obtain⟨b3,Z6⟩:=aB w2.heap.size;rw[aV] at bE HX0s HX1s HX2s ⊢;rw[Z6];clear aV Z6 aP Zk aQ aL aZ bw HE;cases ok with
 |false=>
  rw[if_pos rfl];have z0:=HX2s.out.cell (i:=0) rfl;have z1:=HX2s.out.cell (i:=1) rfl;have z2:=HX2s.out.cell (i:=2) rfl;have y0:=HX2s.out.free 0;have y1:=HX2s.out.free 1;have y2:=HX2s.out.free 2;go_wp2;exact bS rfl b2 rfl rfl (((HX2s.out.set_ 0 (γ ε 0 0)).set_ 1 (γ ε 0 0)).set_ 2 (γ ε 0 0)) Tryz.underlying28 rfl (by kernel_rfl) rfl ⟨ε,0,0,ε,0,0,ε,0,0,[],rfl,dg_nil _,rfl,bg.no _ _ _,((bE.out.setCell (p:=⟨b2,0,ε⟩) eI.out (γ ε 0 0)).setCell (p:=⟨b2,1,ε⟩) eI.out (γ ε 0 0)).setCell (p:=⟨b2,2,ε⟩) eI.out (γ ε 0 0)⟩
 |true=>
  rw[if_neg (show ¬true=ρ by decide)];have o1:=HX1s.out.cell (i:=1) rfl;have o2:=HX1s.out.cell (i:=2) rfl;go_upto_region 5 with fail
  clear o1 o2;have kC:=qh (aI bE.out (δ #[J o.s,J o.n,J 0] 32));have HX0st:=qh (HX0s.out.al (δ #[J o.s,J o.n,J 0] 32));have HX1st:=qh (HX1s.out.al (δ #[J o.s,J o.n,J 0] 32));have HX2st:=qh (HX2s.out.al (δ #[J o.s,J o.n,J 0] 32));have FA:=qh (Whole.new_ W1 32 [J o.s,J o.n,J 0]);have TL:Hid (W.heap.size≤W1.heap.size):=qh bE.out.size;obtain⟨W4,gWn⟩:=aB (W1.alloc (δ #[J o.s,J o.n,J 0] 32));obtain⟨b4,gbn⟩:=aB W1.heap.size;rw[gWn] at kC HX0st HX1st HX2st FA ⊢;rw[gbn] at FA TL ⊢;clear gWn gbn bE HX0s HX1s HX2s;have o1:=HX1st.out.cell (i:=1) rfl;have o2:=HX1st.out.cell (i:=2) rfl;go_upto_region 6 with fail
  clear o1 o2;have kF:=qh (aI kC.out (δ #[J o.s,J o.n,J 1] 32));have HX0stt:=qh (HX0st.out.al (δ #[J o.s,J o.n,J 1] 32));have HX1stt:=qh (HX1st.out.al (δ #[J o.s,J o.n,J 1] 32));have HX2stt:=qh (HX2st.out.al (δ #[J o.s,J o.n,J 1] 32));have HY4t:=qh (FA.out.al (δ #[J o.s,J o.n,J 1] 32));have TI:=qh (Whole.new_ W4 32 [J o.s,J o.n,J 1]);have Lb5:Hid (W.heap.size≤W4.heap.size):=qh kC.out.size;obtain⟨W5,gWn⟩:=aB (W4.alloc (δ #[J o.s,J o.n,J 1] 32));obtain⟨b5,gbn⟩:=aB W4.heap.size;rw[gWn] at kF HX0stt HX1stt HX2stt HY4t TI ⊢;rw[gbn] at TI Lb5 ⊢;clear gWn gbn kC HX0st HX1st HX2st FA;have fL:=cm (i:=2) HX0stt.out rfl;refine ay (aO) (by kernel_rfl) ?_;refine aa 0 ?_;refine aa 1 ?_;refine cV 2 (hy:=ib (by rfl) 32 (.tmp 8) rfl b4 rfl 32 [J o.s,J o.n,J 0] _ (fun w' h=>h.whole HY4t.out.dr (fun h=>h)) Tryz.underlying32 rfl (by kernel_rfl)) (h:=?_);refine aa 3 ?_;refine cV 4 (hy:=nS (by rfl) 25 (.tmp 32) rfl ⟨b0,0,ε⟩ rfl [γ A n c,γ B m k] _ (fun w' h i u hu=>(h.whole HX0stt.out.dr (fun h=>h)).sub_ 0 hu) Tryz.underlying25 rfl (by kernel_rfl)) (h:=?_);refine cV 5 (hy:=ib (by rfl) 32 (.tmp 8) rfl b4 rfl 32 [J o.s,J o.n,J 0] _ (fun w' h=>h.whole HY4t.out.dr (fun h=>h)) Tryz.underlying32 rfl (by kernel_rfl)) (h:=?_)
  refine cV 6 (hy:=by apply bP;rfl;rotate_left;intro w' aC;exact YQ.out 0 w' (ag kF.out ((Θ _ W5).drew.trans (aC.below (Δ _) (fun _ _ q=>q))));intro w';go_simp) (h:=?_);refine aa 7 ?_;refine mw 8 ?_;intro w' aC;have hx:=(Θ _ W5).drew.trans aC
  refine(HAd1.out w' (ag kF.out hx) (bh (o.s,o.n) 0,kW V (bh (o.s,o.n) 0))).mono ?_
  rintro e w9 ⟨Ca,ra,ca,rfl,M6,sZ⟩
  refine⟨_,rfl,Kept.of_below sZ,?_⟩
  have HGa:=qh M6;have Ve:Hid (σ W5.heap.size W5 w9):=qh (Ext.trans hx sZ);clear hx aC M6 sZ HAd1;simp only[ξ,aw,ar,aq];refine aa 9 ?_;refine aF (by kernel_rfl) ?_ _;intro w6 hw6;have HGb:=qh (HGa.out.bl hw6);have HZ6:Hid (σ W5.heap.size W5 w6):=qh (Ext.trans Ve.out hw6);clear HGa Ve hw6;go_upto_region 7 with fail
  have HX0sttu:=qh (HX0stt.out.bl HZ6.out);have HX1sttu:=qh (HX1stt.out.bl HZ6.out);have HX2sttu:=qh (HX2stt.out.bl HZ6.out);have HY4tu:=qh (HY4t.out.bl HZ6.out);have HY5u:=qh (TI.out.bl HZ6.out);have s7:=qh (ag kF.out HZ6.out);clear HZ6 kF HX0stt HX1stt HX2stt HY4t TI;refine ay (aO) (by kernel_rfl) ?_;refine aa 0 ?_;refine cV 1 (hy:=ib (by rfl) 32 (.tmp 9) rfl b5 rfl 32 [J o.s,J o.n,J 1] _ (fun w' h=>h.whole HY5u.out.dr (fun h=>h)) Tryz.underlying32 rfl (by kernel_rfl)) (h:=?_);refine aa 2 ?_;refine cV 3 (hy:=nS (by rfl) 25 (.tmp 40) rfl ⟨b0,0,ε⟩ rfl [γ A n c,γ B m k] _ (fun w' h i u hu=>(h.whole HX0sttu.out.dr (fun h=>h)).sub_ 0 hu) Tryz.underlying25 rfl (by kernel_rfl)) (h:=?_);refine cV 4 (hy:=ib (by rfl) 32 (.tmp 9) rfl b5 rfl 32 [J o.s,J o.n,J 1] _ (fun w' h=>h.whole HY5u.out.dr (fun h=>h)) Tryz.underlying32 rfl (by kernel_rfl)) (h:=?_);refine cV 5 (hy:=by apply bP;rfl;rotate_left;intro w' aC;exact YQ.out 1 w' (ag s7.out ((Θ _ w6).drew.trans (aC.below (Δ _) (fun _ _ q=>q))));intro w';go_simp) (h:=?_);refine aa 6 ?_;refine mw 7 ?_;intro w' aC;have hx:=(Θ _ w6).drew.trans aC
  refine(HAd2.out w' (ag s7.out hx) (bh (o.s,o.n) 0,kW V (bh (o.s,o.n) 0)) (bh (o.s,o.n) 1,kW V (bh (o.s,o.n) 1)) _ _ _ (HGb.out.bl hx)).mono ?_
  rintro e w9 ⟨Cd,rd,cd,rfl,M6,sZ⟩
  refine⟨_,rfl,Kept.of_below sZ,?_⟩
  have HGd:=qh M6;have HXd:Hid (σ w6.heap.size w6 w9):=qh (Ext.trans hx sZ);clear hx aC M6 sZ HAd2;simp only[ξ,aw,ar,aq];refine aa 8 ?_;refine aF (by kernel_rfl) ?_ _;intro w7 BH;have Q1:=qh (HGd.out.bl BH);have HZ7:Hid (σ w6.heap.size w6 w7):=qh (Ext.trans HXd.out BH);clear HGd HXd BH HGb;go_upto_region 8 with fail
  have HX0sttuv:=qh (HX0sttu.out.bl HZ7.out);have HX1sttuv:=qh (HX1sttu.out.bl HZ7.out);have HX2sttuv:=qh (HX2sttu.out.bl HZ7.out);have HY4tuv:=qh (HY4tu.out.bl HZ7.out);have HY5uv:=qh (HY5u.out.bl HZ7.out);have tM:=qh (ag s7.out HZ7.out);clear HZ7 s7 YQ HX0sttu HX1sttu HX2sttu HY4tu HY5u;have jB:Hid (∀y,Ext w7.drew y→y.cell? ⟨b0,0,ε⟩=ζ (γ A n c)∧y.cell? ⟨b0,1,ε⟩=ζ (γ B m k)∧y.cell? ⟨b1,1,ε⟩=ζ (J o.s)∧y.cell? ⟨b1,2,ε⟩=ζ (J o.n)∧y.cell? ⟨b4,0,ε⟩=ζ (J o.s)∧y.cell? ⟨b4,1,ε⟩=ζ (J o.n)∧y.cell? ⟨b4,2,ε⟩=ζ (J 0)∧y.cell? ⟨b5,0,ε⟩=ζ (J o.s)∧y.cell? ⟨b5,1,ε⟩=ζ (J o.n)∧y.cell? ⟨b5,2,ε⟩=ζ (J 1)):=qh (fun y hy=>⟨(HX0sttuv.out.dr.bl hy).cell (i:=0) rfl,(HX0sttuv.out.dr.bl hy).cell (i:=1) rfl,(HX1sttuv.out.dr.bl hy).cell (i:=1) rfl,(HX1sttuv.out.dr.bl hy).cell (i:=2) rfl,(HY4tuv.out.dr.bl hy).cell (i:=0) rfl,(HY4tuv.out.dr.bl hy).cell (i:=1) rfl,(HY4tuv.out.dr.bl hy).cell (i:=2) rfl,(HY5uv.out.dr.bl hy).cell (i:=0) rfl,(HY5uv.out.dr.bl hy).cell (i:=1) rfl,(HY5uv.out.dr.bl hy).cell (i:=2) rfl⟩)
  refine jI 11 (cw w7.heap.size) (tc [fun v W=>v=υ (ζ ⟨b0,0,ε⟩),fun v W=>v=φ #[γ A n c,γ B m k],fun v W=>v=φ #[J o.s,J o.n,J 0],fun v W=>DgV n m (remF V (bh (o.s,o.n) 0)) Es (v) (W),fun v W=>v=φ #[J o.s,J o.n,J 1],fun v W=>DgV n m (remF (remF V (bh (o.s,o.n) 0)) (bh (o.s,o.n) 1)) Es (v) (W),fun v W=>v=φ #[J 0,J 0],fun v W=>v=υ (ζ ⟨b1,1,ε⟩),fun v W=>v=φ #[J o.s,J o.n],fun v W=>DgU (dM (remF (remF V (bh (o.s,o.n) 0)) (bh (o.s,o.n) 1)) (0,0)) (jX Es (o.s,o.n)) (v) (W),fun v W=>∃q,v=υ (ζ ⟨q,0,ε⟩)∧w7.heap.size≤q∧Whole (W) q 25 [γ ε 0 0,γ ε 0 0]]) (Ext w7.drew) (by kernel_rfl) (by kernel_rfl) (by kernel_rfl) (by kernel_rfl) (by kernel_rfl) (jH (by
   intro Q hQ v w1 w2 h hx;simp only[Η,Jbh,or_false] at hQ;rcases hQ with rfl|rfl|rfl|rfl|rfl|rfl|rfl|rfl|rfl|rfl|rfl
   ·exact(fun v w1 w2 h hx=>h) v w1 w2 h hx
   ·exact(fun v w1 w2 h hx=>h) v w1 w2 h hx
   ·exact(fun v w1 w2 h hx=>h) v w1 w2 h hx
   ·exact(fun v w1 w2 h hx=>h.up hx) v w1 w2 h hx
   ·exact(fun v w1 w2 h hx=>h) v w1 w2 h hx
   ·exact(fun v w1 w2 h hx=>h.up hx) v w1 w2 h hx
   ·exact(fun v w1 w2 h hx=>h) v w1 w2 h hx
   ·exact(fun v w1 w2 h hx=>h) v w1 w2 h hx
   ·exact(fun v w1 w2 h hx=>h) v w1 w2 h hx
   ·exact(fun v w1 w2 h hx=>h.up hx) v w1 w2 h hx
   ·exact(fun v w1 w2 h hx=>(by obtain⟨q,e1,e2,e3⟩:=h;exact⟨q,e1,e2,e3.bl hx⟩)) v w1 w2 h hx)) (fun _ _ h k=>h.trans k) (Ext.refl _) ?_ ?_
  ·intro i Ef;have dF:i=0∨i=1∨i=2∨i=3∨i=4∨i=5∨i=6∨i=7∨i=8∨i=9∨i=10:=by omega
   rcases dF with rfl|rfl|rfl|rfl|rfl|rfl|rfl|rfl|rfl|rfl|rfl
   ·refine aH ?_;intro xf y hg aD;simp only[aE,ι,π,aj,ξ,aw,ar,aq];refine .inl ⟨by rfl,?_⟩;go_simp;exact⟨Ext.refl _,rfl⟩
   ·refine aH ?_;intro xf y hg aD;have d0:xf 0=υ (ζ ⟨b0,0,ε⟩):=aD 0 (by decide);obtain⟨qE,iQ,jd,qi,Lh,Uq,DZ,DX,hl8,GK⟩:=jB.out _ hg;simp only[aE,ι,π,aj,ξ,aw,ar,aq];simp only[d0];refine .inl ⟨by rfl,?_⟩;go_simp;exact⟨Ext.refl _,rfl⟩
   ·refine aH ?_;intro xf y hg aD;obtain⟨qE,iQ,jd,qi,Lh,Uq,DZ,DX,hl8,GK⟩:=jB.out _ hg;simp only[aE,ι,π,aj,ξ,aw,ar,aq];refine .inl ⟨by rfl,?_⟩;go_simp;exact⟨Ext.refl _,rfl⟩
   ·refine aH ?_;intro xf y hg aD;have d1:xf 1=φ #[γ A n c,γ B m k]:=aD 1 (by decide);have d2:xf 2=φ #[J o.s,J o.n,J 0]:=aD 2 (by decide);simp only[aE,ι,π,aj,ξ,aw,ar,aq];simp only[d1,d2];refine .inl ⟨by rfl,cu (by go_simp;first|done|exact⟨rfl,rfl⟩|with_reducible rfl) ?_⟩
    refine(HRm1.out y (ag (aN tM.out) hg) 0).mono ?_
    rintro e w2 ⟨A3,c3,B3,k3,Ws3,rfl,hd3,Hw,-,-,-,hb⟩
    refine⟨_,rfl,hb,?_⟩
    show DgV n m (remF V (bh (o.s,o.n) 0)) Es ((_:ψ)) (w2);exact⟨A3,c3,B3,k3,Ws3,rfl,hd3,Hw⟩
   ·refine aH ?_;intro xf y hg aD;obtain⟨qE,iQ,jd,qi,Lh,Uq,DZ,DX,hl8,GK⟩:=jB.out _ hg;simp only[aE,ι,π,aj,ξ,aw,ar,aq];refine .inl ⟨by rfl,?_⟩;go_simp;exact⟨Ext.refl _,rfl⟩
   ·refine aH ?_;intro xf y hg aD;obtain⟨A3,c3,B3,k3,Ws3,d3,hd3,Hw⟩:DgV n m (remF V (bh (o.s,o.n) 0)) Es (xf 3) (y):=aD 3 (by decide);have d4:xf 4=φ #[J o.s,J o.n,J 1]:=aD 4 (by decide);obtain⟨A3,c3,B3,k3,Ws3,d3,hd3,Hw⟩:DgV n m (remF V (bh (o.s,o.n) 0)) Es (xf 3) (y):=aD 3 (by decide);simp only[aE,ι,π,aj,ξ,aw,ar,aq];simp only[d3,d4,d3];refine .inl ⟨by rfl,cu (by go_simp;first|done|exact⟨rfl,rfl⟩|with_reducible rfl) ?_⟩
    refine(HRm2.out y (bh (o.s,o.n) 0) A3 c3 B3 k3 Ws3 hd3 Hw 1).mono ?_
    rintro e w2 ⟨A5,c5,B5,k5,Ws5,rfl,hd5,hm5,-,-,-,hb⟩
    refine⟨_,rfl,hb,?_⟩
    show DgV n m (remF (remF V (bh (o.s,o.n) 0)) (bh (o.s,o.n) 1)) Es ((_:ψ)) (w2);exact⟨A5,c5,B5,k5,Ws5,rfl,hd5,hm5⟩
   ·refine aH ?_;intro xf y hg aD;simp only[aE,ι,π,aj,ξ,aw,ar,aq];refine .inl ⟨by rfl,?_⟩;go_simp;exact⟨Ext.refl _,rfl⟩
   ·refine aH ?_;intro xf y hg aD;simp only[aE,ι,π,aj,ξ,aw,ar,aq];refine .inl ⟨by rfl,?_⟩;go_simp;exact⟨Ext.refl _,rfl⟩
   ·refine aH ?_;intro xf y hg aD;have d7:xf 7=υ (ζ ⟨b1,1,ε⟩):=aD 7 (by decide);obtain⟨qE,iQ,jd,qi,Lh,Uq,DZ,DX,hl8,GK⟩:=jB.out _ hg;simp only[aE,ι,π,aj,ξ,aw,ar,aq];simp only[d7];refine .inl ⟨by rfl,?_⟩;go_simp;exact⟨Ext.refl _,rfl⟩
   ·refine aH ?_;intro xf y hg aD;obtain⟨A5,c5,B5,k5,Ws5,d5,hd5,hm5⟩:DgV n m (remF (remF V (bh (o.s,o.n) 0)) (bh (o.s,o.n) 1)) Es (xf 5) (y):=aD 5 (by decide);have d6:xf 6=φ #[J 0,J 0]:=aD 6 (by decide);have d8:xf 8=φ #[J o.s,J o.n]:=aD 8 (by decide);obtain⟨A5,c5,B5,k5,Ws5,d5,hd5,hm5⟩:DgV n m (remF (remF V (bh (o.s,o.n) 0)) (bh (o.s,o.n) 1)) Es (xf 5) (y):=aD 5 (by decide);simp only[aE,ι,π,aj,ξ,aw,ar,aq];simp only[d5,d6,d8,d5];refine .inl ⟨by rfl,cu (by go_simp;first|done|exact⟨rfl,rfl⟩|with_reducible rfl) ?_⟩
    refine(HWo.out y _ A5 c5 B5 k5 Ws5 hd5 hm5).mono ?_
    rintro e w2 ⟨v,rfl,hu,hb⟩
    refine⟨_,rfl,hb,?_⟩
    show DgU (dM (remF (remF V (bh (o.s,o.n) 0)) (bh (o.s,o.n) 1)) (0,0)) (jX Es (o.s,o.n)) ((_:ψ)) (w2);exact hu
   ·refine aH ?_;intro xf y hg aD;simp only[aE,ι,π,aj,ξ,aw,ar,aq];refine .inl ⟨by rfl,dZ (w':=y.alloc (δ #[γ ε 0 0,γ ε 0 0] 25)) (by go_simp;first|done|exact rfl|exact⟨rfl,rfl⟩) (az _ _) ?_⟩;show ∃q,(_:ψ)=υ (ζ ⟨q,0,ε⟩)∧w7.heap.size≤q∧Whole (y.alloc (δ #[γ ε 0 0,γ ε 0 0] 25)) q 25 [γ ε 0 0,γ ε 0 0]
    exact⟨y.heap.size,rfl,hg.size,Whole.new_ _ _ [γ ε 0 0,γ ε 0 0]⟩
  intro xf y hg aX;obtain⟨A9,n9,c9,B9,m9,k9,Ws9,d9,hd9,Ys⟩:DgU (dM (remF (remF V (bh (o.s,o.n) 0)) (bh (o.s,o.n) 1)) (0,0)) (jX Es (o.s,o.n)) (xf 9) (y):=aX 9 (by decide);obtain⟨gr,d10,Ea,OZ⟩:∃q,xf 10=υ (ζ ⟨q,0,ε⟩)∧w7.heap.size≤q∧Whole (y) q 25 [γ ε 0 0,γ ε 0 0]:=aX 10 (by decide)
  simp only[aE,ι,π,aj,ξ,aw,ar,aq];simp only[d9,d10];clear aX d9 d10;have HD9:=qh hd9;have EX:=qh Ys;have HGy:=qh (Q1.out.dr.bl hg);clear hd9 Ys;have o9:=qh OZ;have qH:=qh (ag (aN (Θ _ w7)) hg);have Je:Hid (w7.heap.size≤gr):=qh Ea;clear Ea OZ;refine gI 11 ?_;intro w' aC
  refine⟨w'.setRow gr #[γ A9 n9 c9,γ B9 m9 k9],aR 25 (.tmp 11) (.tmp 55) rfl gr rfl [γ A9 n9 c9,γ B9 m9 k9] rfl 25 [γ ε 0 0,γ ε 0 0] (o9.out.bl aC) (by kernel_rfl) rfl (by simp[Value.oneCell']),bN (show w7.heap.size≤gr from Je.out) _,?_⟩
  have qP:Hid (Whole (w'.setRow gr #[γ A9 n9 c9,γ B9 m9 k9]) gr 25 [γ A9 n9 c9,γ B9 m9 k9]):=qh (Whole.row (o9.out.bl aC) [γ A9 n9 c9,γ B9 m9 k9]);have kn:Hid (σ w7.heap.size w7 (w'.setRow gr #[γ A9 n9 c9,γ B9 m9 k9])):=qh (bH (ag qH.out aC) Je.out _);have HD9_1:=qh (dg_row (HD9.out.bl aC) (o9.out.bl aC) (sl2_not (fun i=>by simp) (fun i=>by simp)) #[γ A9 n9 c9,γ B9 m9 k9]);have HGy_1:=qh ((HGy.out.bl aC).row_far (ne_some (g_not (HGy.out.bl aC) (o9.out.bl aC) (sl2_not (fun i=>by simp) (fun i=>by simp)))) #[γ A9 n9 c9,γ B9 m9 k9]);obtain⟨V1,fD⟩:=aB (w'.setRow gr #[γ A9 n9 c9,γ B9 m9 k9]);rw[fD] at qP kn HD9_1 HGy_1 ⊢;clear aC fD o9 qH;refine aF (by kernel_rfl) ?_ _;intro W8 cg;have KW:=qh (qP.out.bl cg);have rT:=qh (ag kn.out cg);have HD9:=qh (HD9_1.out.bl cg);have HGy:=qh (HGy_1.out.bl cg);clear HD9_1 HGy_1;clear cg qP kn;have Tm:=qh (HX2sttuv.out.bl rT.out);have nV:=qh (ag tM.out rT.out);clear HX0sttuv HX1sttuv HX2sttuv HY4tuv HY5uv rT jB tM Q1 HRm1 HRm2 HWo;obtain⟨W9,Yh⟩:=aB W8;rw[Yh] at Tm nV KW HD9 HGy ⊢;clear Yh W8;have z0:=Tm.out.cell (i:=0) rfl;have z1:=Tm.out.cell (i:=1) rfl;have z2:=Tm.out.cell (i:=2) rfl;have y0:=Tm.out.free 0;have y1:=Tm.out.free 1;have y2:=Tm.out.free 2;have q0:=KW.out.cell (i:=0) rfl;have q1:=KW.out.cell (i:=1) rfl;go_wp2;have HCq:=Tq.out (bh (o.s,o.n) 0) (bh (o.s,o.n) 1);have k0:=sl3_not (a:=γ ε 0 0) (b:=γ ε 0 0) (d:=γ ε 0 0) (fun i=>by simp) (fun i=>by simp) (fun i=>by simp)
  have k1:=sl3_not (a:=γ A9 n9 c9) (b:=γ ε 0 0) (d:=γ ε 0 0) (fun i=>by simp) (fun i=>by simp) (fun i=>by simp);have k2:=sl3_not (a:=γ A9 n9 c9) (b:=γ B9 m9 k9) (d:=γ ε 0 0) (fun i=>by simp) (fun i=>by simp) (fun i=>by simp);have s0:=Tm.out;have s1:=s0.set_ 0 (γ A9 n9 c9);have s2:=s1.set_ 1 (γ B9 m9 k9);exact bS rfl b2 rfl rfl (s2.set_ 2 (γ Cd rd cd)) Tryz.underlying28 rfl (by kernel_rfl) rfl ⟨A9,n9,c9,B9,m9,k9,Cd,rd,cd,Ws9,rfl,dg_set (dg_set (dg_set HD9.out s0 k0 0 _) s1 k1 1 _) s2 k2 2 _,EX.out.trans HCq,gn_set (gn_set (gn_set HGy.out s0 k0 0 _) s1 k1 1 _) s2 k2 2 _,((nV.out.setCell (p:=⟨b2,0,ε⟩) eI.out (γ A9 n9 c9)).setCell (p:=⟨b2,1,ε⟩) eI.out (γ B9 m9 k9)).setCell (p:=⟨b2,2,ε⟩) eI.out (γ Cd rd cd)⟩
end Go.Proofs.YtpdpbfmiahjiiaaGreat
