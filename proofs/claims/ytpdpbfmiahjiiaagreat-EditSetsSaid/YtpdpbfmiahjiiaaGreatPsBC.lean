/- Several texts in one. -/
import Derived.Test.YtpdpbfmiahjiiaaGreatPsAB
import Derived.Test.YtpdpbfmiahjiiaaGreatPsAP
import Derived.Test.YtpdpbfmiahjiiaaGreatPsBB
set_option linter.unusedSectionVars false
set_option linter.unusedSimpArgs false
set_option linter.unusedVariables false
set_option maxRecDepth 100000
set_option maxHeartbeats 16000000
namespace Go.Proofs.YtpdpbfmiahjiiaaGreat
open Go.RowKit
open _root_.Go.Value renaming slice→γ,string→μ,agg→φ,bool→Β,tuple→Ξ
open _root_.Go.Obj renaming cells→δ
open _root_.Option renaming none→ε,some→ζ
open _root_.Go.Proofs.Tryz renaming prog→η
open _root_.Go.Act renaming put→ξ
open _root_.Go renaming World→ο,Calls→Ζ,Addr→Κ,wp_region_lit→Jam,maxLen→Jap
open _root_.Bool renaming false→ρ
open _root_.Go.RowKit renaming Below→σ
open _root_.List renaming length_map→Ρ
theorem rone_no {W:ο} {A:Option Κ} {n c:Nat} {Vs:List VC} {B:Option Κ} {m k:Nat} {Es:List EC} {C:Option Κ} {r rc:Nat} {G:List Gn} (h:bz W A n c Vs B m k Es) (hg:bg W W.heap.size 6 C r rc (ah cZ G)) (hS:gD (Vs.map vS,Es,G)) (o:dR) (ht:o.t.size≤Jap) (x:Int) (hx:x≠0) (hmay:iu o=x):
 Ζ η 15 #[φ #[γ A n c,γ B m k,γ C r rc],φ (ak o).toArray] W (GivesSt W (dv,x)):=by
 have QV:Vs.length=n:=h.v.rlen aS (by decide);have h24:Vs.length≤24:=by have:=hS.v24;rwa [Ρ] at this
 have HM:Hid (∀X,Ζ η 45 #[φ (ak o).toArray] X fun e w'=>e=.returned (J x)∧σ X.heap.size X w'):=qh (fun X=>by
  have:=rmayop_any o ht X
  rw[hmay] at this;exact this)
 have HO:=qh h;have HGo:=qh hg;have tT:=qh hS;have HVl:=qh QV;clear h hg hS QV h24 hmay ht;go_enter Tryz.func15,Tryz.ntmps15;go_upto_region 1 with fail
 obtain⟨W0,b0,b1,b2,bO,bp,dE,jc,aQ,aL,aZ,bw,-,-,oa,-,iP,-,eI,uW,RA,tU⟩:=Bs W 28 [γ A n c,γ B m k,γ C r rc] 36 (ak o) 28 [γ ε 0 0,γ ε 0 0,γ ε 0 0];rw[bO,jc,dE,bp];clear bO bp dE jc;refine Jam ?_;refine eJ (ζ 9) rfl (by rfl) 36 (.tmp 3) rfl b1 rfl 36 (ak o) _ aL.out Tryz.underlying36 rfl (by kernel_rfl) ?_;simp only[ξ,aw,ar,aq]
 go_upto_region 2 with (first
  |(go_at_call 45
    refine(HM.out _).mono ?_
    rintro e w2 ⟨rfl,aP⟩;have HBm:=qh (ag bw.out aP);have fk:=qh (aQ.out.bl aP);have mZ:=qh (aL.out.bl aP);have rG:=qh (aZ.out.bl aP);clear aP aQ aL aZ bw HM))
 obtain⟨Wm,gWm⟩:=aB w2;rw[gWm] at HBm fk mZ rG ⊢;clear gWm;have z0:=rG.out.cell (i:=0) rfl;have z1:=rG.out.cell (i:=1) rfl;have z2:=rG.out.cell (i:=2) rfl;have y0:=rG.out.free 0;have y1:=rG.out.free 1;have y2:=rG.out.free 2;go_wp2;exact bS rfl b2 rfl rfl (((rG.out.set_ 0 (γ ε 0 0)).set_ 1 (γ ε 0 0)).set_ 2 (γ ε 0 0)) Tryz.underlying28 rfl (by kernel_rfl) rfl ⟨ε,0,0,ε,0,0,ε,0,0,[],rfl,dg_nil _,rfl,bg.no _ _ _,((HBm.out.setCell (p:=⟨b2,0,ε⟩) eI.out (γ ε 0 0)).setCell (p:=⟨b2,1,ε⟩) eI.out (γ ε 0 0)).setCell (p:=⟨b2,2,ε⟩) eI.out (γ ε 0 0)⟩
theorem rone_k3 {W:ο} {A:Option Κ} {n c:Nat} {Vs:List VC} {B:Option Κ} {m k:Nat} {Es:List EC} {C:Option Κ} {r rc:Nat} {G:List Gn} (h:bz W A n c Vs B m k Es) (hg:bg W W.heap.size 6 C r rc (ah cZ G)) (hS:gD (Vs.map vS,Es,G)) (o:dR) (ht:o.t.size≤Jap) (hmay:iu o=0) (hk:o.k=3) (R:SS × Int) (hK:∀X,σ W.heap.size W X→Ζ η 48 #[φ #[γ A n c,γ B m k,γ C r rc],φ (ak o).toArray] X (GivesSt X R)):
 Ζ η 15 #[φ #[γ A n c,γ B m k,γ C r rc],φ (ak o).toArray] W (GivesSt W R):=by
 have HK:=qh hK;clear hK;have HKk:=qh hk;clear hk;have QV:Vs.length=n:=h.v.rlen aS (by decide);have h24:Vs.length≤24:=by have:=hS.v24;rwa [Ρ] at this
 have HM:Hid (∀X,Ζ η 45 #[φ (ak o).toArray] X fun e w'=>e=.returned (J 0)∧σ X.heap.size X w'):=qh (fun X=>by
  have:=rmayop_any o ht X
  rw[hmay] at this;exact this)
 have HV:Hid (∀X,σ W.heap.size W X→Ζ η 27 #[φ #[γ A n c,γ B m k],φ #[J o.s,J o.n]] X fun e w'=>e=.returned (Ξ #[φ (vC (eP Vs (o.s,o.n)).1).toArray,Β (eP Vs (o.s,o.n)).2])∧σ X.heap.size X w'):=qh (fun X hX=>Vr A n c Vs B m k Es o.s o.n X (h.v.bl hX) (by omega));have OY:(eP Vs (o.s,o.n)).2=bu (Vs.map vS) (bL o):=(tK Vs (o.s,o.n)).1;have ec:(eP Vs (o.s,o.n)).1.2.1.2.2.2=eS (Vs.map vS) (bL o):=(tK Vs (o.s,o.n)).2
 have uH:RgOk W (eP Vs (o.s,o.n)).1.2.1:=by
  rcases II (fun v:VC=>v.1) zV Vs (o.s,o.n) with h1|h1
  ·exact h.r _ h1
  ·rw[show(eP Vs (o.s,o.n))=(zV,ρ) from h1];exact⟨by decide,rds_nil_ W _⟩
 obtain⟨⟨u,ok⟩,gv⟩:∃z,eP Vs (o.s,o.n)=z:=⟨_,rfl⟩
 rw[gv] at HV OY ec uH;obtain⟨⟨i1,i2⟩,⟨rA,rn,jg,rL⟩,lb,at_⟩:=u;replace HV:Hid (∀X,σ W.heap.size W X→Ζ η 27 #[φ #[γ A n c,γ B m k],φ #[J o.s,J o.n]] X fun e w'=>e=.returned (Ξ #[φ #[J i1,J i2,γ rA rn jg,μ lb,J at_],Β ok])∧σ X.heap.size X w'):=HV;dsimp only at OY ec uH;have qx:rL.length=rn:=by have:=uH.2.len;rw[dj] at this;dsimp only at this;omega
 have XZ:=qh OY;have Zu:=qh ec;have HRl:=qh qx;have P4:n≤24:=by omega
 clear OY ec uH qx gv;have HO:=qh h;have HGo:=qh hg;have tT:=qh hS;have HVl:=qh QV;clear h hg hS QV h24 hmay ht;go_enter Tryz.func15,Tryz.ntmps15;go_upto_region 1 with fail
 obtain⟨W0,b0,b1,b2,bO,bp,dE,jc,aQ,aL,aZ,bw,-,-,oa,-,iP,-,eI,uW,RA,tU⟩:=Bs W 28 [γ A n c,γ B m k,γ C r rc] 36 (ak o) 28 [γ ε 0 0,γ ε 0 0,γ ε 0 0];rw[bO,jc,dE,bp];clear bO bp dE jc;refine Jam ?_;refine eJ (ζ 9) rfl (by rfl) 36 (.tmp 3) rfl b1 rfl 36 (ak o) _ aL.out Tryz.underlying36 rfl (by kernel_rfl) ?_;simp only[ξ,aw,ar,aq]
 go_upto_region 2 with (first
  |(go_at_call 45
    refine(HM.out _).mono ?_
    rintro e w2 ⟨rfl,aP⟩;have HBm:=qh (ag bw.out aP);have fk:=qh (aQ.out.bl aP);have mZ:=qh (aL.out.bl aP);have rG:=qh (aZ.out.bl aP);clear aP aQ aL aZ bw HM))
 obtain⟨Wm,gWm⟩:=aB w2;rw[gWm] at HBm fk mZ rG ⊢;clear gWm;go_upto_region 4 with fail
 have fb0_0:=fk.out.cell (i:=0) rfl;have fb0_1:=fk.out.cell (i:=1) rfl;have fb1_1:=mZ.out.cell (i:=1) rfl;have fb1_2:=mZ.out.cell (i:=2) rfl
 go_upto_region 5 with (first
  |(go_at_call 27
    refine(HV.out _ HBm.out).mono ?_
    rintro e w2 ⟨rfl,aP⟩;have Zk:=qh aP;clear aP fb0_0 fb0_1 fb1_1 fb1_2))
 have aP:=Zk.out;have Og:=qh (aI (ag HBm.out aP) (δ #[J i1,J i2,γ rA rn jg,μ lb,J at_] 59));have HXb0_11:=qh ((fk.out.bl aP).al (δ #[J i1,J i2,γ rA rn jg,μ lb,J at_] 59));have HXb1_11:=qh ((mZ.out.bl aP).al (δ #[J i1,J i2,γ rA rn jg,μ lb,J at_] 59));have HXb2_11:=qh ((rG.out.bl aP).al (δ #[J i1,J i2,γ rA rn jg,μ lb,J at_] 59));have HXb3_11:=qh (Whole.new_ w2 59 [J i1,J i2,γ rA rn jg,μ lb,J at_]);have Lb3:Hid (W.heap.size≤w2.heap.size):=qh (ag HBm.out aP).size;have Nb0b3:Hid (b0≠w2.heap.size):=qh (by have:=(fk.out.bl aP).lt;omega);have Nb1b3:Hid (b1≠w2.heap.size):=qh (by have:=(mZ.out.bl aP).lt;omega);have Nb2b3:Hid (b2≠w2.heap.size):=qh (by have:=(rG.out.bl aP).lt;omega);obtain⟨W11,gWn⟩:=aB (w2.alloc (δ #[J i1,J i2,γ rA rn jg,μ lb,J at_] 59));obtain⟨b3,gbn⟩:=aB w2.heap.size;rw[gWn] at Og HXb0_11 HXb1_11 HXb2_11 HXb3_11 ⊢;rw[gbn] at HXb3_11 Lb3 Nb0b3 Nb1b3 Nb2b3 ⊢;clear gWn gbn HBm fk mZ rG aP Zk;clear HV;have k0:W11.cell? ⟨b1,0,ε⟩=ζ (J 3):=(HXb1_11.out.cell (i:=0) rfl).trans (by rw[HKk.out]);go_upto_region 19 with fail
 clear k0;refine Jam ?_;refine eJ (ζ 65) rfl (by rfl) 28 (.tmp 2) rfl b0 rfl 28 [γ A n c,γ B m k,γ C r rc] _ HXb0_11.out Tryz.underlying28 rfl (by kernel_rfl) ?_;simp only[ξ,aw,ar,aq];refine eJ (ζ 66) rfl (by rfl) 36 (.tmp 3) rfl b1 rfl 36 (ak o) _ HXb1_11.out Tryz.underlying36 rfl (by kernel_rfl) ?_;simp only[ξ,aw,ar,aq]
 go_wp2_with (first
  |(go_at_call 48
    refine(HK.out _ Og.out).mono ?_
    rintro e w2 ⟨A9,n9,c9,B9,m9,k9,C9,r9,rF,Ws9,rfl,hd,hmp,Tt,aP⟩;have z0:=(HXb2_11.out.bl aP).cell (i:=0) rfl;have z1:=(HXb2_11.out.bl aP).cell (i:=1) rfl;have z2:=(HXb2_11.out.bl aP).cell (i:=2) rfl;have y0:=(HXb2_11.out.bl aP).free 0;have y1:=(HXb2_11.out.bl aP).free 1;have y2:=(HXb2_11.out.bl aP).free 2;have HZ:=qh (HXb2_11.out.bl aP);have HD:=qh hd;have HMp:=qh hmp;have HGn:=qh Tt;have QM:=qh (ag Og.out aP);clear hd hmp Tt aP))
 have k0:=sl3_not (a:=γ ε 0 0) (b:=γ ε 0 0) (d:=γ ε 0 0) (fun i=>by simp) (fun i=>by simp) (fun i=>by simp);have k1:=sl3_not (a:=γ A9 n9 c9) (b:=γ ε 0 0) (d:=γ ε 0 0) (fun i=>by simp) (fun i=>by simp) (fun i=>by simp);have k2_:=sl3_not (a:=γ A9 n9 c9) (b:=γ B9 m9 k9) (d:=γ ε 0 0) (fun i=>by simp) (fun i=>by simp) (fun i=>by simp);have s0:=HZ.out;have s1:=s0.set_ 0 (γ A9 n9 c9);have s2:=s1.set_ 1 (γ B9 m9 k9);exact bS rfl b2 rfl rfl (s2.set_ 2 (γ C9 r9 rF)) Tryz.underlying28 rfl (by kernel_rfl) rfl ⟨A9,n9,c9,B9,m9,k9,C9,r9,rF,Ws9,rfl,dg_set (dg_set (dg_set HD.out s0 k0 0 _) s1 k1 1 _) s2 k2_ 2 _,HMp.out,gn_set (gn_set (gn_set HGn.out s0 k0 0 _) s1 k1 1 _) s2 k2_ 2 _,((QM.out.setCell (p:=⟨b2,0,ε⟩) eI.out (γ A9 n9 c9)).setCell (p:=⟨b2,1,ε⟩) eI.out (γ B9 m9 k9)).setCell (p:=⟨b2,2,ε⟩) eI.out (γ C9 r9 rF)⟩
theorem rone_k4 {W:ο} {A:Option Κ} {n c:Nat} {Vs:List VC} {B:Option Κ} {m k:Nat} {Es:List EC} {C:Option Κ} {r rc:Nat} {G:List Gn} (h:bz W A n c Vs B m k Es) (hg:bg W W.heap.size 6 C r rc (ah cZ G)) (hS:gD (Vs.map vS,Es,G)) (o:dR) (ht:o.t.size≤Jap) (hmay:iu o=0) (hk:o.k=4) (R:SS × Int) (hK:∀X,σ W.heap.size W X→Ζ η 49 #[φ #[γ A n c,γ B m k,γ C r rc],φ (ak o).toArray] X (GivesSt X R)):
 Ζ η 15 #[φ #[γ A n c,γ B m k,γ C r rc],φ (ak o).toArray] W (GivesSt W R):=by
 have HK:=qh hK;clear hK;have HKk:=qh hk;clear hk;have QV:Vs.length=n:=h.v.rlen aS (by decide);have h24:Vs.length≤24:=by have:=hS.v24;rwa [Ρ] at this
 have HM:Hid (∀X,Ζ η 45 #[φ (ak o).toArray] X fun e w'=>e=.returned (J 0)∧σ X.heap.size X w'):=qh (fun X=>by
  have:=rmayop_any o ht X
  rw[hmay] at this;exact this)
 have HV:Hid (∀X,σ W.heap.size W X→Ζ η 27 #[φ #[γ A n c,γ B m k],φ #[J o.s,J o.n]] X fun e w'=>e=.returned (Ξ #[φ (vC (eP Vs (o.s,o.n)).1).toArray,Β (eP Vs (o.s,o.n)).2])∧σ X.heap.size X w'):=qh (fun X hX=>Vr A n c Vs B m k Es o.s o.n X (h.v.bl hX) (by omega));have OY:(eP Vs (o.s,o.n)).2=bu (Vs.map vS) (bL o):=(tK Vs (o.s,o.n)).1;have ec:(eP Vs (o.s,o.n)).1.2.1.2.2.2=eS (Vs.map vS) (bL o):=(tK Vs (o.s,o.n)).2
 have uH:RgOk W (eP Vs (o.s,o.n)).1.2.1:=by
  rcases II (fun v:VC=>v.1) zV Vs (o.s,o.n) with h1|h1
  ·exact h.r _ h1
  ·rw[show(eP Vs (o.s,o.n))=(zV,ρ) from h1];exact⟨by decide,rds_nil_ W _⟩
 obtain⟨⟨u,ok⟩,gv⟩:∃z,eP Vs (o.s,o.n)=z:=⟨_,rfl⟩
 rw[gv] at HV OY ec uH;obtain⟨⟨i1,i2⟩,⟨rA,rn,jg,rL⟩,lb,at_⟩:=u;replace HV:Hid (∀X,σ W.heap.size W X→Ζ η 27 #[φ #[γ A n c,γ B m k],φ #[J o.s,J o.n]] X fun e w'=>e=.returned (Ξ #[φ #[J i1,J i2,γ rA rn jg,μ lb,J at_],Β ok])∧σ X.heap.size X w'):=HV;dsimp only at OY ec uH;have qx:rL.length=rn:=by have:=uH.2.len;rw[dj] at this;dsimp only at this;omega
 have XZ:=qh OY;have Zu:=qh ec;have HRl:=qh qx;have P4:n≤24:=by omega
 clear OY ec uH qx gv;have HO:=qh h;have HGo:=qh hg;have tT:=qh hS;have HVl:=qh QV;clear h hg hS QV h24 hmay ht;go_enter Tryz.func15,Tryz.ntmps15;go_upto_region 1 with fail
 obtain⟨W0,b0,b1,b2,bO,bp,dE,jc,aQ,aL,aZ,bw,-,-,oa,-,iP,-,eI,uW,RA,tU⟩:=Bs W 28 [γ A n c,γ B m k,γ C r rc] 36 (ak o) 28 [γ ε 0 0,γ ε 0 0,γ ε 0 0];rw[bO,jc,dE,bp];clear bO bp dE jc;refine Jam ?_;refine eJ (ζ 9) rfl (by rfl) 36 (.tmp 3) rfl b1 rfl 36 (ak o) _ aL.out Tryz.underlying36 rfl (by kernel_rfl) ?_;simp only[ξ,aw,ar,aq]
 go_upto_region 2 with (first
  |(go_at_call 45
    refine(HM.out _).mono ?_
    rintro e w2 ⟨rfl,aP⟩;have HBm:=qh (ag bw.out aP);have fk:=qh (aQ.out.bl aP);have mZ:=qh (aL.out.bl aP);have rG:=qh (aZ.out.bl aP);clear aP aQ aL aZ bw HM))
 obtain⟨Wm,gWm⟩:=aB w2;rw[gWm] at HBm fk mZ rG ⊢;clear gWm;go_upto_region 4 with fail
 have fb0_0:=fk.out.cell (i:=0) rfl;have fb0_1:=fk.out.cell (i:=1) rfl;have fb1_1:=mZ.out.cell (i:=1) rfl;have fb1_2:=mZ.out.cell (i:=2) rfl
 go_upto_region 5 with (first
  |(go_at_call 27
    refine(HV.out _ HBm.out).mono ?_
    rintro e w2 ⟨rfl,aP⟩;have Zk:=qh aP;clear aP fb0_0 fb0_1 fb1_1 fb1_2))
 have aP:=Zk.out;have Og:=qh (aI (ag HBm.out aP) (δ #[J i1,J i2,γ rA rn jg,μ lb,J at_] 59));have HXb0_11:=qh ((fk.out.bl aP).al (δ #[J i1,J i2,γ rA rn jg,μ lb,J at_] 59));have HXb1_11:=qh ((mZ.out.bl aP).al (δ #[J i1,J i2,γ rA rn jg,μ lb,J at_] 59));have HXb2_11:=qh ((rG.out.bl aP).al (δ #[J i1,J i2,γ rA rn jg,μ lb,J at_] 59));have HXb3_11:=qh (Whole.new_ w2 59 [J i1,J i2,γ rA rn jg,μ lb,J at_]);have Lb3:Hid (W.heap.size≤w2.heap.size):=qh (ag HBm.out aP).size;have Nb0b3:Hid (b0≠w2.heap.size):=qh (by have:=(fk.out.bl aP).lt;omega);have Nb1b3:Hid (b1≠w2.heap.size):=qh (by have:=(mZ.out.bl aP).lt;omega);have Nb2b3:Hid (b2≠w2.heap.size):=qh (by have:=(rG.out.bl aP).lt;omega);obtain⟨W11,gWn⟩:=aB (w2.alloc (δ #[J i1,J i2,γ rA rn jg,μ lb,J at_] 59));obtain⟨b3,gbn⟩:=aB w2.heap.size;rw[gWn] at Og HXb0_11 HXb1_11 HXb2_11 HXb3_11 ⊢;rw[gbn] at HXb3_11 Lb3 Nb0b3 Nb1b3 Nb2b3 ⊢;clear gWn gbn HBm fk mZ rG aP Zk;clear HV;have k0:W11.cell? ⟨b1,0,ε⟩=ζ (J 4):=(HXb1_11.out.cell (i:=0) rfl).trans (by rw[HKk.out]);go_upto_region 21 with fail
 clear k0;refine Jam ?_;refine eJ (ζ 72) rfl (by rfl) 28 (.tmp 2) rfl b0 rfl 28 [γ A n c,γ B m k,γ C r rc] _ HXb0_11.out Tryz.underlying28 rfl (by kernel_rfl) ?_;simp only[ξ,aw,ar,aq];refine eJ (ζ 73) rfl (by rfl) 36 (.tmp 3) rfl b1 rfl 36 (ak o) _ HXb1_11.out Tryz.underlying36 rfl (by kernel_rfl) ?_;simp only[ξ,aw,ar,aq]
 go_wp2_with (first
  |(go_at_call 49
    refine(HK.out _ Og.out).mono ?_
    rintro e w2 ⟨A9,n9,c9,B9,m9,k9,C9,r9,rF,Ws9,rfl,hd,hmp,Tt,aP⟩;have z0:=(HXb2_11.out.bl aP).cell (i:=0) rfl;have z1:=(HXb2_11.out.bl aP).cell (i:=1) rfl;have z2:=(HXb2_11.out.bl aP).cell (i:=2) rfl;have y0:=(HXb2_11.out.bl aP).free 0;have y1:=(HXb2_11.out.bl aP).free 1;have y2:=(HXb2_11.out.bl aP).free 2;have HZ:=qh (HXb2_11.out.bl aP);have HD:=qh hd;have HMp:=qh hmp;have HGn:=qh Tt;have QM:=qh (ag Og.out aP);clear hd hmp Tt aP))
 have k0:=sl3_not (a:=γ ε 0 0) (b:=γ ε 0 0) (d:=γ ε 0 0) (fun i=>by simp) (fun i=>by simp) (fun i=>by simp);have k1:=sl3_not (a:=γ A9 n9 c9) (b:=γ ε 0 0) (d:=γ ε 0 0) (fun i=>by simp) (fun i=>by simp) (fun i=>by simp);have k2_:=sl3_not (a:=γ A9 n9 c9) (b:=γ B9 m9 k9) (d:=γ ε 0 0) (fun i=>by simp) (fun i=>by simp) (fun i=>by simp);have s0:=HZ.out;have s1:=s0.set_ 0 (γ A9 n9 c9);have s2:=s1.set_ 1 (γ B9 m9 k9);exact bS rfl b2 rfl rfl (s2.set_ 2 (γ C9 r9 rF)) Tryz.underlying28 rfl (by kernel_rfl) rfl ⟨A9,n9,c9,B9,m9,k9,C9,r9,rF,Ws9,rfl,dg_set (dg_set (dg_set HD.out s0 k0 0 _) s1 k1 1 _) s2 k2_ 2 _,HMp.out,gn_set (gn_set (gn_set HGn.out s0 k0 0 _) s1 k1 1 _) s2 k2_ 2 _,((QM.out.setCell (p:=⟨b2,0,ε⟩) eI.out (γ A9 n9 c9)).setCell (p:=⟨b2,1,ε⟩) eI.out (γ B9 m9 k9)).setCell (p:=⟨b2,2,ε⟩) eI.out (γ C9 r9 rF)⟩
theorem rone_k5 {W:ο} {A:Option Κ} {n c:Nat} {Vs:List VC} {B:Option Κ} {m k:Nat} {Es:List EC} {C:Option Κ} {r rc:Nat} {G:List Gn} (h:bz W A n c Vs B m k Es) (hg:bg W W.heap.size 6 C r rc (ah cZ G)) (hS:gD (Vs.map vS,Es,G)) (o:dR) (ht:o.t.size≤Jap) (hmay:iu o=0) (hk:o.k=5) (R:SS × Int) (hK:∀X,σ W.heap.size W X→Ζ η 50 #[φ #[γ A n c,γ B m k,γ C r rc],φ (ak o).toArray] X (GivesSt X R)):
 Ζ η 15 #[φ #[γ A n c,γ B m k,γ C r rc],φ (ak o).toArray] W (GivesSt W R):=by
 have HK:=qh hK;clear hK;have HKk:=qh hk;clear hk;have QV:Vs.length=n:=h.v.rlen aS (by decide);have h24:Vs.length≤24:=by have:=hS.v24;rwa [Ρ] at this
 have HM:Hid (∀X,Ζ η 45 #[φ (ak o).toArray] X fun e w'=>e=.returned (J 0)∧σ X.heap.size X w'):=qh (fun X=>by
  have:=rmayop_any o ht X
  rw[hmay] at this;exact this)
 have HV:Hid (∀X,σ W.heap.size W X→Ζ η 27 #[φ #[γ A n c,γ B m k],φ #[J o.s,J o.n]] X fun e w'=>e=.returned (Ξ #[φ (vC (eP Vs (o.s,o.n)).1).toArray,Β (eP Vs (o.s,o.n)).2])∧σ X.heap.size X w'):=qh (fun X hX=>Vr A n c Vs B m k Es o.s o.n X (h.v.bl hX) (by omega));have OY:(eP Vs (o.s,o.n)).2=bu (Vs.map vS) (bL o):=(tK Vs (o.s,o.n)).1;have ec:(eP Vs (o.s,o.n)).1.2.1.2.2.2=eS (Vs.map vS) (bL o):=(tK Vs (o.s,o.n)).2
 have uH:RgOk W (eP Vs (o.s,o.n)).1.2.1:=by
  rcases II (fun v:VC=>v.1) zV Vs (o.s,o.n) with h1|h1
  ·exact h.r _ h1
  ·rw[show(eP Vs (o.s,o.n))=(zV,ρ) from h1];exact⟨by decide,rds_nil_ W _⟩
 obtain⟨⟨u,ok⟩,gv⟩:∃z,eP Vs (o.s,o.n)=z:=⟨_,rfl⟩
 rw[gv] at HV OY ec uH;obtain⟨⟨i1,i2⟩,⟨rA,rn,jg,rL⟩,lb,at_⟩:=u;replace HV:Hid (∀X,σ W.heap.size W X→Ζ η 27 #[φ #[γ A n c,γ B m k],φ #[J o.s,J o.n]] X fun e w'=>e=.returned (Ξ #[φ #[J i1,J i2,γ rA rn jg,μ lb,J at_],Β ok])∧σ X.heap.size X w'):=HV;dsimp only at OY ec uH;have qx:rL.length=rn:=by have:=uH.2.len;rw[dj] at this;dsimp only at this;omega
 have XZ:=qh OY;have Zu:=qh ec;have HRl:=qh qx;have P4:n≤24:=by omega
 clear OY ec uH qx gv;have HO:=qh h;have HGo:=qh hg;have tT:=qh hS;have HVl:=qh QV;clear h hg hS QV h24 hmay ht;go_enter Tryz.func15,Tryz.ntmps15;go_upto_region 1 with fail
 obtain⟨W0,b0,b1,b2,bO,bp,dE,jc,aQ,aL,aZ,bw,-,-,oa,-,iP,-,eI,uW,RA,tU⟩:=Bs W 28 [γ A n c,γ B m k,γ C r rc] 36 (ak o) 28 [γ ε 0 0,γ ε 0 0,γ ε 0 0];rw[bO,jc,dE,bp];clear bO bp dE jc;refine Jam ?_;refine eJ (ζ 9) rfl (by rfl) 36 (.tmp 3) rfl b1 rfl 36 (ak o) _ aL.out Tryz.underlying36 rfl (by kernel_rfl) ?_;simp only[ξ,aw,ar,aq]
 go_upto_region 2 with (first
  |(go_at_call 45
    refine(HM.out _).mono ?_
    rintro e w2 ⟨rfl,aP⟩;have HBm:=qh (ag bw.out aP);have fk:=qh (aQ.out.bl aP);have mZ:=qh (aL.out.bl aP);have rG:=qh (aZ.out.bl aP);clear aP aQ aL aZ bw HM))
 obtain⟨Wm,gWm⟩:=aB w2;rw[gWm] at HBm fk mZ rG ⊢;clear gWm;go_upto_region 4 with fail
 have fb0_0:=fk.out.cell (i:=0) rfl;have fb0_1:=fk.out.cell (i:=1) rfl;have fb1_1:=mZ.out.cell (i:=1) rfl;have fb1_2:=mZ.out.cell (i:=2) rfl
 go_upto_region 5 with (first
  |(go_at_call 27
    refine(HV.out _ HBm.out).mono ?_
    rintro e w2 ⟨rfl,aP⟩;have Zk:=qh aP;clear aP fb0_0 fb0_1 fb1_1 fb1_2))
 have aP:=Zk.out;have Og:=qh (aI (ag HBm.out aP) (δ #[J i1,J i2,γ rA rn jg,μ lb,J at_] 59));have HXb0_11:=qh ((fk.out.bl aP).al (δ #[J i1,J i2,γ rA rn jg,μ lb,J at_] 59));have HXb1_11:=qh ((mZ.out.bl aP).al (δ #[J i1,J i2,γ rA rn jg,μ lb,J at_] 59));have HXb2_11:=qh ((rG.out.bl aP).al (δ #[J i1,J i2,γ rA rn jg,μ lb,J at_] 59));have HXb3_11:=qh (Whole.new_ w2 59 [J i1,J i2,γ rA rn jg,μ lb,J at_]);have Lb3:Hid (W.heap.size≤w2.heap.size):=qh (ag HBm.out aP).size;have Nb0b3:Hid (b0≠w2.heap.size):=qh (by have:=(fk.out.bl aP).lt;omega);have Nb1b3:Hid (b1≠w2.heap.size):=qh (by have:=(mZ.out.bl aP).lt;omega);have Nb2b3:Hid (b2≠w2.heap.size):=qh (by have:=(rG.out.bl aP).lt;omega);obtain⟨W11,gWn⟩:=aB (w2.alloc (δ #[J i1,J i2,γ rA rn jg,μ lb,J at_] 59));obtain⟨b3,gbn⟩:=aB w2.heap.size;rw[gWn] at Og HXb0_11 HXb1_11 HXb2_11 HXb3_11 ⊢;rw[gbn] at HXb3_11 Lb3 Nb0b3 Nb1b3 Nb2b3 ⊢;clear gWn gbn HBm fk mZ rG aP Zk;clear HV;have k0:W11.cell? ⟨b1,0,ε⟩=ζ (J 5):=(HXb1_11.out.cell (i:=0) rfl).trans (by rw[HKk.out]);go_upto_region 23 with fail
 clear k0;refine Jam ?_;refine eJ (ζ 79) rfl (by rfl) 28 (.tmp 2) rfl b0 rfl 28 [γ A n c,γ B m k,γ C r rc] _ HXb0_11.out Tryz.underlying28 rfl (by kernel_rfl) ?_;simp only[ξ,aw,ar,aq];refine eJ (ζ 80) rfl (by rfl) 36 (.tmp 3) rfl b1 rfl 36 (ak o) _ HXb1_11.out Tryz.underlying36 rfl (by kernel_rfl) ?_;simp only[ξ,aw,ar,aq]
 go_wp2_with (first
  |(go_at_call 50
    refine(HK.out _ Og.out).mono ?_
    rintro e w2 ⟨A9,n9,c9,B9,m9,k9,C9,r9,rF,Ws9,rfl,hd,hmp,Tt,aP⟩;have z0:=(HXb2_11.out.bl aP).cell (i:=0) rfl;have z1:=(HXb2_11.out.bl aP).cell (i:=1) rfl;have z2:=(HXb2_11.out.bl aP).cell (i:=2) rfl;have y0:=(HXb2_11.out.bl aP).free 0;have y1:=(HXb2_11.out.bl aP).free 1;have y2:=(HXb2_11.out.bl aP).free 2;have HZ:=qh (HXb2_11.out.bl aP);have HD:=qh hd;have HMp:=qh hmp;have HGn:=qh Tt;have QM:=qh (ag Og.out aP);clear hd hmp Tt aP))
 have k0:=sl3_not (a:=γ ε 0 0) (b:=γ ε 0 0) (d:=γ ε 0 0) (fun i=>by simp) (fun i=>by simp) (fun i=>by simp);have k1:=sl3_not (a:=γ A9 n9 c9) (b:=γ ε 0 0) (d:=γ ε 0 0) (fun i=>by simp) (fun i=>by simp) (fun i=>by simp);have k2_:=sl3_not (a:=γ A9 n9 c9) (b:=γ B9 m9 k9) (d:=γ ε 0 0) (fun i=>by simp) (fun i=>by simp) (fun i=>by simp);have s0:=HZ.out;have s1:=s0.set_ 0 (γ A9 n9 c9);have s2:=s1.set_ 1 (γ B9 m9 k9);exact bS rfl b2 rfl rfl (s2.set_ 2 (γ C9 r9 rF)) Tryz.underlying28 rfl (by kernel_rfl) rfl ⟨A9,n9,c9,B9,m9,k9,C9,r9,rF,Ws9,rfl,dg_set (dg_set (dg_set HD.out s0 k0 0 _) s1 k1 1 _) s2 k2_ 2 _,HMp.out,gn_set (gn_set (gn_set HGn.out s0 k0 0 _) s1 k1 1 _) s2 k2_ 2 _,((QM.out.setCell (p:=⟨b2,0,ε⟩) eI.out (γ A9 n9 c9)).setCell (p:=⟨b2,1,ε⟩) eI.out (γ B9 m9 k9)).setCell (p:=⟨b2,2,ε⟩) eI.out (γ C9 r9 rF)⟩
theorem rone_k6 {W:ο} {A:Option Κ} {n c:Nat} {Vs:List VC} {B:Option Κ} {m k:Nat} {Es:List EC} {C:Option Κ} {r rc:Nat} {G:List Gn} (h:bz W A n c Vs B m k Es) (hg:bg W W.heap.size 6 C r rc (ah cZ G)) (hS:gD (Vs.map vS,Es,G)) (o:dR) (ht:o.t.size≤Jap) (hmay:iu o=0) (hk:o.k=6) (R:SS × Int) (hK:∀X,σ W.heap.size W X→Ζ η 51 #[φ #[γ A n c,γ B m k,γ C r rc],φ (ak o).toArray] X (GivesSt X R)):
 Ζ η 15 #[φ #[γ A n c,γ B m k,γ C r rc],φ (ak o).toArray] W (GivesSt W R):=by
 have HK:=qh hK;clear hK;have HKk:=qh hk;clear hk;have QV:Vs.length=n:=h.v.rlen aS (by decide);have h24:Vs.length≤24:=by have:=hS.v24;rwa [Ρ] at this
 have HM:Hid (∀X,Ζ η 45 #[φ (ak o).toArray] X fun e w'=>e=.returned (J 0)∧σ X.heap.size X w'):=qh (fun X=>by
  have:=rmayop_any o ht X
  rw[hmay] at this;exact this)
 have HV:Hid (∀X,σ W.heap.size W X→Ζ η 27 #[φ #[γ A n c,γ B m k],φ #[J o.s,J o.n]] X fun e w'=>e=.returned (Ξ #[φ (vC (eP Vs (o.s,o.n)).1).toArray,Β (eP Vs (o.s,o.n)).2])∧σ X.heap.size X w'):=qh (fun X hX=>Vr A n c Vs B m k Es o.s o.n X (h.v.bl hX) (by omega));have OY:(eP Vs (o.s,o.n)).2=bu (Vs.map vS) (bL o):=(tK Vs (o.s,o.n)).1;have ec:(eP Vs (o.s,o.n)).1.2.1.2.2.2=eS (Vs.map vS) (bL o):=(tK Vs (o.s,o.n)).2
 have uH:RgOk W (eP Vs (o.s,o.n)).1.2.1:=by
  rcases II (fun v:VC=>v.1) zV Vs (o.s,o.n) with h1|h1
  ·exact h.r _ h1
  ·rw[show(eP Vs (o.s,o.n))=(zV,ρ) from h1];exact⟨by decide,rds_nil_ W _⟩
 obtain⟨⟨u,ok⟩,gv⟩:∃z,eP Vs (o.s,o.n)=z:=⟨_,rfl⟩
 rw[gv] at HV OY ec uH;obtain⟨⟨i1,i2⟩,⟨rA,rn,jg,rL⟩,lb,at_⟩:=u;replace HV:Hid (∀X,σ W.heap.size W X→Ζ η 27 #[φ #[γ A n c,γ B m k],φ #[J o.s,J o.n]] X fun e w'=>e=.returned (Ξ #[φ #[J i1,J i2,γ rA rn jg,μ lb,J at_],Β ok])∧σ X.heap.size X w'):=HV;dsimp only at OY ec uH;have qx:rL.length=rn:=by have:=uH.2.len;rw[dj] at this;dsimp only at this;omega
 have XZ:=qh OY;have Zu:=qh ec;have HRl:=qh qx;have P4:n≤24:=by omega
 clear OY ec uH qx gv;have HO:=qh h;have HGo:=qh hg;have tT:=qh hS;have HVl:=qh QV;clear h hg hS QV h24 hmay ht;go_enter Tryz.func15,Tryz.ntmps15;go_upto_region 1 with fail
 obtain⟨W0,b0,b1,b2,bO,bp,dE,jc,aQ,aL,aZ,bw,-,-,oa,-,iP,-,eI,uW,RA,tU⟩:=Bs W 28 [γ A n c,γ B m k,γ C r rc] 36 (ak o) 28 [γ ε 0 0,γ ε 0 0,γ ε 0 0];rw[bO,jc,dE,bp];clear bO bp dE jc;refine Jam ?_;refine eJ (ζ 9) rfl (by rfl) 36 (.tmp 3) rfl b1 rfl 36 (ak o) _ aL.out Tryz.underlying36 rfl (by kernel_rfl) ?_;simp only[ξ,aw,ar,aq]
 go_upto_region 2 with (first
  |(go_at_call 45
    refine(HM.out _).mono ?_
    rintro e w2 ⟨rfl,aP⟩;have HBm:=qh (ag bw.out aP);have fk:=qh (aQ.out.bl aP);have mZ:=qh (aL.out.bl aP);have rG:=qh (aZ.out.bl aP);clear aP aQ aL aZ bw HM))
 obtain⟨Wm,gWm⟩:=aB w2;rw[gWm] at HBm fk mZ rG ⊢;clear gWm;go_upto_region 4 with fail
 have fb0_0:=fk.out.cell (i:=0) rfl;have fb0_1:=fk.out.cell (i:=1) rfl;have fb1_1:=mZ.out.cell (i:=1) rfl;have fb1_2:=mZ.out.cell (i:=2) rfl
 go_upto_region 5 with (first
  |(go_at_call 27
    refine(HV.out _ HBm.out).mono ?_
    rintro e w2 ⟨rfl,aP⟩;have Zk:=qh aP;clear aP fb0_0 fb0_1 fb1_1 fb1_2))
 have aP:=Zk.out;have Og:=qh (aI (ag HBm.out aP) (δ #[J i1,J i2,γ rA rn jg,μ lb,J at_] 59));have HXb0_11:=qh ((fk.out.bl aP).al (δ #[J i1,J i2,γ rA rn jg,μ lb,J at_] 59));have HXb1_11:=qh ((mZ.out.bl aP).al (δ #[J i1,J i2,γ rA rn jg,μ lb,J at_] 59));have HXb2_11:=qh ((rG.out.bl aP).al (δ #[J i1,J i2,γ rA rn jg,μ lb,J at_] 59));have HXb3_11:=qh (Whole.new_ w2 59 [J i1,J i2,γ rA rn jg,μ lb,J at_]);have Lb3:Hid (W.heap.size≤w2.heap.size):=qh (ag HBm.out aP).size;have Nb0b3:Hid (b0≠w2.heap.size):=qh (by have:=(fk.out.bl aP).lt;omega);have Nb1b3:Hid (b1≠w2.heap.size):=qh (by have:=(mZ.out.bl aP).lt;omega);have Nb2b3:Hid (b2≠w2.heap.size):=qh (by have:=(rG.out.bl aP).lt;omega);obtain⟨W11,gWn⟩:=aB (w2.alloc (δ #[J i1,J i2,γ rA rn jg,μ lb,J at_] 59));obtain⟨b3,gbn⟩:=aB w2.heap.size;rw[gWn] at Og HXb0_11 HXb1_11 HXb2_11 HXb3_11 ⊢;rw[gbn] at HXb3_11 Lb3 Nb0b3 Nb1b3 Nb2b3 ⊢;clear gWn gbn HBm fk mZ rG aP Zk;clear HV;have k0:W11.cell? ⟨b1,0,ε⟩=ζ (J 6):=(HXb1_11.out.cell (i:=0) rfl).trans (by rw[HKk.out]);go_upto_region 25 with fail
 clear k0;refine Jam ?_;refine eJ (ζ 86) rfl (by rfl) 28 (.tmp 2) rfl b0 rfl 28 [γ A n c,γ B m k,γ C r rc] _ HXb0_11.out Tryz.underlying28 rfl (by kernel_rfl) ?_;simp only[ξ,aw,ar,aq];refine eJ (ζ 87) rfl (by rfl) 36 (.tmp 3) rfl b1 rfl 36 (ak o) _ HXb1_11.out Tryz.underlying36 rfl (by kernel_rfl) ?_;simp only[ξ,aw,ar,aq]
 go_wp2_with (first
  |(go_at_call 51
    refine(HK.out _ Og.out).mono ?_
    rintro e w2 ⟨A9,n9,c9,B9,m9,k9,C9,r9,rF,Ws9,rfl,hd,hmp,Tt,aP⟩;have z0:=(HXb2_11.out.bl aP).cell (i:=0) rfl;have z1:=(HXb2_11.out.bl aP).cell (i:=1) rfl;have z2:=(HXb2_11.out.bl aP).cell (i:=2) rfl;have y0:=(HXb2_11.out.bl aP).free 0;have y1:=(HXb2_11.out.bl aP).free 1;have y2:=(HXb2_11.out.bl aP).free 2;have HZ:=qh (HXb2_11.out.bl aP);have HD:=qh hd;have HMp:=qh hmp;have HGn:=qh Tt;have QM:=qh (ag Og.out aP);clear hd hmp Tt aP))
 have k0:=sl3_not (a:=γ ε 0 0) (b:=γ ε 0 0) (d:=γ ε 0 0) (fun i=>by simp) (fun i=>by simp) (fun i=>by simp);have k1:=sl3_not (a:=γ A9 n9 c9) (b:=γ ε 0 0) (d:=γ ε 0 0) (fun i=>by simp) (fun i=>by simp) (fun i=>by simp);have k2_:=sl3_not (a:=γ A9 n9 c9) (b:=γ B9 m9 k9) (d:=γ ε 0 0) (fun i=>by simp) (fun i=>by simp) (fun i=>by simp);have s0:=HZ.out;have s1:=s0.set_ 0 (γ A9 n9 c9);have s2:=s1.set_ 1 (γ B9 m9 k9);exact bS rfl b2 rfl rfl (s2.set_ 2 (γ C9 r9 rF)) Tryz.underlying28 rfl (by kernel_rfl) rfl ⟨A9,n9,c9,B9,m9,k9,C9,r9,rF,Ws9,rfl,dg_set (dg_set (dg_set HD.out s0 k0 0 _) s1 k1 1 _) s2 k2_ 2 _,HMp.out,gn_set (gn_set (gn_set HGn.out s0 k0 0 _) s1 k1 1 _) s2 k2_ 2 _,((QM.out.setCell (p:=⟨b2,0,ε⟩) eI.out (γ A9 n9 c9)).setCell (p:=⟨b2,1,ε⟩) eI.out (γ B9 m9 k9)).setCell (p:=⟨b2,2,ε⟩) eI.out (γ C9 r9 rF)⟩
theorem rone_k7 {W:ο} {A:Option Κ} {n c:Nat} {Vs:List VC} {B:Option Κ} {m k:Nat} {Es:List EC} {C:Option Κ} {r rc:Nat} {G:List Gn} (h:bz W A n c Vs B m k Es) (hg:bg W W.heap.size 6 C r rc (ah cZ G)) (hS:gD (Vs.map vS,Es,G)) (o:dR) (ht:o.t.size≤Jap) (hmay:iu o=0) (vW:¬o.k=1) (rC:¬o.k=2) (Ec:¬o.k=3) (hk4:¬o.k=4) (Se:¬o.k=5) (hk6:¬o.k=6) (R:SS × Int) (hK:∀X,σ W.heap.size W X→Ζ η 52 #[φ #[γ A n c,γ B m k,γ C r rc],φ (ak o).toArray] X (GivesSt X R)):
 Ζ η 15 #[φ #[γ A n c,γ B m k,γ C r rc],φ (ak o).toArray] W (GivesSt W R):=by
 have HK:=qh hK;clear hK;have QV:Vs.length=n:=h.v.rlen aS (by decide);have h24:Vs.length≤24:=by have:=hS.v24;rwa [Ρ] at this
 have HM:Hid (∀X,Ζ η 45 #[φ (ak o).toArray] X fun e w'=>e=.returned (J 0)∧σ X.heap.size X w'):=qh (fun X=>by
  have:=rmayop_any o ht X
  rw[hmay] at this;exact this)
 have HV:Hid (∀X,σ W.heap.size W X→Ζ η 27 #[φ #[γ A n c,γ B m k],φ #[J o.s,J o.n]] X fun e w'=>e=.returned (Ξ #[φ (vC (eP Vs (o.s,o.n)).1).toArray,Β (eP Vs (o.s,o.n)).2])∧σ X.heap.size X w'):=qh (fun X hX=>Vr A n c Vs B m k Es o.s o.n X (h.v.bl hX) (by omega));have OY:(eP Vs (o.s,o.n)).2=bu (Vs.map vS) (bL o):=(tK Vs (o.s,o.n)).1;have ec:(eP Vs (o.s,o.n)).1.2.1.2.2.2=eS (Vs.map vS) (bL o):=(tK Vs (o.s,o.n)).2
 have uH:RgOk W (eP Vs (o.s,o.n)).1.2.1:=by
  rcases II (fun v:VC=>v.1) zV Vs (o.s,o.n) with h1|h1
  ·exact h.r _ h1
  ·rw[show(eP Vs (o.s,o.n))=(zV,ρ) from h1];exact⟨by decide,rds_nil_ W _⟩
 obtain⟨⟨u,ok⟩,gv⟩:∃z,eP Vs (o.s,o.n)=z:=⟨_,rfl⟩
 rw[gv] at HV OY ec uH;obtain⟨⟨i1,i2⟩,⟨rA,rn,jg,rL⟩,lb,at_⟩:=u;replace HV:Hid (∀X,σ W.heap.size W X→Ζ η 27 #[φ #[γ A n c,γ B m k],φ #[J o.s,J o.n]] X fun e w'=>e=.returned (Ξ #[φ #[J i1,J i2,γ rA rn jg,μ lb,J at_],Β ok])∧σ X.heap.size X w'):=HV;dsimp only at OY ec uH;have qx:rL.length=rn:=by have:=uH.2.len;rw[dj] at this;dsimp only at this;omega
 have XZ:=qh OY;have Zu:=qh ec;have HRl:=qh qx;have P4:n≤24:=by omega
 clear OY ec uH qx gv;have HO:=qh h;have HGo:=qh hg;have tT:=qh hS;have HVl:=qh QV;clear h hg hS QV h24 hmay ht;go_enter Tryz.func15,Tryz.ntmps15;go_upto_region 1 with fail
 obtain⟨W0,b0,b1,b2,bO,bp,dE,jc,aQ,aL,aZ,bw,-,-,oa,-,iP,-,eI,uW,RA,tU⟩:=Bs W 28 [γ A n c,γ B m k,γ C r rc] 36 (ak o) 28 [γ ε 0 0,γ ε 0 0,γ ε 0 0];rw[bO,jc,dE,bp];clear bO bp dE jc;refine Jam ?_;refine eJ (ζ 9) rfl (by rfl) 36 (.tmp 3) rfl b1 rfl 36 (ak o) _ aL.out Tryz.underlying36 rfl (by kernel_rfl) ?_;simp only[ξ,aw,ar,aq]
 go_upto_region 2 with (first
  |(go_at_call 45
    refine(HM.out _).mono ?_
    rintro e w2 ⟨rfl,aP⟩;have HBm:=qh (ag bw.out aP);have fk:=qh (aQ.out.bl aP);have mZ:=qh (aL.out.bl aP);have rG:=qh (aZ.out.bl aP);clear aP aQ aL aZ bw HM))
 obtain⟨Wm,gWm⟩:=aB w2;rw[gWm] at HBm fk mZ rG ⊢;clear gWm;go_upto_region 4 with fail
 have fb0_0:=fk.out.cell (i:=0) rfl;have fb0_1:=fk.out.cell (i:=1) rfl;have fb1_1:=mZ.out.cell (i:=1) rfl;have fb1_2:=mZ.out.cell (i:=2) rfl
 go_upto_region 5 with (first
  |(go_at_call 27
    refine(HV.out _ HBm.out).mono ?_
    rintro e w2 ⟨rfl,aP⟩;have Zk:=qh aP;clear aP fb0_0 fb0_1 fb1_1 fb1_2))
 have aP:=Zk.out;have Og:=qh (aI (ag HBm.out aP) (δ #[J i1,J i2,γ rA rn jg,μ lb,J at_] 59));have HXb0_11:=qh ((fk.out.bl aP).al (δ #[J i1,J i2,γ rA rn jg,μ lb,J at_] 59));have HXb1_11:=qh ((mZ.out.bl aP).al (δ #[J i1,J i2,γ rA rn jg,μ lb,J at_] 59));have HXb2_11:=qh ((rG.out.bl aP).al (δ #[J i1,J i2,γ rA rn jg,μ lb,J at_] 59));have HXb3_11:=qh (Whole.new_ w2 59 [J i1,J i2,γ rA rn jg,μ lb,J at_]);have Lb3:Hid (W.heap.size≤w2.heap.size):=qh (ag HBm.out aP).size;have Nb0b3:Hid (b0≠w2.heap.size):=qh (by have:=(fk.out.bl aP).lt;omega);have Nb1b3:Hid (b1≠w2.heap.size):=qh (by have:=(mZ.out.bl aP).lt;omega);have Nb2b3:Hid (b2≠w2.heap.size):=qh (by have:=(rG.out.bl aP).lt;omega);obtain⟨W11,gWn⟩:=aB (w2.alloc (δ #[J i1,J i2,γ rA rn jg,μ lb,J at_] 59));obtain⟨b3,gbn⟩:=aB w2.heap.size;rw[gWn] at Og HXb0_11 HXb1_11 HXb2_11 HXb3_11 ⊢;rw[gbn] at HXb3_11 Lb3 Nb0b3 Nb1b3 Nb2b3 ⊢;clear gWn gbn HBm fk mZ rG aP Zk;clear HV;have k0:=HXb1_11.out.cell (i:=0) rfl;go_upto_region 26 with fail
 clear k0;refine Jam ?_;refine eJ (ζ 91) rfl (by rfl) 28 (.tmp 2) rfl b0 rfl 28 [γ A n c,γ B m k,γ C r rc] _ HXb0_11.out Tryz.underlying28 rfl (by kernel_rfl) ?_;simp only[ξ,aw,ar,aq];refine eJ (ζ 92) rfl (by rfl) 36 (.tmp 3) rfl b1 rfl 36 (ak o) _ HXb1_11.out Tryz.underlying36 rfl (by kernel_rfl) ?_;simp only[ξ,aw,ar,aq]
 go_wp2_with (first
  |(go_at_call 52
    refine(HK.out _ Og.out).mono ?_
    rintro e w2 ⟨A9,n9,c9,B9,m9,k9,C9,r9,rF,Ws9,rfl,hd,hmp,Tt,aP⟩;have z0:=(HXb2_11.out.bl aP).cell (i:=0) rfl;have z1:=(HXb2_11.out.bl aP).cell (i:=1) rfl;have z2:=(HXb2_11.out.bl aP).cell (i:=2) rfl;have y0:=(HXb2_11.out.bl aP).free 0;have y1:=(HXb2_11.out.bl aP).free 1;have y2:=(HXb2_11.out.bl aP).free 2;have HZ:=qh (HXb2_11.out.bl aP);have HD:=qh hd;have HMp:=qh hmp;have HGn:=qh Tt;have QM:=qh (ag Og.out aP);clear hd hmp Tt aP))
 have k0:=sl3_not (a:=γ ε 0 0) (b:=γ ε 0 0) (d:=γ ε 0 0) (fun i=>by simp) (fun i=>by simp) (fun i=>by simp);have k1:=sl3_not (a:=γ A9 n9 c9) (b:=γ ε 0 0) (d:=γ ε 0 0) (fun i=>by simp) (fun i=>by simp) (fun i=>by simp);have k2_:=sl3_not (a:=γ A9 n9 c9) (b:=γ B9 m9 k9) (d:=γ ε 0 0) (fun i=>by simp) (fun i=>by simp) (fun i=>by simp);have s0:=HZ.out;have s1:=s0.set_ 0 (γ A9 n9 c9);have s2:=s1.set_ 1 (γ B9 m9 k9);exact bS rfl b2 rfl rfl (s2.set_ 2 (γ C9 r9 rF)) Tryz.underlying28 rfl (by kernel_rfl) rfl ⟨A9,n9,c9,B9,m9,k9,C9,r9,rF,Ws9,rfl,dg_set (dg_set (dg_set HD.out s0 k0 0 _) s1 k1 1 _) s2 k2_ 2 _,HMp.out,gn_set (gn_set (gn_set HGn.out s0 k0 0 _) s1 k1 1 _) s2 k2_ 2 _,((QM.out.setCell (p:=⟨b2,0,ε⟩) eI.out (γ A9 n9 c9)).setCell (p:=⟨b2,1,ε⟩) eI.out (γ B9 m9 k9)).setCell (p:=⟨b2,2,ε⟩) eI.out (γ C9 r9 rF)⟩
end Go.Proofs.YtpdpbfmiahjiiaaGreat
