/- Several texts in one. -/
import Derived.Test.YtpdpbfmiahjiiaaGreatPpAB
import Derived.Test.YtpdpbfmiahjiiaaGreatPpAO
import Derived.Test.YtpdpbfmiahjiiaaGreatPpBB
set_option linter.unusedSectionVars false
set_option linter.unusedSimpArgs false
set_option linter.unusedVariables false
set_option maxRecDepth 100000
set_option maxHeartbeats 16000000
namespace Go.Proofs.YtpdpbfmiahjiiaaGreat
open Go.RowKit
open _root_.Go.Value renaming slice→γ,string→μ,agg→φ,bool→Β,tuple→Ξ,oneCell'→Τ
open _root_.Go.Obj renaming cells→δ
open _root_.Option renaming none→ε,some→ζ
open _root_.Go.Proofs.Tryz renaming prog→η
open _root_.Go.Act renaming put→ξ
open _root_.Go renaming World→ο,Calls→Ζ,Addr→Κ,wp_region_lit→Jam,maxLen→Jap
open _root_.Bool renaming false→ρ,and_eq_true→Jar
open _root_.Go.RowKit renaming Below→σ
open _root_.Nat renaming le_refl→Δ
open _root_.Go.RowKit.Below renaming refl→Θ
open _root_.List renaming length_map→Ρ,nodup_append→JaL
open _root_.ByteArray renaming empty→Jaf
theorem Q8 {W:ο} {A:Option Κ} {n c:Nat} {Vs:List VC} {B:Option Κ} {m k:Nat} {Es:List EC} {C:Option Κ} {r rc:Nat} {G:List Gn} (h:aR W A n c Vs B m k Es) (hg:aX W W.heap.size 6 C r rc (aj cB G)) (hS:fA (Vs.map vS,Es,G)) (o:cZ) (ht:o.t.size≤Jap) (x:Int) (hx:x≠0) (lr:ed o=x):
 Ζ η 15 #[φ #[γ A n c,γ B m k,γ C r rc],φ (aa o).toArray] W (ew W (cp,x)):=by
 have mZ:Vs.length=n:=h.v.rlen aQ (by decide);have rZ:Vs.length≤24:=by have:=hS.v24;rwa [Ρ] at this
 have HM:Hid (∀X,Ζ η 45 #[φ (aa o).toArray] X fun e w'=>e=.returned (J x)∧σ X.heap.size X w'):=qh (fun X=>by
  have:=fG o ht X
  rw[lr] at this;exact this)
 have HO:=qh h;have Au:=qh hg;have zQ:=qh hS;have IW:=qh mZ;clear h hg hS mZ rZ lr ht;go_enter Tryz.func15,Tryz.ntmps15;go_upto_region 1 with fail
 obtain⟨W0,b0,b1,b2,bP,bK,cX,dN,aN,aI,aV,a8,-,-,kQ,-,jK,-,bz,mj,oK,km⟩:=jN W 28 [γ A n c,γ B m k,γ C r rc] 36 (aa o) 28 [γ ε 0 0,γ ε 0 0,γ ε 0 0];rw[bP,dN,cX,bK];clear bP bK cX dN;refine Jam ?_;refine bw (ζ 9) rfl (by rfl) 36 (.tmp 3) rfl b1 rfl 36 (aa o) _ aI.out Tryz.underlying36 rfl (by kernel_rfl) ?_;simp only[ξ,aq,ak,ao]
 go_upto_region 2 with (first
  |(go_at_call 45
    refine(HM.out _).mono ?_
    rintro e w2 ⟨rfl,ar⟩;have kH:=qh (af a8.out ar);have eU:=qh (aN.out.bl ar);have fi:=qh (aI.out.bl ar);have eT:=qh (aV.out.bl ar);clear ar aN aI aV a8 HM))
 obtain⟨Wm,uQ⟩:=ay w2;rw[uQ] at kH eU fi eT ⊢;clear uQ;have z0:=eT.out.cell (i:=0) rfl;have z1:=eT.out.cell (i:=1) rfl;have z2:=eT.out.cell (i:=2) rfl;have y0:=eT.out.free 0;have y1:=eT.out.free 1;have y2:=eT.out.free 2;go_wp2;exact aG rfl b2 rfl rfl (((eT.out.set_ 0 (γ ε 0 0)).set_ 1 (γ ε 0 0)).set_ 2 (γ ε 0 0)) Tryz.underlying28 rfl (by kernel_rfl) rfl ⟨ε,0,0,ε,0,0,ε,0,0,[],rfl,eE _,rfl,aX.no _ _ _,((kH.out.setCell (p:=⟨b2,0,ε⟩) bz.out (γ ε 0 0)).setCell (p:=⟨b2,1,ε⟩) bz.out (γ ε 0 0)).setCell (p:=⟨b2,2,ε⟩) bz.out (γ ε 0 0)⟩
theorem Rk {W:ο} {A:Option Κ} {n c:Nat} {Vs:List VC} {B:Option Κ} {m k:Nat} {Es:List EC} {C:Option Κ} {r rc:Nat} {G:List Gn} (h:aR W A n c Vs B m k Es) (hg:aX W W.heap.size 6 C r rc (aj cB G)) (hS:fA (Vs.map vS,Es,G)) (o:cZ) (ht:o.t.size≤Jap) (lr:ed o=0) (hk:o.k=3) (R:SS × Int) (hK:∀X,σ W.heap.size W X→Ζ η 48 #[φ #[γ A n c,γ B m k,γ C r rc],φ (aa o).toArray] X (ew X R)):
 Ζ η 15 #[φ #[γ A n c,γ B m k,γ C r rc],φ (aa o).toArray] W (ew W R):=by
 have HK:=qh hK;clear hK;have Nq:=qh hk;clear hk;have mZ:Vs.length=n:=h.v.rlen aQ (by decide);have rZ:Vs.length≤24:=by have:=hS.v24;rwa [Ρ] at this
 have HM:Hid (∀X,Ζ η 45 #[φ (aa o).toArray] X fun e w'=>e=.returned (J 0)∧σ X.heap.size X w'):=qh (fun X=>by
  have:=fG o ht X
  rw[lr] at this;exact this)
 have HV:Hid (∀X,σ W.heap.size W X→Ζ η 27 #[φ #[γ A n c,γ B m k],φ #[J o.s,J o.n]] X fun e w'=>e=.returned (Ξ #[φ (vC (bu Vs (o.s,o.n)).1).toArray,Β (bu Vs (o.s,o.n)).2])∧σ X.heap.size X w'):=qh (fun X hX=>fJ A n c Vs B m k Es o.s o.n X (h.v.bl hX) (by omega));have iN:(bu Vs (o.s,o.n)).2=bo (Vs.map vS) (bp o):=(dO Vs (o.s,o.n)).1;have bB:(bu Vs (o.s,o.n)).1.2.1.2.2.2=cL (Vs.map vS) (bp o):=(dO Vs (o.s,o.n)).2
 have fp:RgOk W (bu Vs (o.s,o.n)).1.2.1:=by
  rcases gM (fun v:VC=>v.1) zV Vs (o.s,o.n) with h1|h1
  ·exact h.r _ h1
  ·rw[show(bu Vs (o.s,o.n))=(zV,ρ) from h1];exact⟨by decide,fw W _⟩
 obtain⟨⟨u,ok⟩,gv⟩:∃z,bu Vs (o.s,o.n)=z:=⟨_,rfl⟩
 rw[gv] at HV iN bB fp;obtain⟨⟨i1,i2⟩,⟨rA,rn,bR,rL⟩,lb,at_⟩:=u;replace HV:Hid (∀X,σ W.heap.size W X→Ζ η 27 #[φ #[γ A n c,γ B m k],φ #[J o.s,J o.n]] X fun e w'=>e=.returned (Ξ #[φ #[J i1,J i2,γ rA rn bR,μ lb,J at_],Β ok])∧σ X.heap.size X w'):=HV;dsimp only at iN bB fp;have ji:rL.length=rn:=by have:=fp.2.len;rw[bJ] at this;dsimp only at this;omega
 have mY:=qh iN;have EI:=qh bB;have Io:=qh ji;have yQ:n≤24:=by omega
 clear iN bB fp ji gv;have HO:=qh h;have Au:=qh hg;have zQ:=qh hS;have IW:=qh mZ;clear h hg hS mZ rZ lr ht;go_enter Tryz.func15,Tryz.ntmps15;go_upto_region 1 with fail
 obtain⟨W0,b0,b1,b2,bP,bK,cX,dN,aN,aI,aV,a8,-,-,kQ,-,jK,-,bz,mj,oK,km⟩:=jN W 28 [γ A n c,γ B m k,γ C r rc] 36 (aa o) 28 [γ ε 0 0,γ ε 0 0,γ ε 0 0];rw[bP,dN,cX,bK];clear bP bK cX dN;refine Jam ?_;refine bw (ζ 9) rfl (by rfl) 36 (.tmp 3) rfl b1 rfl 36 (aa o) _ aI.out Tryz.underlying36 rfl (by kernel_rfl) ?_;simp only[ξ,aq,ak,ao]
 go_upto_region 2 with (first
  |(go_at_call 45
    refine(HM.out _).mono ?_
    rintro e w2 ⟨rfl,ar⟩;have kH:=qh (af a8.out ar);have eU:=qh (aN.out.bl ar);have fi:=qh (aI.out.bl ar);have eT:=qh (aV.out.bl ar);clear ar aN aI aV a8 HM))
 obtain⟨Wm,uQ⟩:=ay w2;rw[uQ] at kH eU fi eT ⊢;clear uQ;go_upto_region 4 with fail
 have eD:=eU.out.cell (i:=0) rfl;have eI:=eU.out.cell (i:=1) rfl;have eZ:=fi.out.cell (i:=1) rfl;have eV:=fi.out.cell (i:=2) rfl
 go_upto_region 5 with (first
  |(go_at_call 27
    refine(HV.out _ kH.out).mono ?_
    rintro e w2 ⟨rfl,ar⟩;have cy:=qh ar;clear ar eD eI eZ eV))
 have ar:=cy.out;have cY:=qh (aE (af kH.out ar) (δ #[J i1,J i2,γ rA rn bR,μ lb,J at_] 59));have a6:=qh ((eU.out.bl ar).al (δ #[J i1,J i2,γ rA rn bR,μ lb,J at_] 59));have a7:=qh ((fi.out.bl ar).al (δ #[J i1,J i2,γ rA rn bR,μ lb,J at_] 59));have az:=qh ((eT.out.bl ar).al (δ #[J i1,J i2,γ rA rn bR,μ lb,J at_] 59));have bh:=qh (Whole.new_ w2 59 [J i1,J i2,γ rA rn bR,μ lb,J at_]);have mg:Hid (W.heap.size≤w2.heap.size):=qh (af kH.out ar).size;have iY:Hid (b0≠w2.heap.size):=qh (by have:=(eU.out.bl ar).lt;omega);have iU:Hid (b1≠w2.heap.size):=qh (by have:=(fi.out.bl ar).lt;omega);have iX:Hid (b2≠w2.heap.size):=qh (by have:=(eT.out.bl ar).lt;omega);obtain⟨qT,cS⟩:=ay (w2.alloc (δ #[J i1,J i2,γ rA rn bR,μ lb,J at_] 59));obtain⟨b3,dk⟩:=ay w2.heap.size;rw[cS] at cY a6 a7 az bh ⊢;rw[dk] at bh mg iY iU iX ⊢;clear cS dk kH eU fi eT ar cy;clear HV;have k0:qT.cell? ⟨b1,0,ε⟩=ζ (J 3):=(a7.out.cell (i:=0) rfl).trans (by rw[Nq.out]);go_upto_region 19 with fail
 clear k0;refine Jam ?_;refine bw (ζ 65) rfl (by rfl) 28 (.tmp 2) rfl b0 rfl 28 [γ A n c,γ B m k,γ C r rc] _ a6.out Tryz.underlying28 rfl (by kernel_rfl) ?_;simp only[ξ,aq,ak,ao];refine bw (ζ 66) rfl (by rfl) 36 (.tmp 3) rfl b1 rfl 36 (aa o) _ a7.out Tryz.underlying36 rfl (by kernel_rfl) ?_;simp only[ξ,aq,ak,ao]
 go_wp2_with (first
  |(go_at_call 48
    refine(HK.out _ cY.out).mono ?_
    rintro e w2 ⟨A9,n9,c9,B9,m9,k9,C9,r9,oO,CU,rfl,hd,ri,xw,ar⟩;have z0:=(az.out.bl ar).cell (i:=0) rfl;have z1:=(az.out.bl ar).cell (i:=1) rfl;have z2:=(az.out.bl ar).cell (i:=2) rfl;have y0:=(az.out.bl ar).free 0;have y1:=(az.out.bl ar).free 1;have y2:=(az.out.bl ar).free 2;have HZ:=qh (az.out.bl ar);have HD:=qh hd;have Q5:=qh ri;have Qt:=qh xw;have Li:=qh (af cY.out ar);clear hd ri xw ar))
 have k0:=aZ (a:=γ ε 0 0) (b:=γ ε 0 0) (d:=γ ε 0 0) (fun i=>by simp) (fun i=>by simp) (fun i=>by simp);have k1:=aZ (a:=γ A9 n9 c9) (b:=γ ε 0 0) (d:=γ ε 0 0) (fun i=>by simp) (fun i=>by simp) (fun i=>by simp);have mW:=aZ (a:=γ A9 n9 c9) (b:=γ B9 m9 k9) (d:=γ ε 0 0) (fun i=>by simp) (fun i=>by simp) (fun i=>by simp);have s0:=HZ.out;have s1:=s0.set_ 0 (γ A9 n9 c9);have s2:=s1.set_ 1 (γ B9 m9 k9);exact aG rfl b2 rfl rfl (s2.set_ 2 (γ C9 r9 oO)) Tryz.underlying28 rfl (by kernel_rfl) rfl ⟨A9,n9,c9,B9,m9,k9,C9,r9,oO,CU,rfl,bA (bA (bA HD.out s0 k0 0 _) s1 k1 1 _) s2 mW 2 _,Q5.out,bL (bL (bL Qt.out s0 k0 0 _) s1 k1 1 _) s2 mW 2 _,((Li.out.setCell (p:=⟨b2,0,ε⟩) bz.out (γ A9 n9 c9)).setCell (p:=⟨b2,1,ε⟩) bz.out (γ B9 m9 k9)).setCell (p:=⟨b2,2,ε⟩) bz.out (γ C9 r9 oO)⟩
theorem QX {W:ο} {A:Option Κ} {n c:Nat} {Vs:List VC} {B:Option Κ} {m k:Nat} {Es:List EC} {C:Option Κ} {r rc:Nat} {G:List Gn} (h:aR W A n c Vs B m k Es) (hg:aX W W.heap.size 6 C r rc (aj cB G)) (hS:fA (Vs.map vS,Es,G)) (o:cZ) (ht:o.t.size≤Jap) (lr:ed o=0) (hk:o.k=4) (R:SS × Int) (hK:∀X,σ W.heap.size W X→Ζ η 49 #[φ #[γ A n c,γ B m k,γ C r rc],φ (aa o).toArray] X (ew X R)):
 Ζ η 15 #[φ #[γ A n c,γ B m k,γ C r rc],φ (aa o).toArray] W (ew W R):=by
 have HK:=qh hK;clear hK;have Nq:=qh hk;clear hk;have mZ:Vs.length=n:=h.v.rlen aQ (by decide);have rZ:Vs.length≤24:=by have:=hS.v24;rwa [Ρ] at this
 have HM:Hid (∀X,Ζ η 45 #[φ (aa o).toArray] X fun e w'=>e=.returned (J 0)∧σ X.heap.size X w'):=qh (fun X=>by
  have:=fG o ht X
  rw[lr] at this;exact this)
 have HV:Hid (∀X,σ W.heap.size W X→Ζ η 27 #[φ #[γ A n c,γ B m k],φ #[J o.s,J o.n]] X fun e w'=>e=.returned (Ξ #[φ (vC (bu Vs (o.s,o.n)).1).toArray,Β (bu Vs (o.s,o.n)).2])∧σ X.heap.size X w'):=qh (fun X hX=>fJ A n c Vs B m k Es o.s o.n X (h.v.bl hX) (by omega));have iN:(bu Vs (o.s,o.n)).2=bo (Vs.map vS) (bp o):=(dO Vs (o.s,o.n)).1;have bB:(bu Vs (o.s,o.n)).1.2.1.2.2.2=cL (Vs.map vS) (bp o):=(dO Vs (o.s,o.n)).2
 have fp:RgOk W (bu Vs (o.s,o.n)).1.2.1:=by
  rcases gM (fun v:VC=>v.1) zV Vs (o.s,o.n) with h1|h1
  ·exact h.r _ h1
  ·rw[show(bu Vs (o.s,o.n))=(zV,ρ) from h1];exact⟨by decide,fw W _⟩
 obtain⟨⟨u,ok⟩,gv⟩:∃z,bu Vs (o.s,o.n)=z:=⟨_,rfl⟩
 rw[gv] at HV iN bB fp;obtain⟨⟨i1,i2⟩,⟨rA,rn,bR,rL⟩,lb,at_⟩:=u;replace HV:Hid (∀X,σ W.heap.size W X→Ζ η 27 #[φ #[γ A n c,γ B m k],φ #[J o.s,J o.n]] X fun e w'=>e=.returned (Ξ #[φ #[J i1,J i2,γ rA rn bR,μ lb,J at_],Β ok])∧σ X.heap.size X w'):=HV;dsimp only at iN bB fp;have ji:rL.length=rn:=by have:=fp.2.len;rw[bJ] at this;dsimp only at this;omega
 have mY:=qh iN;have EI:=qh bB;have Io:=qh ji;have yQ:n≤24:=by omega
 clear iN bB fp ji gv;have HO:=qh h;have Au:=qh hg;have zQ:=qh hS;have IW:=qh mZ;clear h hg hS mZ rZ lr ht;go_enter Tryz.func15,Tryz.ntmps15;go_upto_region 1 with fail
 obtain⟨W0,b0,b1,b2,bP,bK,cX,dN,aN,aI,aV,a8,-,-,kQ,-,jK,-,bz,mj,oK,km⟩:=jN W 28 [γ A n c,γ B m k,γ C r rc] 36 (aa o) 28 [γ ε 0 0,γ ε 0 0,γ ε 0 0];rw[bP,dN,cX,bK];clear bP bK cX dN;refine Jam ?_;refine bw (ζ 9) rfl (by rfl) 36 (.tmp 3) rfl b1 rfl 36 (aa o) _ aI.out Tryz.underlying36 rfl (by kernel_rfl) ?_;simp only[ξ,aq,ak,ao]
 go_upto_region 2 with (first
  |(go_at_call 45
    refine(HM.out _).mono ?_
    rintro e w2 ⟨rfl,ar⟩;have kH:=qh (af a8.out ar);have eU:=qh (aN.out.bl ar);have fi:=qh (aI.out.bl ar);have eT:=qh (aV.out.bl ar);clear ar aN aI aV a8 HM))
 obtain⟨Wm,uQ⟩:=ay w2;rw[uQ] at kH eU fi eT ⊢;clear uQ;go_upto_region 4 with fail
 have eD:=eU.out.cell (i:=0) rfl;have eI:=eU.out.cell (i:=1) rfl;have eZ:=fi.out.cell (i:=1) rfl;have eV:=fi.out.cell (i:=2) rfl
 go_upto_region 5 with (first
  |(go_at_call 27
    refine(HV.out _ kH.out).mono ?_
    rintro e w2 ⟨rfl,ar⟩;have cy:=qh ar;clear ar eD eI eZ eV))
 have ar:=cy.out;have cY:=qh (aE (af kH.out ar) (δ #[J i1,J i2,γ rA rn bR,μ lb,J at_] 59));have a6:=qh ((eU.out.bl ar).al (δ #[J i1,J i2,γ rA rn bR,μ lb,J at_] 59));have a7:=qh ((fi.out.bl ar).al (δ #[J i1,J i2,γ rA rn bR,μ lb,J at_] 59));have az:=qh ((eT.out.bl ar).al (δ #[J i1,J i2,γ rA rn bR,μ lb,J at_] 59));have bh:=qh (Whole.new_ w2 59 [J i1,J i2,γ rA rn bR,μ lb,J at_]);have mg:Hid (W.heap.size≤w2.heap.size):=qh (af kH.out ar).size;have iY:Hid (b0≠w2.heap.size):=qh (by have:=(eU.out.bl ar).lt;omega);have iU:Hid (b1≠w2.heap.size):=qh (by have:=(fi.out.bl ar).lt;omega);have iX:Hid (b2≠w2.heap.size):=qh (by have:=(eT.out.bl ar).lt;omega);obtain⟨qT,cS⟩:=ay (w2.alloc (δ #[J i1,J i2,γ rA rn bR,μ lb,J at_] 59));obtain⟨b3,dk⟩:=ay w2.heap.size;rw[cS] at cY a6 a7 az bh ⊢;rw[dk] at bh mg iY iU iX ⊢;clear cS dk kH eU fi eT ar cy;clear HV;have k0:qT.cell? ⟨b1,0,ε⟩=ζ (J 4):=(a7.out.cell (i:=0) rfl).trans (by rw[Nq.out]);go_upto_region 21 with fail
 clear k0;refine Jam ?_;refine bw (ζ 72) rfl (by rfl) 28 (.tmp 2) rfl b0 rfl 28 [γ A n c,γ B m k,γ C r rc] _ a6.out Tryz.underlying28 rfl (by kernel_rfl) ?_;simp only[ξ,aq,ak,ao];refine bw (ζ 73) rfl (by rfl) 36 (.tmp 3) rfl b1 rfl 36 (aa o) _ a7.out Tryz.underlying36 rfl (by kernel_rfl) ?_;simp only[ξ,aq,ak,ao]
 go_wp2_with (first
  |(go_at_call 49
    refine(HK.out _ cY.out).mono ?_
    rintro e w2 ⟨A9,n9,c9,B9,m9,k9,C9,r9,oO,CU,rfl,hd,ri,xw,ar⟩;have z0:=(az.out.bl ar).cell (i:=0) rfl;have z1:=(az.out.bl ar).cell (i:=1) rfl;have z2:=(az.out.bl ar).cell (i:=2) rfl;have y0:=(az.out.bl ar).free 0;have y1:=(az.out.bl ar).free 1;have y2:=(az.out.bl ar).free 2;have HZ:=qh (az.out.bl ar);have HD:=qh hd;have Q5:=qh ri;have Qt:=qh xw;have Li:=qh (af cY.out ar);clear hd ri xw ar))
 have k0:=aZ (a:=γ ε 0 0) (b:=γ ε 0 0) (d:=γ ε 0 0) (fun i=>by simp) (fun i=>by simp) (fun i=>by simp);have k1:=aZ (a:=γ A9 n9 c9) (b:=γ ε 0 0) (d:=γ ε 0 0) (fun i=>by simp) (fun i=>by simp) (fun i=>by simp);have mW:=aZ (a:=γ A9 n9 c9) (b:=γ B9 m9 k9) (d:=γ ε 0 0) (fun i=>by simp) (fun i=>by simp) (fun i=>by simp);have s0:=HZ.out;have s1:=s0.set_ 0 (γ A9 n9 c9);have s2:=s1.set_ 1 (γ B9 m9 k9);exact aG rfl b2 rfl rfl (s2.set_ 2 (γ C9 r9 oO)) Tryz.underlying28 rfl (by kernel_rfl) rfl ⟨A9,n9,c9,B9,m9,k9,C9,r9,oO,CU,rfl,bA (bA (bA HD.out s0 k0 0 _) s1 k1 1 _) s2 mW 2 _,Q5.out,bL (bL (bL Qt.out s0 k0 0 _) s1 k1 1 _) s2 mW 2 _,((Li.out.setCell (p:=⟨b2,0,ε⟩) bz.out (γ A9 n9 c9)).setCell (p:=⟨b2,1,ε⟩) bz.out (γ B9 m9 k9)).setCell (p:=⟨b2,2,ε⟩) bz.out (γ C9 r9 oO)⟩
theorem RB {W:ο} {A:Option Κ} {n c:Nat} {Vs:List VC} {B:Option Κ} {m k:Nat} {Es:List EC} {C:Option Κ} {r rc:Nat} {G:List Gn} (h:aR W A n c Vs B m k Es) (hg:aX W W.heap.size 6 C r rc (aj cB G)) (hS:fA (Vs.map vS,Es,G)) (o:cZ) (ht:o.t.size≤Jap) (lr:ed o=0) (hk:o.k=5) (R:SS × Int) (hK:∀X,σ W.heap.size W X→Ζ η 50 #[φ #[γ A n c,γ B m k,γ C r rc],φ (aa o).toArray] X (ew X R)):
 Ζ η 15 #[φ #[γ A n c,γ B m k,γ C r rc],φ (aa o).toArray] W (ew W R):=by
 have HK:=qh hK;clear hK;have Nq:=qh hk;clear hk;have mZ:Vs.length=n:=h.v.rlen aQ (by decide);have rZ:Vs.length≤24:=by have:=hS.v24;rwa [Ρ] at this
 have HM:Hid (∀X,Ζ η 45 #[φ (aa o).toArray] X fun e w'=>e=.returned (J 0)∧σ X.heap.size X w'):=qh (fun X=>by
  have:=fG o ht X
  rw[lr] at this;exact this)
 have HV:Hid (∀X,σ W.heap.size W X→Ζ η 27 #[φ #[γ A n c,γ B m k],φ #[J o.s,J o.n]] X fun e w'=>e=.returned (Ξ #[φ (vC (bu Vs (o.s,o.n)).1).toArray,Β (bu Vs (o.s,o.n)).2])∧σ X.heap.size X w'):=qh (fun X hX=>fJ A n c Vs B m k Es o.s o.n X (h.v.bl hX) (by omega));have iN:(bu Vs (o.s,o.n)).2=bo (Vs.map vS) (bp o):=(dO Vs (o.s,o.n)).1;have bB:(bu Vs (o.s,o.n)).1.2.1.2.2.2=cL (Vs.map vS) (bp o):=(dO Vs (o.s,o.n)).2
 have fp:RgOk W (bu Vs (o.s,o.n)).1.2.1:=by
  rcases gM (fun v:VC=>v.1) zV Vs (o.s,o.n) with h1|h1
  ·exact h.r _ h1
  ·rw[show(bu Vs (o.s,o.n))=(zV,ρ) from h1];exact⟨by decide,fw W _⟩
 obtain⟨⟨u,ok⟩,gv⟩:∃z,bu Vs (o.s,o.n)=z:=⟨_,rfl⟩
 rw[gv] at HV iN bB fp;obtain⟨⟨i1,i2⟩,⟨rA,rn,bR,rL⟩,lb,at_⟩:=u;replace HV:Hid (∀X,σ W.heap.size W X→Ζ η 27 #[φ #[γ A n c,γ B m k],φ #[J o.s,J o.n]] X fun e w'=>e=.returned (Ξ #[φ #[J i1,J i2,γ rA rn bR,μ lb,J at_],Β ok])∧σ X.heap.size X w'):=HV;dsimp only at iN bB fp;have ji:rL.length=rn:=by have:=fp.2.len;rw[bJ] at this;dsimp only at this;omega
 have mY:=qh iN;have EI:=qh bB;have Io:=qh ji;have yQ:n≤24:=by omega
 clear iN bB fp ji gv;have HO:=qh h;have Au:=qh hg;have zQ:=qh hS;have IW:=qh mZ;clear h hg hS mZ rZ lr ht;go_enter Tryz.func15,Tryz.ntmps15;go_upto_region 1 with fail
 obtain⟨W0,b0,b1,b2,bP,bK,cX,dN,aN,aI,aV,a8,-,-,kQ,-,jK,-,bz,mj,oK,km⟩:=jN W 28 [γ A n c,γ B m k,γ C r rc] 36 (aa o) 28 [γ ε 0 0,γ ε 0 0,γ ε 0 0];rw[bP,dN,cX,bK];clear bP bK cX dN;refine Jam ?_;refine bw (ζ 9) rfl (by rfl) 36 (.tmp 3) rfl b1 rfl 36 (aa o) _ aI.out Tryz.underlying36 rfl (by kernel_rfl) ?_;simp only[ξ,aq,ak,ao]
 go_upto_region 2 with (first
  |(go_at_call 45
    refine(HM.out _).mono ?_
    rintro e w2 ⟨rfl,ar⟩;have kH:=qh (af a8.out ar);have eU:=qh (aN.out.bl ar);have fi:=qh (aI.out.bl ar);have eT:=qh (aV.out.bl ar);clear ar aN aI aV a8 HM))
 obtain⟨Wm,uQ⟩:=ay w2;rw[uQ] at kH eU fi eT ⊢;clear uQ;go_upto_region 4 with fail
 have eD:=eU.out.cell (i:=0) rfl;have eI:=eU.out.cell (i:=1) rfl;have eZ:=fi.out.cell (i:=1) rfl;have eV:=fi.out.cell (i:=2) rfl
 go_upto_region 5 with (first
  |(go_at_call 27
    refine(HV.out _ kH.out).mono ?_
    rintro e w2 ⟨rfl,ar⟩;have cy:=qh ar;clear ar eD eI eZ eV))
 have ar:=cy.out;have cY:=qh (aE (af kH.out ar) (δ #[J i1,J i2,γ rA rn bR,μ lb,J at_] 59));have a6:=qh ((eU.out.bl ar).al (δ #[J i1,J i2,γ rA rn bR,μ lb,J at_] 59));have a7:=qh ((fi.out.bl ar).al (δ #[J i1,J i2,γ rA rn bR,μ lb,J at_] 59));have az:=qh ((eT.out.bl ar).al (δ #[J i1,J i2,γ rA rn bR,μ lb,J at_] 59));have bh:=qh (Whole.new_ w2 59 [J i1,J i2,γ rA rn bR,μ lb,J at_]);have mg:Hid (W.heap.size≤w2.heap.size):=qh (af kH.out ar).size;have iY:Hid (b0≠w2.heap.size):=qh (by have:=(eU.out.bl ar).lt;omega);have iU:Hid (b1≠w2.heap.size):=qh (by have:=(fi.out.bl ar).lt;omega);have iX:Hid (b2≠w2.heap.size):=qh (by have:=(eT.out.bl ar).lt;omega);obtain⟨qT,cS⟩:=ay (w2.alloc (δ #[J i1,J i2,γ rA rn bR,μ lb,J at_] 59));obtain⟨b3,dk⟩:=ay w2.heap.size;rw[cS] at cY a6 a7 az bh ⊢;rw[dk] at bh mg iY iU iX ⊢;clear cS dk kH eU fi eT ar cy;clear HV;have k0:qT.cell? ⟨b1,0,ε⟩=ζ (J 5):=(a7.out.cell (i:=0) rfl).trans (by rw[Nq.out]);go_upto_region 23 with fail
 clear k0;refine Jam ?_;refine bw (ζ 79) rfl (by rfl) 28 (.tmp 2) rfl b0 rfl 28 [γ A n c,γ B m k,γ C r rc] _ a6.out Tryz.underlying28 rfl (by kernel_rfl) ?_;simp only[ξ,aq,ak,ao];refine bw (ζ 80) rfl (by rfl) 36 (.tmp 3) rfl b1 rfl 36 (aa o) _ a7.out Tryz.underlying36 rfl (by kernel_rfl) ?_;simp only[ξ,aq,ak,ao]
 go_wp2_with (first
  |(go_at_call 50
    refine(HK.out _ cY.out).mono ?_
    rintro e w2 ⟨A9,n9,c9,B9,m9,k9,C9,r9,oO,CU,rfl,hd,ri,xw,ar⟩;have z0:=(az.out.bl ar).cell (i:=0) rfl;have z1:=(az.out.bl ar).cell (i:=1) rfl;have z2:=(az.out.bl ar).cell (i:=2) rfl;have y0:=(az.out.bl ar).free 0;have y1:=(az.out.bl ar).free 1;have y2:=(az.out.bl ar).free 2;have HZ:=qh (az.out.bl ar);have HD:=qh hd;have Q5:=qh ri;have Qt:=qh xw;have Li:=qh (af cY.out ar);clear hd ri xw ar))
 have k0:=aZ (a:=γ ε 0 0) (b:=γ ε 0 0) (d:=γ ε 0 0) (fun i=>by simp) (fun i=>by simp) (fun i=>by simp);have k1:=aZ (a:=γ A9 n9 c9) (b:=γ ε 0 0) (d:=γ ε 0 0) (fun i=>by simp) (fun i=>by simp) (fun i=>by simp);have mW:=aZ (a:=γ A9 n9 c9) (b:=γ B9 m9 k9) (d:=γ ε 0 0) (fun i=>by simp) (fun i=>by simp) (fun i=>by simp);have s0:=HZ.out;have s1:=s0.set_ 0 (γ A9 n9 c9);have s2:=s1.set_ 1 (γ B9 m9 k9);exact aG rfl b2 rfl rfl (s2.set_ 2 (γ C9 r9 oO)) Tryz.underlying28 rfl (by kernel_rfl) rfl ⟨A9,n9,c9,B9,m9,k9,C9,r9,oO,CU,rfl,bA (bA (bA HD.out s0 k0 0 _) s1 k1 1 _) s2 mW 2 _,Q5.out,bL (bL (bL Qt.out s0 k0 0 _) s1 k1 1 _) s2 mW 2 _,((Li.out.setCell (p:=⟨b2,0,ε⟩) bz.out (γ A9 n9 c9)).setCell (p:=⟨b2,1,ε⟩) bz.out (γ B9 m9 k9)).setCell (p:=⟨b2,2,ε⟩) bz.out (γ C9 r9 oO)⟩
theorem PX {W:ο} {A:Option Κ} {n c:Nat} {Vs:List VC} {B:Option Κ} {m k:Nat} {Es:List EC} {C:Option Κ} {r rc:Nat} {G:List Gn} (h:aR W A n c Vs B m k Es) (hg:aX W W.heap.size 6 C r rc (aj cB G)) (hS:fA (Vs.map vS,Es,G)) (o:cZ) (ht:o.t.size≤Jap) (lr:ed o=0) (hk:o.k=6) (R:SS × Int) (hK:∀X,σ W.heap.size W X→Ζ η 51 #[φ #[γ A n c,γ B m k,γ C r rc],φ (aa o).toArray] X (ew X R)):
 Ζ η 15 #[φ #[γ A n c,γ B m k,γ C r rc],φ (aa o).toArray] W (ew W R):=by
 have HK:=qh hK;clear hK;have Nq:=qh hk;clear hk;have mZ:Vs.length=n:=h.v.rlen aQ (by decide);have rZ:Vs.length≤24:=by have:=hS.v24;rwa [Ρ] at this
 have HM:Hid (∀X,Ζ η 45 #[φ (aa o).toArray] X fun e w'=>e=.returned (J 0)∧σ X.heap.size X w'):=qh (fun X=>by
  have:=fG o ht X
  rw[lr] at this;exact this)
 have HV:Hid (∀X,σ W.heap.size W X→Ζ η 27 #[φ #[γ A n c,γ B m k],φ #[J o.s,J o.n]] X fun e w'=>e=.returned (Ξ #[φ (vC (bu Vs (o.s,o.n)).1).toArray,Β (bu Vs (o.s,o.n)).2])∧σ X.heap.size X w'):=qh (fun X hX=>fJ A n c Vs B m k Es o.s o.n X (h.v.bl hX) (by omega));have iN:(bu Vs (o.s,o.n)).2=bo (Vs.map vS) (bp o):=(dO Vs (o.s,o.n)).1;have bB:(bu Vs (o.s,o.n)).1.2.1.2.2.2=cL (Vs.map vS) (bp o):=(dO Vs (o.s,o.n)).2
 have fp:RgOk W (bu Vs (o.s,o.n)).1.2.1:=by
  rcases gM (fun v:VC=>v.1) zV Vs (o.s,o.n) with h1|h1
  ·exact h.r _ h1
  ·rw[show(bu Vs (o.s,o.n))=(zV,ρ) from h1];exact⟨by decide,fw W _⟩
 obtain⟨⟨u,ok⟩,gv⟩:∃z,bu Vs (o.s,o.n)=z:=⟨_,rfl⟩
 rw[gv] at HV iN bB fp;obtain⟨⟨i1,i2⟩,⟨rA,rn,bR,rL⟩,lb,at_⟩:=u;replace HV:Hid (∀X,σ W.heap.size W X→Ζ η 27 #[φ #[γ A n c,γ B m k],φ #[J o.s,J o.n]] X fun e w'=>e=.returned (Ξ #[φ #[J i1,J i2,γ rA rn bR,μ lb,J at_],Β ok])∧σ X.heap.size X w'):=HV;dsimp only at iN bB fp;have ji:rL.length=rn:=by have:=fp.2.len;rw[bJ] at this;dsimp only at this;omega
 have mY:=qh iN;have EI:=qh bB;have Io:=qh ji;have yQ:n≤24:=by omega
 clear iN bB fp ji gv;have HO:=qh h;have Au:=qh hg;have zQ:=qh hS;have IW:=qh mZ;clear h hg hS mZ rZ lr ht;go_enter Tryz.func15,Tryz.ntmps15;go_upto_region 1 with fail
 obtain⟨W0,b0,b1,b2,bP,bK,cX,dN,aN,aI,aV,a8,-,-,kQ,-,jK,-,bz,mj,oK,km⟩:=jN W 28 [γ A n c,γ B m k,γ C r rc] 36 (aa o) 28 [γ ε 0 0,γ ε 0 0,γ ε 0 0];rw[bP,dN,cX,bK];clear bP bK cX dN;refine Jam ?_;refine bw (ζ 9) rfl (by rfl) 36 (.tmp 3) rfl b1 rfl 36 (aa o) _ aI.out Tryz.underlying36 rfl (by kernel_rfl) ?_;simp only[ξ,aq,ak,ao]
 go_upto_region 2 with (first
  |(go_at_call 45
    refine(HM.out _).mono ?_
    rintro e w2 ⟨rfl,ar⟩;have kH:=qh (af a8.out ar);have eU:=qh (aN.out.bl ar);have fi:=qh (aI.out.bl ar);have eT:=qh (aV.out.bl ar);clear ar aN aI aV a8 HM))
 obtain⟨Wm,uQ⟩:=ay w2;rw[uQ] at kH eU fi eT ⊢;clear uQ;go_upto_region 4 with fail
 have eD:=eU.out.cell (i:=0) rfl;have eI:=eU.out.cell (i:=1) rfl;have eZ:=fi.out.cell (i:=1) rfl;have eV:=fi.out.cell (i:=2) rfl
 go_upto_region 5 with (first
  |(go_at_call 27
    refine(HV.out _ kH.out).mono ?_
    rintro e w2 ⟨rfl,ar⟩;have cy:=qh ar;clear ar eD eI eZ eV))
 have ar:=cy.out;have cY:=qh (aE (af kH.out ar) (δ #[J i1,J i2,γ rA rn bR,μ lb,J at_] 59));have a6:=qh ((eU.out.bl ar).al (δ #[J i1,J i2,γ rA rn bR,μ lb,J at_] 59));have a7:=qh ((fi.out.bl ar).al (δ #[J i1,J i2,γ rA rn bR,μ lb,J at_] 59));have az:=qh ((eT.out.bl ar).al (δ #[J i1,J i2,γ rA rn bR,μ lb,J at_] 59));have bh:=qh (Whole.new_ w2 59 [J i1,J i2,γ rA rn bR,μ lb,J at_]);have mg:Hid (W.heap.size≤w2.heap.size):=qh (af kH.out ar).size;have iY:Hid (b0≠w2.heap.size):=qh (by have:=(eU.out.bl ar).lt;omega);have iU:Hid (b1≠w2.heap.size):=qh (by have:=(fi.out.bl ar).lt;omega);have iX:Hid (b2≠w2.heap.size):=qh (by have:=(eT.out.bl ar).lt;omega);obtain⟨qT,cS⟩:=ay (w2.alloc (δ #[J i1,J i2,γ rA rn bR,μ lb,J at_] 59));obtain⟨b3,dk⟩:=ay w2.heap.size;rw[cS] at cY a6 a7 az bh ⊢;rw[dk] at bh mg iY iU iX ⊢;clear cS dk kH eU fi eT ar cy;clear HV;have k0:qT.cell? ⟨b1,0,ε⟩=ζ (J 6):=(a7.out.cell (i:=0) rfl).trans (by rw[Nq.out]);go_upto_region 25 with fail
 clear k0;refine Jam ?_;refine bw (ζ 86) rfl (by rfl) 28 (.tmp 2) rfl b0 rfl 28 [γ A n c,γ B m k,γ C r rc] _ a6.out Tryz.underlying28 rfl (by kernel_rfl) ?_;simp only[ξ,aq,ak,ao];refine bw (ζ 87) rfl (by rfl) 36 (.tmp 3) rfl b1 rfl 36 (aa o) _ a7.out Tryz.underlying36 rfl (by kernel_rfl) ?_;simp only[ξ,aq,ak,ao]
 go_wp2_with (first
  |(go_at_call 51
    refine(HK.out _ cY.out).mono ?_
    rintro e w2 ⟨A9,n9,c9,B9,m9,k9,C9,r9,oO,CU,rfl,hd,ri,xw,ar⟩;have z0:=(az.out.bl ar).cell (i:=0) rfl;have z1:=(az.out.bl ar).cell (i:=1) rfl;have z2:=(az.out.bl ar).cell (i:=2) rfl;have y0:=(az.out.bl ar).free 0;have y1:=(az.out.bl ar).free 1;have y2:=(az.out.bl ar).free 2;have HZ:=qh (az.out.bl ar);have HD:=qh hd;have Q5:=qh ri;have Qt:=qh xw;have Li:=qh (af cY.out ar);clear hd ri xw ar))
 have k0:=aZ (a:=γ ε 0 0) (b:=γ ε 0 0) (d:=γ ε 0 0) (fun i=>by simp) (fun i=>by simp) (fun i=>by simp);have k1:=aZ (a:=γ A9 n9 c9) (b:=γ ε 0 0) (d:=γ ε 0 0) (fun i=>by simp) (fun i=>by simp) (fun i=>by simp);have mW:=aZ (a:=γ A9 n9 c9) (b:=γ B9 m9 k9) (d:=γ ε 0 0) (fun i=>by simp) (fun i=>by simp) (fun i=>by simp);have s0:=HZ.out;have s1:=s0.set_ 0 (γ A9 n9 c9);have s2:=s1.set_ 1 (γ B9 m9 k9);exact aG rfl b2 rfl rfl (s2.set_ 2 (γ C9 r9 oO)) Tryz.underlying28 rfl (by kernel_rfl) rfl ⟨A9,n9,c9,B9,m9,k9,C9,r9,oO,CU,rfl,bA (bA (bA HD.out s0 k0 0 _) s1 k1 1 _) s2 mW 2 _,Q5.out,bL (bL (bL Qt.out s0 k0 0 _) s1 k1 1 _) s2 mW 2 _,((Li.out.setCell (p:=⟨b2,0,ε⟩) bz.out (γ A9 n9 c9)).setCell (p:=⟨b2,1,ε⟩) bz.out (γ B9 m9 k9)).setCell (p:=⟨b2,2,ε⟩) bz.out (γ C9 r9 oO)⟩
theorem Qe {W:ο} {A:Option Κ} {n c:Nat} {Vs:List VC} {B:Option Κ} {m k:Nat} {Es:List EC} {C:Option Κ} {r rc:Nat} {G:List Gn} (h:aR W A n c Vs B m k Es) (hg:aX W W.heap.size 6 C r rc (aj cB G)) (hS:fA (Vs.map vS,Es,G)) (o:cZ) (ht:o.t.size≤Jap) (lr:ed o=0) (vK:¬o.k=1) (EB:¬o.k=2) (QM:¬o.k=3) (hk4:¬o.k=4) (Cm:¬o.k=5) (hk6:¬o.k=6) (R:SS × Int) (hK:∀X,σ W.heap.size W X→Ζ η 52 #[φ #[γ A n c,γ B m k,γ C r rc],φ (aa o).toArray] X (ew X R)):
 Ζ η 15 #[φ #[γ A n c,γ B m k,γ C r rc],φ (aa o).toArray] W (ew W R):=by
 have HK:=qh hK;clear hK;have mZ:Vs.length=n:=h.v.rlen aQ (by decide);have rZ:Vs.length≤24:=by have:=hS.v24;rwa [Ρ] at this
 have HM:Hid (∀X,Ζ η 45 #[φ (aa o).toArray] X fun e w'=>e=.returned (J 0)∧σ X.heap.size X w'):=qh (fun X=>by
  have:=fG o ht X
  rw[lr] at this;exact this)
 have HV:Hid (∀X,σ W.heap.size W X→Ζ η 27 #[φ #[γ A n c,γ B m k],φ #[J o.s,J o.n]] X fun e w'=>e=.returned (Ξ #[φ (vC (bu Vs (o.s,o.n)).1).toArray,Β (bu Vs (o.s,o.n)).2])∧σ X.heap.size X w'):=qh (fun X hX=>fJ A n c Vs B m k Es o.s o.n X (h.v.bl hX) (by omega));have iN:(bu Vs (o.s,o.n)).2=bo (Vs.map vS) (bp o):=(dO Vs (o.s,o.n)).1;have bB:(bu Vs (o.s,o.n)).1.2.1.2.2.2=cL (Vs.map vS) (bp o):=(dO Vs (o.s,o.n)).2
 have fp:RgOk W (bu Vs (o.s,o.n)).1.2.1:=by
  rcases gM (fun v:VC=>v.1) zV Vs (o.s,o.n) with h1|h1
  ·exact h.r _ h1
  ·rw[show(bu Vs (o.s,o.n))=(zV,ρ) from h1];exact⟨by decide,fw W _⟩
 obtain⟨⟨u,ok⟩,gv⟩:∃z,bu Vs (o.s,o.n)=z:=⟨_,rfl⟩
 rw[gv] at HV iN bB fp;obtain⟨⟨i1,i2⟩,⟨rA,rn,bR,rL⟩,lb,at_⟩:=u;replace HV:Hid (∀X,σ W.heap.size W X→Ζ η 27 #[φ #[γ A n c,γ B m k],φ #[J o.s,J o.n]] X fun e w'=>e=.returned (Ξ #[φ #[J i1,J i2,γ rA rn bR,μ lb,J at_],Β ok])∧σ X.heap.size X w'):=HV;dsimp only at iN bB fp;have ji:rL.length=rn:=by have:=fp.2.len;rw[bJ] at this;dsimp only at this;omega
 have mY:=qh iN;have EI:=qh bB;have Io:=qh ji;have yQ:n≤24:=by omega
 clear iN bB fp ji gv;have HO:=qh h;have Au:=qh hg;have zQ:=qh hS;have IW:=qh mZ;clear h hg hS mZ rZ lr ht;go_enter Tryz.func15,Tryz.ntmps15;go_upto_region 1 with fail
 obtain⟨W0,b0,b1,b2,bP,bK,cX,dN,aN,aI,aV,a8,-,-,kQ,-,jK,-,bz,mj,oK,km⟩:=jN W 28 [γ A n c,γ B m k,γ C r rc] 36 (aa o) 28 [γ ε 0 0,γ ε 0 0,γ ε 0 0];rw[bP,dN,cX,bK];clear bP bK cX dN;refine Jam ?_;refine bw (ζ 9) rfl (by rfl) 36 (.tmp 3) rfl b1 rfl 36 (aa o) _ aI.out Tryz.underlying36 rfl (by kernel_rfl) ?_;simp only[ξ,aq,ak,ao]
 go_upto_region 2 with (first
  |(go_at_call 45
    refine(HM.out _).mono ?_
    rintro e w2 ⟨rfl,ar⟩;have kH:=qh (af a8.out ar);have eU:=qh (aN.out.bl ar);have fi:=qh (aI.out.bl ar);have eT:=qh (aV.out.bl ar);clear ar aN aI aV a8 HM))
 obtain⟨Wm,uQ⟩:=ay w2;rw[uQ] at kH eU fi eT ⊢;clear uQ;go_upto_region 4 with fail
 have eD:=eU.out.cell (i:=0) rfl;have eI:=eU.out.cell (i:=1) rfl;have eZ:=fi.out.cell (i:=1) rfl;have eV:=fi.out.cell (i:=2) rfl
 go_upto_region 5 with (first
  |(go_at_call 27
    refine(HV.out _ kH.out).mono ?_
    rintro e w2 ⟨rfl,ar⟩;have cy:=qh ar;clear ar eD eI eZ eV))
 have ar:=cy.out;have cY:=qh (aE (af kH.out ar) (δ #[J i1,J i2,γ rA rn bR,μ lb,J at_] 59));have a6:=qh ((eU.out.bl ar).al (δ #[J i1,J i2,γ rA rn bR,μ lb,J at_] 59));have a7:=qh ((fi.out.bl ar).al (δ #[J i1,J i2,γ rA rn bR,μ lb,J at_] 59));have az:=qh ((eT.out.bl ar).al (δ #[J i1,J i2,γ rA rn bR,μ lb,J at_] 59));have bh:=qh (Whole.new_ w2 59 [J i1,J i2,γ rA rn bR,μ lb,J at_]);have mg:Hid (W.heap.size≤w2.heap.size):=qh (af kH.out ar).size;have iY:Hid (b0≠w2.heap.size):=qh (by have:=(eU.out.bl ar).lt;omega);have iU:Hid (b1≠w2.heap.size):=qh (by have:=(fi.out.bl ar).lt;omega);have iX:Hid (b2≠w2.heap.size):=qh (by have:=(eT.out.bl ar).lt;omega);obtain⟨qT,cS⟩:=ay (w2.alloc (δ #[J i1,J i2,γ rA rn bR,μ lb,J at_] 59));obtain⟨b3,dk⟩:=ay w2.heap.size;rw[cS] at cY a6 a7 az bh ⊢;rw[dk] at bh mg iY iU iX ⊢;clear cS dk kH eU fi eT ar cy;clear HV;have k0:=a7.out.cell (i:=0) rfl;go_upto_region 26 with fail
 clear k0;refine Jam ?_;refine bw (ζ 91) rfl (by rfl) 28 (.tmp 2) rfl b0 rfl 28 [γ A n c,γ B m k,γ C r rc] _ a6.out Tryz.underlying28 rfl (by kernel_rfl) ?_;simp only[ξ,aq,ak,ao];refine bw (ζ 92) rfl (by rfl) 36 (.tmp 3) rfl b1 rfl 36 (aa o) _ a7.out Tryz.underlying36 rfl (by kernel_rfl) ?_;simp only[ξ,aq,ak,ao]
 go_wp2_with (first
  |(go_at_call 52
    refine(HK.out _ cY.out).mono ?_
    rintro e w2 ⟨A9,n9,c9,B9,m9,k9,C9,r9,oO,CU,rfl,hd,ri,xw,ar⟩;have z0:=(az.out.bl ar).cell (i:=0) rfl;have z1:=(az.out.bl ar).cell (i:=1) rfl;have z2:=(az.out.bl ar).cell (i:=2) rfl;have y0:=(az.out.bl ar).free 0;have y1:=(az.out.bl ar).free 1;have y2:=(az.out.bl ar).free 2;have HZ:=qh (az.out.bl ar);have HD:=qh hd;have Q5:=qh ri;have Qt:=qh xw;have Li:=qh (af cY.out ar);clear hd ri xw ar))
 have k0:=aZ (a:=γ ε 0 0) (b:=γ ε 0 0) (d:=γ ε 0 0) (fun i=>by simp) (fun i=>by simp) (fun i=>by simp);have k1:=aZ (a:=γ A9 n9 c9) (b:=γ ε 0 0) (d:=γ ε 0 0) (fun i=>by simp) (fun i=>by simp) (fun i=>by simp);have mW:=aZ (a:=γ A9 n9 c9) (b:=γ B9 m9 k9) (d:=γ ε 0 0) (fun i=>by simp) (fun i=>by simp) (fun i=>by simp);have s0:=HZ.out;have s1:=s0.set_ 0 (γ A9 n9 c9);have s2:=s1.set_ 1 (γ B9 m9 k9);exact aG rfl b2 rfl rfl (s2.set_ 2 (γ C9 r9 oO)) Tryz.underlying28 rfl (by kernel_rfl) rfl ⟨A9,n9,c9,B9,m9,k9,C9,r9,oO,CU,rfl,bA (bA (bA HD.out s0 k0 0 _) s1 k1 1 _) s2 mW 2 _,Q5.out,bL (bL (bL Qt.out s0 k0 0 _) s1 k1 1 _) s2 mW 2 _,((Li.out.setCell (p:=⟨b2,0,ε⟩) bz.out (γ A9 n9 c9)).setCell (p:=⟨b2,1,ε⟩) bz.out (γ B9 m9 k9)).setCell (p:=⟨b2,2,ε⟩) bz.out (γ C9 r9 oO)⟩
theorem RC {W:ο} {A:Option Κ} {n c:Nat} {Vs:List VC} {B:Option Κ} {m k:Nat} {Es:List EC} {C:Option Κ} {r rc:Nat} {G:List Gn} (h:aR W A n c Vs B m k Es) (hg:aX W W.heap.size 6 C r rc (aj cB G)) (hS:fA (Vs.map vS,Es,G)) (o:cZ) (ht:o.t.size≤Jap) (lr:ed o=0) (hk:o.k=1):
 Ζ η 15 #[φ #[γ A n c,γ B m k,γ C r rc],φ (aa o).toArray] W (ew W (jG (Vs.map vS,Es,G) (bp o))):=by
 have Nq:=qh hk;clear hk;have mZ:Vs.length=n:=h.v.rlen aQ (by decide);have rZ:Vs.length≤24:=by have:=hS.v24;rwa [Ρ] at this
 have HM:Hid (∀X,Ζ η 45 #[φ (aa o).toArray] X fun e w'=>e=.returned (J 0)∧σ X.heap.size X w'):=qh (fun X=>by
  have:=fG o ht X
  rw[lr] at this;exact this)
 have HV:Hid (∀X,σ W.heap.size W X→Ζ η 27 #[φ #[γ A n c,γ B m k],φ #[J o.s,J o.n]] X fun e w'=>e=.returned (Ξ #[φ (vC (bu Vs (o.s,o.n)).1).toArray,Β (bu Vs (o.s,o.n)).2])∧σ X.heap.size X w'):=qh (fun X hX=>fJ A n c Vs B m k Es o.s o.n X (h.v.bl hX) (by omega));have iN:(bu Vs (o.s,o.n)).2=bo (Vs.map vS) (bp o):=(dO Vs (o.s,o.n)).1;have bB:(bu Vs (o.s,o.n)).1.2.1.2.2.2=cL (Vs.map vS) (bp o):=(dO Vs (o.s,o.n)).2
 have fp:RgOk W (bu Vs (o.s,o.n)).1.2.1:=by
  rcases gM (fun v:VC=>v.1) zV Vs (o.s,o.n) with h1|h1
  ·exact h.r _ h1
  ·rw[show(bu Vs (o.s,o.n))=(zV,ρ) from h1];exact⟨by decide,fw W _⟩
 obtain⟨⟨u,ok⟩,gv⟩:∃z,bu Vs (o.s,o.n)=z:=⟨_,rfl⟩
 rw[gv] at HV iN bB fp;obtain⟨⟨i1,i2⟩,⟨rA,rn,bR,rL⟩,lb,at_⟩:=u;replace HV:Hid (∀X,σ W.heap.size W X→Ζ η 27 #[φ #[γ A n c,γ B m k],φ #[J o.s,J o.n]] X fun e w'=>e=.returned (Ξ #[φ #[J i1,J i2,γ rA rn bR,μ lb,J at_],Β ok])∧σ X.heap.size X w'):=HV;dsimp only at iN bB fp;have ji:rL.length=rn:=by have:=fp.2.len;rw[bJ] at this;dsimp only at this;omega
 have mY:=qh iN;have EI:=qh bB;have Io:=qh ji;have yQ:n≤24:=by omega
 clear iN bB fp ji gv
 have YN:Hid (∀X,σ W.heap.size W X→Ζ η 46 #[φ #[γ A n c,γ B m k],φ #[J o.s,J o.n,γ ε 0 0,μ {data:=#[]},J 0]] X fun e w'=>∃A2 n2 c2 W2,e=.returned (φ #[γ A2 n2 c2,γ B m k])∧aR w' A2 n2 c2 W2 B m k Es∧W2.map vS=eY (Vs.map vS) (bp o,[],Jaf,0)∧σ X.heap.size X w'):=qh (fun X hX=>by
  have hd:=h.below hX
  refine(zq hd ((o.s,o.n),(ε,0,0,[]),Jaf,0) (by omega)).mono ?_
  rintro e w' ⟨A2,n2,c2,rfl,Ch,-,hb⟩
  refine⟨A2,n2,c2,_,rfl,⟨Ch,hd.e.bl hb,fun x hx=>?_⟩,pw _ _,hb⟩
  rcases dx.1 hx with rfl|hx
  ·exact⟨Nat.zero_le _,fw _ _⟩
  ·exact⟨(hd.r x hx).1,(hd.r x hx).2.bl hb⟩)
 have HO:=qh h;have Au:=qh hg;have zQ:=qh hS;have IW:=qh mZ;clear h hg hS mZ rZ lr ht;obtain⟨V,gV⟩:=ay (Vs.map vS);have Qb:Hid (V.length=n):=qh (by rw[←gV,Ρ];exact IW.out);rw[gV] at mY EI YN ⊢;clear gV;obtain⟨R,gR⟩:=ay (jG (V,Es,G) (bp o));have HR:=qh gR;rw[gR];clear gR;go_enter Tryz.func15,Tryz.ntmps15;go_upto_region 1 with fail
 obtain⟨W0,b0,b1,b2,bP,bK,cX,dN,aN,aI,aV,a8,-,-,kQ,-,jK,-,bz,mj,oK,km⟩:=jN W 28 [γ A n c,γ B m k,γ C r rc] 36 (aa o) 28 [γ ε 0 0,γ ε 0 0,γ ε 0 0];rw[bP,dN,cX,bK];clear bP bK cX dN;refine Jam ?_;refine bw (ζ 9) rfl (by rfl) 36 (.tmp 3) rfl b1 rfl 36 (aa o) _ aI.out Tryz.underlying36 rfl (by kernel_rfl) ?_;simp only[ξ,aq,ak,ao]
 go_upto_region 2 with (first
  |(go_at_call 45
    refine(HM.out _).mono ?_
    rintro e w2 ⟨rfl,ar⟩;have kH:=qh (af a8.out ar);have eU:=qh (aN.out.bl ar);have fi:=qh (aI.out.bl ar);have eT:=qh (aV.out.bl ar);clear ar aN aI aV a8 HM))
 obtain⟨Wm,uQ⟩:=ay w2;rw[uQ] at kH eU fi eT ⊢;clear uQ;go_upto_region 4 with fail
 have eD:=eU.out.cell (i:=0) rfl;have eI:=eU.out.cell (i:=1) rfl;have eZ:=fi.out.cell (i:=1) rfl;have eV:=fi.out.cell (i:=2) rfl
 go_upto_region 5 with (first
  |(go_at_call 27
    refine(HV.out _ kH.out).mono ?_
    rintro e w2 ⟨rfl,ar⟩;have cy:=qh ar;clear ar eD eI eZ eV))
 have ar:=cy.out;have cY:=qh (aE (af kH.out ar) (δ #[J i1,J i2,γ rA rn bR,μ lb,J at_] 59));have a6:=qh ((eU.out.bl ar).al (δ #[J i1,J i2,γ rA rn bR,μ lb,J at_] 59));have a7:=qh ((fi.out.bl ar).al (δ #[J i1,J i2,γ rA rn bR,μ lb,J at_] 59));have az:=qh ((eT.out.bl ar).al (δ #[J i1,J i2,γ rA rn bR,μ lb,J at_] 59));have bh:=qh (Whole.new_ w2 59 [J i1,J i2,γ rA rn bR,μ lb,J at_]);have mg:Hid (W.heap.size≤w2.heap.size):=qh (af kH.out ar).size;have iY:Hid (b0≠w2.heap.size):=qh (by have:=(eU.out.bl ar).lt;omega);have iU:Hid (b1≠w2.heap.size):=qh (by have:=(fi.out.bl ar).lt;omega);have iX:Hid (b2≠w2.heap.size):=qh (by have:=(eT.out.bl ar).lt;omega);obtain⟨qT,cS⟩:=ay (w2.alloc (δ #[J i1,J i2,γ rA rn bR,μ lb,J at_] 59));obtain⟨b3,dk⟩:=ay w2.heap.size;rw[cS] at cY a6 a7 az bh ⊢;rw[dk] at bh mg iY iU iX ⊢;clear cS dk kH eU fi eT ar cy;clear HV;have k0:qT.cell? ⟨b1,0,ε⟩=ζ (J 1):=(a7.out.cell (i:=0) rfl).trans (by rw[Nq.out]);have k1:=a6.out.cell (i:=0) rfl;cases ok with
 |true=>
  obtain rfl:=(show jG (V,Es,G) (bp o)=(cp,12) from by unfold jG;rw[if_pos mY.out.symm]).symm.trans HR.out;have z0:=az.out.cell (i:=0) rfl;have z1:=az.out.cell (i:=1) rfl;have z2:=az.out.cell (i:=2) rfl;have y0:=az.out.free 0;have y1:=az.out.free 1;have y2:=az.out.free 2;go_wp2;exact aG rfl b2 rfl rfl (((az.out.set_ 0 (γ ε 0 0)).set_ 1 (γ ε 0 0)).set_ 2 (γ ε 0 0)) Tryz.underlying28 rfl (by kernel_rfl) rfl ⟨ε,0,0,ε,0,0,ε,0,0,[],rfl,eE _,rfl,aX.no _ _ _,((cY.out.setCell (p:=⟨b2,0,ε⟩) bz.out (γ ε 0 0)).setCell (p:=⟨b2,1,ε⟩) bz.out (γ ε 0 0)).setCell (p:=⟨b2,2,ε⟩) bz.out (γ ε 0 0)⟩
 |false=>
  by_cases rZ:24≤n
  ·have ID:(24:Int)≤(n:Int):=by omega
   obtain rfl:=(show jG (V,Es,G) (bp o)=(cp,3) from by unfold jG;rw[if_neg (by rw[←mY.out];decide),if_pos (by show 24≤V.length;rw[Qb.out];exact rZ)]).symm.trans HR.out;have z0:=az.out.cell (i:=0) rfl;have z1:=az.out.cell (i:=1) rfl;have z2:=az.out.cell (i:=2) rfl;have y0:=az.out.free 0;have y1:=az.out.free 1;have y2:=az.out.free 2;go_wp2;exact aG rfl b2 rfl rfl (((az.out.set_ 0 (γ ε 0 0)).set_ 1 (γ ε 0 0)).set_ 2 (γ ε 0 0)) Tryz.underlying28 rfl (by kernel_rfl) rfl ⟨ε,0,0,ε,0,0,ε,0,0,[],rfl,eE _,rfl,aX.no _ _ _,((cY.out.setCell (p:=⟨b2,0,ε⟩) bz.out (γ ε 0 0)).setCell (p:=⟨b2,1,ε⟩) bz.out (γ ε 0 0)).setCell (p:=⟨b2,2,ε⟩) bz.out (γ ε 0 0)⟩
  have ID:¬(24:Int)≤(n:Int):=by omega
  have vr:Hid (jG (V,Es,G) (bp o)=((eY V (bp o,[],Jaf,0),(Es,G)),0)):=qh (by unfold jG;rw[if_neg (by rw[←mY.out];decide),if_neg (by show ¬24≤V.length;rw[Qb.out];exact rZ)]);obtain rfl:=vr.out.symm.trans HR.out;go_upto_region 11 with fail
  clear k0 k1 ID;have Zw:∀w',Kept (fun b=>b=b2) qT.drew w'→w'.cell? ⟨b0,0,ε⟩=ζ (γ A n c):=fun w' h=>h.cell (a6.out.dr.cell (i:=0) rfl) oK.out
  have XX:∀w',Kept (fun b=>b=b2) qT.drew w'→w'.cell? ⟨b0,1,ε⟩=ζ (γ B m k):=fun w' h=>h.cell (a6.out.dr.cell (i:=1) rfl) oK.out
  have YW:∀w',Kept (fun b=>b=b2) qT.drew w'→w'.cell? ⟨b0,2,ε⟩=ζ (γ C r rc):=fun w' h=>h.cell (a6.out.dr.cell (i:=2) rfl) oK.out
  have Zu:∀w',Kept (fun b=>b=b2) qT.drew w'→w'.cell? ⟨b1,1,ε⟩=ζ (J o.s):=fun w' h=>h.cell (a7.out.dr.cell (i:=1) rfl) km.out
  have YL:∀w',Kept (fun b=>b=b2) qT.drew w'→w'.cell? ⟨b1,2,ε⟩=ζ (J o.n):=fun w' h=>h.cell (a7.out.dr.cell (i:=2) rfl) km.out
  refine aw (fun b=>b=b2) (by kernel_rfl) ?_;refine ag 0 ?_;refine ag 1 ?_;refine ag 2 ?_;refine ag 3 ?_;refine ag 4 ?_;refine ag 6 ?_;refine ag 7 ?_;refine sE 5 ?_;intro w' aB;have cR:=((Θ _ qT).drew.trans (aB.mono (Δ _)))
  refine(YN.out w' (af cY.out cR)).mono ?_
  rintro e w5 ⟨A2,n2,c2,W2,rfl,hd,ri,hb⟩
  refine⟨_,rfl,Kept.of_below hb,?_⟩
  have Cf:=qh hd;have NO:=qh ri;have oR:=qh (af (af cY.out cR) hb);have Ge:=qh (Au.out.bl (af (af cY.out cR) hb));have rY:=qh ((az.out.bl cR).bl hb);clear aB cR hd ri hb;simp only[ξ,aq,ak,ao];refine ag 8 ?_;refine kI 9 ?_;intro w' aB
  refine⟨w'.setRow b2 #[γ A2 n2 c2,γ B m k,γ C r rc],bn 28 (.tmp 4) (.tmp 43) rfl b2 rfl [γ A2 n2 c2,γ B m k,γ C r rc] rfl 28 [γ ε 0 0,γ ε 0 0,γ ε 0 0] (rY.out.bl aB) (by kernel_rfl) rfl (by simp[Τ]),dV (S:=fun b=>b=b2) rfl _,?_⟩
  have uU:=qh (xC (Cf.out.bl aB) (rY.out.bl aB) (aZ (fun i=>by simp) (fun i=>by simp) (fun i=>by simp)) #[γ A2 n2 c2,γ B m k,γ C r rc]);have Lg:=qh ((Ge.out.bl aB).row_far (oF (DQ (Ge.out.bl aB) (rY.out.bl aB) (aZ (fun i=>by simp) (fun i=>by simp) (fun i=>by simp)))) #[γ A2 n2 c2,γ B m k,γ C r rc]);have zf:=qh (Whole.row (rY.out.bl aB) [γ A2 n2 c2,γ B m k,γ C r rc]);have te:=qh (cC (af oR.out aB) bz.out #[γ A2 n2 c2,γ B m k,γ C r rc]);obtain⟨V3,tL⟩:=ay (w'.setRow b2 #[γ A2 n2 c2,γ B m k,γ C r rc]);rw[tL] at uU Lg zf te ⊢;clear aB tL Cf Ge rY oR;(try simp only[ξ,aq,ak,ao]);refine ag 10 ?_;refine aD (by kernel_rfl) ?_ _;intro wa EN;have rG:=qh (uU.out.bl EN);have Wf:=qh (Lg.out.bl EN);have Iy:=qh (zf.out.bl EN);have zk:=qh (af te.out EN);clear EN uU Lg zf te;go_wp2;exact aG rfl b2 rfl rfl Iy.out Tryz.underlying28 rfl (by kernel_rfl) rfl ⟨A2,n2,c2,B,m,k,C,r,rc,W2,rfl,rG.out,NO.out,Wf.out,zk.out⟩
theorem RK {W:ο} {A:Option Κ} {n c:Nat} {Vs:List VC} {B:Option Κ} {m k:Nat} {Es:List EC} {C:Option Κ} {r rc:Nat} {G:List Gn} (h:aR W A n c Vs B m k Es) (hg:aX W W.heap.size 6 C r rc (aj cB G)) (hS:fA (Vs.map vS,Es,G)) (o:cZ) (ht:o.t.size≤Jap) (lr:ed o=0) (hk:o.k=2):
 Ζ η 15 #[φ #[γ A n c,γ B m k,γ C r rc],φ (aa o).toArray] W (ew W (jD (Vs.map vS,Es,G) (bp o))):=by
 have Nq:=qh hk;clear hk;have mZ:Vs.length=n:=h.v.rlen aQ (by decide);have rZ:Vs.length≤24:=by have:=hS.v24;rwa [Ρ] at this
 have HM:Hid (∀X,Ζ η 45 #[φ (aa o).toArray] X fun e w'=>e=.returned (J 0)∧σ X.heap.size X w'):=qh (fun X=>by
  have:=fG o ht X
  rw[lr] at this;exact this)
 have HV:Hid (∀X,σ W.heap.size W X→Ζ η 27 #[φ #[γ A n c,γ B m k],φ #[J o.s,J o.n]] X fun e w'=>e=.returned (Ξ #[φ (vC (bu Vs (o.s,o.n)).1).toArray,Β (bu Vs (o.s,o.n)).2])∧σ X.heap.size X w'):=qh (fun X hX=>fJ A n c Vs B m k Es o.s o.n X (h.v.bl hX) (by omega));have iN:(bu Vs (o.s,o.n)).2=bo (Vs.map vS) (bp o):=(dO Vs (o.s,o.n)).1;have bB:(bu Vs (o.s,o.n)).1.2.1.2.2.2=cL (Vs.map vS) (bp o):=(dO Vs (o.s,o.n)).2
 have fp:RgOk W (bu Vs (o.s,o.n)).1.2.1:=by
  rcases gM (fun v:VC=>v.1) zV Vs (o.s,o.n) with h1|h1
  ·exact h.r _ h1
  ·rw[show(bu Vs (o.s,o.n))=(zV,ρ) from h1];exact⟨by decide,fw W _⟩
 obtain⟨⟨u,ok⟩,gv⟩:∃z,bu Vs (o.s,o.n)=z:=⟨_,rfl⟩
 rw[gv] at HV iN bB fp;obtain⟨⟨i1,i2⟩,⟨rA,rn,bR,rL⟩,lb,at_⟩:=u;replace HV:Hid (∀X,σ W.heap.size W X→Ζ η 27 #[φ #[γ A n c,γ B m k],φ #[J o.s,J o.n]] X fun e w'=>e=.returned (Ξ #[φ #[J i1,J i2,γ rA rn bR,μ lb,J at_],Β ok])∧σ X.heap.size X w'):=HV;dsimp only at iN bB fp;have ji:rL.length=rn:=by have:=fp.2.len;rw[bJ] at this;dsimp only at this;omega
 have mY:=qh iN;have EI:=qh bB;have Io:=qh ji;have yQ:n≤24:=by omega
 clear iN bB fp ji gv;have Ai:Es.length≤40:=hS.e40;have sS:Es.length=m:=h.e.rlen bF (by decide)
 have Zv:fY (fun v:EC=>v.1) Es ((0,0):Nm)=Es:=List.filter_eq_self.2 (fun e he=>by
  have h1:=tN (hS.em e he).1;simp only[decide_eq_true_eq];intro e0;rw[e0] at h1;exact absurd h1.1 (by decide))
 have V7:Hid (∀X,σ W.heap.size W X→Ζ η 47 #[φ #[γ A n c,γ B m k],φ #[J o.s,J o.n],φ #[J 0,J 0]] X fun e w'=>∃A1 n1 c1 B1 m1 k1 Ws,e=.returned (φ #[γ A1 n1 c1,γ B1 m1 k1])∧aR w' A1 n1 c1 Ws B1 m1 k1 Es∧Ws.map vS=dw (Vs.map vS) (bp o)∧σ X.heap.size X w'):=qh (fun X hX=>by
  refine(kV (h.below hX) (o.s,o.n) (0,0) (by omega) (by omega)).mono ?_
  rintro e w' ⟨A5,n5,c5,B5,m5,k5,rfl,hd,-,-,hb⟩;rw[Zv] at hd;exact⟨A5,n5,c5,B5,m5,k5,_,rfl,hd,ue Vs (bp o),hb⟩)
 clear Ai sS Zv;have HO:=qh h;have Au:=qh hg;have zQ:=qh hS;have IW:=qh mZ;clear h hg hS mZ rZ lr ht;obtain⟨V,gV⟩:=ay (Vs.map vS);have Qb:Hid (V.length=n):=qh (by rw[←gV,Ρ];exact IW.out);rw[gV] at mY EI V7 ⊢;clear gV;obtain⟨R,gR⟩:=ay (jD (V,Es,G) (bp o));have HR:=qh gR;rw[gR];clear gR;go_enter Tryz.func15,Tryz.ntmps15;go_upto_region 1 with fail
 obtain⟨W0,b0,b1,b2,bP,bK,cX,dN,aN,aI,aV,a8,-,-,kQ,-,jK,-,bz,mj,oK,km⟩:=jN W 28 [γ A n c,γ B m k,γ C r rc] 36 (aa o) 28 [γ ε 0 0,γ ε 0 0,γ ε 0 0];rw[bP,dN,cX,bK];clear bP bK cX dN;refine Jam ?_;refine bw (ζ 9) rfl (by rfl) 36 (.tmp 3) rfl b1 rfl 36 (aa o) _ aI.out Tryz.underlying36 rfl (by kernel_rfl) ?_;simp only[ξ,aq,ak,ao]
 go_upto_region 2 with (first
  |(go_at_call 45
    refine(HM.out _).mono ?_
    rintro e w2 ⟨rfl,ar⟩;have kH:=qh (af a8.out ar);have eU:=qh (aN.out.bl ar);have fi:=qh (aI.out.bl ar);have eT:=qh (aV.out.bl ar);clear ar aN aI aV a8 HM))
 obtain⟨Wm,uQ⟩:=ay w2;rw[uQ] at kH eU fi eT ⊢;clear uQ;go_upto_region 4 with fail
 have eD:=eU.out.cell (i:=0) rfl;have eI:=eU.out.cell (i:=1) rfl;have eZ:=fi.out.cell (i:=1) rfl;have eV:=fi.out.cell (i:=2) rfl
 go_upto_region 5 with (first
  |(go_at_call 27
    refine(HV.out _ kH.out).mono ?_
    rintro e w2 ⟨rfl,ar⟩;have cy:=qh ar;clear ar eD eI eZ eV))
 have ar:=cy.out;have cY:=qh (aE (af kH.out ar) (δ #[J i1,J i2,γ rA rn bR,μ lb,J at_] 59));have a6:=qh ((eU.out.bl ar).al (δ #[J i1,J i2,γ rA rn bR,μ lb,J at_] 59));have a7:=qh ((fi.out.bl ar).al (δ #[J i1,J i2,γ rA rn bR,μ lb,J at_] 59));have az:=qh ((eT.out.bl ar).al (δ #[J i1,J i2,γ rA rn bR,μ lb,J at_] 59));have bh:=qh (Whole.new_ w2 59 [J i1,J i2,γ rA rn bR,μ lb,J at_]);have mg:Hid (W.heap.size≤w2.heap.size):=qh (af kH.out ar).size;have iY:Hid (b0≠w2.heap.size):=qh (by have:=(eU.out.bl ar).lt;omega);have iU:Hid (b1≠w2.heap.size):=qh (by have:=(fi.out.bl ar).lt;omega);have iX:Hid (b2≠w2.heap.size):=qh (by have:=(eT.out.bl ar).lt;omega);obtain⟨qT,cS⟩:=ay (w2.alloc (δ #[J i1,J i2,γ rA rn bR,μ lb,J at_] 59));obtain⟨b3,dk⟩:=ay w2.heap.size;rw[cS] at cY a6 a7 az bh ⊢;rw[dk] at bh mg iY iU iX ⊢;clear cS dk kH eU fi eT ar cy;clear HV;have k0:qT.cell? ⟨b1,0,ε⟩=ζ (J 2):=(a7.out.cell (i:=0) rfl).trans (by rw[Nq.out]);have k1:=bh.out.cell (i:=2) rfl;cases ok with
 |false=>
  obtain rfl:=(show jD (V,Es,G) (bp o)=(cp,13) from by unfold jD;rw[if_pos mY.out.symm]).symm.trans HR.out;have z0:=az.out.cell (i:=0) rfl;have z1:=az.out.cell (i:=1) rfl;have z2:=az.out.cell (i:=2) rfl;have y0:=az.out.free 0;have y1:=az.out.free 1;have y2:=az.out.free 2;go_wp2;exact aG rfl b2 rfl rfl (((az.out.set_ 0 (γ ε 0 0)).set_ 1 (γ ε 0 0)).set_ 2 (γ ε 0 0)) Tryz.underlying28 rfl (by kernel_rfl) rfl ⟨ε,0,0,ε,0,0,ε,0,0,[],rfl,eE _,rfl,aX.no _ _ _,((cY.out.setCell (p:=⟨b2,0,ε⟩) bz.out (γ ε 0 0)).setCell (p:=⟨b2,1,ε⟩) bz.out (γ ε 0 0)).setCell (p:=⟨b2,2,ε⟩) bz.out (γ ε 0 0)⟩
 |true=>
  by_cases h0:0<rn
  ·have ID:(0:Int)<(rn:Int):=by omega
   obtain rfl:=(show jD (V,Es,G) (bp o)=(cp,14) from by unfold jD;rw[if_neg (by rw[←mY.out];decide),if_pos (show ¬cL V (bp o)=[] from fun q=>by rw[←EI.out] at q;have:=Io.out;rw[q] at this;exact absurd this (by simp;omega))]).symm.trans HR.out;have z0:=az.out.cell (i:=0) rfl;have z1:=az.out.cell (i:=1) rfl;have z2:=az.out.cell (i:=2) rfl;have y0:=az.out.free 0;have y1:=az.out.free 1;have y2:=az.out.free 2;go_wp2;exact aG rfl b2 rfl rfl (((az.out.set_ 0 (γ ε 0 0)).set_ 1 (γ ε 0 0)).set_ 2 (γ ε 0 0)) Tryz.underlying28 rfl (by kernel_rfl) rfl ⟨ε,0,0,ε,0,0,ε,0,0,[],rfl,eE _,rfl,aX.no _ _ _,((cY.out.setCell (p:=⟨b2,0,ε⟩) bz.out (γ ε 0 0)).setCell (p:=⟨b2,1,ε⟩) bz.out (γ ε 0 0)).setCell (p:=⟨b2,2,ε⟩) bz.out (γ ε 0 0)⟩
  have ID:¬(0:Int)<(rn:Int):=by omega
  have vr:Hid (jD (V,Es,G) (bp o)=((dw V (bp o),(Es,G)),0)):=qh (by unfold jD;rw[if_neg (by rw[←mY.out];decide),if_neg (show ¬¬cL V (bp o)=[] from fun q=>q (by rw[←EI.out];exact List.eq_nil_of_length_eq_zero (by have:=Io.out;omega)))]);obtain rfl:=vr.out.symm.trans HR.out;go_upto_region 17 with fail
  clear k0 k1 ID;have Zw:∀w',Kept (fun b=>b=b2) qT.drew w'→w'.cell? ⟨b0,0,ε⟩=ζ (γ A n c):=fun w' h=>h.cell (a6.out.dr.cell (i:=0) rfl) oK.out
  have XX:∀w',Kept (fun b=>b=b2) qT.drew w'→w'.cell? ⟨b0,1,ε⟩=ζ (γ B m k):=fun w' h=>h.cell (a6.out.dr.cell (i:=1) rfl) oK.out
  have YW:∀w',Kept (fun b=>b=b2) qT.drew w'→w'.cell? ⟨b0,2,ε⟩=ζ (γ C r rc):=fun w' h=>h.cell (a6.out.dr.cell (i:=2) rfl) oK.out
  have Zu:∀w',Kept (fun b=>b=b2) qT.drew w'→w'.cell? ⟨b1,1,ε⟩=ζ (J o.s):=fun w' h=>h.cell (a7.out.dr.cell (i:=1) rfl) km.out
  have YL:∀w',Kept (fun b=>b=b2) qT.drew w'→w'.cell? ⟨b1,2,ε⟩=ζ (J o.n):=fun w' h=>h.cell (a7.out.dr.cell (i:=2) rfl) km.out
  refine aw (fun b=>b=b2) (by kernel_rfl) ?_;refine ag 0 ?_;refine ag 1 ?_;refine ag 2 ?_;refine ag 3 ?_;refine ag 4 ?_;refine ag 6 ?_;refine ag 7 ?_;refine sE 5 ?_;intro w' aB;have cR:=((Θ _ qT).drew.trans (aB.mono (Δ _)))
  refine(V7.out w' (af cY.out cR)).mono ?_
  rintro e w5 ⟨A2,n2,c2,B2,m2,k2,W2,rfl,hd,ri,hb⟩
  refine⟨_,rfl,Kept.of_below hb,?_⟩
  have Cf:=qh hd;have NO:=qh ri;have oR:=qh (af (af cY.out cR) hb);have Ge:=qh (Au.out.bl (af (af cY.out cR) hb));have rY:=qh ((az.out.bl cR).bl hb);clear aB cR hd ri hb;simp only[ξ,aq,ak,ao];refine ag 8 ?_;refine kI 9 ?_;intro w' aB
  refine⟨w'.setRow b2 #[γ A2 n2 c2,γ B2 m2 k2,γ C r rc],bn 28 (.tmp 4) (.tmp 62) rfl b2 rfl [γ A2 n2 c2,γ B2 m2 k2,γ C r rc] rfl 28 [γ ε 0 0,γ ε 0 0,γ ε 0 0] (rY.out.bl aB) (by kernel_rfl) rfl (by simp[Τ]),dV (S:=fun b=>b=b2) rfl _,?_⟩
  have uU:=qh (xC (Cf.out.bl aB) (rY.out.bl aB) (aZ (fun i=>by simp) (fun i=>by simp) (fun i=>by simp)) #[γ A2 n2 c2,γ B2 m2 k2,γ C r rc]);have Lg:=qh ((Ge.out.bl aB).row_far (oF (DQ (Ge.out.bl aB) (rY.out.bl aB) (aZ (fun i=>by simp) (fun i=>by simp) (fun i=>by simp)))) #[γ A2 n2 c2,γ B2 m2 k2,γ C r rc]);have zf:=qh (Whole.row (rY.out.bl aB) [γ A2 n2 c2,γ B2 m2 k2,γ C r rc]);have te:=qh (cC (af oR.out aB) bz.out #[γ A2 n2 c2,γ B2 m2 k2,γ C r rc]);obtain⟨V3,tL⟩:=ay (w'.setRow b2 #[γ A2 n2 c2,γ B2 m2 k2,γ C r rc]);rw[tL] at uU Lg zf te ⊢;clear aB tL Cf Ge rY oR;(try simp only[ξ,aq,ak,ao]);refine ag 10 ?_;refine aD (by kernel_rfl) ?_ _;intro wa EN;have rG:=qh (uU.out.bl EN);have Wf:=qh (Lg.out.bl EN);have Iy:=qh (zf.out.bl EN);have zk:=qh (af te.out EN);clear EN uU Lg zf te;go_wp2;exact aG rfl b2 rfl rfl Iy.out Tryz.underlying28 rfl (by kernel_rfl) rfl ⟨A2,n2,c2,B2,m2,k2,C,r,rc,W2,rfl,rG.out,NO.out,Wf.out,zk.out⟩
theorem KL {l:List D} (hn:l.Nodup) (x:D):rW l x=AF l x:=by
 rw[sB,hn.erase_eq_filter];unfold rW;refine List.filter_congr (fun y _=>?_)
 by_cases q:y=x<;>simp[q]
theorem wj.nd {V:List VS} (h:wj V) (x:Nm):(cL V x).Nodup:=by
 unfold cL;cases hf:V.find? (fun v=>decide (v.1=x)) with
 |none=>exact List.nodup_nil
 |some v=>
  obtain⟨a,b,e⟩:=List.append_of_mem (List.mem_of_find?_eq_some hf);have h1:=h.once;rw[e,List.flatMap_append,List.flatMap_cons] at h1;exact(JaL.1 (JaL.1 h1).2.1).1
theorem Jc {V:List VS} (h:wj V) (x:D):gQ V x=mr V x:=by
 unfold gQ mr;rw[KL (h.nd _)]
theorem My {S:SS} (h:e7 S) {x:Nm} (hx:bN S.2.1 x=true):gQ (gQ S.1 (aU x 0)) (aU x 1)=mr (mr S.1 (aU x 0)) (aU x 1):=by
 obtain⟨h0,h1⟩:=h.end_ hx;obtain⟨r1,m1⟩:=h.rg.rem h0;rw[Jc h.rg,Jc r1]
theorem aX.up_ {W X:ο} {C:Option Κ} {r rc:Nat} {G:List Gn} (h:aX W W.heap.size 6 C r rc (aj cB G)) (hX:σ W.heap.size W X):aX X X.heap.size 6 C r rc (aj cB G):=h.bl hX
theorem MT {W:ο} {A:Option Κ} {n c:Nat} {Vs:List VC} {B:Option Κ} {m k:Nat} {Es:List EC} {C:Option Κ} {r rc:Nat} {G:List Gn} (h:aR W A n c Vs B m k Es) (hg:aX W W.heap.size 6 C r rc (aj cB G)) (hS:fA (Vs.map vS,Es,G)) (o:cZ) (ht:o.t.size≤Jap):
 Ζ η 15 #[φ #[γ A n c,γ B m k,γ C r rc],φ (aa o).toArray] W (ew W (jJ (Vs.map vS,Es,G) o)):=by
 by_cases h0:ed o=0
 ·have e0:jJ (Vs.map vS,Es,G) o=cF (Vs.map vS,Es,G) o:=by unfold jJ;rw[if_pos h0]
  rw[e0];obtain⟨m1,m2,-,-⟩:=I7 h0
  by_cases k1:o.k=1
  ·have:=RC h hg hS o ht h0 k1
   unfold cF;rwa [if_pos k1]
  by_cases k2:o.k=2
  ·have:=RK h hg hS o ht h0 k2
   unfold cF;rwa [if_neg k1,if_pos k2]
  by_cases k3:o.k=3
  ·refine Rk h hg hS o ht h0 k3 _ (fun X hX=>?_);unfold cF;rw[if_neg k1,if_neg k2,if_pos k3];exact Kv (h.below hX) (hg.up_ hX) hS o m1
  by_cases k4:o.k=4
  ·refine QX h hg hS o ht h0 k4 _ (fun X hX=>?_);have mZ:Vs.length=n:=h.v.rlen aQ (by decide);have sS:Es.length=m:=h.e.rlen bF (by decide);have rZ:Vs.length≤24:=by have:=hS.v24;rwa [Ρ] at this
   have Ai:Es.length≤40:=hS.e40;have IB:∀y∈Vs,y.2.1.2.1≤80:=rr.to h hS.short
   have:=OH (h.below hX) (hg.up_ hX) (by omega) (by omega) (fun y hy=>by have:=IB y hy;omega) hS.g400 hS.gr (fun v hv e0=>by
    have h1:=tN (hS.vm v hv).1;rw[e0] at h1;exact absurd h1.1 (by decide)) o
   unfold cF wm;rw[if_neg k1,if_neg k2,if_neg k3,if_pos k4];cases hE:bN Es (o.s,o.n) with
   |false=>
    rw[hE,if_pos rfl] at this;rw[if_pos (show bN Es (bp o)=ρ from hE)];exact this
   |true=>
    rw[hE,if_neg (show ¬true=ρ by decide),My (S:=(Vs.map vS,Es,G)) hS.fit (x:=(o.s,o.n)) hE] at this;rw[if_neg (show ¬bN Es (bp o)=ρ by rw[show bN Es (bp o)=true from hE];decide)];exact this
  by_cases k5:o.k=5
  ·refine RB h hg hS o ht h0 k5 _ (fun X hX=>?_);unfold cF;rw[if_neg k1,if_neg k2,if_neg k3,if_neg k4,if_pos k5];refine FY (h.below hX) (hg.up_ hX) hS o ?_;unfold eW at m2;rw[if_neg (by omega),if_neg k3,if_pos k5,Jar,Jar] at m2;exact⟨(of_decide_eq_true m2.2).1,(of_decide_eq_true m2.2).2⟩
  by_cases k6:o.k=6
  ·refine PX h hg hS o ht h0 k6 _ (fun X hX=>?_);unfold cF;rw[if_neg k1,if_neg k2,if_neg k3,if_neg k4,if_neg k5,if_pos k6];exact Dn (h.below hX) (hg.up_ hX) hS o
  ·refine Qe h hg hS o ht h0 k1 k2 k3 k4 k5 k6 _ (fun X hX=>?_);unfold cF;rw[if_neg k1,if_neg k2,if_neg k3,if_neg k4,if_neg k5,if_neg k6];exact NI (h.below hX) (hg.up_ hX) hS o
 ·have e0:jJ (Vs.map vS,Es,G) o=(cp,ed o):=by unfold jJ;rw[if_neg h0]
  rw[e0];exact Q8 h hg hS o ht (ed o) h0 rfl
end Go.Proofs.YtpdpbfmiahjiiaaGreat
