/- Several texts in one. -/
import Derived.Test.YtpdpbfmiahjiiaaGreatPlAB
import Derived.Test.YtpdpbfmiahjiiaaGreatPlAN
import Derived.Test.YtpdpbfmiahjiiaaGreatPlAY
set_option linter.unusedSectionVars false
set_option linter.unusedSimpArgs false
set_option linter.unusedVariables false
set_option maxRecDepth 100000
set_option maxHeartbeats 16000000
namespace Go.Proofs.YtpdpbfmiahjiiaaGreat
open Go.RowKit
open _root_.Go.Value renaming slice→γ,string→μ,agg→φ,bool→Β,tuple→Ξ,oneCell'→Τ
open _root_.Go.Obj renaming cells→δ
open _root_.Option renaming none→ε,some→ζ
open _root_.Go.Proofs.Tryz renaming prog→η
open _root_.Go.Act renaming put→ξ
open _root_.Go renaming World→ο,Calls→Ζ,Addr→Κ,wp_region_lit→Jam,maxLen→Jap
open _root_.Bool renaming false→ρ,and_eq_true→Jar
open _root_.Go.RowKit renaming Below→σ
open _root_.Nat renaming le_refl→Δ
open _root_.Go.RowKit.Below renaming refl→Θ
open _root_.List renaming length_map→Ρ,nodup_append→JaL
open _root_.ByteArray renaming empty→Jaf
theorem ND {W:ο} {A:Option Κ} {n c:Nat} {Vs:List VC} {B:Option Κ} {m k:Nat} {Es:List EC} {C:Option Κ} {r rc:Nat} {G:List Gn} (h:aO W A n c Vs B m k Es) (hg:aS W W.heap.size 6 C r rc (ao cj G)) (hS:il (Vs.map vS,Es,G)) (o:cO) (ht:o.t.size≤Jap) (x:Int) (hx:x≠0) (kA:cW o=x):
 Ζ η 15 #[φ #[γ A n c,γ B m k,γ C r rc],φ (aa o).toArray] W (dH W (cC,x)):=by
 have lX:Vs.length=n:=h.v.rlen aN (by decide);have qM:Vs.length≤24:=by have:=hS.v24;rwa [Ρ] at this
 have HM:Hid (∀X,Ζ η 45 #[φ (aa o).toArray] X fun e w'=>e=.returned (J x)∧σ X.heap.size X w'):=qh (fun X=>by
  have:=fC o ht X
  rw[kA] at this;exact this)
 have HO:=qh h;have xJ:=qh hg;have yO:=qh hS;have Io:=qh lX;clear h hg hS lX qM kA ht;go_enter Tryz.func15,Tryz.ntmps15;go_upto_region 1 with fail
 obtain⟨W0,b0,b1,b2,bJ,bS,cJ,dA,aR,aQ,bj,bn,-,-,j4,-,fD,-,a8,kY,mJ,ni⟩:=jm W 28 [γ A n c,γ B m k,γ C r rc] 36 (aa o) 28 [γ ε 0 0,γ ε 0 0,γ ε 0 0];rw[bJ,dA,cJ,bS];clear bJ bS cJ dA;refine Jam ?_;refine bh (ζ 9) rfl (by rfl) 36 (.tmp 3) rfl b1 rfl 36 (aa o) _ aQ.out Tryz.underlying36 rfl (by kernel_rfl) ?_;simp only[ξ,ak,aj,ah]
 go_upto_region 2 with (first
  |(go_at_call 45
    refine(HM.out _).mono ?_
    rintro e w2 ⟨rfl,ar⟩;have jZ:=qh (af bn.out ar);have gG:=qh (aR.out.bl ar);have gW:=qh (aQ.out.bl ar);have fh:=qh (bj.out.bl ar);clear ar aR aQ bj bn HM))
 obtain⟨Wm,s8⟩:=az w2;rw[s8] at jZ gG gW fh ⊢;clear s8;have z0:=fh.out.cell (i:=0) rfl;have z1:=fh.out.cell (i:=1) rfl;have z2:=fh.out.cell (i:=2) rfl;have y0:=fh.out.free 0;have y1:=fh.out.free 1;have y2:=fh.out.free 2;go_wp2;exact aE rfl b2 rfl rfl (((fh.out.set_ 0 (γ ε 0 0)).set_ 1 (γ ε 0 0)).set_ 2 (γ ε 0 0)) Tryz.underlying28 rfl (by kernel_rfl) rfl ⟨ε,0,0,ε,0,0,ε,0,0,[],rfl,dM _,rfl,aS.no _ _ _,((jZ.out.setCell (p:=⟨b2,0,ε⟩) a8.out (γ ε 0 0)).setCell (p:=⟨b2,1,ε⟩) a8.out (γ ε 0 0)).setCell (p:=⟨b2,2,ε⟩) a8.out (γ ε 0 0)⟩
theorem Nj {W:ο} {A:Option Κ} {n c:Nat} {Vs:List VC} {B:Option Κ} {m k:Nat} {Es:List EC} {C:Option Κ} {r rc:Nat} {G:List Gn} (h:aO W A n c Vs B m k Es) (hg:aS W W.heap.size 6 C r rc (ao cj G)) (hS:il (Vs.map vS,Es,G)) (o:cO) (ht:o.t.size≤Jap) (kA:cW o=0) (hk:o.k=3) (R:SS × Int) (hK:∀X,σ W.heap.size W X→Ζ η 48 #[φ #[γ A n c,γ B m k,γ C r rc],φ (aa o).toArray] X (dH X R)):
 Ζ η 15 #[φ #[γ A n c,γ B m k,γ C r rc],φ (aa o).toArray] W (dH W R):=by
 have HK:=qh hK;clear hK;have Kd:=qh hk;clear hk;have lX:Vs.length=n:=h.v.rlen aN (by decide);have qM:Vs.length≤24:=by have:=hS.v24;rwa [Ρ] at this
 have HM:Hid (∀X,Ζ η 45 #[φ (aa o).toArray] X fun e w'=>e=.returned (J 0)∧σ X.heap.size X w'):=qh (fun X=>by
  have:=fC o ht X
  rw[kA] at this;exact this)
 have HV:Hid (∀X,σ W.heap.size W X→Ζ η 27 #[φ #[γ A n c,γ B m k],φ #[J o.s,J o.n]] X fun e w'=>e=.returned (Ξ #[φ (vC (aU Vs (o.s,o.n)).1).toArray,Β (aU Vs (o.s,o.n)).2])∧σ X.heap.size X w'):=qh (fun X hX=>fN A n c Vs B m k Es o.s o.n X (h.v.bl hX) (by omega));have iK:(aU Vs (o.s,o.n)).2=bH (Vs.map vS) (bC o):=(dh Vs (o.s,o.n)).1;have aW:(aU Vs (o.s,o.n)).1.2.1.2.2.2=ck (Vs.map vS) (bC o):=(dh Vs (o.s,o.n)).2
 have eV:RgOk W (aU Vs (o.s,o.n)).1.2.1:=by
  rcases fB (fun v:VC=>v.1) zV Vs (o.s,o.n) with h1|h1
  ·exact h.r _ h1
  ·rw[show(aU Vs (o.s,o.n))=(zV,ρ) from h1];exact⟨by decide,fj W _⟩
 obtain⟨⟨u,ok⟩,gv⟩:∃z,aU Vs (o.s,o.n)=z:=⟨_,rfl⟩
 rw[gv] at HV iK aW eV;obtain⟨⟨i1,i2⟩,⟨rA,rn,bE,rL⟩,lb,at_⟩:=u;replace HV:Hid (∀X,σ W.heap.size W X→Ζ η 27 #[φ #[γ A n c,γ B m k],φ #[J o.s,J o.n]] X fun e w'=>e=.returned (Ξ #[φ #[J i1,J i2,γ rA rn bE,μ lb,J at_],Β ok])∧σ X.heap.size X w'):=HV;dsimp only at iK aW eV;have jd:rL.length=rn:=by have:=eV.2.len;rw[bs] at this;dsimp only at this;omega
 have lJ:=qh iK;have BK:=qh aW;have Ez:=qh jd;have xa:n≤24:=by omega
 clear iK aW eV jd gv;have HO:=qh h;have xJ:=qh hg;have yO:=qh hS;have Io:=qh lX;clear h hg hS lX qM kA ht;go_enter Tryz.func15,Tryz.ntmps15;go_upto_region 1 with fail
 obtain⟨W0,b0,b1,b2,bJ,bS,cJ,dA,aR,aQ,bj,bn,-,-,j4,-,fD,-,a8,kY,mJ,ni⟩:=jm W 28 [γ A n c,γ B m k,γ C r rc] 36 (aa o) 28 [γ ε 0 0,γ ε 0 0,γ ε 0 0];rw[bJ,dA,cJ,bS];clear bJ bS cJ dA;refine Jam ?_;refine bh (ζ 9) rfl (by rfl) 36 (.tmp 3) rfl b1 rfl 36 (aa o) _ aQ.out Tryz.underlying36 rfl (by kernel_rfl) ?_;simp only[ξ,ak,aj,ah]
 go_upto_region 2 with (first
  |(go_at_call 45
    refine(HM.out _).mono ?_
    rintro e w2 ⟨rfl,ar⟩;have jZ:=qh (af bn.out ar);have gG:=qh (aR.out.bl ar);have gW:=qh (aQ.out.bl ar);have fh:=qh (bj.out.bl ar);clear ar aR aQ bj bn HM))
 obtain⟨Wm,s8⟩:=az w2;rw[s8] at jZ gG gW fh ⊢;clear s8;go_upto_region 4 with fail
 have dN:=gG.out.cell (i:=0) rfl;have dZ:=gG.out.cell (i:=1) rfl;have eG:=gW.out.cell (i:=1) rfl;have eJ:=gW.out.cell (i:=2) rfl
 go_upto_region 5 with (first
  |(go_at_call 27
    refine(HV.out _ jZ.out).mono ?_
    rintro e w2 ⟨rfl,ar⟩;have cX:=qh ar;clear ar dN dZ eG eJ))
 have ar:=cX.out;have cp:=qh (aF (af jZ.out ar) (δ #[J i1,J i2,γ rA rn bE,μ lb,J at_] 59));have aZ:=qh ((gG.out.bl ar).al (δ #[J i1,J i2,γ rA rn bE,μ lb,J at_] 59));have aY:=qh ((gW.out.bl ar).al (δ #[J i1,J i2,γ rA rn bE,μ lb,J at_] 59));have ay:=qh ((fh.out.bl ar).al (δ #[J i1,J i2,γ rA rn bE,μ lb,J at_] 59));have aX:=qh (Whole.new_ w2 59 [J i1,J i2,γ rA rn bE,μ lb,J at_]);have la:Hid (W.heap.size≤w2.heap.size):=qh (af jZ.out ar).size;have iC:Hid (b0≠w2.heap.size):=qh (by have:=(gG.out.bl ar).lt;omega);have iz:Hid (b1≠w2.heap.size):=qh (by have:=(gW.out.bl ar).lt;omega);have iB:Hid (b2≠w2.heap.size):=qh (by have:=(fh.out.bl ar).lt;omega);obtain⟨o9,di⟩:=az (w2.alloc (δ #[J i1,J i2,γ rA rn bE,μ lb,J at_] 59));obtain⟨b3,dD⟩:=az w2.heap.size;rw[di] at cp aZ aY ay aX ⊢;rw[dD] at aX la iC iz iB ⊢;clear di dD jZ gG gW fh ar cX;clear HV;have k0:o9.cell? ⟨b1,0,ε⟩=ζ (J 3):=(aY.out.cell (i:=0) rfl).trans (by rw[Kd.out]);go_upto_region 19 with fail
 clear k0;refine Jam ?_;refine bh (ζ 65) rfl (by rfl) 28 (.tmp 2) rfl b0 rfl 28 [γ A n c,γ B m k,γ C r rc] _ aZ.out Tryz.underlying28 rfl (by kernel_rfl) ?_;simp only[ξ,ak,aj,ah];refine bh (ζ 66) rfl (by rfl) 36 (.tmp 3) rfl b1 rfl 36 (aa o) _ aY.out Tryz.underlying36 rfl (by kernel_rfl) ?_;simp only[ξ,ak,aj,ah]
 go_wp2_with (first
  |(go_at_call 48
    refine(HK.out _ cp.out).mono ?_
    rintro e w2 ⟨A9,n9,c9,B9,m9,k9,C9,r9,pL,Aj,rfl,hd,pO,vQ,ar⟩;have z0:=(ay.out.bl ar).cell (i:=0) rfl;have z1:=(ay.out.bl ar).cell (i:=1) rfl;have z2:=(ay.out.bl ar).cell (i:=2) rfl;have y0:=(ay.out.bl ar).free 0;have y1:=(ay.out.bl ar).free 1;have y2:=(ay.out.bl ar).free 2;have HZ:=qh (ay.out.bl ar);have HD:=qh hd;have MX:=qh pO;have OJ:=qh vQ;have Il:=qh (af cp.out ar);clear hd pO vQ ar))
 have k0:=aP (a:=γ ε 0 0) (b:=γ ε 0 0) (d:=γ ε 0 0) (fun i=>by simp) (fun i=>by simp) (fun i=>by simp);have k1:=aP (a:=γ A9 n9 c9) (b:=γ ε 0 0) (d:=γ ε 0 0) (fun i=>by simp) (fun i=>by simp) (fun i=>by simp);have lZ:=aP (a:=γ A9 n9 c9) (b:=γ B9 m9 k9) (d:=γ ε 0 0) (fun i=>by simp) (fun i=>by simp) (fun i=>by simp);have s0:=HZ.out;have s1:=s0.set_ 0 (γ A9 n9 c9);have s2:=s1.set_ 1 (γ B9 m9 k9);exact aE rfl b2 rfl rfl (s2.set_ 2 (γ C9 r9 pL)) Tryz.underlying28 rfl (by kernel_rfl) rfl ⟨A9,n9,c9,B9,m9,k9,C9,r9,pL,Aj,rfl,bf (bf (bf HD.out s0 k0 0 _) s1 k1 1 _) s2 lZ 2 _,MX.out,bu (bu (bu OJ.out s0 k0 0 _) s1 k1 1 _) s2 lZ 2 _,((Il.out.setCell (p:=⟨b2,0,ε⟩) a8.out (γ A9 n9 c9)).setCell (p:=⟨b2,1,ε⟩) a8.out (γ B9 m9 k9)).setCell (p:=⟨b2,2,ε⟩) a8.out (γ C9 r9 pL)⟩
theorem M5 {W:ο} {A:Option Κ} {n c:Nat} {Vs:List VC} {B:Option Κ} {m k:Nat} {Es:List EC} {C:Option Κ} {r rc:Nat} {G:List Gn} (h:aO W A n c Vs B m k Es) (hg:aS W W.heap.size 6 C r rc (ao cj G)) (hS:il (Vs.map vS,Es,G)) (o:cO) (ht:o.t.size≤Jap) (kA:cW o=0) (hk:o.k=4) (R:SS × Int) (hK:∀X,σ W.heap.size W X→Ζ η 49 #[φ #[γ A n c,γ B m k,γ C r rc],φ (aa o).toArray] X (dH X R)):
 Ζ η 15 #[φ #[γ A n c,γ B m k,γ C r rc],φ (aa o).toArray] W (dH W R):=by
 have HK:=qh hK;clear hK;have Kd:=qh hk;clear hk;have lX:Vs.length=n:=h.v.rlen aN (by decide);have qM:Vs.length≤24:=by have:=hS.v24;rwa [Ρ] at this
 have HM:Hid (∀X,Ζ η 45 #[φ (aa o).toArray] X fun e w'=>e=.returned (J 0)∧σ X.heap.size X w'):=qh (fun X=>by
  have:=fC o ht X
  rw[kA] at this;exact this)
 have HV:Hid (∀X,σ W.heap.size W X→Ζ η 27 #[φ #[γ A n c,γ B m k],φ #[J o.s,J o.n]] X fun e w'=>e=.returned (Ξ #[φ (vC (aU Vs (o.s,o.n)).1).toArray,Β (aU Vs (o.s,o.n)).2])∧σ X.heap.size X w'):=qh (fun X hX=>fN A n c Vs B m k Es o.s o.n X (h.v.bl hX) (by omega));have iK:(aU Vs (o.s,o.n)).2=bH (Vs.map vS) (bC o):=(dh Vs (o.s,o.n)).1;have aW:(aU Vs (o.s,o.n)).1.2.1.2.2.2=ck (Vs.map vS) (bC o):=(dh Vs (o.s,o.n)).2
 have eV:RgOk W (aU Vs (o.s,o.n)).1.2.1:=by
  rcases fB (fun v:VC=>v.1) zV Vs (o.s,o.n) with h1|h1
  ·exact h.r _ h1
  ·rw[show(aU Vs (o.s,o.n))=(zV,ρ) from h1];exact⟨by decide,fj W _⟩
 obtain⟨⟨u,ok⟩,gv⟩:∃z,aU Vs (o.s,o.n)=z:=⟨_,rfl⟩
 rw[gv] at HV iK aW eV;obtain⟨⟨i1,i2⟩,⟨rA,rn,bE,rL⟩,lb,at_⟩:=u;replace HV:Hid (∀X,σ W.heap.size W X→Ζ η 27 #[φ #[γ A n c,γ B m k],φ #[J o.s,J o.n]] X fun e w'=>e=.returned (Ξ #[φ #[J i1,J i2,γ rA rn bE,μ lb,J at_],Β ok])∧σ X.heap.size X w'):=HV;dsimp only at iK aW eV;have jd:rL.length=rn:=by have:=eV.2.len;rw[bs] at this;dsimp only at this;omega
 have lJ:=qh iK;have BK:=qh aW;have Ez:=qh jd;have xa:n≤24:=by omega
 clear iK aW eV jd gv;have HO:=qh h;have xJ:=qh hg;have yO:=qh hS;have Io:=qh lX;clear h hg hS lX qM kA ht;go_enter Tryz.func15,Tryz.ntmps15;go_upto_region 1 with fail
 obtain⟨W0,b0,b1,b2,bJ,bS,cJ,dA,aR,aQ,bj,bn,-,-,j4,-,fD,-,a8,kY,mJ,ni⟩:=jm W 28 [γ A n c,γ B m k,γ C r rc] 36 (aa o) 28 [γ ε 0 0,γ ε 0 0,γ ε 0 0];rw[bJ,dA,cJ,bS];clear bJ bS cJ dA;refine Jam ?_;refine bh (ζ 9) rfl (by rfl) 36 (.tmp 3) rfl b1 rfl 36 (aa o) _ aQ.out Tryz.underlying36 rfl (by kernel_rfl) ?_;simp only[ξ,ak,aj,ah]
 go_upto_region 2 with (first
  |(go_at_call 45
    refine(HM.out _).mono ?_
    rintro e w2 ⟨rfl,ar⟩;have jZ:=qh (af bn.out ar);have gG:=qh (aR.out.bl ar);have gW:=qh (aQ.out.bl ar);have fh:=qh (bj.out.bl ar);clear ar aR aQ bj bn HM))
 obtain⟨Wm,s8⟩:=az w2;rw[s8] at jZ gG gW fh ⊢;clear s8;go_upto_region 4 with fail
 have dN:=gG.out.cell (i:=0) rfl;have dZ:=gG.out.cell (i:=1) rfl;have eG:=gW.out.cell (i:=1) rfl;have eJ:=gW.out.cell (i:=2) rfl
 go_upto_region 5 with (first
  |(go_at_call 27
    refine(HV.out _ jZ.out).mono ?_
    rintro e w2 ⟨rfl,ar⟩;have cX:=qh ar;clear ar dN dZ eG eJ))
 have ar:=cX.out;have cp:=qh (aF (af jZ.out ar) (δ #[J i1,J i2,γ rA rn bE,μ lb,J at_] 59));have aZ:=qh ((gG.out.bl ar).al (δ #[J i1,J i2,γ rA rn bE,μ lb,J at_] 59));have aY:=qh ((gW.out.bl ar).al (δ #[J i1,J i2,γ rA rn bE,μ lb,J at_] 59));have ay:=qh ((fh.out.bl ar).al (δ #[J i1,J i2,γ rA rn bE,μ lb,J at_] 59));have aX:=qh (Whole.new_ w2 59 [J i1,J i2,γ rA rn bE,μ lb,J at_]);have la:Hid (W.heap.size≤w2.heap.size):=qh (af jZ.out ar).size;have iC:Hid (b0≠w2.heap.size):=qh (by have:=(gG.out.bl ar).lt;omega);have iz:Hid (b1≠w2.heap.size):=qh (by have:=(gW.out.bl ar).lt;omega);have iB:Hid (b2≠w2.heap.size):=qh (by have:=(fh.out.bl ar).lt;omega);obtain⟨o9,di⟩:=az (w2.alloc (δ #[J i1,J i2,γ rA rn bE,μ lb,J at_] 59));obtain⟨b3,dD⟩:=az w2.heap.size;rw[di] at cp aZ aY ay aX ⊢;rw[dD] at aX la iC iz iB ⊢;clear di dD jZ gG gW fh ar cX;clear HV;have k0:o9.cell? ⟨b1,0,ε⟩=ζ (J 4):=(aY.out.cell (i:=0) rfl).trans (by rw[Kd.out]);go_upto_region 21 with fail
 clear k0;refine Jam ?_;refine bh (ζ 72) rfl (by rfl) 28 (.tmp 2) rfl b0 rfl 28 [γ A n c,γ B m k,γ C r rc] _ aZ.out Tryz.underlying28 rfl (by kernel_rfl) ?_;simp only[ξ,ak,aj,ah];refine bh (ζ 73) rfl (by rfl) 36 (.tmp 3) rfl b1 rfl 36 (aa o) _ aY.out Tryz.underlying36 rfl (by kernel_rfl) ?_;simp only[ξ,ak,aj,ah]
 go_wp2_with (first
  |(go_at_call 49
    refine(HK.out _ cp.out).mono ?_
    rintro e w2 ⟨A9,n9,c9,B9,m9,k9,C9,r9,pL,Aj,rfl,hd,pO,vQ,ar⟩;have z0:=(ay.out.bl ar).cell (i:=0) rfl;have z1:=(ay.out.bl ar).cell (i:=1) rfl;have z2:=(ay.out.bl ar).cell (i:=2) rfl;have y0:=(ay.out.bl ar).free 0;have y1:=(ay.out.bl ar).free 1;have y2:=(ay.out.bl ar).free 2;have HZ:=qh (ay.out.bl ar);have HD:=qh hd;have MX:=qh pO;have OJ:=qh vQ;have Il:=qh (af cp.out ar);clear hd pO vQ ar))
 have k0:=aP (a:=γ ε 0 0) (b:=γ ε 0 0) (d:=γ ε 0 0) (fun i=>by simp) (fun i=>by simp) (fun i=>by simp);have k1:=aP (a:=γ A9 n9 c9) (b:=γ ε 0 0) (d:=γ ε 0 0) (fun i=>by simp) (fun i=>by simp) (fun i=>by simp);have lZ:=aP (a:=γ A9 n9 c9) (b:=γ B9 m9 k9) (d:=γ ε 0 0) (fun i=>by simp) (fun i=>by simp) (fun i=>by simp);have s0:=HZ.out;have s1:=s0.set_ 0 (γ A9 n9 c9);have s2:=s1.set_ 1 (γ B9 m9 k9);exact aE rfl b2 rfl rfl (s2.set_ 2 (γ C9 r9 pL)) Tryz.underlying28 rfl (by kernel_rfl) rfl ⟨A9,n9,c9,B9,m9,k9,C9,r9,pL,Aj,rfl,bf (bf (bf HD.out s0 k0 0 _) s1 k1 1 _) s2 lZ 2 _,MX.out,bu (bu (bu OJ.out s0 k0 0 _) s1 k1 1 _) s2 lZ 2 _,((Il.out.setCell (p:=⟨b2,0,ε⟩) a8.out (γ A9 n9 c9)).setCell (p:=⟨b2,1,ε⟩) a8.out (γ B9 m9 k9)).setCell (p:=⟨b2,2,ε⟩) a8.out (γ C9 r9 pL)⟩
theorem Oz {W:ο} {A:Option Κ} {n c:Nat} {Vs:List VC} {B:Option Κ} {m k:Nat} {Es:List EC} {C:Option Κ} {r rc:Nat} {G:List Gn} (h:aO W A n c Vs B m k Es) (hg:aS W W.heap.size 6 C r rc (ao cj G)) (hS:il (Vs.map vS,Es,G)) (o:cO) (ht:o.t.size≤Jap) (kA:cW o=0) (hk:o.k=5) (R:SS × Int) (hK:∀X,σ W.heap.size W X→Ζ η 50 #[φ #[γ A n c,γ B m k,γ C r rc],φ (aa o).toArray] X (dH X R)):
 Ζ η 15 #[φ #[γ A n c,γ B m k,γ C r rc],φ (aa o).toArray] W (dH W R):=by
 have HK:=qh hK;clear hK;have Kd:=qh hk;clear hk;have lX:Vs.length=n:=h.v.rlen aN (by decide);have qM:Vs.length≤24:=by have:=hS.v24;rwa [Ρ] at this
 have HM:Hid (∀X,Ζ η 45 #[φ (aa o).toArray] X fun e w'=>e=.returned (J 0)∧σ X.heap.size X w'):=qh (fun X=>by
  have:=fC o ht X
  rw[kA] at this;exact this)
 have HV:Hid (∀X,σ W.heap.size W X→Ζ η 27 #[φ #[γ A n c,γ B m k],φ #[J o.s,J o.n]] X fun e w'=>e=.returned (Ξ #[φ (vC (aU Vs (o.s,o.n)).1).toArray,Β (aU Vs (o.s,o.n)).2])∧σ X.heap.size X w'):=qh (fun X hX=>fN A n c Vs B m k Es o.s o.n X (h.v.bl hX) (by omega));have iK:(aU Vs (o.s,o.n)).2=bH (Vs.map vS) (bC o):=(dh Vs (o.s,o.n)).1;have aW:(aU Vs (o.s,o.n)).1.2.1.2.2.2=ck (Vs.map vS) (bC o):=(dh Vs (o.s,o.n)).2
 have eV:RgOk W (aU Vs (o.s,o.n)).1.2.1:=by
  rcases fB (fun v:VC=>v.1) zV Vs (o.s,o.n) with h1|h1
  ·exact h.r _ h1
  ·rw[show(aU Vs (o.s,o.n))=(zV,ρ) from h1];exact⟨by decide,fj W _⟩
 obtain⟨⟨u,ok⟩,gv⟩:∃z,aU Vs (o.s,o.n)=z:=⟨_,rfl⟩
 rw[gv] at HV iK aW eV;obtain⟨⟨i1,i2⟩,⟨rA,rn,bE,rL⟩,lb,at_⟩:=u;replace HV:Hid (∀X,σ W.heap.size W X→Ζ η 27 #[φ #[γ A n c,γ B m k],φ #[J o.s,J o.n]] X fun e w'=>e=.returned (Ξ #[φ #[J i1,J i2,γ rA rn bE,μ lb,J at_],Β ok])∧σ X.heap.size X w'):=HV;dsimp only at iK aW eV;have jd:rL.length=rn:=by have:=eV.2.len;rw[bs] at this;dsimp only at this;omega
 have lJ:=qh iK;have BK:=qh aW;have Ez:=qh jd;have xa:n≤24:=by omega
 clear iK aW eV jd gv;have HO:=qh h;have xJ:=qh hg;have yO:=qh hS;have Io:=qh lX;clear h hg hS lX qM kA ht;go_enter Tryz.func15,Tryz.ntmps15;go_upto_region 1 with fail
 obtain⟨W0,b0,b1,b2,bJ,bS,cJ,dA,aR,aQ,bj,bn,-,-,j4,-,fD,-,a8,kY,mJ,ni⟩:=jm W 28 [γ A n c,γ B m k,γ C r rc] 36 (aa o) 28 [γ ε 0 0,γ ε 0 0,γ ε 0 0];rw[bJ,dA,cJ,bS];clear bJ bS cJ dA;refine Jam ?_;refine bh (ζ 9) rfl (by rfl) 36 (.tmp 3) rfl b1 rfl 36 (aa o) _ aQ.out Tryz.underlying36 rfl (by kernel_rfl) ?_;simp only[ξ,ak,aj,ah]
 go_upto_region 2 with (first
  |(go_at_call 45
    refine(HM.out _).mono ?_
    rintro e w2 ⟨rfl,ar⟩;have jZ:=qh (af bn.out ar);have gG:=qh (aR.out.bl ar);have gW:=qh (aQ.out.bl ar);have fh:=qh (bj.out.bl ar);clear ar aR aQ bj bn HM))
 obtain⟨Wm,s8⟩:=az w2;rw[s8] at jZ gG gW fh ⊢;clear s8;go_upto_region 4 with fail
 have dN:=gG.out.cell (i:=0) rfl;have dZ:=gG.out.cell (i:=1) rfl;have eG:=gW.out.cell (i:=1) rfl;have eJ:=gW.out.cell (i:=2) rfl
 go_upto_region 5 with (first
  |(go_at_call 27
    refine(HV.out _ jZ.out).mono ?_
    rintro e w2 ⟨rfl,ar⟩;have cX:=qh ar;clear ar dN dZ eG eJ))
 have ar:=cX.out;have cp:=qh (aF (af jZ.out ar) (δ #[J i1,J i2,γ rA rn bE,μ lb,J at_] 59));have aZ:=qh ((gG.out.bl ar).al (δ #[J i1,J i2,γ rA rn bE,μ lb,J at_] 59));have aY:=qh ((gW.out.bl ar).al (δ #[J i1,J i2,γ rA rn bE,μ lb,J at_] 59));have ay:=qh ((fh.out.bl ar).al (δ #[J i1,J i2,γ rA rn bE,μ lb,J at_] 59));have aX:=qh (Whole.new_ w2 59 [J i1,J i2,γ rA rn bE,μ lb,J at_]);have la:Hid (W.heap.size≤w2.heap.size):=qh (af jZ.out ar).size;have iC:Hid (b0≠w2.heap.size):=qh (by have:=(gG.out.bl ar).lt;omega);have iz:Hid (b1≠w2.heap.size):=qh (by have:=(gW.out.bl ar).lt;omega);have iB:Hid (b2≠w2.heap.size):=qh (by have:=(fh.out.bl ar).lt;omega);obtain⟨o9,di⟩:=az (w2.alloc (δ #[J i1,J i2,γ rA rn bE,μ lb,J at_] 59));obtain⟨b3,dD⟩:=az w2.heap.size;rw[di] at cp aZ aY ay aX ⊢;rw[dD] at aX la iC iz iB ⊢;clear di dD jZ gG gW fh ar cX;clear HV;have k0:o9.cell? ⟨b1,0,ε⟩=ζ (J 5):=(aY.out.cell (i:=0) rfl).trans (by rw[Kd.out]);go_upto_region 23 with fail
 clear k0;refine Jam ?_;refine bh (ζ 79) rfl (by rfl) 28 (.tmp 2) rfl b0 rfl 28 [γ A n c,γ B m k,γ C r rc] _ aZ.out Tryz.underlying28 rfl (by kernel_rfl) ?_;simp only[ξ,ak,aj,ah];refine bh (ζ 80) rfl (by rfl) 36 (.tmp 3) rfl b1 rfl 36 (aa o) _ aY.out Tryz.underlying36 rfl (by kernel_rfl) ?_;simp only[ξ,ak,aj,ah]
 go_wp2_with (first
  |(go_at_call 50
    refine(HK.out _ cp.out).mono ?_
    rintro e w2 ⟨A9,n9,c9,B9,m9,k9,C9,r9,pL,Aj,rfl,hd,pO,vQ,ar⟩;have z0:=(ay.out.bl ar).cell (i:=0) rfl;have z1:=(ay.out.bl ar).cell (i:=1) rfl;have z2:=(ay.out.bl ar).cell (i:=2) rfl;have y0:=(ay.out.bl ar).free 0;have y1:=(ay.out.bl ar).free 1;have y2:=(ay.out.bl ar).free 2;have HZ:=qh (ay.out.bl ar);have HD:=qh hd;have MX:=qh pO;have OJ:=qh vQ;have Il:=qh (af cp.out ar);clear hd pO vQ ar))
 have k0:=aP (a:=γ ε 0 0) (b:=γ ε 0 0) (d:=γ ε 0 0) (fun i=>by simp) (fun i=>by simp) (fun i=>by simp);have k1:=aP (a:=γ A9 n9 c9) (b:=γ ε 0 0) (d:=γ ε 0 0) (fun i=>by simp) (fun i=>by simp) (fun i=>by simp);have lZ:=aP (a:=γ A9 n9 c9) (b:=γ B9 m9 k9) (d:=γ ε 0 0) (fun i=>by simp) (fun i=>by simp) (fun i=>by simp);have s0:=HZ.out;have s1:=s0.set_ 0 (γ A9 n9 c9);have s2:=s1.set_ 1 (γ B9 m9 k9);exact aE rfl b2 rfl rfl (s2.set_ 2 (γ C9 r9 pL)) Tryz.underlying28 rfl (by kernel_rfl) rfl ⟨A9,n9,c9,B9,m9,k9,C9,r9,pL,Aj,rfl,bf (bf (bf HD.out s0 k0 0 _) s1 k1 1 _) s2 lZ 2 _,MX.out,bu (bu (bu OJ.out s0 k0 0 _) s1 k1 1 _) s2 lZ 2 _,((Il.out.setCell (p:=⟨b2,0,ε⟩) a8.out (γ A9 n9 c9)).setCell (p:=⟨b2,1,ε⟩) a8.out (γ B9 m9 k9)).setCell (p:=⟨b2,2,ε⟩) a8.out (γ C9 r9 pL)⟩
theorem MY {W:ο} {A:Option Κ} {n c:Nat} {Vs:List VC} {B:Option Κ} {m k:Nat} {Es:List EC} {C:Option Κ} {r rc:Nat} {G:List Gn} (h:aO W A n c Vs B m k Es) (hg:aS W W.heap.size 6 C r rc (ao cj G)) (hS:il (Vs.map vS,Es,G)) (o:cO) (ht:o.t.size≤Jap) (kA:cW o=0) (hk:o.k=6) (R:SS × Int) (hK:∀X,σ W.heap.size W X→Ζ η 51 #[φ #[γ A n c,γ B m k,γ C r rc],φ (aa o).toArray] X (dH X R)):
 Ζ η 15 #[φ #[γ A n c,γ B m k,γ C r rc],φ (aa o).toArray] W (dH W R):=by
 have HK:=qh hK;clear hK;have Kd:=qh hk;clear hk;have lX:Vs.length=n:=h.v.rlen aN (by decide);have qM:Vs.length≤24:=by have:=hS.v24;rwa [Ρ] at this
 have HM:Hid (∀X,Ζ η 45 #[φ (aa o).toArray] X fun e w'=>e=.returned (J 0)∧σ X.heap.size X w'):=qh (fun X=>by
  have:=fC o ht X
  rw[kA] at this;exact this)
 have HV:Hid (∀X,σ W.heap.size W X→Ζ η 27 #[φ #[γ A n c,γ B m k],φ #[J o.s,J o.n]] X fun e w'=>e=.returned (Ξ #[φ (vC (aU Vs (o.s,o.n)).1).toArray,Β (aU Vs (o.s,o.n)).2])∧σ X.heap.size X w'):=qh (fun X hX=>fN A n c Vs B m k Es o.s o.n X (h.v.bl hX) (by omega));have iK:(aU Vs (o.s,o.n)).2=bH (Vs.map vS) (bC o):=(dh Vs (o.s,o.n)).1;have aW:(aU Vs (o.s,o.n)).1.2.1.2.2.2=ck (Vs.map vS) (bC o):=(dh Vs (o.s,o.n)).2
 have eV:RgOk W (aU Vs (o.s,o.n)).1.2.1:=by
  rcases fB (fun v:VC=>v.1) zV Vs (o.s,o.n) with h1|h1
  ·exact h.r _ h1
  ·rw[show(aU Vs (o.s,o.n))=(zV,ρ) from h1];exact⟨by decide,fj W _⟩
 obtain⟨⟨u,ok⟩,gv⟩:∃z,aU Vs (o.s,o.n)=z:=⟨_,rfl⟩
 rw[gv] at HV iK aW eV;obtain⟨⟨i1,i2⟩,⟨rA,rn,bE,rL⟩,lb,at_⟩:=u;replace HV:Hid (∀X,σ W.heap.size W X→Ζ η 27 #[φ #[γ A n c,γ B m k],φ #[J o.s,J o.n]] X fun e w'=>e=.returned (Ξ #[φ #[J i1,J i2,γ rA rn bE,μ lb,J at_],Β ok])∧σ X.heap.size X w'):=HV;dsimp only at iK aW eV;have jd:rL.length=rn:=by have:=eV.2.len;rw[bs] at this;dsimp only at this;omega
 have lJ:=qh iK;have BK:=qh aW;have Ez:=qh jd;have xa:n≤24:=by omega
 clear iK aW eV jd gv;have HO:=qh h;have xJ:=qh hg;have yO:=qh hS;have Io:=qh lX;clear h hg hS lX qM kA ht;go_enter Tryz.func15,Tryz.ntmps15;go_upto_region 1 with fail
 obtain⟨W0,b0,b1,b2,bJ,bS,cJ,dA,aR,aQ,bj,bn,-,-,j4,-,fD,-,a8,kY,mJ,ni⟩:=jm W 28 [γ A n c,γ B m k,γ C r rc] 36 (aa o) 28 [γ ε 0 0,γ ε 0 0,γ ε 0 0];rw[bJ,dA,cJ,bS];clear bJ bS cJ dA;refine Jam ?_;refine bh (ζ 9) rfl (by rfl) 36 (.tmp 3) rfl b1 rfl 36 (aa o) _ aQ.out Tryz.underlying36 rfl (by kernel_rfl) ?_;simp only[ξ,ak,aj,ah]
 go_upto_region 2 with (first
  |(go_at_call 45
    refine(HM.out _).mono ?_
    rintro e w2 ⟨rfl,ar⟩;have jZ:=qh (af bn.out ar);have gG:=qh (aR.out.bl ar);have gW:=qh (aQ.out.bl ar);have fh:=qh (bj.out.bl ar);clear ar aR aQ bj bn HM))
 obtain⟨Wm,s8⟩:=az w2;rw[s8] at jZ gG gW fh ⊢;clear s8;go_upto_region 4 with fail
 have dN:=gG.out.cell (i:=0) rfl;have dZ:=gG.out.cell (i:=1) rfl;have eG:=gW.out.cell (i:=1) rfl;have eJ:=gW.out.cell (i:=2) rfl
 go_upto_region 5 with (first
  |(go_at_call 27
    refine(HV.out _ jZ.out).mono ?_
    rintro e w2 ⟨rfl,ar⟩;have cX:=qh ar;clear ar dN dZ eG eJ))
 have ar:=cX.out;have cp:=qh (aF (af jZ.out ar) (δ #[J i1,J i2,γ rA rn bE,μ lb,J at_] 59));have aZ:=qh ((gG.out.bl ar).al (δ #[J i1,J i2,γ rA rn bE,μ lb,J at_] 59));have aY:=qh ((gW.out.bl ar).al (δ #[J i1,J i2,γ rA rn bE,μ lb,J at_] 59));have ay:=qh ((fh.out.bl ar).al (δ #[J i1,J i2,γ rA rn bE,μ lb,J at_] 59));have aX:=qh (Whole.new_ w2 59 [J i1,J i2,γ rA rn bE,μ lb,J at_]);have la:Hid (W.heap.size≤w2.heap.size):=qh (af jZ.out ar).size;have iC:Hid (b0≠w2.heap.size):=qh (by have:=(gG.out.bl ar).lt;omega);have iz:Hid (b1≠w2.heap.size):=qh (by have:=(gW.out.bl ar).lt;omega);have iB:Hid (b2≠w2.heap.size):=qh (by have:=(fh.out.bl ar).lt;omega);obtain⟨o9,di⟩:=az (w2.alloc (δ #[J i1,J i2,γ rA rn bE,μ lb,J at_] 59));obtain⟨b3,dD⟩:=az w2.heap.size;rw[di] at cp aZ aY ay aX ⊢;rw[dD] at aX la iC iz iB ⊢;clear di dD jZ gG gW fh ar cX;clear HV;have k0:o9.cell? ⟨b1,0,ε⟩=ζ (J 6):=(aY.out.cell (i:=0) rfl).trans (by rw[Kd.out]);go_upto_region 25 with fail
 clear k0;refine Jam ?_;refine bh (ζ 86) rfl (by rfl) 28 (.tmp 2) rfl b0 rfl 28 [γ A n c,γ B m k,γ C r rc] _ aZ.out Tryz.underlying28 rfl (by kernel_rfl) ?_;simp only[ξ,ak,aj,ah];refine bh (ζ 87) rfl (by rfl) 36 (.tmp 3) rfl b1 rfl 36 (aa o) _ aY.out Tryz.underlying36 rfl (by kernel_rfl) ?_;simp only[ξ,ak,aj,ah]
 go_wp2_with (first
  |(go_at_call 51
    refine(HK.out _ cp.out).mono ?_
    rintro e w2 ⟨A9,n9,c9,B9,m9,k9,C9,r9,pL,Aj,rfl,hd,pO,vQ,ar⟩;have z0:=(ay.out.bl ar).cell (i:=0) rfl;have z1:=(ay.out.bl ar).cell (i:=1) rfl;have z2:=(ay.out.bl ar).cell (i:=2) rfl;have y0:=(ay.out.bl ar).free 0;have y1:=(ay.out.bl ar).free 1;have y2:=(ay.out.bl ar).free 2;have HZ:=qh (ay.out.bl ar);have HD:=qh hd;have MX:=qh pO;have OJ:=qh vQ;have Il:=qh (af cp.out ar);clear hd pO vQ ar))
 have k0:=aP (a:=γ ε 0 0) (b:=γ ε 0 0) (d:=γ ε 0 0) (fun i=>by simp) (fun i=>by simp) (fun i=>by simp);have k1:=aP (a:=γ A9 n9 c9) (b:=γ ε 0 0) (d:=γ ε 0 0) (fun i=>by simp) (fun i=>by simp) (fun i=>by simp);have lZ:=aP (a:=γ A9 n9 c9) (b:=γ B9 m9 k9) (d:=γ ε 0 0) (fun i=>by simp) (fun i=>by simp) (fun i=>by simp);have s0:=HZ.out;have s1:=s0.set_ 0 (γ A9 n9 c9);have s2:=s1.set_ 1 (γ B9 m9 k9);exact aE rfl b2 rfl rfl (s2.set_ 2 (γ C9 r9 pL)) Tryz.underlying28 rfl (by kernel_rfl) rfl ⟨A9,n9,c9,B9,m9,k9,C9,r9,pL,Aj,rfl,bf (bf (bf HD.out s0 k0 0 _) s1 k1 1 _) s2 lZ 2 _,MX.out,bu (bu (bu OJ.out s0 k0 0 _) s1 k1 1 _) s2 lZ 2 _,((Il.out.setCell (p:=⟨b2,0,ε⟩) a8.out (γ A9 n9 c9)).setCell (p:=⟨b2,1,ε⟩) a8.out (γ B9 m9 k9)).setCell (p:=⟨b2,2,ε⟩) a8.out (γ C9 r9 pL)⟩
theorem MZ {W:ο} {A:Option Κ} {n c:Nat} {Vs:List VC} {B:Option Κ} {m k:Nat} {Es:List EC} {C:Option Κ} {r rc:Nat} {G:List Gn} (h:aO W A n c Vs B m k Es) (hg:aS W W.heap.size 6 C r rc (ao cj G)) (hS:il (Vs.map vS,Es,G)) (o:cO) (ht:o.t.size≤Jap) (kA:cW o=0) (tR:¬o.k=1) (F4:¬o.k=2) (Np:¬o.k=3) (hk4:¬o.k=4) (DN:¬o.k=5) (hk6:¬o.k=6) (R:SS × Int) (hK:∀X,σ W.heap.size W X→Ζ η 52 #[φ #[γ A n c,γ B m k,γ C r rc],φ (aa o).toArray] X (dH X R)):
 Ζ η 15 #[φ #[γ A n c,γ B m k,γ C r rc],φ (aa o).toArray] W (dH W R):=by
 have HK:=qh hK;clear hK;have lX:Vs.length=n:=h.v.rlen aN (by decide);have qM:Vs.length≤24:=by have:=hS.v24;rwa [Ρ] at this
 have HM:Hid (∀X,Ζ η 45 #[φ (aa o).toArray] X fun e w'=>e=.returned (J 0)∧σ X.heap.size X w'):=qh (fun X=>by
  have:=fC o ht X
  rw[kA] at this;exact this)
 have HV:Hid (∀X,σ W.heap.size W X→Ζ η 27 #[φ #[γ A n c,γ B m k],φ #[J o.s,J o.n]] X fun e w'=>e=.returned (Ξ #[φ (vC (aU Vs (o.s,o.n)).1).toArray,Β (aU Vs (o.s,o.n)).2])∧σ X.heap.size X w'):=qh (fun X hX=>fN A n c Vs B m k Es o.s o.n X (h.v.bl hX) (by omega));have iK:(aU Vs (o.s,o.n)).2=bH (Vs.map vS) (bC o):=(dh Vs (o.s,o.n)).1;have aW:(aU Vs (o.s,o.n)).1.2.1.2.2.2=ck (Vs.map vS) (bC o):=(dh Vs (o.s,o.n)).2
 have eV:RgOk W (aU Vs (o.s,o.n)).1.2.1:=by
  rcases fB (fun v:VC=>v.1) zV Vs (o.s,o.n) with h1|h1
  ·exact h.r _ h1
  ·rw[show(aU Vs (o.s,o.n))=(zV,ρ) from h1];exact⟨by decide,fj W _⟩
 obtain⟨⟨u,ok⟩,gv⟩:∃z,aU Vs (o.s,o.n)=z:=⟨_,rfl⟩
 rw[gv] at HV iK aW eV;obtain⟨⟨i1,i2⟩,⟨rA,rn,bE,rL⟩,lb,at_⟩:=u;replace HV:Hid (∀X,σ W.heap.size W X→Ζ η 27 #[φ #[γ A n c,γ B m k],φ #[J o.s,J o.n]] X fun e w'=>e=.returned (Ξ #[φ #[J i1,J i2,γ rA rn bE,μ lb,J at_],Β ok])∧σ X.heap.size X w'):=HV;dsimp only at iK aW eV;have jd:rL.length=rn:=by have:=eV.2.len;rw[bs] at this;dsimp only at this;omega
 have lJ:=qh iK;have BK:=qh aW;have Ez:=qh jd;have xa:n≤24:=by omega
 clear iK aW eV jd gv;have HO:=qh h;have xJ:=qh hg;have yO:=qh hS;have Io:=qh lX;clear h hg hS lX qM kA ht;go_enter Tryz.func15,Tryz.ntmps15;go_upto_region 1 with fail
 obtain⟨W0,b0,b1,b2,bJ,bS,cJ,dA,aR,aQ,bj,bn,-,-,j4,-,fD,-,a8,kY,mJ,ni⟩:=jm W 28 [γ A n c,γ B m k,γ C r rc] 36 (aa o) 28 [γ ε 0 0,γ ε 0 0,γ ε 0 0];rw[bJ,dA,cJ,bS];clear bJ bS cJ dA;refine Jam ?_;refine bh (ζ 9) rfl (by rfl) 36 (.tmp 3) rfl b1 rfl 36 (aa o) _ aQ.out Tryz.underlying36 rfl (by kernel_rfl) ?_;simp only[ξ,ak,aj,ah]
 go_upto_region 2 with (first
  |(go_at_call 45
    refine(HM.out _).mono ?_
    rintro e w2 ⟨rfl,ar⟩;have jZ:=qh (af bn.out ar);have gG:=qh (aR.out.bl ar);have gW:=qh (aQ.out.bl ar);have fh:=qh (bj.out.bl ar);clear ar aR aQ bj bn HM))
 obtain⟨Wm,s8⟩:=az w2;rw[s8] at jZ gG gW fh ⊢;clear s8;go_upto_region 4 with fail
 have dN:=gG.out.cell (i:=0) rfl;have dZ:=gG.out.cell (i:=1) rfl;have eG:=gW.out.cell (i:=1) rfl;have eJ:=gW.out.cell (i:=2) rfl
 go_upto_region 5 with (first
  |(go_at_call 27
    refine(HV.out _ jZ.out).mono ?_
    rintro e w2 ⟨rfl,ar⟩;have cX:=qh ar;clear ar dN dZ eG eJ))
 have ar:=cX.out;have cp:=qh (aF (af jZ.out ar) (δ #[J i1,J i2,γ rA rn bE,μ lb,J at_] 59));have aZ:=qh ((gG.out.bl ar).al (δ #[J i1,J i2,γ rA rn bE,μ lb,J at_] 59));have aY:=qh ((gW.out.bl ar).al (δ #[J i1,J i2,γ rA rn bE,μ lb,J at_] 59));have ay:=qh ((fh.out.bl ar).al (δ #[J i1,J i2,γ rA rn bE,μ lb,J at_] 59));have aX:=qh (Whole.new_ w2 59 [J i1,J i2,γ rA rn bE,μ lb,J at_]);have la:Hid (W.heap.size≤w2.heap.size):=qh (af jZ.out ar).size;have iC:Hid (b0≠w2.heap.size):=qh (by have:=(gG.out.bl ar).lt;omega);have iz:Hid (b1≠w2.heap.size):=qh (by have:=(gW.out.bl ar).lt;omega);have iB:Hid (b2≠w2.heap.size):=qh (by have:=(fh.out.bl ar).lt;omega);obtain⟨o9,di⟩:=az (w2.alloc (δ #[J i1,J i2,γ rA rn bE,μ lb,J at_] 59));obtain⟨b3,dD⟩:=az w2.heap.size;rw[di] at cp aZ aY ay aX ⊢;rw[dD] at aX la iC iz iB ⊢;clear di dD jZ gG gW fh ar cX;clear HV;have k0:=aY.out.cell (i:=0) rfl;go_upto_region 26 with fail
 clear k0;refine Jam ?_;refine bh (ζ 91) rfl (by rfl) 28 (.tmp 2) rfl b0 rfl 28 [γ A n c,γ B m k,γ C r rc] _ aZ.out Tryz.underlying28 rfl (by kernel_rfl) ?_;simp only[ξ,ak,aj,ah];refine bh (ζ 92) rfl (by rfl) 36 (.tmp 3) rfl b1 rfl 36 (aa o) _ aY.out Tryz.underlying36 rfl (by kernel_rfl) ?_;simp only[ξ,ak,aj,ah]
 go_wp2_with (first
  |(go_at_call 52
    refine(HK.out _ cp.out).mono ?_
    rintro e w2 ⟨A9,n9,c9,B9,m9,k9,C9,r9,pL,Aj,rfl,hd,pO,vQ,ar⟩;have z0:=(ay.out.bl ar).cell (i:=0) rfl;have z1:=(ay.out.bl ar).cell (i:=1) rfl;have z2:=(ay.out.bl ar).cell (i:=2) rfl;have y0:=(ay.out.bl ar).free 0;have y1:=(ay.out.bl ar).free 1;have y2:=(ay.out.bl ar).free 2;have HZ:=qh (ay.out.bl ar);have HD:=qh hd;have MX:=qh pO;have OJ:=qh vQ;have Il:=qh (af cp.out ar);clear hd pO vQ ar))
 have k0:=aP (a:=γ ε 0 0) (b:=γ ε 0 0) (d:=γ ε 0 0) (fun i=>by simp) (fun i=>by simp) (fun i=>by simp);have k1:=aP (a:=γ A9 n9 c9) (b:=γ ε 0 0) (d:=γ ε 0 0) (fun i=>by simp) (fun i=>by simp) (fun i=>by simp);have lZ:=aP (a:=γ A9 n9 c9) (b:=γ B9 m9 k9) (d:=γ ε 0 0) (fun i=>by simp) (fun i=>by simp) (fun i=>by simp);have s0:=HZ.out;have s1:=s0.set_ 0 (γ A9 n9 c9);have s2:=s1.set_ 1 (γ B9 m9 k9);exact aE rfl b2 rfl rfl (s2.set_ 2 (γ C9 r9 pL)) Tryz.underlying28 rfl (by kernel_rfl) rfl ⟨A9,n9,c9,B9,m9,k9,C9,r9,pL,Aj,rfl,bf (bf (bf HD.out s0 k0 0 _) s1 k1 1 _) s2 lZ 2 _,MX.out,bu (bu (bu OJ.out s0 k0 0 _) s1 k1 1 _) s2 lZ 2 _,((Il.out.setCell (p:=⟨b2,0,ε⟩) a8.out (γ A9 n9 c9)).setCell (p:=⟨b2,1,ε⟩) a8.out (γ B9 m9 k9)).setCell (p:=⟨b2,2,ε⟩) a8.out (γ C9 r9 pL)⟩
theorem OA {W:ο} {A:Option Κ} {n c:Nat} {Vs:List VC} {B:Option Κ} {m k:Nat} {Es:List EC} {C:Option Κ} {r rc:Nat} {G:List Gn} (h:aO W A n c Vs B m k Es) (hg:aS W W.heap.size 6 C r rc (ao cj G)) (hS:il (Vs.map vS,Es,G)) (o:cO) (ht:o.t.size≤Jap) (kA:cW o=0) (hk:o.k=1):
 Ζ η 15 #[φ #[γ A n c,γ B m k,γ C r rc],φ (aa o).toArray] W (dH W (jk (Vs.map vS,Es,G) (bC o))):=by
 have Kd:=qh hk;clear hk;have lX:Vs.length=n:=h.v.rlen aN (by decide);have qM:Vs.length≤24:=by have:=hS.v24;rwa [Ρ] at this
 have HM:Hid (∀X,Ζ η 45 #[φ (aa o).toArray] X fun e w'=>e=.returned (J 0)∧σ X.heap.size X w'):=qh (fun X=>by
  have:=fC o ht X
  rw[kA] at this;exact this)
 have HV:Hid (∀X,σ W.heap.size W X→Ζ η 27 #[φ #[γ A n c,γ B m k],φ #[J o.s,J o.n]] X fun e w'=>e=.returned (Ξ #[φ (vC (aU Vs (o.s,o.n)).1).toArray,Β (aU Vs (o.s,o.n)).2])∧σ X.heap.size X w'):=qh (fun X hX=>fN A n c Vs B m k Es o.s o.n X (h.v.bl hX) (by omega));have iK:(aU Vs (o.s,o.n)).2=bH (Vs.map vS) (bC o):=(dh Vs (o.s,o.n)).1;have aW:(aU Vs (o.s,o.n)).1.2.1.2.2.2=ck (Vs.map vS) (bC o):=(dh Vs (o.s,o.n)).2
 have eV:RgOk W (aU Vs (o.s,o.n)).1.2.1:=by
  rcases fB (fun v:VC=>v.1) zV Vs (o.s,o.n) with h1|h1
  ·exact h.r _ h1
  ·rw[show(aU Vs (o.s,o.n))=(zV,ρ) from h1];exact⟨by decide,fj W _⟩
 obtain⟨⟨u,ok⟩,gv⟩:∃z,aU Vs (o.s,o.n)=z:=⟨_,rfl⟩
 rw[gv] at HV iK aW eV;obtain⟨⟨i1,i2⟩,⟨rA,rn,bE,rL⟩,lb,at_⟩:=u;replace HV:Hid (∀X,σ W.heap.size W X→Ζ η 27 #[φ #[γ A n c,γ B m k],φ #[J o.s,J o.n]] X fun e w'=>e=.returned (Ξ #[φ #[J i1,J i2,γ rA rn bE,μ lb,J at_],Β ok])∧σ X.heap.size X w'):=HV;dsimp only at iK aW eV;have jd:rL.length=rn:=by have:=eV.2.len;rw[bs] at this;dsimp only at this;omega
 have lJ:=qh iK;have BK:=qh aW;have Ez:=qh jd;have xa:n≤24:=by omega
 clear iK aW eV jd gv
 have TU:Hid (∀X,σ W.heap.size W X→Ζ η 46 #[φ #[γ A n c,γ B m k],φ #[J o.s,J o.n,γ ε 0 0,μ {data:=#[]},J 0]] X fun e w'=>∃A2 n2 c2 W2,e=.returned (φ #[γ A2 n2 c2,γ B m k])∧aO w' A2 n2 c2 W2 B m k Es∧W2.map vS=fQ (Vs.map vS) (bC o,[],Jaf,0)∧σ X.heap.size X w'):=qh (fun X hX=>by
  have hd:=h.below hX
  refine(xc hd ((o.s,o.n),(ε,0,0,[]),Jaf,0) (by omega)).mono ?_
  rintro e w' ⟨A2,n2,c2,rfl,zp,-,hb⟩
  refine⟨A2,n2,c2,_,rfl,⟨zp,hd.e.bl hb,fun x hx=>?_⟩,rh _ _,hb⟩
  rcases dL.1 hx with rfl|hx
  ·exact⟨Nat.zero_le _,fj _ _⟩
  ·exact⟨(hd.r x hx).1,(hd.r x hx).2.bl hb⟩)
 have HO:=qh h;have xJ:=qh hg;have yO:=qh hS;have Io:=qh lX;clear h hg hS lX qM kA ht;obtain⟨V,gV⟩:=az (Vs.map vS);have Nt:Hid (V.length=n):=qh (by rw[←gV,Ρ];exact Io.out);rw[gV] at lJ BK TU ⊢;clear gV;obtain⟨R,gR⟩:=az (jk (V,Es,G) (bC o));have HR:=qh gR;rw[gR];clear gR;go_enter Tryz.func15,Tryz.ntmps15;go_upto_region 1 with fail
 obtain⟨W0,b0,b1,b2,bJ,bS,cJ,dA,aR,aQ,bj,bn,-,-,j4,-,fD,-,a8,kY,mJ,ni⟩:=jm W 28 [γ A n c,γ B m k,γ C r rc] 36 (aa o) 28 [γ ε 0 0,γ ε 0 0,γ ε 0 0];rw[bJ,dA,cJ,bS];clear bJ bS cJ dA;refine Jam ?_;refine bh (ζ 9) rfl (by rfl) 36 (.tmp 3) rfl b1 rfl 36 (aa o) _ aQ.out Tryz.underlying36 rfl (by kernel_rfl) ?_;simp only[ξ,ak,aj,ah]
 go_upto_region 2 with (first
  |(go_at_call 45
    refine(HM.out _).mono ?_
    rintro e w2 ⟨rfl,ar⟩;have jZ:=qh (af bn.out ar);have gG:=qh (aR.out.bl ar);have gW:=qh (aQ.out.bl ar);have fh:=qh (bj.out.bl ar);clear ar aR aQ bj bn HM))
 obtain⟨Wm,s8⟩:=az w2;rw[s8] at jZ gG gW fh ⊢;clear s8;go_upto_region 4 with fail
 have dN:=gG.out.cell (i:=0) rfl;have dZ:=gG.out.cell (i:=1) rfl;have eG:=gW.out.cell (i:=1) rfl;have eJ:=gW.out.cell (i:=2) rfl
 go_upto_region 5 with (first
  |(go_at_call 27
    refine(HV.out _ jZ.out).mono ?_
    rintro e w2 ⟨rfl,ar⟩;have cX:=qh ar;clear ar dN dZ eG eJ))
 have ar:=cX.out;have cp:=qh (aF (af jZ.out ar) (δ #[J i1,J i2,γ rA rn bE,μ lb,J at_] 59));have aZ:=qh ((gG.out.bl ar).al (δ #[J i1,J i2,γ rA rn bE,μ lb,J at_] 59));have aY:=qh ((gW.out.bl ar).al (δ #[J i1,J i2,γ rA rn bE,μ lb,J at_] 59));have ay:=qh ((fh.out.bl ar).al (δ #[J i1,J i2,γ rA rn bE,μ lb,J at_] 59));have aX:=qh (Whole.new_ w2 59 [J i1,J i2,γ rA rn bE,μ lb,J at_]);have la:Hid (W.heap.size≤w2.heap.size):=qh (af jZ.out ar).size;have iC:Hid (b0≠w2.heap.size):=qh (by have:=(gG.out.bl ar).lt;omega);have iz:Hid (b1≠w2.heap.size):=qh (by have:=(gW.out.bl ar).lt;omega);have iB:Hid (b2≠w2.heap.size):=qh (by have:=(fh.out.bl ar).lt;omega);obtain⟨o9,di⟩:=az (w2.alloc (δ #[J i1,J i2,γ rA rn bE,μ lb,J at_] 59));obtain⟨b3,dD⟩:=az w2.heap.size;rw[di] at cp aZ aY ay aX ⊢;rw[dD] at aX la iC iz iB ⊢;clear di dD jZ gG gW fh ar cX;clear HV;have k0:o9.cell? ⟨b1,0,ε⟩=ζ (J 1):=(aY.out.cell (i:=0) rfl).trans (by rw[Kd.out]);have k1:=aZ.out.cell (i:=0) rfl;cases ok with
 |true=>
  obtain rfl:=(show jk (V,Es,G) (bC o)=(cC,12) from by unfold jk;rw[if_pos lJ.out.symm]).symm.trans HR.out;have z0:=ay.out.cell (i:=0) rfl;have z1:=ay.out.cell (i:=1) rfl;have z2:=ay.out.cell (i:=2) rfl;have y0:=ay.out.free 0;have y1:=ay.out.free 1;have y2:=ay.out.free 2;go_wp2;exact aE rfl b2 rfl rfl (((ay.out.set_ 0 (γ ε 0 0)).set_ 1 (γ ε 0 0)).set_ 2 (γ ε 0 0)) Tryz.underlying28 rfl (by kernel_rfl) rfl ⟨ε,0,0,ε,0,0,ε,0,0,[],rfl,dM _,rfl,aS.no _ _ _,((cp.out.setCell (p:=⟨b2,0,ε⟩) a8.out (γ ε 0 0)).setCell (p:=⟨b2,1,ε⟩) a8.out (γ ε 0 0)).setCell (p:=⟨b2,2,ε⟩) a8.out (γ ε 0 0)⟩
 |false=>
  by_cases qM:24≤n
  ·have LY:(24:Int)≤(n:Int):=by omega
   obtain rfl:=(show jk (V,Es,G) (bC o)=(cC,3) from by unfold jk;rw[if_neg (by rw[←lJ.out];decide),if_pos (by show 24≤V.length;rw[Nt.out];exact qM)]).symm.trans HR.out;have z0:=ay.out.cell (i:=0) rfl;have z1:=ay.out.cell (i:=1) rfl;have z2:=ay.out.cell (i:=2) rfl;have y0:=ay.out.free 0;have y1:=ay.out.free 1;have y2:=ay.out.free 2;go_wp2;exact aE rfl b2 rfl rfl (((ay.out.set_ 0 (γ ε 0 0)).set_ 1 (γ ε 0 0)).set_ 2 (γ ε 0 0)) Tryz.underlying28 rfl (by kernel_rfl) rfl ⟨ε,0,0,ε,0,0,ε,0,0,[],rfl,dM _,rfl,aS.no _ _ _,((cp.out.setCell (p:=⟨b2,0,ε⟩) a8.out (γ ε 0 0)).setCell (p:=⟨b2,1,ε⟩) a8.out (γ ε 0 0)).setCell (p:=⟨b2,2,ε⟩) a8.out (γ ε 0 0)⟩
  have LY:¬(24:Int)≤(n:Int):=by omega
  have tx:Hid (jk (V,Es,G) (bC o)=((fQ V (bC o,[],Jaf,0),(Es,G)),0)):=qh (by unfold jk;rw[if_neg (by rw[←lJ.out];decide),if_neg (by show ¬24≤V.length;rw[Nt.out];exact qM)]);obtain rfl:=tx.out.symm.trans HR.out;go_upto_region 11 with fail
  clear k0 k1 LY;have Vt:∀w',Kept (fun b=>b=b2) o9.drew w'→w'.cell? ⟨b0,0,ε⟩=ζ (γ A n c):=fun w' h=>h.cell (aZ.out.dr.cell (i:=0) rfl) mJ.out
  have US:∀w',Kept (fun b=>b=b2) o9.drew w'→w'.cell? ⟨b0,1,ε⟩=ζ (γ B m k):=fun w' h=>h.cell (aZ.out.dr.cell (i:=1) rfl) mJ.out
  have VL:∀w',Kept (fun b=>b=b2) o9.drew w'→w'.cell? ⟨b0,2,ε⟩=ζ (γ C r rc):=fun w' h=>h.cell (aZ.out.dr.cell (i:=2) rfl) mJ.out
  have WC:∀w',Kept (fun b=>b=b2) o9.drew w'→w'.cell? ⟨b1,1,ε⟩=ζ (J o.s):=fun w' h=>h.cell (aY.out.dr.cell (i:=1) rfl) ni.out
  have VM:∀w',Kept (fun b=>b=b2) o9.drew w'→w'.cell? ⟨b1,2,ε⟩=ζ (J o.n):=fun w' h=>h.cell (aY.out.dr.cell (i:=2) rfl) ni.out
  refine aw (fun b=>b=b2) (by kernel_rfl) ?_;refine aq 0 ?_;refine aq 1 ?_;refine aq 2 ?_;refine aq 3 ?_;refine aq 4 ?_;refine aq 6 ?_;refine aq 7 ?_;refine rU 5 ?_;intro w' aC;have cR:=((Θ _ o9).drew.trans (aC.mono (Δ _)))
  refine(TU.out w' (af cp.out cR)).mono ?_
  rintro e w5 ⟨A2,n2,c2,W2,rfl,hd,pO,hb⟩
  refine⟨_,rfl,Kept.of_below hb,?_⟩
  have zk:=qh hd;have Wi:=qh pO;have pH:=qh (af (af cp.out cR) hb);have CV:=qh (xJ.out.bl (af (af cp.out cR) hb));have og:=qh ((ay.out.bl cR).bl hb);clear aC cR hd pO hb;simp only[ξ,ak,aj,ah];refine aq 8 ?_;refine lp 9 ?_;intro w' aC
  refine⟨w'.setRow b2 #[γ A2 n2 c2,γ B m k,γ C r rc],cn 28 (.tmp 4) (.tmp 43) rfl b2 rfl [γ A2 n2 c2,γ B m k,γ C r rc] rfl 28 [γ ε 0 0,γ ε 0 0,γ ε 0 0] (og.out.bl aC) (by kernel_rfl) rfl (by simp[Τ]),eD (S:=fun b=>b=b2) rfl _,?_⟩
  have tz:=qh (sI (zk.out.bl aC) (og.out.bl aC) (aP (fun i=>by simp) (fun i=>by simp) (fun i=>by simp)) #[γ A2 n2 c2,γ B m k,γ C r rc]);have It:=qh ((CV.out.bl aC).row_far (lB (xr (CV.out.bl aC) (og.out.bl aC) (aP (fun i=>by simp) (fun i=>by simp) (fun i=>by simp)))) #[γ A2 n2 c2,γ B m k,γ C r rc]);have Ks:=qh (Whole.row (og.out.bl aC) [γ A2 n2 c2,γ B m k,γ C r rc]);have yB:=qh (eB (af pH.out aC) a8.out #[γ A2 n2 c2,γ B m k,γ C r rc]);obtain⟨V3,xi⟩:=az (w'.setRow b2 #[γ A2 n2 c2,γ B m k,γ C r rc]);rw[xi] at tz It Ks yB ⊢;clear aC xi zk CV og pH;(try simp only[ξ,ak,aj,ah]);refine aq 10 ?_;refine aG (by kernel_rfl) ?_ _;intro wa BN;have pU:=qh (tz.out.bl BN);have S5:=qh (It.out.bl BN);have UH:=qh (Ks.out.bl BN);have zq:=qh (af yB.out BN);clear BN tz It Ks yB;go_wp2;exact aE rfl b2 rfl rfl UH.out Tryz.underlying28 rfl (by kernel_rfl) rfl ⟨A2,n2,c2,B,m,k,C,r,rc,W2,rfl,pU.out,Wi.out,S5.out,zq.out⟩
theorem Od {W:ο} {A:Option Κ} {n c:Nat} {Vs:List VC} {B:Option Κ} {m k:Nat} {Es:List EC} {C:Option Κ} {r rc:Nat} {G:List Gn} (h:aO W A n c Vs B m k Es) (hg:aS W W.heap.size 6 C r rc (ao cj G)) (hS:il (Vs.map vS,Es,G)) (o:cO) (ht:o.t.size≤Jap) (kA:cW o=0) (hk:o.k=2):
 Ζ η 15 #[φ #[γ A n c,γ B m k,γ C r rc],φ (aa o).toArray] W (dH W (fX (Vs.map vS,Es,G) (bC o))):=by
 have Kd:=qh hk;clear hk;have lX:Vs.length=n:=h.v.rlen aN (by decide);have qM:Vs.length≤24:=by have:=hS.v24;rwa [Ρ] at this
 have HM:Hid (∀X,Ζ η 45 #[φ (aa o).toArray] X fun e w'=>e=.returned (J 0)∧σ X.heap.size X w'):=qh (fun X=>by
  have:=fC o ht X
  rw[kA] at this;exact this)
 have HV:Hid (∀X,σ W.heap.size W X→Ζ η 27 #[φ #[γ A n c,γ B m k],φ #[J o.s,J o.n]] X fun e w'=>e=.returned (Ξ #[φ (vC (aU Vs (o.s,o.n)).1).toArray,Β (aU Vs (o.s,o.n)).2])∧σ X.heap.size X w'):=qh (fun X hX=>fN A n c Vs B m k Es o.s o.n X (h.v.bl hX) (by omega));have iK:(aU Vs (o.s,o.n)).2=bH (Vs.map vS) (bC o):=(dh Vs (o.s,o.n)).1;have aW:(aU Vs (o.s,o.n)).1.2.1.2.2.2=ck (Vs.map vS) (bC o):=(dh Vs (o.s,o.n)).2
 have eV:RgOk W (aU Vs (o.s,o.n)).1.2.1:=by
  rcases fB (fun v:VC=>v.1) zV Vs (o.s,o.n) with h1|h1
  ·exact h.r _ h1
  ·rw[show(aU Vs (o.s,o.n))=(zV,ρ) from h1];exact⟨by decide,fj W _⟩
 obtain⟨⟨u,ok⟩,gv⟩:∃z,aU Vs (o.s,o.n)=z:=⟨_,rfl⟩
 rw[gv] at HV iK aW eV;obtain⟨⟨i1,i2⟩,⟨rA,rn,bE,rL⟩,lb,at_⟩:=u;replace HV:Hid (∀X,σ W.heap.size W X→Ζ η 27 #[φ #[γ A n c,γ B m k],φ #[J o.s,J o.n]] X fun e w'=>e=.returned (Ξ #[φ #[J i1,J i2,γ rA rn bE,μ lb,J at_],Β ok])∧σ X.heap.size X w'):=HV;dsimp only at iK aW eV;have jd:rL.length=rn:=by have:=eV.2.len;rw[bs] at this;dsimp only at this;omega
 have lJ:=qh iK;have BK:=qh aW;have Ez:=qh jd;have xa:n≤24:=by omega
 clear iK aW eV jd gv;have yw:Es.length≤40:=hS.e40;have qJ:Es.length=m:=h.e.rlen cM (by decide)
 have T6:fo (fun v:EC=>v.1) Es ((0,0):Nm)=Es:=List.filter_eq_self.2 (fun e he=>by
  have h1:=qP (hS.em e he).1;simp only[decide_eq_true_eq];intro e0;rw[e0] at h1;exact absurd h1.1 (by decide))
 have SJ:Hid (∀X,σ W.heap.size W X→Ζ η 47 #[φ #[γ A n c,γ B m k],φ #[J o.s,J o.n],φ #[J 0,J 0]] X fun e w'=>∃A1 n1 c1 B1 m1 k1 Ws,e=.returned (φ #[γ A1 n1 c1,γ B1 m1 k1])∧aO w' A1 n1 c1 Ws B1 m1 k1 Es∧Ws.map vS=cK (Vs.map vS) (bC o)∧σ X.heap.size X w'):=qh (fun X hX=>by
  refine(j8 (h.below hX) (o.s,o.n) (0,0) (by omega) (by omega)).mono ?_
  rintro e w' ⟨A5,n5,c5,B5,m5,k5,rfl,hd,-,-,hb⟩;rw[T6] at hd;exact⟨A5,n5,c5,B5,m5,k5,_,rfl,hd,sH Vs (bC o),hb⟩)
 clear yw qJ T6;have HO:=qh h;have xJ:=qh hg;have yO:=qh hS;have Io:=qh lX;clear h hg hS lX qM kA ht;obtain⟨V,gV⟩:=az (Vs.map vS);have Nt:Hid (V.length=n):=qh (by rw[←gV,Ρ];exact Io.out);rw[gV] at lJ BK SJ ⊢;clear gV;obtain⟨R,gR⟩:=az (fX (V,Es,G) (bC o));have HR:=qh gR;rw[gR];clear gR;go_enter Tryz.func15,Tryz.ntmps15;go_upto_region 1 with fail
 obtain⟨W0,b0,b1,b2,bJ,bS,cJ,dA,aR,aQ,bj,bn,-,-,j4,-,fD,-,a8,kY,mJ,ni⟩:=jm W 28 [γ A n c,γ B m k,γ C r rc] 36 (aa o) 28 [γ ε 0 0,γ ε 0 0,γ ε 0 0];rw[bJ,dA,cJ,bS];clear bJ bS cJ dA;refine Jam ?_;refine bh (ζ 9) rfl (by rfl) 36 (.tmp 3) rfl b1 rfl 36 (aa o) _ aQ.out Tryz.underlying36 rfl (by kernel_rfl) ?_;simp only[ξ,ak,aj,ah]
 go_upto_region 2 with (first
  |(go_at_call 45
    refine(HM.out _).mono ?_
    rintro e w2 ⟨rfl,ar⟩;have jZ:=qh (af bn.out ar);have gG:=qh (aR.out.bl ar);have gW:=qh (aQ.out.bl ar);have fh:=qh (bj.out.bl ar);clear ar aR aQ bj bn HM))
 obtain⟨Wm,s8⟩:=az w2;rw[s8] at jZ gG gW fh ⊢;clear s8;go_upto_region 4 with fail
 have dN:=gG.out.cell (i:=0) rfl;have dZ:=gG.out.cell (i:=1) rfl;have eG:=gW.out.cell (i:=1) rfl;have eJ:=gW.out.cell (i:=2) rfl
 go_upto_region 5 with (first
  |(go_at_call 27
    refine(HV.out _ jZ.out).mono ?_
    rintro e w2 ⟨rfl,ar⟩;have cX:=qh ar;clear ar dN dZ eG eJ))
 have ar:=cX.out;have cp:=qh (aF (af jZ.out ar) (δ #[J i1,J i2,γ rA rn bE,μ lb,J at_] 59));have aZ:=qh ((gG.out.bl ar).al (δ #[J i1,J i2,γ rA rn bE,μ lb,J at_] 59));have aY:=qh ((gW.out.bl ar).al (δ #[J i1,J i2,γ rA rn bE,μ lb,J at_] 59));have ay:=qh ((fh.out.bl ar).al (δ #[J i1,J i2,γ rA rn bE,μ lb,J at_] 59));have aX:=qh (Whole.new_ w2 59 [J i1,J i2,γ rA rn bE,μ lb,J at_]);have la:Hid (W.heap.size≤w2.heap.size):=qh (af jZ.out ar).size;have iC:Hid (b0≠w2.heap.size):=qh (by have:=(gG.out.bl ar).lt;omega);have iz:Hid (b1≠w2.heap.size):=qh (by have:=(gW.out.bl ar).lt;omega);have iB:Hid (b2≠w2.heap.size):=qh (by have:=(fh.out.bl ar).lt;omega);obtain⟨o9,di⟩:=az (w2.alloc (δ #[J i1,J i2,γ rA rn bE,μ lb,J at_] 59));obtain⟨b3,dD⟩:=az w2.heap.size;rw[di] at cp aZ aY ay aX ⊢;rw[dD] at aX la iC iz iB ⊢;clear di dD jZ gG gW fh ar cX;clear HV;have k0:o9.cell? ⟨b1,0,ε⟩=ζ (J 2):=(aY.out.cell (i:=0) rfl).trans (by rw[Kd.out]);have k1:=aX.out.cell (i:=2) rfl;cases ok with
 |false=>
  obtain rfl:=(show fX (V,Es,G) (bC o)=(cC,13) from by unfold fX;rw[if_pos lJ.out.symm]).symm.trans HR.out;have z0:=ay.out.cell (i:=0) rfl;have z1:=ay.out.cell (i:=1) rfl;have z2:=ay.out.cell (i:=2) rfl;have y0:=ay.out.free 0;have y1:=ay.out.free 1;have y2:=ay.out.free 2;go_wp2;exact aE rfl b2 rfl rfl (((ay.out.set_ 0 (γ ε 0 0)).set_ 1 (γ ε 0 0)).set_ 2 (γ ε 0 0)) Tryz.underlying28 rfl (by kernel_rfl) rfl ⟨ε,0,0,ε,0,0,ε,0,0,[],rfl,dM _,rfl,aS.no _ _ _,((cp.out.setCell (p:=⟨b2,0,ε⟩) a8.out (γ ε 0 0)).setCell (p:=⟨b2,1,ε⟩) a8.out (γ ε 0 0)).setCell (p:=⟨b2,2,ε⟩) a8.out (γ ε 0 0)⟩
 |true=>
  by_cases h0:0<rn
  ·have LY:(0:Int)<(rn:Int):=by omega
   obtain rfl:=(show fX (V,Es,G) (bC o)=(cC,14) from by unfold fX;rw[if_neg (by rw[←lJ.out];decide),if_pos (show ¬ck V (bC o)=[] from fun q=>by rw[←BK.out] at q;have:=Ez.out;rw[q] at this;exact absurd this (by simp;omega))]).symm.trans HR.out;have z0:=ay.out.cell (i:=0) rfl;have z1:=ay.out.cell (i:=1) rfl;have z2:=ay.out.cell (i:=2) rfl;have y0:=ay.out.free 0;have y1:=ay.out.free 1;have y2:=ay.out.free 2;go_wp2;exact aE rfl b2 rfl rfl (((ay.out.set_ 0 (γ ε 0 0)).set_ 1 (γ ε 0 0)).set_ 2 (γ ε 0 0)) Tryz.underlying28 rfl (by kernel_rfl) rfl ⟨ε,0,0,ε,0,0,ε,0,0,[],rfl,dM _,rfl,aS.no _ _ _,((cp.out.setCell (p:=⟨b2,0,ε⟩) a8.out (γ ε 0 0)).setCell (p:=⟨b2,1,ε⟩) a8.out (γ ε 0 0)).setCell (p:=⟨b2,2,ε⟩) a8.out (γ ε 0 0)⟩
  have LY:¬(0:Int)<(rn:Int):=by omega
  have tx:Hid (fX (V,Es,G) (bC o)=((cK V (bC o),(Es,G)),0)):=qh (by unfold fX;rw[if_neg (by rw[←lJ.out];decide),if_neg (show ¬¬ck V (bC o)=[] from fun q=>q (by rw[←BK.out];exact List.eq_nil_of_length_eq_zero (by have:=Ez.out;omega)))]);obtain rfl:=tx.out.symm.trans HR.out;go_upto_region 17 with fail
  clear k0 k1 LY;have Vt:∀w',Kept (fun b=>b=b2) o9.drew w'→w'.cell? ⟨b0,0,ε⟩=ζ (γ A n c):=fun w' h=>h.cell (aZ.out.dr.cell (i:=0) rfl) mJ.out
  have US:∀w',Kept (fun b=>b=b2) o9.drew w'→w'.cell? ⟨b0,1,ε⟩=ζ (γ B m k):=fun w' h=>h.cell (aZ.out.dr.cell (i:=1) rfl) mJ.out
  have VL:∀w',Kept (fun b=>b=b2) o9.drew w'→w'.cell? ⟨b0,2,ε⟩=ζ (γ C r rc):=fun w' h=>h.cell (aZ.out.dr.cell (i:=2) rfl) mJ.out
  have WC:∀w',Kept (fun b=>b=b2) o9.drew w'→w'.cell? ⟨b1,1,ε⟩=ζ (J o.s):=fun w' h=>h.cell (aY.out.dr.cell (i:=1) rfl) ni.out
  have VM:∀w',Kept (fun b=>b=b2) o9.drew w'→w'.cell? ⟨b1,2,ε⟩=ζ (J o.n):=fun w' h=>h.cell (aY.out.dr.cell (i:=2) rfl) ni.out
  refine aw (fun b=>b=b2) (by kernel_rfl) ?_;refine aq 0 ?_;refine aq 1 ?_;refine aq 2 ?_;refine aq 3 ?_;refine aq 4 ?_;refine aq 6 ?_;refine aq 7 ?_;refine rU 5 ?_;intro w' aC;have cR:=((Θ _ o9).drew.trans (aC.mono (Δ _)))
  refine(SJ.out w' (af cp.out cR)).mono ?_
  rintro e w5 ⟨A2,n2,c2,B2,m2,k2,W2,rfl,hd,pO,hb⟩
  refine⟨_,rfl,Kept.of_below hb,?_⟩
  have zk:=qh hd;have Wi:=qh pO;have pH:=qh (af (af cp.out cR) hb);have CV:=qh (xJ.out.bl (af (af cp.out cR) hb));have og:=qh ((ay.out.bl cR).bl hb);clear aC cR hd pO hb;simp only[ξ,ak,aj,ah];refine aq 8 ?_;refine lp 9 ?_;intro w' aC
  refine⟨w'.setRow b2 #[γ A2 n2 c2,γ B2 m2 k2,γ C r rc],cn 28 (.tmp 4) (.tmp 62) rfl b2 rfl [γ A2 n2 c2,γ B2 m2 k2,γ C r rc] rfl 28 [γ ε 0 0,γ ε 0 0,γ ε 0 0] (og.out.bl aC) (by kernel_rfl) rfl (by simp[Τ]),eD (S:=fun b=>b=b2) rfl _,?_⟩
  have tz:=qh (sI (zk.out.bl aC) (og.out.bl aC) (aP (fun i=>by simp) (fun i=>by simp) (fun i=>by simp)) #[γ A2 n2 c2,γ B2 m2 k2,γ C r rc]);have It:=qh ((CV.out.bl aC).row_far (lB (xr (CV.out.bl aC) (og.out.bl aC) (aP (fun i=>by simp) (fun i=>by simp) (fun i=>by simp)))) #[γ A2 n2 c2,γ B2 m2 k2,γ C r rc]);have Ks:=qh (Whole.row (og.out.bl aC) [γ A2 n2 c2,γ B2 m2 k2,γ C r rc]);have yB:=qh (eB (af pH.out aC) a8.out #[γ A2 n2 c2,γ B2 m2 k2,γ C r rc]);obtain⟨V3,xi⟩:=az (w'.setRow b2 #[γ A2 n2 c2,γ B2 m2 k2,γ C r rc]);rw[xi] at tz It Ks yB ⊢;clear aC xi zk CV og pH;(try simp only[ξ,ak,aj,ah]);refine aq 10 ?_;refine aG (by kernel_rfl) ?_ _;intro wa BN;have pU:=qh (tz.out.bl BN);have S5:=qh (It.out.bl BN);have UH:=qh (Ks.out.bl BN);have zq:=qh (af yB.out BN);clear BN tz It Ks yB;go_wp2;exact aE rfl b2 rfl rfl UH.out Tryz.underlying28 rfl (by kernel_rfl) rfl ⟨A2,n2,c2,B2,m2,k2,C,r,rc,W2,rfl,pU.out,Wi.out,S5.out,zq.out⟩
theorem FT {l:List D} (hn:l.Nodup) (x:D):kd l x=ft l x:=by
 rw[kW,hn.erase_eq_filter];unfold kd;refine List.filter_congr (fun y _=>?_)
 by_cases q:y=x<;>simp[q]
theorem vq.nd {V:List VS} (h:vq V) (x:Nm):(ck V x).Nodup:=by
 unfold ck;cases hf:V.find? (fun v=>decide (v.1=x)) with
 |none=>exact List.nodup_nil
 |some v=>
  obtain⟨a,b,e⟩:=List.append_of_mem (List.mem_of_find?_eq_some hf);have h1:=h.once;rw[e,List.flatMap_append,List.flatMap_cons] at h1;exact(JaL.1 (JaL.1 h1).2.1).1
theorem EW {V:List VS} (h:vq V) (x:D):fZ V x=dK V x:=by
 unfold fZ dK;rw[FT (h.nd _)]
theorem IT {S:SS} (h:eK S) {x:Nm} (hx:cx S.2.1 x=true):fZ (fZ S.1 (bg x 0)) (bg x 1)=dK (dK S.1 (bg x 0)) (bg x 1):=by
 obtain⟨h0,h1⟩:=h.end_ hx;obtain⟨r1,m1⟩:=h.rg.rem h0;rw[EW h.rg,EW r1]
theorem aS.up_ {W X:ο} {C:Option Κ} {r rc:Nat} {G:List Gn} (h:aS W W.heap.size 6 C r rc (ao cj G)) (hX:σ W.heap.size W X):aS X X.heap.size 6 C r rc (ao cj G):=h.bl hX
theorem LF {W:ο} {A:Option Κ} {n c:Nat} {Vs:List VC} {B:Option Κ} {m k:Nat} {Es:List EC} {C:Option Κ} {r rc:Nat} {G:List Gn} (h:aO W A n c Vs B m k Es) (hg:aS W W.heap.size 6 C r rc (ao cj G)) (hS:il (Vs.map vS,Es,G)) (o:cO) (ht:o.t.size≤Jap):
 Ζ η 15 #[φ #[γ A n c,γ B m k,γ C r rc],φ (aa o).toArray] W (dH W (lM (Vs.map vS,Es,G) o)):=by
 by_cases h0:cW o=0
 ·have e0:lM (Vs.map vS,Es,G) o=bO (Vs.map vS,Es,G) o:=by unfold lM;rw[if_pos h0]
  rw[e0];obtain⟨m1,m2,-,-⟩:=ET h0
  by_cases k1:o.k=1
  ·have:=OA h hg hS o ht h0 k1
   unfold bO;rwa [if_pos k1]
  by_cases k2:o.k=2
  ·have:=Od h hg hS o ht h0 k2
   unfold bO;rwa [if_neg k1,if_pos k2]
  by_cases k3:o.k=3
  ·refine Nj h hg hS o ht h0 k3 _ (fun X hX=>?_);unfold bO;rw[if_neg k1,if_neg k2,if_pos k3];exact Ib (h.below hX) (hg.up_ hX) hS o m1
  by_cases k4:o.k=4
  ·refine M5 h hg hS o ht h0 k4 _ (fun X hX=>?_);have lX:Vs.length=n:=h.v.rlen aN (by decide);have qJ:Es.length=m:=h.e.rlen cM (by decide);have qM:Vs.length≤24:=by have:=hS.v24;rwa [Ρ] at this
   have yw:Es.length≤40:=hS.e40;have FH:∀y∈Vs,y.2.1.2.1≤80:=rP.to h hS.short
   have:=Lc (h.below hX) (hg.up_ hX) (by omega) (by omega) (fun y hy=>by have:=FH y hy;omega) hS.g400 hS.gr (fun v hv e0=>by
    have h1:=qP (hS.vm v hv).1;rw[e0] at h1;exact absurd h1.1 (by decide)) o
   unfold bO iJ;rw[if_neg k1,if_neg k2,if_neg k3,if_pos k4];cases hE:cx Es (o.s,o.n) with
   |false=>
    rw[hE,if_pos rfl] at this;rw[if_pos (show cx Es (bC o)=ρ from hE)];exact this
   |true=>
    rw[hE,if_neg (show ¬true=ρ by decide),IT (S:=(Vs.map vS,Es,G)) hS.fit (x:=(o.s,o.n)) hE] at this;rw[if_neg (show ¬cx Es (bC o)=ρ by rw[show cx Es (bC o)=true from hE];decide)];exact this
  by_cases k5:o.k=5
  ·refine Oz h hg hS o ht h0 k5 _ (fun X hX=>?_);unfold bO;rw[if_neg k1,if_neg k2,if_neg k3,if_neg k4,if_pos k5];refine Du (h.below hX) (hg.up_ hX) hS o ?_;unfold eH at m2;rw[if_neg (by omega),if_neg k3,if_pos k5,Jar,Jar] at m2;exact⟨(of_decide_eq_true m2.2).1,(of_decide_eq_true m2.2).2⟩
  by_cases k6:o.k=6
  ·refine MY h hg hS o ht h0 k6 _ (fun X hX=>?_);unfold bO;rw[if_neg k1,if_neg k2,if_neg k3,if_neg k4,if_neg k5,if_pos k6];exact Az (h.below hX) (hg.up_ hX) hS o
  ·refine MZ h hg hS o ht h0 k1 k2 k3 k4 k5 k6 _ (fun X hX=>?_);unfold bO;rw[if_neg k1,if_neg k2,if_neg k3,if_neg k4,if_neg k5,if_neg k6];exact Kc (h.below hX) (hg.up_ hX) hS o
 ·have e0:lM (Vs.map vS,Es,G) o=(cC,cW o):=by unfold lM;rw[if_neg h0]
  rw[e0];exact ND h hg hS o ht (cW o) h0 rfl
end Go.Proofs.YtpdpbfmiahjiiaaGreat
