/- Several texts in one. -/
import Derived.Test.YtpdpbfmiahjiiaaGreatPlAB
import Derived.Test.YtpdpbfmiahjiiaaGreatPlAN
import Derived.Test.YtpdpbfmiahjiiaaGreatPlAR
set_option linter.unusedSectionVars false
set_option linter.unusedSimpArgs false
set_option linter.unusedVariables false
set_option maxRecDepth 100000
set_option maxHeartbeats 16000000
namespace Go.Proofs.YtpdpbfmiahjiiaaGreat
open Go.RowKit
open _root_.Go.Value renaming slice→γ,string→μ,agg→φ,bool→Β,tuple→Ξ,oneCell'→Τ
open _root_.Go.Obj renaming cells→δ
open _root_.Option renaming none→ε,some→ζ
open _root_.Go.Proofs.Tryz renaming prog→η
open _root_.Go.Act renaming put→ξ
open _root_.Go renaming World→ο,Value→ψ,Calls→Ζ,Addr→Κ,TypeId→Υ,maxLen→Jap
open _root_.Bool renaming false→ρ
open _root_.Go.RowKit renaming Below→σ
open _root_.List renaming mem_map→Α,length_append→Ε,mem_cons→Η,length_drop→Jaz,length_take→JaA,length_cons→JaH,not_mem_nil→Jbh
open _root_.Go.RowKit.Below renaming refl→Θ
open _root_.Nat renaming le_trans→Λ
open _root_.Option.some renaming inj→Μ
open _root_.And renaming intro→Jax
open _root_.Go.World renaming setCell→JbB
theorem fj (w:ο) (B:Nat):aS w B 3 ε 0 0 (aA []):=⟨by simp[aA,ao],fun _=>⟨rfl,rfl⟩,Nat.le_refl _,fun a ha=>(by cases ha),fun a ha=>(by cases ha)⟩
theorem Whole.sub_ {w:ο} {g:Nat} {t:Υ} {cs ds:List ψ} (h:Whole w g t cs) (o:Nat) {i:Nat} {u:ψ} (hu:ds[i]? =ζ u) (he:∀i u,ds[i]? =ζ u→cs[o+i]? =ζ u:=by intro i u h;rcases i with _|_|_|i<;>first|exact h|(simp at h)):w.cell? ((⟨g,o,ε⟩:Κ).add i)=ζ u:=by
 have:=h.cell (he i u hu)
 simpa only[Addr.add_lit] using this
theorem p6 {W:ο} {A:Option Κ} {n c:Nat} {Vs:List VC} {B:Option Κ} {m k:Nat} {Es:List EC} (h:aO W A n c Vs B m k Es) (hn:n≤1000) (hm:m≤1000) (hr:∀x∈Vs,x.2.1.2.1≤900000) (v1 v2 a1 a2 a3 d1 d2 d3:Int):
 Ζ η 74 #[φ #[γ A n c,γ B m k],φ #[J v1,J v2,J a1,J a2,J a3],φ #[J d1,J d2,J d3]] W (ik W n m (dw (Vs.map vS) ((v1,v2),(a1,a2,a3)) (d1,d2,d3)) Es):=by
 have HV:Hid (∀X,σ W.heap.size W X→Ζ η 27 #[φ #[γ A n c,γ B m k],φ #[J v1,J v2]] X fun e w'=>e=.returned (Ξ #[φ (vC (aU Vs (v1,v2)).1).toArray,Β (aU Vs (v1,v2)).2])∧σ X.heap.size X w'):=qh (fun X hX=>fN A n c Vs B m k Es v1 v2 X (h.v.bl hX) (by omega));have aW:=(dh Vs (v1,v2)).2
 have eV:RgOk W (aU Vs (v1,v2)).1.2.1∧(aU Vs (v1,v2)).1.2.1.2.1≤900000:=by
  rcases fB (fun v:VC=>v.1) zV Vs (v1,v2) with h1|h1
  ·exact⟨h.r _ h1,hr _ h1⟩
  ·rw[show(aU Vs (v1,v2))=(zV,ρ) from h1];exact⟨⟨by decide,fj W _⟩,by decide⟩
 obtain⟨⟨u,ok⟩,gu⟩:∃z,aU Vs (v1,v2)=z:=⟨_,rfl⟩
 rw[gu] at HV aW eV;obtain⟨⟨i1,i2⟩,⟨rA,rn,bE,rL⟩,lb,at_⟩:=u;replace HV:Hid (∀X,σ W.heap.size W X→Ζ η 27 #[φ #[γ A n c,γ B m k],φ #[J v1,J v2]] X fun e w'=>e=.returned (Ξ #[φ #[J i1,J i2,γ rA rn bE,μ lb,J at_],Β ok])∧σ X.heap.size X w'):=HV;obtain⟨eV,nP⟩:=eV;dsimp only at aW eV nP;have jd:rL.length=rn:=by have:=eV.2.len;rw[bs] at this;dsimp only at this;omega
 have HC:Hid (∀X,σ W.heap.size W X→Ζ η 100 #[γ rA rn bE,φ #[J a1,J a2,J a3],φ #[J d1,J d2,J d3]] X (qc X (aJ (lg rL (a1,a2,a3) (d1,d2,d3))))):=qh (fun X hX=>wS rA rn bE rL (a1,a2,a3) (d1,d2,d3) X (eV.2.bl hX) (by omega))
 have sw:(aJ (lg rL (a1,a2,a3) (d1,d2,d3))).length≤900001:=by
  rw[ee];unfold lg;split<;>(try simp only[Ε,JaH,JaA,Jaz])<;>omega
 have HP:Hid (bI (Vs.map vS) (v1,v2) (aJ (lg rL (a1,a2,a3) (d1,d2,d3)))=dw (Vs.map vS) ((v1,v2),(a1,a2,a3)) (d1,d2,d3)):=qh (by
  unfold dw;rw[←aW])
 obtain⟨L9,Im⟩:=az (aJ (lg rL (a1,a2,a3) (d1,d2,d3)));rw[Im] at HC HP sw;have HR:Hid (∀X A9 N9 c9,σ W.heap.size W X→N9=L9.length→RgOk X (A9,N9,c9,L9)→Ζ η 99 #[φ #[γ A n c,γ B m k],φ #[J v1,J v2],γ A9 N9 c9] X (ik X n m (bI (Vs.map vS) (v1,v2) L9) Es)):=qh (fun X A9 N9 c9 hX _ hR=>oX (h.below hX) hn hm (fun x hx=>by have:=hr x hx;omega) (v1,v2) (A9,N9,c9,L9) hR);rw[HP.out] at HR;obtain⟨P,gP⟩:=az (dw (Vs.map vS) ((v1,v2),(a1,a2,a3)) (d1,d2,d3));rw[gP] at HR ⊢;clear h hr gu aW eV nP Im HP gP jd sw;show Ζ _ _ _ _ fun e w'=>∃A' c' B' k' Ws,e=.returned (φ #[γ A' n c',γ B' m k'])∧aO w' A' n c' Ws B' m k' Es∧Ws.map vS=P∧(∀a,A'=ζ a→W.heap.size≤a.block)∧c'≤Jap∧k'≤Jap∧σ W.heap.size W w'
 go_enter Tryz.func74,Tryz.ntmps74;go_upto_region 1 with fail
 have kc:Whole ((((W.alloc (δ #[γ A n c,γ B m k] 25)).alloc (δ #[J v1,J v2,J a1,J a2,J a3] 34)).alloc (δ #[J d1,J d2,J d3] 32)).alloc (δ #[γ ε 0 0,γ ε 0 0] 25)) (W.heap.size) 25 [γ A n c,γ B m k]:=((((Whole.new_ W 25 [γ A n c,γ B m k]).al (δ #[J v1,J v2,J a1,J a2,J a3] 34)).al (δ #[J d1,J d2,J d3] 32)).al (δ #[γ ε 0 0,γ ε 0 0] 25));have kI:Whole ((((W.alloc (δ #[γ A n c,γ B m k] 25)).alloc (δ #[J v1,J v2,J a1,J a2,J a3] 34)).alloc (δ #[J d1,J d2,J d3] 32)).alloc (δ #[γ ε 0 0,γ ε 0 0] 25)) (W.heap.size+1) 34 [J v1,J v2,J a1,J a2,J a3]:=(((Whole.new2 (w:=(W.alloc (δ #[γ A n c,γ B m k] 25))) (cs:=[J v1,J v2,J a1,J a2,J a3]) (by simp)).al (δ #[J d1,J d2,J d3] 32)).al (δ #[γ ε 0 0,γ ε 0 0] 25));have qt:Whole ((((W.alloc (δ #[γ A n c,γ B m k] 25)).alloc (δ #[J v1,J v2,J a1,J a2,J a3] 34)).alloc (δ #[J d1,J d2,J d3] 32)).alloc (δ #[γ ε 0 0,γ ε 0 0] 25)) (W.heap.size+1+1) 32 [J d1,J d2,J d3]:=((Whole.new2 (w:=((W.alloc (δ #[γ A n c,γ B m k] 25)).alloc (δ #[J v1,J v2,J a1,J a2,J a3] 34))) (cs:=[J d1,J d2,J d3]) (by simp)).al (δ #[γ ε 0 0,γ ε 0 0] 25))
 have Fb:Whole ((((W.alloc (δ #[γ A n c,γ B m k] 25)).alloc (δ #[J v1,J v2,J a1,J a2,J a3] 34)).alloc (δ #[J d1,J d2,J d3] 32)).alloc (δ #[γ ε 0 0,γ ε 0 0] 25)) (W.heap.size+1+1+1) 25 [γ ε 0 0,γ ε 0 0]:=(Whole.new2 (w:=(((W.alloc (δ #[γ A n c,γ B m k] 25)).alloc (δ #[J v1,J v2,J a1,J a2,J a3] 34)).alloc (δ #[J d1,J d2,J d3] 32))) (cs:=[γ ε 0 0,γ ε 0 0]) (by simp));have nK:σ W.heap.size W ((((W.alloc (δ #[γ A n c,γ B m k] 25)).alloc (δ #[J v1,J v2,J a1,J a2,J a3] 34)).alloc (δ #[J d1,J d2,J d3] 32)).alloc (δ #[γ ε 0 0,γ ε 0 0] 25)):=(aF (aF (aF (ax W _) _) _) _);obtain⟨W0,bJ⟩:=az (((((W.alloc (δ #[γ A n c,γ B m k] 25)).alloc (δ #[J v1,J v2,J a1,J a2,J a3] 34)).alloc (δ #[J d1,J d2,J d3] 32)).alloc (δ #[γ ε 0 0,γ ε 0 0] 25)));rw[bJ] at kc kI qt Fb nK ⊢;obtain⟨b3,oR⟩:=az (W.heap.size+1+1+1);rw[oR] at Fb ⊢;obtain⟨b2,dA⟩:=az (W.heap.size+1+1);rw[dA] at qt ⊢;obtain⟨b1,cJ⟩:=az (W.heap.size+1);rw[cJ] at kI ⊢;obtain⟨b0,bS⟩:=az W.heap.size;rw[bS] at kc ⊢;have aR:=qh kc;have aQ:=qh kI;have bj:=qh qt
 have ff:=qh Fb;have bn:=qh nK;have j4:Hid (W.heap.size≤b0):=qh (by omega);have fD:Hid (W.heap.size≤b1):=qh (by omega);have a8:Hid (W.heap.size≤b2):=qh (by omega);have la:Hid (W.heap.size≤b3):=qh (by omega);have kY:Hid (b0≠b1):=qh (by omega);have mJ:Hid (b0≠b2):=qh (by omega);have N03:Hid (b0≠b3):=qh (by omega);have ni:Hid (b1≠b2):=qh (by omega);have N13:Hid (b1≠b3):=qh (by omega);have SI:Hid (b2≠b3):=qh (by omega);clear bJ nK kc kI qt Fb bS cJ dA oR;have x0:=aR.out.cell (i:=0) rfl;have x1:=aR.out.cell (i:=1) rfl;have y0:=aQ.out.cell (i:=0) rfl;have y1:=aQ.out.cell (i:=1) rfl;have y2:=aQ.out.cell (i:=2) rfl;have y3:=aQ.out.cell (i:=3) rfl;have y4:=aQ.out.cell (i:=4) rfl;have z0:=bj.out.cell (i:=0) rfl;have z1:=bj.out.cell (i:=1) rfl;have z2:=bj.out.cell (i:=2) rfl
 go_upto_region 2 with (first
  |(go_at_call 27
    refine(HV.out _ bn.out).mono ?_
    rintro e w2 ⟨rfl,ar⟩;have cX:=qh ar;clear ar x0 x1 y0 y1 y2 y3 y4 z0 z1 z2))
 have ar:=cX.out;have lQ:=qh (aF (af bn.out ar) (δ #[J i1,J i2,γ rA rn bE,μ lb,J at_] 59));have kh:=qh ((aR.out.bl ar).al (δ #[J i1,J i2,γ rA rn bE,μ lb,J at_] 59));have lh:=qh ((aQ.out.bl ar).al (δ #[J i1,J i2,γ rA rn bE,μ lb,J at_] 59));have jK:=qh ((bj.out.bl ar).al (δ #[J i1,J i2,γ rA rn bE,μ lb,J at_] 59));have Dr:=qh ((ff.out.bl ar).al (δ #[J i1,J i2,γ rA rn bE,μ lb,J at_] 59));have lD:=qh (Whole.new_ w2 59 [J i1,J i2,γ rA rn bE,μ lb,J at_]);obtain⟨Ga,di⟩:=az (w2.alloc (δ #[J i1,J i2,γ rA rn bE,μ lb,J at_] 59));obtain⟨b4,dD⟩:=az w2.heap.size;rw[di] at lQ lD kh lh jK Dr ⊢;rw[dD] at lD ⊢;clear di dD ar cX bn aR aQ bj ff HV;have B4:=dX (i:=2) lD.out rfl;refine bK (aT) [10] (by kernel_rfl) ?_;refine fw 0 (hy:=bG (by rfl) 25 (.tmp 3) rfl b0 rfl 25 [γ A n c,γ B m k] _ (fun w' h=>h.whole kh.out.dr (fun h=>h)) Tryz.underlying25 rfl (by kernel_rfl)) (h:=?_);refine bm 1 ?_;refine fw 2 (hy:=bA (by rfl) 30 (.tmp 17) rfl ⟨b1,0,ε⟩ rfl [J v1,J v2] _ (fun w' h i u hu=>(h.whole lh.out.dr (fun h=>h)).sub_ 0 hu) Tryz.underlying30 rfl (by kernel_rfl)) (h:=?_);refine bm 3 ?_;refine bm 4 ?_
 refine bm 5 ?_;refine fw 6 (hy:=bA (by rfl) 32 (.tmp 21) rfl ⟨b1,2,ε⟩ rfl [J a1,J a2,J a3] _ (fun w' h i u hu=>(h.whole lh.out.dr (fun h=>h)).sub_ 2 hu) Tryz.underlying32 rfl (by kernel_rfl)) (h:=?_);refine fw 7 (hy:=bG (by rfl) 32 (.tmp 5) rfl b2 rfl 32 [J d1,J d2,J d3] _ (fun w' h=>h.whole jK.out.dr (fun h=>h)) Tryz.underlying32 rfl (by kernel_rfl)) (h:=?_);refine kC 8 ?_;intro w' aC;have hx:=(Θ _ Ga).drew.trans aC
 refine(HC.out w' (af lQ.out hx)).mono ?_
 rintro e w9 ⟨A9,c9,rfl,mO,nM,Ik⟩
 refine⟨_,rfl,Kept.of_below nM,?_⟩
 have sy:Hid (σ Ga.heap.size Ga w9):=qh (Ext.trans hx nM);have pg:=qh mO;have Pt:=qh Ik;obtain⟨N9,FD⟩:=az L9.length;have Ki:=qh FD;rw[FD] at pg ⊢;clear hx aC mO nM Ik FD HC;simp only[ξ,ak,aj,ah];refine kC 9 ?_;intro w' aC;have hx:σ Ga.heap.size Ga w':=Ext.trans sy.out aC
 refine(HR.out w' A9 N9 c9 (af lQ.out hx) Ki.out.symm ⟨Pt.out,pg.out.bl aC⟩).mono ?_
 rintro e vG ⟨A5,c5,B5,k5,Ws,rfl,Iy,rK,yu,qH,DN,fF⟩
 refine⟨_,rfl,Kept.of_below fF,?_⟩
 have HD:=qh Iy;have HM:=qh rK;have HF:Hid (∀a,A5=ζ a→Ga.heap.size≤a.block):=qh (fun a ha=>Λ hx.size (yu a ha));have OV:=qh (Jax qH DN);have LC:Hid (σ Ga.heap.size Ga vG):=qh (Ext.trans hx fF);clear hx aC Iy rK yu qH DN fF sy pg Pt Ki HR;simp only[ξ,ak,aj,ah];refine lA 10 ?_;intro w' aC;have hx:σ Ga.heap.size Ga w':=Ext.trans LC.out aC;have hZ:=Dr.out.bl hx
 refine⟨w'.setCells b3 0 [γ A5 n c5,γ B5 m k5],ey 25 (.tmp 6) (.tmp 25) rfl b3 0 rfl [γ A5 n c5,γ B5 m k5] rfl (hZ.there_ 0 2 (by decide)) (by kernel_rfl) (by simp[Τ]),?_⟩
 have th:∀a,A5=ζ a→0<n→a.block≠b3:=fun a ha _=>by
  have h1:=HF.out a ha;have h2:=Dr.out.lt;omega
 have yy:Hid (aO (w'.setCells b3 0 [γ A5 n c5,γ B5 m k5]) A5 n c5 Ws B5 m k5 Es):=qh (lr (lr (HD.out.bl aC) (hZ.cell (i:=0) rfl) th _) ((hZ.set_ 0 _).cell (i:=1) rfl) th _);have CG:Hid (Whole (w'.setCells b3 0 [γ A5 n c5,γ B5 m k5]) b3 25 [γ A5 n c5,γ B5 m k5]):=qh ((hZ.set_ 0 (γ A5 n c5)).set_ 1 (γ B5 m k5));have jJ:Hid (σ W.heap.size W (w'.setCells b3 0 [γ A5 n c5,γ B5 m k5])):=qh (((af lQ.out hx).setCell (p:=⟨b3,0,ε⟩) la.out (γ A5 n c5)).setCell (p:=⟨b3,1,ε⟩) la.out (γ B5 m k5));obtain⟨V5,rb⟩:=az (w'.setCells b3 0 [γ A5 n c5,γ B5 m k5]);rw[rb] at yy CG jJ ⊢;have U4:Hid (∀a,A5=ζ a→W.heap.size≤a.block):=qh (fun a ha=>Λ lQ.out.size (HF.out a ha));clear rb aC hx hZ th HD LC HF;(try simp only[ξ,ak,aj,ah]);refine eU (by kernel_rfl) ?_ _;intro w8 ch;have zk:=qh (yy.out.bl ch);have og:=qh (CG.out.bl ch);have pH:=qh (af jJ.out ch);clear ch yy CG jJ;go_wp2;exact bz rfl b3 rfl og.out Tryz.underlying25 rfl (by kernel_rfl) rfl ⟨A5,c5,B5,k5,Ws,rfl,zk.out,HM.out,U4.out,OV.out.1,OV.out.2,pH.out⟩
theorem rG {W:ο} {A:Option Κ} {n c:Nat} {Vs:List VC} {B:Option Κ} {m k:Nat} {Es:List EC} (h:aO W A n c Vs B m k Es) (hn:n≤1000) (hm:m≤1000) (hr:∀x∈Vs,x.2.1.2.1≤900000) (a1 a2 a3 d1 d2 d3:Int):
 Ζ η 78 #[φ #[γ A n c,γ B m k],φ #[J a1,J a2,J a3],φ #[J d1,J d2,J d3]] W (ik W n m (dP (Vs.map vS) (a1,a2,a3) (d1,d2,d3)) Es):=by
 have wD:Hid (∀X,σ W.heap.size W X→Ζ η 29 #[φ #[γ A n c,γ B m k],φ #[J a1,J a2,J a3]] X fun e w'=>e=.returned (Ξ #[φ #[J (jl Vs (a1,a2,a3)).1.1,J (jl Vs (a1,a2,a3)).1.2],Β (jl Vs (a1,a2,a3)).2])∧σ X.heap.size X w'):=qh (fun X hX=>nv A n c Vs B m k Es a1 a2 a3 X (h.below hX) (by omega) (fun y hy=>by have:=hr y hy;omega));have BY:=congrArg (·.1) (Ag Vs (a1,a2,a3));dsimp only at BY;obtain⟨⟨⟨v1,v2⟩,st⟩,OP⟩:∃z,jl Vs (a1,a2,a3)=z:=⟨_,rfl⟩
 rw[OP] at wD BY;clear OP;have HV:Hid (∀X,σ W.heap.size W X→Ζ η 27 #[φ #[γ A n c,γ B m k],φ #[J v1,J v2]] X fun e w'=>e=.returned (Ξ #[φ (vC (aU Vs (v1,v2)).1).toArray,Β (aU Vs (v1,v2)).2])∧σ X.heap.size X w'):=qh (fun X hX=>fN A n c Vs B m k Es v1 v2 X (h.v.bl hX) (by omega));have aW:=(dh Vs (v1,v2)).2
 have eV:RgOk W (aU Vs (v1,v2)).1.2.1∧(aU Vs (v1,v2)).1.2.1.2.1≤900000:=by
  rcases fB (fun v:VC=>v.1) zV Vs (v1,v2) with h1|h1
  ·exact⟨h.r _ h1,hr _ h1⟩
  ·rw[show(aU Vs (v1,v2))=(zV,ρ) from h1];exact⟨⟨by decide,fj W _⟩,by decide⟩
 obtain⟨⟨u,ok⟩,gu⟩:∃z,aU Vs (v1,v2)=z:=⟨_,rfl⟩
 rw[gu] at HV aW eV;obtain⟨⟨i1,i2⟩,⟨rA,rn,bE,rL⟩,lb,at_⟩:=u;replace HV:Hid (∀X,σ W.heap.size W X→Ζ η 27 #[φ #[γ A n c,γ B m k],φ #[J v1,J v2]] X fun e w'=>e=.returned (Ξ #[φ #[J i1,J i2,γ rA rn bE,μ lb,J at_],Β ok])∧σ X.heap.size X w'):=HV;obtain⟨eV,nP⟩:=eV;dsimp only at aW eV nP;have jd:rL.length=rn:=by have:=eV.2.len;rw[bs] at this;dsimp only at this;omega
 have HC:Hid (∀X,σ W.heap.size W X→Ζ η 103 #[γ rA rn bE,φ #[J a1,J a2,J a3],φ #[J d1,J d2,J d3]] X (qc X (aJ (rj rL (a1,a2,a3) (d1,d2,d3))))):=qh (fun X hX=>CS rA rn bE rL (a1,a2,a3) (d1,d2,d3) X (eV.2.bl hX) (by omega))
 have sw:(aJ (rj rL (a1,a2,a3) (d1,d2,d3))).length≤900001:=by
  rw[ee];unfold rj;split<;>(try simp only[Ε,JaH,JaA,Jaz])<;>omega
 have HP:Hid (bI (Vs.map vS) (v1,v2) (aJ (rj rL (a1,a2,a3) (d1,d2,d3)))=dP (Vs.map vS) (a1,a2,a3) (d1,d2,d3)):=qh (by
  unfold dP;rw[←BY,←aW])
 obtain⟨L9,Im⟩:=az (aJ (rj rL (a1,a2,a3) (d1,d2,d3)));rw[Im] at HC HP sw;have HR:Hid (∀X A9 N9 c9,σ W.heap.size W X→N9=L9.length→RgOk X (A9,N9,c9,L9)→Ζ η 99 #[φ #[γ A n c,γ B m k],φ #[J v1,J v2],γ A9 N9 c9] X (ik X n m (bI (Vs.map vS) (v1,v2) L9) Es)):=qh (fun X A9 N9 c9 hX _ hR=>oX (h.below hX) hn hm (fun x hx=>by have:=hr x hx;omega) (v1,v2) (A9,N9,c9,L9) hR);rw[HP.out] at HR;obtain⟨P,gP⟩:=az (dP (Vs.map vS) (a1,a2,a3) (d1,d2,d3));rw[gP] at HR ⊢;clear h hr gu aW eV nP Im HP gP jd sw BY;show Ζ _ _ _ _ fun e w'=>∃A' c' B' k' Ws,e=.returned (φ #[γ A' n c',γ B' m k'])∧aO w' A' n c' Ws B' m k' Es∧Ws.map vS=P∧(∀a,A'=ζ a→W.heap.size≤a.block)∧c'≤Jap∧k'≤Jap∧σ W.heap.size W w'
 go_enter Tryz.func78,Tryz.ntmps78;go_upto_region 1 with fail
 have kc:Whole ((((W.alloc (δ #[γ A n c,γ B m k] 25)).alloc (δ #[J a1,J a2,J a3] 32)).alloc (δ #[J d1,J d2,J d3] 32)).alloc (δ #[γ ε 0 0,γ ε 0 0] 25)) (W.heap.size) 25 [γ A n c,γ B m k]:=((((Whole.new_ W 25 [γ A n c,γ B m k]).al (δ #[J a1,J a2,J a3] 32)).al (δ #[J d1,J d2,J d3] 32)).al (δ #[γ ε 0 0,γ ε 0 0] 25));have kI:Whole ((((W.alloc (δ #[γ A n c,γ B m k] 25)).alloc (δ #[J a1,J a2,J a3] 32)).alloc (δ #[J d1,J d2,J d3] 32)).alloc (δ #[γ ε 0 0,γ ε 0 0] 25)) (W.heap.size+1) 32 [J a1,J a2,J a3]:=(((Whole.new2 (w:=(W.alloc (δ #[γ A n c,γ B m k] 25))) (cs:=[J a1,J a2,J a3]) (by simp)).al (δ #[J d1,J d2,J d3] 32)).al (δ #[γ ε 0 0,γ ε 0 0] 25));have qt:Whole ((((W.alloc (δ #[γ A n c,γ B m k] 25)).alloc (δ #[J a1,J a2,J a3] 32)).alloc (δ #[J d1,J d2,J d3] 32)).alloc (δ #[γ ε 0 0,γ ε 0 0] 25)) (W.heap.size+1+1) 32 [J d1,J d2,J d3]:=((Whole.new2 (w:=((W.alloc (δ #[γ A n c,γ B m k] 25)).alloc (δ #[J a1,J a2,J a3] 32))) (cs:=[J d1,J d2,J d3]) (by simp)).al (δ #[γ ε 0 0,γ ε 0 0] 25))
 have Fb:Whole ((((W.alloc (δ #[γ A n c,γ B m k] 25)).alloc (δ #[J a1,J a2,J a3] 32)).alloc (δ #[J d1,J d2,J d3] 32)).alloc (δ #[γ ε 0 0,γ ε 0 0] 25)) (W.heap.size+1+1+1) 25 [γ ε 0 0,γ ε 0 0]:=(Whole.new2 (w:=(((W.alloc (δ #[γ A n c,γ B m k] 25)).alloc (δ #[J a1,J a2,J a3] 32)).alloc (δ #[J d1,J d2,J d3] 32))) (cs:=[γ ε 0 0,γ ε 0 0]) (by simp));have nK:σ W.heap.size W ((((W.alloc (δ #[γ A n c,γ B m k] 25)).alloc (δ #[J a1,J a2,J a3] 32)).alloc (δ #[J d1,J d2,J d3] 32)).alloc (δ #[γ ε 0 0,γ ε 0 0] 25)):=(aF (aF (aF (ax W _) _) _) _);obtain⟨W0,bJ⟩:=az (((((W.alloc (δ #[γ A n c,γ B m k] 25)).alloc (δ #[J a1,J a2,J a3] 32)).alloc (δ #[J d1,J d2,J d3] 32)).alloc (δ #[γ ε 0 0,γ ε 0 0] 25)));rw[bJ] at kc kI qt Fb nK ⊢;obtain⟨b3,oR⟩:=az (W.heap.size+1+1+1);rw[oR] at Fb ⊢;obtain⟨b2,dA⟩:=az (W.heap.size+1+1);rw[dA] at qt ⊢;obtain⟨b1,cJ⟩:=az (W.heap.size+1);rw[cJ] at kI ⊢;obtain⟨b0,bS⟩:=az W.heap.size;rw[bS] at kc ⊢;have aR:=qh kc;have aQ:=qh kI;have bj:=qh qt;have ff:=qh Fb;have bn:=qh nK;have j4:Hid (W.heap.size≤b0):=qh (by omega);have fD:Hid (W.heap.size≤b1):=qh (by omega)
 have a8:Hid (W.heap.size≤b2):=qh (by omega);have la:Hid (W.heap.size≤b3):=qh (by omega);have kY:Hid (b0≠b1):=qh (by omega);have mJ:Hid (b0≠b2):=qh (by omega);have N03:Hid (b0≠b3):=qh (by omega);have ni:Hid (b1≠b2):=qh (by omega);have N13:Hid (b1≠b3):=qh (by omega);have SI:Hid (b2≠b3):=qh (by omega);clear bJ nK kc kI qt Fb bS cJ dA oR;have x0:=aR.out.cell (i:=0) rfl;have x1:=aR.out.cell (i:=1) rfl;have y0:=aQ.out.cell (i:=0) rfl;have y1:=aQ.out.cell (i:=1) rfl;have y2:=aQ.out.cell (i:=2) rfl;have z0:=bj.out.cell (i:=0) rfl;have z1:=bj.out.cell (i:=1) rfl;have z2:=bj.out.cell (i:=2) rfl
 go_upto_region 2 with (first
  |(go_at_call 29
    refine(wD.out _ bn.out).mono ?_
    rintro e w2 ⟨rfl,ar⟩;have cX:=qh ar;clear ar x0 x1 y0 y1 y2 z0 z1 z2))
 have ar:=cX.out;have lQ:=qh (aF (af bn.out ar) (δ #[J v1,J v2] 30));have kh:=qh ((aR.out.bl ar).al (δ #[J v1,J v2] 30));have lh:=qh ((aQ.out.bl ar).al (δ #[J v1,J v2] 30));have jK:=qh ((bj.out.bl ar).al (δ #[J v1,J v2] 30));have Dr:=qh ((ff.out.bl ar).al (δ #[J v1,J v2] 30));have lD:=qh (Whole.new_ w2 30 [J v1,J v2]);obtain⟨Ga,di⟩:=az (w2.alloc (δ #[J v1,J v2] 30));obtain⟨b4,dD⟩:=az w2.heap.size;rw[di] at lQ lD kh lh jK Dr ⊢;rw[dD] at lD ⊢;clear di dD ar cX bn aR aQ bj ff wD;have x0:=kh.out.cell (i:=0) rfl;have x1:=kh.out.cell (i:=1) rfl;have y0:=lD.out.cell (i:=0) rfl;have y1:=lD.out.cell (i:=1) rfl
 go_upto_region 3 with (first
  |(go_at_call 27
    refine(HV.out _ lQ.out).mono ?_
    rintro e w2 ⟨rfl,ar⟩;have cX:=qh ar;clear ar x0 x1 y0 y1))
 have ar:=cX.out;have oM:=qh (aF (af lQ.out ar) (δ #[J i1,J i2,γ rA rn bE,μ lb,J at_] 59));have rB:=qh ((kh.out.bl ar).al (δ #[J i1,J i2,γ rA rn bE,μ lb,J at_] 59));have mq:=qh ((lh.out.bl ar).al (δ #[J i1,J i2,γ rA rn bE,μ lb,J at_] 59));have ou:=qh ((jK.out.bl ar).al (δ #[J i1,J i2,γ rA rn bE,μ lb,J at_] 59));have IM:=qh ((Dr.out.bl ar).al (δ #[J i1,J i2,γ rA rn bE,μ lb,J at_] 59));have yH:=qh ((lD.out.bl ar).al (δ #[J i1,J i2,γ rA rn bE,μ lb,J at_] 59));have qj:=qh (Whole.new_ w2 59 [J i1,J i2,γ rA rn bE,μ lb,J at_]);obtain⟨wB,di⟩:=az (w2.alloc (δ #[J i1,J i2,γ rA rn bE,μ lb,J at_] 59));obtain⟨b5,dD⟩:=az w2.heap.size;rw[di] at oM qj rB mq ou IM yH ⊢;rw[dD] at qj ⊢;clear di dD ar cX lQ kh lh jK Dr lD HV;have BZ:=dX (i:=2) qj.out rfl;refine bK (aT) [8] (by kernel_rfl) ?_;refine fw 0 (hy:=bG (by rfl) 25 (.tmp 3) rfl b0 rfl 25 [γ A n c,γ B m k] _ (fun w' h=>h.whole rB.out.dr (fun h=>h)) Tryz.underlying25 rfl (by kernel_rfl)) (h:=?_);refine fw 1 (hy:=bG (by rfl) 30 (.tmp 7) rfl b4 rfl 30 [J v1,J v2] _ (fun w' h=>h.whole yH.out.dr (fun h=>h)) Tryz.underlying30 rfl (by kernel_rfl)) (h:=?_)
 refine bm 2 ?_;refine bm 3 ?_;refine fw 4 (hy:=bG (by rfl) 32 (.tmp 4) rfl b1 rfl 32 [J a1,J a2,J a3] _ (fun w' h=>h.whole mq.out.dr (fun h=>h)) Tryz.underlying32 rfl (by kernel_rfl)) (h:=?_);refine fw 5 (hy:=bG (by rfl) 32 (.tmp 5) rfl b2 rfl 32 [J d1,J d2,J d3] _ (fun w' h=>h.whole ou.out.dr (fun h=>h)) Tryz.underlying32 rfl (by kernel_rfl)) (h:=?_);refine kC 6 ?_;intro w' aC;have hx:=(Θ _ wB).drew.trans aC
 refine(HC.out w' (af oM.out hx)).mono ?_
 rintro e w9 ⟨A9,c9,rfl,mO,nM,Ik⟩
 refine⟨_,rfl,Kept.of_below nM,?_⟩
 have sy:Hid (σ wB.heap.size wB w9):=qh (Ext.trans hx nM);have pg:=qh mO;have Pt:=qh Ik;obtain⟨N9,FD⟩:=az L9.length;have Ki:=qh FD;rw[FD] at pg ⊢;clear hx aC mO nM Ik FD HC;simp only[ξ,ak,aj,ah];refine kC 7 ?_;intro w' aC;have hx:σ wB.heap.size wB w':=Ext.trans sy.out aC
 refine(HR.out w' A9 N9 c9 (af oM.out hx) Ki.out.symm ⟨Pt.out,pg.out.bl aC⟩).mono ?_
 rintro e vG ⟨A5,c5,B5,k5,Ws,rfl,Iy,rK,yu,qH,DN,fF⟩
 refine⟨_,rfl,Kept.of_below fF,?_⟩
 have HD:=qh Iy;have HM:=qh rK;have HF:Hid (∀a,A5=ζ a→wB.heap.size≤a.block):=qh (fun a ha=>Λ hx.size (yu a ha));have OV:=qh (Jax qH DN);have LC:Hid (σ wB.heap.size wB vG):=qh (Ext.trans hx fF);clear hx aC Iy rK yu qH DN fF sy pg Pt Ki HR;simp only[ξ,ak,aj,ah];refine lA 8 ?_;intro w' aC;have hx:σ wB.heap.size wB w':=Ext.trans LC.out aC;have hZ:=IM.out.bl hx
 refine⟨w'.setCells b3 0 [γ A5 n c5,γ B5 m k5],ey 25 (.tmp 6) (.tmp 30) rfl b3 0 rfl [γ A5 n c5,γ B5 m k5] rfl (hZ.there_ 0 2 (by decide)) (by kernel_rfl) (by simp[Τ]),?_⟩
 have th:∀a,A5=ζ a→0<n→a.block≠b3:=fun a ha _=>by
  have h1:=HF.out a ha;have h2:=IM.out.lt;omega
 have yy:Hid (aO (w'.setCells b3 0 [γ A5 n c5,γ B5 m k5]) A5 n c5 Ws B5 m k5 Es):=qh (lr (lr (HD.out.bl aC) (hZ.cell (i:=0) rfl) th _) ((hZ.set_ 0 _).cell (i:=1) rfl) th _);have CG:Hid (Whole (w'.setCells b3 0 [γ A5 n c5,γ B5 m k5]) b3 25 [γ A5 n c5,γ B5 m k5]):=qh ((hZ.set_ 0 (γ A5 n c5)).set_ 1 (γ B5 m k5));have jJ:Hid (σ W.heap.size W (w'.setCells b3 0 [γ A5 n c5,γ B5 m k5])):=qh (((af oM.out hx).setCell (p:=⟨b3,0,ε⟩) la.out (γ A5 n c5)).setCell (p:=⟨b3,1,ε⟩) la.out (γ B5 m k5));obtain⟨V5,rb⟩:=az (w'.setCells b3 0 [γ A5 n c5,γ B5 m k5]);rw[rb] at yy CG jJ ⊢;have U4:Hid (∀a,A5=ζ a→W.heap.size≤a.block):=qh (fun a ha=>Λ oM.out.size (HF.out a ha));clear rb aC hx hZ th HD LC HF;(try simp only[ξ,ak,aj,ah]);refine eU (by kernel_rfl) ?_ _;intro w8 ch;have zk:=qh (yy.out.bl ch);have og:=qh (CG.out.bl ch);have pH:=qh (af jJ.out ch);clear ch yy CG jJ;go_wp2;exact bz rfl b3 rfl og.out Tryz.underlying25 rfl (by kernel_rfl) rfl ⟨A5,c5,B5,k5,Ws,rfl,zk.out,HM.out,U4.out,OV.out.1,OV.out.2,pH.out⟩
theorem rl {W:ο} {A:Option Κ} {n c:Nat} {Vs:List VC} {B:Option Κ} {m k:Nat} {Es:List EC} (h:aO W A n c Vs B m k Es) (hn:n≤1000) (hm:m≤1000) (hr:∀x∈Vs,x.2.1.2.1≤900000) (a1 a2 a3:Int):
 Ζ η 77 #[φ #[γ A n c,γ B m k],φ #[J a1,J a2,J a3]] W (ik W n m (bI (Vs.map vS) (uq (Vs.map vS) (a1,a2,a3)) (aJ (kd (ck (Vs.map vS) (uq (Vs.map vS) (a1,a2,a3))) (a1,a2,a3)))) Es):=by
 have wD:Hid (∀X,σ W.heap.size W X→Ζ η 29 #[φ #[γ A n c,γ B m k],φ #[J a1,J a2,J a3]] X fun e w'=>e=.returned (Ξ #[φ #[J (jl Vs (a1,a2,a3)).1.1,J (jl Vs (a1,a2,a3)).1.2],Β (jl Vs (a1,a2,a3)).2])∧σ X.heap.size X w'):=qh (fun X hX=>nv A n c Vs B m k Es a1 a2 a3 X (h.below hX) (by omega) (fun y hy=>by have:=hr y hy;omega));have BY:=congrArg (·.1) (Ag Vs (a1,a2,a3));dsimp only at BY;obtain⟨⟨⟨v1,v2⟩,st⟩,OP⟩:∃z,jl Vs (a1,a2,a3)=z:=⟨_,rfl⟩
 rw[OP] at wD BY;clear OP;have HV:Hid (∀X,σ W.heap.size W X→Ζ η 27 #[φ #[γ A n c,γ B m k],φ #[J v1,J v2]] X fun e w'=>e=.returned (Ξ #[φ (vC (aU Vs (v1,v2)).1).toArray,Β (aU Vs (v1,v2)).2])∧σ X.heap.size X w'):=qh (fun X hX=>fN A n c Vs B m k Es v1 v2 X (h.v.bl hX) (by omega));have aW:=(dh Vs (v1,v2)).2
 have eV:RgOk W (aU Vs (v1,v2)).1.2.1∧(aU Vs (v1,v2)).1.2.1.2.1≤900000:=by
  rcases fB (fun v:VC=>v.1) zV Vs (v1,v2) with h1|h1
  ·exact⟨h.r _ h1,hr _ h1⟩
  ·rw[show(aU Vs (v1,v2))=(zV,ρ) from h1];exact⟨⟨by decide,fj W _⟩,by decide⟩
 obtain⟨⟨u,ok⟩,gu⟩:∃z,aU Vs (v1,v2)=z:=⟨_,rfl⟩
 rw[gu] at HV aW eV;obtain⟨⟨i1,i2⟩,⟨rA,rn,bE,rL⟩,lb,at_⟩:=u;replace HV:Hid (∀X,σ W.heap.size W X→Ζ η 27 #[φ #[γ A n c,γ B m k],φ #[J v1,J v2]] X fun e w'=>e=.returned (Ξ #[φ #[J i1,J i2,γ rA rn bE,μ lb,J at_],Β ok])∧σ X.heap.size X w'):=HV;obtain⟨eV,nP⟩:=eV;dsimp only at aW eV nP;have jd:rL.length=rn:=by have:=eV.2.len;rw[bs] at this;dsimp only at this;omega
 have HC:Hid (∀X,σ W.heap.size W X→Ζ η 102 #[γ rA rn bE,φ #[J a1,J a2,J a3]] X (qc X (aJ (kd rL (a1,a2,a3))))):=qh (fun X hX=>wW rA rn bE rL (a1,a2,a3) X (eV.2.bl hX) (by omega))
 have sw:(aJ (kd rL (a1,a2,a3))).length≤900001:=by
  rw[ee];exact Λ (List.length_filter_le _ _) (by omega)
 have HP:Hid (bI (Vs.map vS) (v1,v2) (aJ (kd rL (a1,a2,a3)))=bI (Vs.map vS) (uq (Vs.map vS) (a1,a2,a3)) (aJ (kd (ck (Vs.map vS) (uq (Vs.map vS) (a1,a2,a3))) (a1,a2,a3)))):=qh (by
  rw[←BY,←aW])
 obtain⟨L9,Im⟩:=az (aJ (kd rL (a1,a2,a3)));rw[Im] at HC HP sw;have HR:Hid (∀X A9 N9 c9,σ W.heap.size W X→N9=L9.length→RgOk X (A9,N9,c9,L9)→Ζ η 99 #[φ #[γ A n c,γ B m k],φ #[J v1,J v2],γ A9 N9 c9] X (ik X n m (bI (Vs.map vS) (v1,v2) L9) Es)):=qh (fun X A9 N9 c9 hX _ hR=>oX (h.below hX) hn hm (fun x hx=>by have:=hr x hx;omega) (v1,v2) (A9,N9,c9,L9) hR);rw[HP.out] at HR;obtain⟨P,gP⟩:=az (bI (Vs.map vS) (uq (Vs.map vS) (a1,a2,a3)) (aJ (kd (ck (Vs.map vS) (uq (Vs.map vS) (a1,a2,a3))) (a1,a2,a3))));rw[gP] at HR ⊢;clear h hr gu aW eV nP Im HP gP jd sw BY;show Ζ _ _ _ _ fun e w'=>∃A' c' B' k' Ws,e=.returned (φ #[γ A' n c',γ B' m k'])∧aO w' A' n c' Ws B' m k' Es∧Ws.map vS=P∧(∀a,A'=ζ a→W.heap.size≤a.block)∧c'≤Jap∧k'≤Jap∧σ W.heap.size W w'
 go_enter Tryz.func77,Tryz.ntmps77;go_upto_region 1 with fail
 obtain⟨W0,b0,b1,b2,bJ,bS,cJ,dA,aR,aQ,bj,bn,-,-,j4,-,fD,-,a8,kY,mJ,ni⟩:=jm W 25 [γ A n c,γ B m k] 32 [J a1,J a2,J a3] 25 [γ ε 0 0,γ ε 0 0];rw[bJ,dA,cJ,bS];clear bJ bS cJ dA;have x0:=aR.out.cell (i:=0) rfl;have x1:=aR.out.cell (i:=1) rfl;have y0:=aQ.out.cell (i:=0) rfl;have y1:=aQ.out.cell (i:=1) rfl;have y2:=aQ.out.cell (i:=2) rfl
 go_upto_region 2 with (first
  |(go_at_call 29
    refine(wD.out _ bn.out).mono ?_
    rintro e w2 ⟨rfl,ar⟩;have cX:=qh ar;clear ar x0 x1 y0 y1 y2))
 have ar:=cX.out;have lQ:=qh (aF (af bn.out ar) (δ #[J v1,J v2] 30));have kh:=qh ((aR.out.bl ar).al (δ #[J v1,J v2] 30));have lh:=qh ((aQ.out.bl ar).al (δ #[J v1,J v2] 30));have jK:=qh ((bj.out.bl ar).al (δ #[J v1,J v2] 30));have lD:=qh (Whole.new_ w2 30 [J v1,J v2]);obtain⟨Ga,di⟩:=az (w2.alloc (δ #[J v1,J v2] 30));obtain⟨b3,dD⟩:=az w2.heap.size;rw[di] at lQ lD kh lh jK ⊢;rw[dD] at lD ⊢;clear di dD ar cX bn aR aQ bj wD;have x0:=kh.out.cell (i:=0) rfl;have x1:=kh.out.cell (i:=1) rfl;have y0:=lD.out.cell (i:=0) rfl;have y1:=lD.out.cell (i:=1) rfl
 go_upto_region 3 with (first
  |(go_at_call 27
    refine(HV.out _ lQ.out).mono ?_
    rintro e w2 ⟨rfl,ar⟩;have cX:=qh ar;clear ar x0 x1 y0 y1))
 have ar:=cX.out;have oM:=qh (aF (af lQ.out ar) (δ #[J i1,J i2,γ rA rn bE,μ lb,J at_] 59));have rB:=qh ((kh.out.bl ar).al (δ #[J i1,J i2,γ rA rn bE,μ lb,J at_] 59));have mq:=qh ((lh.out.bl ar).al (δ #[J i1,J i2,γ rA rn bE,μ lb,J at_] 59));have ou:=qh ((jK.out.bl ar).al (δ #[J i1,J i2,γ rA rn bE,μ lb,J at_] 59));have yH:=qh ((lD.out.bl ar).al (δ #[J i1,J i2,γ rA rn bE,μ lb,J at_] 59));have qj:=qh (Whole.new_ w2 59 [J i1,J i2,γ rA rn bE,μ lb,J at_]);obtain⟨wB,di⟩:=az (w2.alloc (δ #[J i1,J i2,γ rA rn bE,μ lb,J at_] 59));obtain⟨b4,dD⟩:=az w2.heap.size;rw[di] at oM qj rB mq ou yH ⊢;rw[dD] at qj ⊢;clear di dD ar cX lQ kh lh jK lD HV;have BZ:=dX (i:=2) qj.out rfl;refine bK (aT) [7] (by kernel_rfl) ?_;refine fw 0 (hy:=bG (by rfl) 25 (.tmp 2) rfl b0 rfl 25 [γ A n c,γ B m k] _ (fun w' h=>h.whole rB.out.dr (fun h=>h)) Tryz.underlying25 rfl (by kernel_rfl)) (h:=?_);refine fw 1 (hy:=bG (by rfl) 30 (.tmp 5) rfl b3 rfl 30 [J v1,J v2] _ (fun w' h=>h.whole yH.out.dr (fun h=>h)) Tryz.underlying30 rfl (by kernel_rfl)) (h:=?_);refine bm 2 ?_;refine bm 3 ?_;refine fw 4 (hy:=bG (by rfl) 32 (.tmp 3) rfl b1 rfl 32 [J a1,J a2,J a3] _ (fun w' h=>h.whole mq.out.dr (fun h=>h)) Tryz.underlying32 rfl (by kernel_rfl)) (h:=?_)
 refine kC 5 ?_;intro w' aC;have hx:=(Θ _ wB).drew.trans aC
 refine(HC.out w' (af oM.out hx)).mono ?_
 rintro e w9 ⟨A9,c9,rfl,mO,nM,Ik⟩
 refine⟨_,rfl,Kept.of_below nM,?_⟩
 have sy:Hid (σ wB.heap.size wB w9):=qh (Ext.trans hx nM);have pg:=qh mO;have Pt:=qh Ik;obtain⟨N9,FD⟩:=az L9.length;have Ki:=qh FD;rw[FD] at pg ⊢;clear hx aC mO nM Ik FD HC;simp only[ξ,ak,aj,ah];refine kC 6 ?_;intro w' aC;have hx:σ wB.heap.size wB w':=Ext.trans sy.out aC
 refine(HR.out w' A9 N9 c9 (af oM.out hx) Ki.out.symm ⟨Pt.out,pg.out.bl aC⟩).mono ?_
 rintro e vG ⟨A5,c5,B5,k5,Ws,rfl,Iy,rK,yu,qH,DN,fF⟩
 refine⟨_,rfl,Kept.of_below fF,?_⟩
 have HD:=qh Iy;have HM:=qh rK;have HF:Hid (∀a,A5=ζ a→wB.heap.size≤a.block):=qh (fun a ha=>Λ hx.size (yu a ha));have OV:=qh (Jax qH DN);have LC:Hid (σ wB.heap.size wB vG):=qh (Ext.trans hx fF);clear hx aC Iy rK yu qH DN fF sy pg Pt Ki HR;simp only[ξ,ak,aj,ah];refine lA 7 ?_;intro w' aC;have hx:σ wB.heap.size wB w':=Ext.trans LC.out aC;have hZ:=ou.out.bl hx
 refine⟨w'.setCells b2 0 [γ A5 n c5,γ B5 m k5],ey 25 (.tmp 4) (.tmp 27) rfl b2 0 rfl [γ A5 n c5,γ B5 m k5] rfl (hZ.there_ 0 2 (by decide)) (by kernel_rfl) (by simp[Τ]),?_⟩
 have th:∀a,A5=ζ a→0<n→a.block≠b2:=fun a ha _=>by
  have h1:=HF.out a ha;have h2:=ou.out.lt;omega
 have yy:Hid (aO (w'.setCells b2 0 [γ A5 n c5,γ B5 m k5]) A5 n c5 Ws B5 m k5 Es):=qh (lr (lr (HD.out.bl aC) (hZ.cell (i:=0) rfl) th _) ((hZ.set_ 0 _).cell (i:=1) rfl) th _);have CG:Hid (Whole (w'.setCells b2 0 [γ A5 n c5,γ B5 m k5]) b2 25 [γ A5 n c5,γ B5 m k5]):=qh ((hZ.set_ 0 (γ A5 n c5)).set_ 1 (γ B5 m k5));have jJ:Hid (σ W.heap.size W (w'.setCells b2 0 [γ A5 n c5,γ B5 m k5])):=qh (((af oM.out hx).setCell (p:=⟨b2,0,ε⟩) a8.out (γ A5 n c5)).setCell (p:=⟨b2,1,ε⟩) a8.out (γ B5 m k5));obtain⟨V5,rb⟩:=az (w'.setCells b2 0 [γ A5 n c5,γ B5 m k5]);rw[rb] at yy CG jJ ⊢;have U4:Hid (∀a,A5=ζ a→W.heap.size≤a.block):=qh (fun a ha=>Λ oM.out.size (HF.out a ha));clear rb aC hx hZ th HD LC HF;(try simp only[ξ,ak,aj,ah]);refine eU (by kernel_rfl) ?_ _;intro w8 ch;have zk:=qh (yy.out.bl ch);have og:=qh (CG.out.bl ch);have pH:=qh (af jJ.out ch);clear ch yy CG jJ;go_wp2;exact bz rfl b2 rfl og.out Tryz.underlying25 rfl (by kernel_rfl) rfl ⟨A5,c5,B5,k5,Ws,rfl,zk.out,HM.out,U4.out,OV.out.1,OV.out.2,pH.out⟩
theorem D0 {W:ο} {A:Option Κ} {n c:Nat} {Vs:List VC} {B:Option Κ} {m k:Nat} {Es:List EC} (h:aO W A n c Vs B m k Es) (hn:n≤1000) (hr:∀x∈Vs,x.2.1.2.1≤900000) (a1 a2 a3:Int):
 Ζ η 76 #[φ #[γ A n c,γ B m k],φ #[J a1,J a2,J a3]] W fun e w'=>e=.returned (φ #[J (dz (Vs.map vS) (a1,a2,a3)).1,J (dz (Vs.map vS) (a1,a2,a3)).2.1,J (dz (Vs.map vS) (a1,a2,a3)).2.2])∧σ W.heap.size W w':=by
 have wD:Hid (∀X,σ W.heap.size W X→Ζ η 29 #[φ #[γ A n c,γ B m k],φ #[J a1,J a2,J a3]] X fun e w'=>e=.returned (Ξ #[φ #[J (jl Vs (a1,a2,a3)).1.1,J (jl Vs (a1,a2,a3)).1.2],Β (jl Vs (a1,a2,a3)).2])∧σ X.heap.size X w'):=qh (fun X hX=>nv A n c Vs B m k Es a1 a2 a3 X (h.below hX) (by omega) (fun y hy=>by have:=hr y hy;omega));have BY:=congrArg (·.1) (Ag Vs (a1,a2,a3));dsimp only at BY;obtain⟨⟨⟨v1,v2⟩,st⟩,OP⟩:∃z,jl Vs (a1,a2,a3)=z:=⟨_,rfl⟩
 rw[OP] at wD BY;clear OP;have HV:Hid (∀X,σ W.heap.size W X→Ζ η 27 #[φ #[γ A n c,γ B m k],φ #[J v1,J v2]] X fun e w'=>e=.returned (Ξ #[φ (vC (aU Vs (v1,v2)).1).toArray,Β (aU Vs (v1,v2)).2])∧σ X.heap.size X w'):=qh (fun X hX=>fN A n c Vs B m k Es v1 v2 X (h.v.bl hX) (by omega));have aW:=(dh Vs (v1,v2)).2
 have eV:RgOk W (aU Vs (v1,v2)).1.2.1∧(aU Vs (v1,v2)).1.2.1.2.1≤900000:=by
  rcases fB (fun v:VC=>v.1) zV Vs (v1,v2) with h1|h1
  ·exact⟨h.r _ h1,hr _ h1⟩
  ·rw[show(aU Vs (v1,v2))=(zV,ρ) from h1];exact⟨⟨by decide,fj W _⟩,by decide⟩
 obtain⟨⟨u,ok⟩,gu⟩:∃z,aU Vs (v1,v2)=z:=⟨_,rfl⟩
 rw[gu] at HV aW eV;obtain⟨⟨i1,i2⟩,⟨rA,rn,bE,rL⟩,lb,at_⟩:=u;replace HV:Hid (∀X,σ W.heap.size W X→Ζ η 27 #[φ #[γ A n c,γ B m k],φ #[J v1,J v2]] X fun e w'=>e=.returned (Ξ #[φ #[J i1,J i2,γ rA rn bE,μ lb,J at_],Β ok])∧σ X.heap.size X w'):=HV;obtain⟨eV,nP⟩:=eV;dsimp only at aW eV nP;have HP:Hid (∀d1 d2 d3 X,σ W.heap.size W X→Ζ η 35 #[γ rA rn bE,φ #[J d1,J d2,J d3]] X (uc X (fm rL (d1,d2,d3)) (decide ((d1,d2,d3)∈rL)))):=qh (fun d1 d2 d3 X hX=>De rA rn bE rL (d1,d2,d3) X (eV.2.bl hX) (by omega))
 have hz:dz (Vs.map vS) (a1,a2,a3)=(let q:=if cN (fm rL (a1,a2,a3))=(a1,a2) then fm rL (fm rL (a1,a2,a3)) else fm rL (a1,a2,a3);if cN q=(a1,a2) then zD else q):=by
  unfold dz;rw[←BY,←aW];rfl
 have NY:=qh (HP.out a1 a2 a3);obtain⟨⟨p1,p2,p3⟩,gp⟩:∃z,fm rL (a1,a2,a3)=z:=⟨_,rfl⟩
 rw[gp] at hz NY;obtain⟨o1,go1⟩:=az (decide ((a1,a2,a3)∈rL));rw[go1] at NY;obtain⟨⟨z1,z2,z3⟩,gz⟩:∃z,dz (Vs.map vS) (a1,a2,a3)=z:=⟨_,rfl⟩
 rw[gz] at hz ⊢;have wk:=qh hz;clear h hr gu BY aW eV nP hz gp go1 gz;go_enter Tryz.func76,Tryz.ntmps76;go_upto_region 1 with fail
 obtain⟨W0,b0,b1,b2,bJ,bS,cJ,dA,aR,aQ,bj,bn,-,-,j4,-,fD,-,a8,kY,mJ,ni⟩:=jm W 25 [γ A n c,γ B m k] 32 [J a1,J a2,J a3] 32 [J 0,J 0,J 0];rw[bJ,dA,cJ,bS];clear bJ bS cJ dA;have x0:=aR.out.cell (i:=0) rfl;have x1:=aR.out.cell (i:=1) rfl;have s0:=aQ.out.cell (i:=0) rfl;have s1:=aQ.out.cell (i:=1) rfl;have s2:=aQ.out.cell (i:=2) rfl
 go_upto_region 2 with (first
  |(go_at_call 29
    refine(wD.out _ bn.out).mono ?_
    rintro e w2 ⟨rfl,ar⟩;have cX:=qh ar;clear ar x0 x1 s0 s1 s2))
 have ar:=cX.out;have lQ:=qh (aF (af bn.out ar) (δ #[J v1,J v2] 30));have kh:=qh ((aR.out.bl ar).al (δ #[J v1,J v2] 30));have lh:=qh ((aQ.out.bl ar).al (δ #[J v1,J v2] 30));have jK:=qh ((bj.out.bl ar).al (δ #[J v1,J v2] 30));have lD:=qh (Whole.new_ w2 30 [J v1,J v2]);have LN0:Hid (W.heap.size≤w2.heap.size):=qh (af bn.out ar).size;have Hu:Hid (b1≠w2.heap.size):=qh (Nat.ne_of_lt (aQ.out.bl ar).lt);have G9:Hid (b2≠w2.heap.size):=qh (Nat.ne_of_lt (bj.out.bl ar).lt);obtain⟨Ga,di⟩:=az (w2.alloc (δ #[J v1,J v2] 30));obtain⟨b3,dD⟩:=az w2.heap.size;rw[di] at lQ lD kh lh jK ⊢;rw[dD] at lD LN0 Hu G9 ⊢;clear di dD ar cX bn aR aQ bj;have x0:=kh.out.cell (i:=0) rfl;have x1:=kh.out.cell (i:=1) rfl;have s0:=lD.out.cell (i:=0) rfl;have s1:=lD.out.cell (i:=1) rfl
 go_upto_region 3 with (first
  |(go_at_call 27
    refine(HV.out _ lQ.out).mono ?_
    rintro e w2 ⟨rfl,ar⟩;have cX:=qh ar;clear ar x0 x1 s0 s1))
 have ar:=cX.out;have oM:=qh (aF (af lQ.out ar) (δ #[J i1,J i2,γ rA rn bE,μ lb,J at_] 59));have rB:=qh ((kh.out.bl ar).al (δ #[J i1,J i2,γ rA rn bE,μ lb,J at_] 59));have mq:=qh ((lh.out.bl ar).al (δ #[J i1,J i2,γ rA rn bE,μ lb,J at_] 59));have ou:=qh ((jK.out.bl ar).al (δ #[J i1,J i2,γ rA rn bE,μ lb,J at_] 59));have yH:=qh ((lD.out.bl ar).al (δ #[J i1,J i2,γ rA rn bE,μ lb,J at_] 59));have qj:=qh (Whole.new_ w2 59 [J i1,J i2,γ rA rn bE,μ lb,J at_]);have LN1:Hid (W.heap.size≤w2.heap.size):=qh (af lQ.out ar).size;have Hu:Hid (b1≠w2.heap.size):=qh (Nat.ne_of_lt (lh.out.bl ar).lt);have G9:Hid (b2≠w2.heap.size):=qh (Nat.ne_of_lt (jK.out.bl ar).lt);obtain⟨wB,di⟩:=az (w2.alloc (δ #[J i1,J i2,γ rA rn bE,μ lb,J at_] 59));obtain⟨b4,dD⟩:=az w2.heap.size;rw[di] at oM qj rB mq ou yH ⊢;rw[dD] at qj LN1 Hu G9 ⊢;clear di dD ar cX lQ kh lh jK lD;have x2:=qj.out.cell (i:=2) rfl;have s0:=mq.out.cell (i:=0) rfl;have s1:=mq.out.cell (i:=1) rfl;have s2:=mq.out.cell (i:=2) rfl
 go_upto_region 4 with (first
  |(go_at_call 35
    refine(NY.out _ oM.out).mono ?_
    rintro e w2 ⟨rfl,ar⟩;have cX:=qh ar;clear ar x2 s0 s1 s2))
 have ar:=cX.out;have Lh:=qh (aF (af oM.out ar) (δ #[J p1,J p2,J p3] 32));have Re:=qh ((rB.out.bl ar).al (δ #[J p1,J p2,J p3] 32));have kB:=qh ((mq.out.bl ar).al (δ #[J p1,J p2,J p3] 32));have lN:=qh ((ou.out.bl ar).al (δ #[J p1,J p2,J p3] 32));have Tm:=qh ((yH.out.bl ar).al (δ #[J p1,J p2,J p3] 32));have Wk:=qh ((qj.out.bl ar).al (δ #[J p1,J p2,J p3] 32));have p7:=qh (Whole.new_ w2 32 [J p1,J p2,J p3]);have XS:Hid (W.heap.size≤w2.heap.size):=qh (af oM.out ar).size;have Hu:Hid (b1≠w2.heap.size):=qh (Nat.ne_of_lt (mq.out.bl ar).lt);have G9:Hid (b2≠w2.heap.size):=qh (Nat.ne_of_lt (ou.out.bl ar).lt);obtain⟨Wn2,di⟩:=az (w2.alloc (δ #[J p1,J p2,J p3] 32));obtain⟨b5,dD⟩:=az w2.heap.size;rw[di] at Lh p7 Re kB lN Tm Wk ⊢;rw[dD] at p7 XS Hu G9 ⊢;clear di dD ar cX oM rB mq ou yH qj
 by_cases Dd:(p1,p2)=(a1,a2)
 ·have he:∀X,(binOp .eql 30 (φ #[J p1,J p2]) (φ #[J a1,J a2])).run η X=.ok (Β true) X:=fun X=>by rw[ja,decide_eq_true Dd]
  have SL:=qh (HP.out p1 p2 p3);have hz:=wk.out;rw[show cN (p1,p2,p3)=(a1,a2) from Dd,if_pos rfl] at hz;obtain⟨⟨q1,q2,q3⟩,gq⟩:∃z,fm rL (p1,p2,p3)=z:=⟨_,rfl⟩
  rw[gq] at SL hz;obtain⟨o2,go2⟩:=az (decide ((p1,p2,p3)∈rL));rw[go2] at SL;have XX:=qh hz;clear wk HP NY hz gq go2 Dd;have u0:=p7.out.cell (i:=0) rfl;have u1:=p7.out.cell (i:=1) rfl;have u2:=p7.out.cell (i:=2) rfl;have v0:=kB.out.cell (i:=0) rfl;have v1:=kB.out.cell (i:=1) rfl;have v2:=kB.out.cell (i:=2) rfl;go_upto_region 5 with fail
  clear v0 v1 v2 he;have x2:=Wk.out.cell (i:=2) rfl
  go_upto_region 6 with (first
   |(go_at_call 35
     refine(SL.out _ Lh.out).mono ?_
     rintro e w7 ⟨rfl,Ir⟩;have OT:=qh (af Lh.out Ir);have E8:=qh (p7.out.bl Ir);have V6:=qh (kB.out.bl Ir);have qw:=qh (lN.out.bl Ir);have r0:=E8.out.cell (i:=0) rfl;have r1:=E8.out.cell (i:=1) rfl;have r2:=E8.out.cell (i:=2) rfl;have g0:=E8.out.free 0;have g1:=E8.out.free 1;have g2:=E8.out.free 2;clear Ir u0 u1 u2 x2))
  have Nn:b1≠b5:=Hu.out;have OL:b2≠b5:=G9.out;have xq:=qh (((E8.out.set_ 0 (J q1)).set_ 1 (J q2)).set_ 2 (J q3));have gW:=qh (((V6.out.far (p:=⟨b5,0,ε⟩) Nn (J q1)).far (p:=⟨b5,1,ε⟩) Nn (J q2)).far (p:=⟨b5,2,ε⟩) Nn (J q3));have fh:=qh (((qw.out.far (p:=⟨b5,0,ε⟩) OL (J q1)).far (p:=⟨b5,1,ε⟩) OL (J q2)).far (p:=⟨b5,2,ε⟩) OL (J q3));have pH:=qh (((OT.out.setCell (p:=⟨b5,0,ε⟩) XS.out (J q1)).setCell (p:=⟨b5,1,ε⟩) XS.out (J q2)).setCell (p:=⟨b5,2,ε⟩) XS.out (J q3));clear Nn OL r0 r1 r2 g0 g1 g2 E8 V6 qw OT;generalize JbB (JbB (JbB w7 _ _) _ _) _ _=W8 at xq gW fh pH ⊢;have u0:=xq.out.cell (i:=0) rfl;have u1:=xq.out.cell (i:=1) rfl;have u2:=xq.out.cell (i:=2) rfl;have v0:=gW.out.cell (i:=0) rfl;have v1:=gW.out.cell (i:=1) rfl;have v2:=gW.out.cell (i:=2) rfl;have t0:=fh.out.cell (i:=0) rfl;have y0:=fh.out.free 0;have t1:=fh.out.cell (i:=1) rfl;have y1:=fh.out.free 1;have t2:=fh.out.cell (i:=2) rfl;have y2:=fh.out.free 2;have HZ:Hid ((z1,z2,z3)=if (q1,q2)=(a1,a2) then zD else(q1,q2,q3)):=qh (XX.out)
  by_cases GM:(q1,q2)=(a1,a2)
  ·have hv:=HZ.out;rw[if_pos GM] at hv;have he:∀X,(binOp .eql 30 (φ #[J q1,J q2]) (φ #[J a1,J a2])).run η X=.ok (Β true) X:=fun X=>by rw[ja,decide_eq_true GM]
   clear HZ GM;have Mi:=qh hv;clear hv;go_wp2;exact bz rfl b2 rfl (((fh.out.set_ 0 (J 0)).set_ 1 (J 0)).set_ 2 (J 0)) Tryz.underlying32 rfl (by kernel_rfl) rfl ⟨by injection Mi.out with k1 k2;injection k2 with k2 k3;rw[k1,k2,k3];rfl,(((pH.out.setCell (p:=⟨b2,0,ε⟩) a8.out (J 0)).setCell (p:=⟨b2,1,ε⟩) a8.out (J 0)).setCell (p:=⟨b2,2,ε⟩) a8.out (J 0))⟩
  ·have hv:=HZ.out;rw[if_neg GM] at hv;have he:∀X,(binOp .eql 30 (φ #[J q1,J q2]) (φ #[J a1,J a2])).run η X=.ok (Β ρ) X:=fun X=>by rw[ja,decide_eq_false GM]
   clear HZ GM;have Mi:=qh hv;clear hv;go_wp2;exact bz rfl b2 rfl (((fh.out.set_ 0 (J q1)).set_ 1 (J q2)).set_ 2 (J q3)) Tryz.underlying32 rfl (by kernel_rfl) rfl ⟨by injection Mi.out with k1 k2;injection k2 with k2 k3;rw[k1,k2,k3];rfl,(((pH.out.setCell (p:=⟨b2,0,ε⟩) a8.out (J q1)).setCell (p:=⟨b2,1,ε⟩) a8.out (J q2)).setCell (p:=⟨b2,2,ε⟩) a8.out (J q3))⟩
 ·have he:∀X,(binOp .eql 30 (φ #[J p1,J p2]) (φ #[J a1,J a2])).run η X=.ok (Β ρ) X:=fun X=>by rw[ja,decide_eq_false Dd]
  have hz:=wk.out;rw[if_neg (show ¬cN (p1,p2,p3)=(a1,a2) from Dd)] at hz;have XX:=qh hz;clear wk HP NY hz Dd;have u0:=p7.out.cell (i:=0) rfl;have u1:=p7.out.cell (i:=1) rfl;have u2:=p7.out.cell (i:=2) rfl;have v0:=kB.out.cell (i:=0) rfl;have v1:=kB.out.cell (i:=1) rfl;have v2:=kB.out.cell (i:=2) rfl;go_upto_region 6 with fail
  clear u0 u1 u2 v0 v1 v2 he;obtain⟨q1,WQ⟩:=az p1;obtain⟨q2,WM⟩:=az p2;obtain⟨q3,XT⟩:=az p3;rw[WQ,WM,XT] at p7 XX ⊢;clear WQ WM XT;have u0:=p7.out.cell (i:=0) rfl;have u1:=p7.out.cell (i:=1) rfl;have u2:=p7.out.cell (i:=2) rfl;have v0:=kB.out.cell (i:=0) rfl;have v1:=kB.out.cell (i:=1) rfl;have v2:=kB.out.cell (i:=2) rfl;have t0:=lN.out.cell (i:=0) rfl;have y0:=lN.out.free 0;have t1:=lN.out.cell (i:=1) rfl;have y1:=lN.out.free 1;have t2:=lN.out.cell (i:=2) rfl;have y2:=lN.out.free 2;have HZ:Hid ((z1,z2,z3)=if (q1,q2)=(a1,a2) then zD else(q1,q2,q3)):=qh (XX.out)
  by_cases GM:(q1,q2)=(a1,a2)
  ·have hv:=HZ.out;rw[if_pos GM] at hv;have he:∀X,(binOp .eql 30 (φ #[J q1,J q2]) (φ #[J a1,J a2])).run η X=.ok (Β true) X:=fun X=>by rw[ja,decide_eq_true GM]
   clear HZ GM;have Mi:=qh hv;clear hv;go_wp2;exact bz rfl b2 rfl (((lN.out.set_ 0 (J 0)).set_ 1 (J 0)).set_ 2 (J 0)) Tryz.underlying32 rfl (by kernel_rfl) rfl ⟨by injection Mi.out with k1 k2;injection k2 with k2 k3;rw[k1,k2,k3];rfl,(((Lh.out.setCell (p:=⟨b2,0,ε⟩) a8.out (J 0)).setCell (p:=⟨b2,1,ε⟩) a8.out (J 0)).setCell (p:=⟨b2,2,ε⟩) a8.out (J 0))⟩
  ·have hv:=HZ.out;rw[if_neg GM] at hv;have he:∀X,(binOp .eql 30 (φ #[J q1,J q2]) (φ #[J a1,J a2])).run η X=.ok (Β ρ) X:=fun X=>by rw[ja,decide_eq_false GM]
   clear HZ GM;have Mi:=qh hv;clear hv;go_wp2;exact bz rfl b2 rfl (((lN.out.set_ 0 (J q1)).set_ 1 (J q2)).set_ 2 (J q3)) Tryz.underlying32 rfl (by kernel_rfl) rfl ⟨by injection Mi.out with k1 k2;injection k2 with k2 k3;rw[k1,k2,k3];rfl,(((Lh.out.setCell (p:=⟨b2,0,ε⟩) a8.out (J q1)).setCell (p:=⟨b2,1,ε⟩) a8.out (J q2)).setCell (p:=⟨b2,2,ε⟩) a8.out (J q3))⟩
theorem uf {α:Type} {f:α→List ψ} {L:List α} {W:ο} {Z s n c g:Nat} {A:Option Κ} {T:Υ} {cs:List ψ} (h:aS W Z s A n c (ao f L)) (hs:∀x,(f x).length=s) (h0:0<s) (h1:∀x,∃i:Int,(f x)[0]? =ζ (J i)) (hw:Whole W g T cs) (hc:∀v∈cs,∀i:Int,v≠J i):∀a,A=ζ a→0<n→a.block≠g:=fun a ha hn e=>by
 subst ha;have hl:=h.rlen hs h0;obtain⟨x,hx⟩:∃x,L[0]? =ζ x:=⟨_,List.getElem?_eq_getElem (by omega)⟩
 obtain⟨i,hi⟩:=h1 x;have h2:=jv f hs L 0 x hx 0 _ hi;have h3:=h.cell a rfl _ _ h2;simp only[Nat.zero_mul,Nat.add_zero] at h3;have h4:a.add 0=a:=by unfold Addr.add;split<;>simp_all
 rw[h4] at h3;have h5:W.heap[g]? =ζ (δ cs.toArray T (0,0)):=hw;subst e;obtain⟨b,o,p⟩:=a;dsimp only at h5;unfold World.cell? at h3;rw[h5] at h3;cases p with
 |none=>
  simp only[List.getElem?_toArray] at h3;exact hc _ (List.mem_of_getElem? h3) i rfl
 |some p=>simp at h3
theorem O6 {W:ο} {Z n c g:Nat} {A:Option Κ} {Vs:List VC} {T:Υ} {cs:List ψ} (h:aS W Z 5 A n c (ao vC Vs)) (hw:Whole W g T cs) (hc:∀v∈cs,∀i:Int,v≠J i):∀a,A=ζ a→0<n→a.block≠g:=uf h aN (by decide) (fun x=>⟨x.1.1,rfl⟩) hw hc
theorem Pw {W:ο} {Z n c g:Nat} {A:Option Κ} {Es:List EC} {T:Υ} {cs:List ψ} (h:aS W Z 4 A n c (ao eC Es)) (hw:Whole W g T cs) (hc:∀v∈cs,∀i:Int,v≠J i):∀a,A=ζ a→0<n→a.block≠g:=uf h cM (by decide) (fun x=>⟨x.1.1,rfl⟩) hw hc
theorem xr {W:ο} {Z n c g:Nat} {A:Option Κ} {G:List Gn} {T:Υ} {cs:List ψ} (h:aS W Z 6 A n c (ao cj G)) (hw:Whole W g T cs) (hc:∀v∈cs,∀i:Int,v≠J i):∀a,A=ζ a→0<n→a.block≠g:=uf h bU (by decide) (fun x=>⟨x.1.1,rfl⟩) hw hc
def Uz (d:D):List ψ:=[J d.1,J d.2.1,J d.2.2]
theorem Ep:∀L:List D,aA L=ao Uz L
 |[]=>rfl
 |d::L=>by rw[show ao Uz (d::L)=Uz d++ao Uz L by simp[ao],←Ep L];rfl
theorem PT {W:ο} {Z n c g:Nat} {A:Option Κ} {L:List D} {T:Υ} {cs:List ψ} (h:aS W Z 3 A n c (aA L)) (hw:Whole W g T cs) (hc:∀v∈cs,∀i:Int,v≠J i):∀a,A=ζ a→0<n→a.block≠g:=uf (f:=Uz) (Ep L▸h) (fun _=>rfl) (by decide) (fun x=>⟨x.1,rfl⟩) hw hc
theorem lB {A:Option Κ} {n g:Nat} (h:∀a,A=ζ a→0<n→a.block≠g):∀a,A=ζ a→0<n→ζ a.block≠ζ g:=fun a ha hn e=>h a ha hn (Μ e)
theorem ib {a b:ψ} (ha:∀i:Int,a≠J i) (hb:∀i:Int,b≠J i):∀v∈[a,b],∀i:Int,v≠J i:=fun v hv i=>by
 simp only[Η,Jbh,or_false] at hv;rcases hv with rfl|rfl
 ·exact ha i
 ·exact hb i
theorem aP {a b d:ψ} (ha:∀i:Int,a≠J i) (hb:∀i:Int,b≠J i) (hd:∀i:Int,d≠J i):∀v∈[a,b,d],∀i:Int,v≠J i:=fun v hv i=>by
 simp only[Η,Jbh,or_false] at hv;rcases hv with rfl|rfl|rfl
 ·exact ha i
 ·exact hb i
 ·exact hd i
theorem sI {W:ο} {A:Option Κ} {n c:Nat} {Vs:List VC} {B:Option Κ} {m k:Nat} {Es:List EC} (h:aO W A n c Vs B m k Es) {g:Nat} {T:Υ} {cs:List ψ} (hw:Whole W g T cs) (hc:∀v∈cs,∀i:Int,v≠J i) (ds:Array ψ):aO (W.setRow g ds) A n c Vs B m k Es:=
 ⟨h.v.row_far (lB (O6 h.v hw hc)) ds,h.e.row_far (lB (Pw h.e hw hc)) ds,fun x hx=>⟨(h.r x hx).1,(h.r x hx).2.row_far (lB (PT (h.r x hx).2 hw hc)) ds⟩⟩
theorem bf {W:ο} {A:Option Κ} {n c:Nat} {Vs:List VC} {B:Option Κ} {m k:Nat} {Es:List EC} (h:aO W A n c Vs B m k Es) {g:Nat} {T:Υ} {cs:List ψ} (hw:Whole W g T cs) (hc:∀v∈cs,∀i:Int,v≠J i) (i:Nat) (u:ψ):aO (W.setCell ⟨g,i,ε⟩ u) A n c Vs B m k Es:=
 ⟨by rw[size_setCell];exact h.v.far_ (O6 h.v hw hc) u,by rw[size_setCell];exact h.e.far_ (Pw h.e hw hc) u,fun x hx=>⟨(h.r x hx).1,by rw[size_setCell];exact(h.r x hx).2.far_ (PT (h.r x hx).2 hw hc) u⟩⟩
theorem bu {W:ο} {C:Option Κ} {r rc:Nat} {G:List Gn} (h:aS W W.heap.size 6 C r rc (ao cj G)) {g:Nat} {T:Υ} {cs:List ψ} (hw:Whole W g T cs) (hc:∀v∈cs,∀i:Int,v≠J i) (i:Nat) (u:ψ):aS (W.setCell ⟨g,i,ε⟩ u) (W.setCell ⟨g,i,ε⟩ u).heap.size 6 C r rc (ao cj G):=by
 rw[size_setCell];exact h.far_ (xr h hw hc) u
def Py (V:List VS) (E:List EC) (v:ψ) (W:ο):Prop:=
 ∃A n c B m k Ws,v=φ #[γ A n c,γ B m k]∧aO W A n c Ws B m k E∧Ws.map vS=V
theorem Py.up {V:List VS} {E:List EC} {v:ψ} {W W':ο} (h:Py V E v W) (hx:Ext W W'):Py V E v W':=by
 obtain⟨A,n,c,B,m,k,Ws,e,h1,h2⟩:=h;exact⟨A,n,c,B,m,k,Ws,e,h1.bl hx,h2⟩
def E0 (n m:Nat) (V:List VS) (E:List EC) (v:ψ) (W:ο):Prop:=
 ∃A c B k Ws,v=φ #[γ A n c,γ B m k]∧aO W A n c Ws B m k E∧Ws.map vS=V
theorem E0.up {n m:Nat} {V:List VS} {E:List EC} {v:ψ} {W W':ο} (h:E0 n m V E v W) (hx:Ext W W'):E0 n m V E v W':=by
 obtain⟨A,c,B,k,Ws,e,h1,h2⟩:=h;exact⟨A,c,B,k,Ws,e,h1.bl hx,h2⟩
def dH (W:ο) (R:SS × Int) (e:Ending) (w':ο):Prop:=
 ∃A n c B m k C r rc Ws,e=.returned (Ξ #[φ #[γ A n c,γ B m k,γ C r rc],J R.2])∧aO w' A n c Ws B m k R.1.2.1∧Ws.map vS=R.1.1∧aS w' w'.heap.size 6 C r rc (ao cj R.1.2.2)∧σ W.heap.size W w'
theorem dM (W:ο):aO W ε 0 0 [] ε 0 0 []:=⟨aS.no W _ _,aS.no W _ _,fun _ q=>by cases q⟩
theorem oO (Es:List EC) (x:Nm):(iw Es x).2=cx Es x:=by
 induction Es with
 |nil=>rfl
 |cons e Es ih=>
  unfold iw BL cx nL at*
  by_cases h:e.1=x
  ·simp[h]
  ·simp only[List.any_cons,decide_eq_false h,Bool.false_or];rw[←ih];simp[h]
def fZ (V:List VS) (x:D):List VS:=bI V (uq V x) (aJ (kd (ck V (uq V x)) x))
def rP (K:Nat) (V:List VS):Prop:=∀v∈V,v.2.1.length≤K
theorem rP.mono {K K':Nat} {V:List VS} (h:rP K V) (hk:K≤K'):rP K' V:=fun v hv=>Λ (h v hv) hk
theorem rP.ring {K:Nat} {V:List VS} (h:rP K V) (x:Nm):(ck V x).length≤K:=by
 unfold ck;cases hf:V.find? (fun v=>decide (v.1=x)) with
 |none=>simp
 |some v=>exact h v (List.mem_of_find?_eq_some hf)
theorem rP.at_ {K:Nat} {V:List VS} (h:rP K V) (x:Nm) {l:List D} (hl:l.length≤K):rP K (bI V x l):=fun v hv=>by
 rcases kX hv with⟨h1,-⟩|⟨u,hu,-,rfl⟩
 ·exact h v h1
 ·exact hl
theorem rP.rem {K:Nat} {V:List VS} (h:rP K V) (x:D):rP K (fZ V x):=h.at_ _ (by
 rw[ee];exact Λ (List.length_filter_le _ _) (h.ring _))
theorem rP.ins {K:Nat} {V:List VS} (h:rP K V) (c:Nm × D) (x:D):rP (K+1) (dw V c x):=(h.mono (Nat.le_succ K)).at_ _ (by
 have:=h.ring c.1
 rw[ee];unfold lg;split
 ·omega
 ·simp only[Ε,JaH,JaA,Jaz];omega)
theorem rP.of {W:ο} {A B:Option Κ} {n c m k K:Nat} {Vs:List VC} {Es:List EC} (h:aO W A n c Vs B m k Es) (hr:∀y∈Vs,y.2.1.2.1≤K):rP K (Vs.map vS):=fun v hv=>by
 obtain⟨y,hy,rfl⟩:=Α.1 hv;have h1:=(h.r y hy).2.len;rw[bs] at h1
 have:=hr y hy
 show y.2.1.2.2.2.length≤K;omega
theorem rP.to {W:ο} {A B:Option Κ} {n c m k K:Nat} {Vs:List VC} {Es:List EC} (h:aO W A n c Vs B m k Es) (hr:rP K (Vs.map vS)):∀y∈Vs,y.2.1.2.1≤K:=fun y hy=>by
 have h1:=(h.r y hy).2.len;rw[bs] at h1;have h2:y.2.1.2.2.2.length≤K:=hr (vS y) (Α.2 ⟨y,hy,rfl⟩);omega
end Go.Proofs.YtpdpbfmiahjiiaaGreat
