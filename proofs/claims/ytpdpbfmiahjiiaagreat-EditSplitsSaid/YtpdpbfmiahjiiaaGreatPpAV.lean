/- Several texts in one. -/
import Derived.Test.YtpdpbfmiahjiiaaGreatPpAB
import Derived.Test.YtpdpbfmiahjiiaaGreatPpAO
import Derived.Test.YtpdpbfmiahjiiaaGreatPpAU
set_option linter.unusedSectionVars false
set_option linter.unusedSimpArgs false
set_option linter.unusedVariables false
set_option maxRecDepth 100000
set_option maxHeartbeats 16000000
namespace Go.Proofs.YtpdpbfmiahjiiaaGreat
open Go.RowKit
open _root_.Go.Value renaming slice→γ,string→μ,agg→φ,bool→Β,tuple→Ξ,oneCell'→Τ
open _root_.Go.Obj renaming cells→δ
open _root_.Option renaming none→ε,some→ζ
open _root_.Go.Proofs.Tryz renaming prog→η
open _root_.Go.Act renaming put→ξ
open _root_.Go renaming World→ο,Value→ψ,Calls→Ζ,Addr→Κ,TypeId→Υ,maxLen→Jap
open _root_.Bool renaming false→ρ
open _root_.Go.RowKit renaming Below→σ
open _root_.List renaming mem_map→Α,length_append→Ε,mem_cons→Η,length_drop→Jaz,length_take→JaA,length_cons→JaH,not_mem_nil→Jbh
open _root_.Go.RowKit.Below renaming refl→Θ
open _root_.Nat renaming le_trans→Λ
open _root_.Option.some renaming inj→Μ
open _root_.And renaming intro→Jax
open _root_.Go.World renaming setCell→JbB
theorem fw (w:ο) (B:Nat):aX w B 3 ε 0 0 (aA []):=⟨by simp[aA,aj],fun _=>⟨rfl,rfl⟩,Nat.le_refl _,fun a ha=>(by cases ha),fun a ha=>(by cases ha)⟩
theorem Whole.sub_ {w:ο} {g:Nat} {t:Υ} {cs ds:List ψ} (h:Whole w g t cs) (o:Nat) {i:Nat} {u:ψ} (hu:ds[i]? =ζ u) (he:∀i u,ds[i]? =ζ u→cs[o+i]? =ζ u:=by intro i u h;rcases i with _|_|_|i<;>first|exact h|(simp at h)):w.cell? ((⟨g,o,ε⟩:Κ).add i)=ζ u:=by
 have:=h.cell (he i u hu)
 simpa only[Addr.add_lit] using this
theorem rz {W:ο} {A:Option Κ} {n c:Nat} {Vs:List VC} {B:Option Κ} {m k:Nat} {Es:List EC} (h:aR W A n c Vs B m k Es) (hn:n≤1000) (hm:m≤1000) (hr:∀x∈Vs,x.2.1.2.1≤900000) (v1 v2 a1 a2 a3 d1 d2 d3:Int):
 Ζ η 74 #[φ #[γ A n c,γ B m k],φ #[J v1,J v2,J a1,J a2,J a3],φ #[J d1,J d2,J d3]] W (im W n m (dW (Vs.map vS) ((v1,v2),(a1,a2,a3)) (d1,d2,d3)) Es):=by
 have HV:Hid (∀X,σ W.heap.size W X→Ζ η 27 #[φ #[γ A n c,γ B m k],φ #[J v1,J v2]] X fun e w'=>e=.returned (Ξ #[φ (vC (bu Vs (v1,v2)).1).toArray,Β (bu Vs (v1,v2)).2])∧σ X.heap.size X w'):=qh (fun X hX=>fJ A n c Vs B m k Es v1 v2 X (h.v.bl hX) (by omega));have bB:=(dO Vs (v1,v2)).2
 have fp:RgOk W (bu Vs (v1,v2)).1.2.1∧(bu Vs (v1,v2)).1.2.1.2.1≤900000:=by
  rcases gM (fun v:VC=>v.1) zV Vs (v1,v2) with h1|h1
  ·exact⟨h.r _ h1,hr _ h1⟩
  ·rw[show(bu Vs (v1,v2))=(zV,ρ) from h1];exact⟨⟨by decide,fw W _⟩,by decide⟩
 obtain⟨⟨u,ok⟩,gu⟩:∃z,bu Vs (v1,v2)=z:=⟨_,rfl⟩
 rw[gu] at HV bB fp;obtain⟨⟨i1,i2⟩,⟨rA,rn,bR,rL⟩,lb,at_⟩:=u;replace HV:Hid (∀X,σ W.heap.size W X→Ζ η 27 #[φ #[γ A n c,γ B m k],φ #[J v1,J v2]] X fun e w'=>e=.returned (Ξ #[φ #[J i1,J i2,γ rA rn bR,μ lb,J at_],Β ok])∧σ X.heap.size X w'):=HV;obtain⟨fp,sK⟩:=fp;dsimp only at bB fp sK;have ji:rL.length=rn:=by have:=fp.2.len;rw[bJ] at this;dsimp only at this;omega
 have HC:Hid (∀X,σ W.heap.size W X→Ζ η 100 #[γ rA rn bR,φ #[J a1,J a2,J a3],φ #[J d1,J d2,J d3]] X (sC X (aS (np rL (a1,a2,a3) (d1,d2,d3))))):=qh (fun X hX=>zm rA rn bR rL (a1,a2,a3) (d1,d2,d3) X (fp.2.bl hX) (by omega))
 have tV:(aS (np rL (a1,a2,a3) (d1,d2,d3))).length≤900001:=by
  rw[dI];unfold np;split<;>(try simp only[Ε,JaH,JaA,Jaz])<;>omega
 have HP:Hid (bZ (Vs.map vS) (v1,v2) (aS (np rL (a1,a2,a3) (d1,d2,d3)))=dW (Vs.map vS) ((v1,v2),(a1,a2,a3)) (d1,d2,d3)):=qh (by
  unfold dW;rw[←bB])
 obtain⟨L9,Lh⟩:=ay (aS (np rL (a1,a2,a3) (d1,d2,d3)));rw[Lh] at HC HP tV;have HR:Hid (∀X A9 N9 c9,σ W.heap.size W X→N9=L9.length→RgOk X (A9,N9,c9,L9)→Ζ η 99 #[φ #[γ A n c,γ B m k],φ #[J v1,J v2],γ A9 N9 c9] X (im X n m (bZ (Vs.map vS) (v1,v2) L9) Es)):=qh (fun X A9 N9 c9 hX _ hR=>pB (h.below hX) hn hm (fun x hx=>by have:=hr x hx;omega) (v1,v2) (A9,N9,c9,L9) hR);rw[HP.out] at HR;obtain⟨P,gP⟩:=ay (dW (Vs.map vS) ((v1,v2),(a1,a2,a3)) (d1,d2,d3));rw[gP] at HR ⊢;clear h hr gu bB fp sK Lh HP gP ji tV;show Ζ _ _ _ _ fun e w'=>∃A' c' B' k' Ws,e=.returned (φ #[γ A' n c',γ B' m k'])∧aR w' A' n c' Ws B' m k' Es∧Ws.map vS=P∧(∀a,A'=ζ a→W.heap.size≤a.block)∧c'≤Jap∧k'≤Jap∧σ W.heap.size W w'
 go_enter Tryz.func74,Tryz.ntmps74;go_upto_region 1 with fail
 have kM:Whole ((((W.alloc (δ #[γ A n c,γ B m k] 25)).alloc (δ #[J v1,J v2,J a1,J a2,J a3] 34)).alloc (δ #[J d1,J d2,J d3] 32)).alloc (δ #[γ ε 0 0,γ ε 0 0] 25)) (W.heap.size) 25 [γ A n c,γ B m k]:=((((Whole.new_ W 25 [γ A n c,γ B m k]).al (δ #[J v1,J v2,J a1,J a2,J a3] 34)).al (δ #[J d1,J d2,J d3] 32)).al (δ #[γ ε 0 0,γ ε 0 0] 25));have lj:Whole ((((W.alloc (δ #[γ A n c,γ B m k] 25)).alloc (δ #[J v1,J v2,J a1,J a2,J a3] 34)).alloc (δ #[J d1,J d2,J d3] 32)).alloc (δ #[γ ε 0 0,γ ε 0 0] 25)) (W.heap.size+1) 34 [J v1,J v2,J a1,J a2,J a3]:=(((Whole.new2 (w:=(W.alloc (δ #[γ A n c,γ B m k] 25))) (cs:=[J v1,J v2,J a1,J a2,J a3]) (by simp)).al (δ #[J d1,J d2,J d3] 32)).al (δ #[γ ε 0 0,γ ε 0 0] 25));have uN:Whole ((((W.alloc (δ #[γ A n c,γ B m k] 25)).alloc (δ #[J v1,J v2,J a1,J a2,J a3] 34)).alloc (δ #[J d1,J d2,J d3] 32)).alloc (δ #[γ ε 0 0,γ ε 0 0] 25)) (W.heap.size+1+1) 32 [J d1,J d2,J d3]:=((Whole.new2 (w:=((W.alloc (δ #[γ A n c,γ B m k] 25)).alloc (δ #[J v1,J v2,J a1,J a2,J a3] 34))) (cs:=[J d1,J d2,J d3]) (by simp)).al (δ #[γ ε 0 0,γ ε 0 0] 25))
 have IN:Whole ((((W.alloc (δ #[γ A n c,γ B m k] 25)).alloc (δ #[J v1,J v2,J a1,J a2,J a3] 34)).alloc (δ #[J d1,J d2,J d3] 32)).alloc (δ #[γ ε 0 0,γ ε 0 0] 25)) (W.heap.size+1+1+1) 25 [γ ε 0 0,γ ε 0 0]:=(Whole.new2 (w:=(((W.alloc (δ #[γ A n c,γ B m k] 25)).alloc (δ #[J v1,J v2,J a1,J a2,J a3] 34)).alloc (δ #[J d1,J d2,J d3] 32))) (cs:=[γ ε 0 0,γ ε 0 0]) (by simp));have qL:σ W.heap.size W ((((W.alloc (δ #[γ A n c,γ B m k] 25)).alloc (δ #[J v1,J v2,J a1,J a2,J a3] 34)).alloc (δ #[J d1,J d2,J d3] 32)).alloc (δ #[γ ε 0 0,γ ε 0 0] 25)):=(aE (aE (aE (ax W _) _) _) _);obtain⟨W0,bP⟩:=ay (((((W.alloc (δ #[γ A n c,γ B m k] 25)).alloc (δ #[J v1,J v2,J a1,J a2,J a3] 34)).alloc (δ #[J d1,J d2,J d3] 32)).alloc (δ #[γ ε 0 0,γ ε 0 0] 25)));rw[bP] at kM lj uN IN qL ⊢;obtain⟨b3,p9⟩:=ay (W.heap.size+1+1+1);rw[p9] at IN ⊢;obtain⟨b2,dN⟩:=ay (W.heap.size+1+1);rw[dN] at uN ⊢;obtain⟨b1,cX⟩:=ay (W.heap.size+1);rw[cX] at lj ⊢;obtain⟨b0,bK⟩:=ay W.heap.size;rw[bK] at kM ⊢;have aN:=qh kM;have aI:=qh lj;have aV:=qh uN
 have dp:=qh IN;have a8:=qh qL;have kQ:Hid (W.heap.size≤b0):=qh (by omega);have jK:Hid (W.heap.size≤b1):=qh (by omega);have bz:Hid (W.heap.size≤b2):=qh (by omega);have mg:Hid (W.heap.size≤b3):=qh (by omega);have mj:Hid (b0≠b1):=qh (by omega);have oK:Hid (b0≠b2):=qh (by omega);have N03:Hid (b0≠b3):=qh (by omega);have km:Hid (b1≠b2):=qh (by omega);have N13:Hid (b1≠b3):=qh (by omega);have Wi:Hid (b2≠b3):=qh (by omega);clear bP qL kM lj uN IN bK cX dN p9;have x0:=aN.out.cell (i:=0) rfl;have x1:=aN.out.cell (i:=1) rfl;have y0:=aI.out.cell (i:=0) rfl;have y1:=aI.out.cell (i:=1) rfl;have y2:=aI.out.cell (i:=2) rfl;have y3:=aI.out.cell (i:=3) rfl;have y4:=aI.out.cell (i:=4) rfl;have z0:=aV.out.cell (i:=0) rfl;have z1:=aV.out.cell (i:=1) rfl;have z2:=aV.out.cell (i:=2) rfl
 go_upto_region 2 with (first
  |(go_at_call 27
    refine(HV.out _ a8.out).mono ?_
    rintro e w2 ⟨rfl,ar⟩;have cy:=qh ar;clear ar x0 x1 y0 y1 y2 y3 y4 z0 z1 z2))
 have ar:=cy.out;have mG:=qh (aE (af a8.out ar) (δ #[J i1,J i2,γ rA rn bR,μ lb,J at_] 59));have la:=qh ((aN.out.bl ar).al (δ #[J i1,J i2,γ rA rn bR,μ lb,J at_] 59));have mm:=qh ((aI.out.bl ar).al (δ #[J i1,J i2,γ rA rn bR,μ lb,J at_] 59));have ko:=qh ((aV.out.bl ar).al (δ #[J i1,J i2,γ rA rn bR,μ lb,J at_] 59));have Ft:=qh ((dp.out.bl ar).al (δ #[J i1,J i2,γ rA rn bR,μ lb,J at_] 59));have mD:=qh (Whole.new_ w2 59 [J i1,J i2,γ rA rn bR,μ lb,J at_]);obtain⟨Kp,cS⟩:=ay (w2.alloc (δ #[J i1,J i2,γ rA rn bR,μ lb,J at_] 59));obtain⟨b4,dk⟩:=ay w2.heap.size;rw[cS] at mG mD la mm ko Ft ⊢;rw[dk] at mD ⊢;clear cS dk ar cy a8 aN aI aV dp HV;have sU:=dm (i:=2) mD.out rfl;refine bT (aF) [10] (by kernel_rfl) ?_;refine fC 0 (hy:=bU (by rfl) 25 (.tmp 3) rfl b0 rfl 25 [γ A n c,γ B m k] _ (fun w' h=>h.whole la.out.dr (fun h=>h)) Tryz.underlying25 rfl (by kernel_rfl)) (h:=?_);refine bf 1 ?_;refine fC 2 (hy:=bG (by rfl) 30 (.tmp 17) rfl ⟨b1,0,ε⟩ rfl [J v1,J v2] _ (fun w' h i u hu=>(h.whole mm.out.dr (fun h=>h)).sub_ 0 hu) Tryz.underlying30 rfl (by kernel_rfl)) (h:=?_);refine bf 3 ?_;refine bf 4 ?_
 refine bf 5 ?_;refine fC 6 (hy:=bG (by rfl) 32 (.tmp 21) rfl ⟨b1,2,ε⟩ rfl [J a1,J a2,J a3] _ (fun w' h i u hu=>(h.whole mm.out.dr (fun h=>h)).sub_ 2 hu) Tryz.underlying32 rfl (by kernel_rfl)) (h:=?_);refine fC 7 (hy:=bU (by rfl) 32 (.tmp 5) rfl b2 rfl 32 [J d1,J d2,J d3] _ (fun w' h=>h.whole ko.out.dr (fun h=>h)) Tryz.underlying32 rfl (by kernel_rfl)) (h:=?_);refine kP 8 ?_;intro w' aB;have hx:=(Θ _ Kp).drew.trans aB
 refine(HC.out w' (af mG.out hx)).mono ?_
 rintro e w9 ⟨A9,c9,rfl,o0,o6,Lc⟩
 refine⟨_,rfl,Kept.of_below o6,?_⟩
 have tX:Hid (σ Kp.heap.size Kp w9):=qh (Ext.trans hx o6);have oa:=qh o0;have S1:=qh Lc;obtain⟨N9,Ik⟩:=ay L9.length;have MA:=qh Ik;rw[Ik] at oa ⊢;clear hx aB o0 o6 Lc Ik HC;simp only[ξ,aq,ak,ao];refine kP 9 ?_;intro w' aB;have hx:σ Kp.heap.size Kp w':=Ext.trans tX.out aB
 refine(HR.out w' A9 N9 c9 (af mG.out hx) MA.out.symm ⟨S1.out,oa.out.bl aB⟩).mono ?_
 rintro e vB ⟨A5,c5,B5,k5,Ws,rfl,Ld,tC,za,qU,Cm,e6⟩
 refine⟨_,rfl,Kept.of_below e6,?_⟩
 have HD:=qh Ld;have HM:=qh tC;have HF:Hid (∀a,A5=ζ a→Kp.heap.size≤a.block):=qh (fun a ha=>Λ hx.size (za a ha));have R6:=qh (Jax qU Cm);have Pb:Hid (σ Kp.heap.size Kp vB):=qh (Ext.trans hx e6);clear hx aB Ld tC za qU Cm e6 tX oa S1 MA HR;simp only[ξ,aq,ak,ao];refine lK 10 ?_;intro w' aB;have hx:σ Kp.heap.size Kp w':=Ext.trans Pb.out aB;have hZ:=Ft.out.bl hx
 refine⟨w'.setCells b3 0 [γ A5 n c5,γ B5 m k5],eO 25 (.tmp 6) (.tmp 25) rfl b3 0 rfl [γ A5 n c5,γ B5 m k5] rfl (hZ.there_ 0 2 (by decide)) (by kernel_rfl) (by simp[Τ]),?_⟩
 have sY:∀a,A5=ζ a→0<n→a.block≠b3:=fun a ha _=>by
  have h1:=HF.out a ha;have h2:=Ft.out.lt;omega
 have sm:Hid (aR (w'.setCells b3 0 [γ A5 n c5,γ B5 m k5]) A5 n c5 Ws B5 m k5 Es):=qh (mv (mv (HD.out.bl aB) (hZ.cell (i:=0) rfl) sY _) ((hZ.set_ 0 _).cell (i:=1) rfl) sY _);have xY:Hid (Whole (w'.setCells b3 0 [γ A5 n c5,γ B5 m k5]) b3 25 [γ A5 n c5,γ B5 m k5]):=qh ((hZ.set_ 0 (γ A5 n c5)).set_ 1 (γ B5 m k5));have gW:Hid (σ W.heap.size W (w'.setCells b3 0 [γ A5 n c5,γ B5 m k5])):=qh (((af mG.out hx).setCell (p:=⟨b3,0,ε⟩) mg.out (γ A5 n c5)).setCell (p:=⟨b3,1,ε⟩) mg.out (γ B5 m k5));obtain⟨V5,s5⟩:=ay (w'.setCells b3 0 [γ A5 n c5,γ B5 m k5]);rw[s5] at sm xY gW ⊢;have ZQ:Hid (∀a,A5=ζ a→W.heap.size≤a.block):=qh (fun a ha=>Λ mG.out.size (HF.out a ha));clear s5 aB hx hZ sY HD Pb HF;(try simp only[ξ,aq,ak,ao]);refine eX (by kernel_rfl) ?_ _;intro w8 cE;have Cf:=qh (sm.out.bl cE);have rY:=qh (xY.out.bl cE);have oR:=qh (af gW.out cE);clear cE sm xY gW;go_wp2;exact bS rfl b3 rfl rY.out Tryz.underlying25 rfl (by kernel_rfl) rfl ⟨A5,c5,B5,k5,Ws,rfl,Cf.out,HM.out,ZQ.out,R6.out.1,R6.out.2,oR.out⟩
theorem s7 {W:ο} {A:Option Κ} {n c:Nat} {Vs:List VC} {B:Option Κ} {m k:Nat} {Es:List EC} (h:aR W A n c Vs B m k Es) (hn:n≤1000) (hm:m≤1000) (hr:∀x∈Vs,x.2.1.2.1≤900000) (a1 a2 a3 d1 d2 d3:Int):
 Ζ η 78 #[φ #[γ A n c,γ B m k],φ #[J a1,J a2,J a3],φ #[J d1,J d2,J d3]] W (im W n m (dn (Vs.map vS) (a1,a2,a3) (d1,d2,d3)) Es):=by
 have yF:Hid (∀X,σ W.heap.size W X→Ζ η 29 #[φ #[γ A n c,γ B m k],φ #[J a1,J a2,J a3]] X fun e w'=>e=.returned (Ξ #[φ #[J (kj Vs (a1,a2,a3)).1.1,J (kj Vs (a1,a2,a3)).1.2],Β (kj Vs (a1,a2,a3)).2])∧σ X.heap.size X w'):=qh (fun X hX=>oN A n c Vs B m k Es a1 a2 a3 X (h.below hX) (by omega) (fun y hy=>by have:=hr y hy;omega));have Ex:=congrArg (·.1) (He Vs (a1,a2,a3));dsimp only at Ex;obtain⟨⟨⟨v1,v2⟩,st⟩,SG⟩:∃z,kj Vs (a1,a2,a3)=z:=⟨_,rfl⟩
 rw[SG] at yF Ex;clear SG;have HV:Hid (∀X,σ W.heap.size W X→Ζ η 27 #[φ #[γ A n c,γ B m k],φ #[J v1,J v2]] X fun e w'=>e=.returned (Ξ #[φ (vC (bu Vs (v1,v2)).1).toArray,Β (bu Vs (v1,v2)).2])∧σ X.heap.size X w'):=qh (fun X hX=>fJ A n c Vs B m k Es v1 v2 X (h.v.bl hX) (by omega));have bB:=(dO Vs (v1,v2)).2
 have fp:RgOk W (bu Vs (v1,v2)).1.2.1∧(bu Vs (v1,v2)).1.2.1.2.1≤900000:=by
  rcases gM (fun v:VC=>v.1) zV Vs (v1,v2) with h1|h1
  ·exact⟨h.r _ h1,hr _ h1⟩
  ·rw[show(bu Vs (v1,v2))=(zV,ρ) from h1];exact⟨⟨by decide,fw W _⟩,by decide⟩
 obtain⟨⟨u,ok⟩,gu⟩:∃z,bu Vs (v1,v2)=z:=⟨_,rfl⟩
 rw[gu] at HV bB fp;obtain⟨⟨i1,i2⟩,⟨rA,rn,bR,rL⟩,lb,at_⟩:=u;replace HV:Hid (∀X,σ W.heap.size W X→Ζ η 27 #[φ #[γ A n c,γ B m k],φ #[J v1,J v2]] X fun e w'=>e=.returned (Ξ #[φ #[J i1,J i2,γ rA rn bR,μ lb,J at_],Β ok])∧σ X.heap.size X w'):=HV;obtain⟨fp,sK⟩:=fp;dsimp only at bB fp sK;have ji:rL.length=rn:=by have:=fp.2.len;rw[bJ] at this;dsimp only at this;omega
 have HC:Hid (∀X,σ W.heap.size W X→Ζ η 103 #[γ rA rn bR,φ #[J a1,J a2,J a3],φ #[J d1,J d2,J d3]] X (sC X (aS (fo rL (a1,a2,a3) (d1,d2,d3))))):=qh (fun X hX=>Gl rA rn bR rL (a1,a2,a3) (d1,d2,d3) X (fp.2.bl hX) (by omega))
 have tV:(aS (fo rL (a1,a2,a3) (d1,d2,d3))).length≤900001:=by
  rw[dI];unfold fo;split<;>(try simp only[Ε,JaH,JaA,Jaz])<;>omega
 have HP:Hid (bZ (Vs.map vS) (v1,v2) (aS (fo rL (a1,a2,a3) (d1,d2,d3)))=dn (Vs.map vS) (a1,a2,a3) (d1,d2,d3)):=qh (by
  unfold dn;rw[←Ex,←bB])
 obtain⟨L9,Lh⟩:=ay (aS (fo rL (a1,a2,a3) (d1,d2,d3)));rw[Lh] at HC HP tV;have HR:Hid (∀X A9 N9 c9,σ W.heap.size W X→N9=L9.length→RgOk X (A9,N9,c9,L9)→Ζ η 99 #[φ #[γ A n c,γ B m k],φ #[J v1,J v2],γ A9 N9 c9] X (im X n m (bZ (Vs.map vS) (v1,v2) L9) Es)):=qh (fun X A9 N9 c9 hX _ hR=>pB (h.below hX) hn hm (fun x hx=>by have:=hr x hx;omega) (v1,v2) (A9,N9,c9,L9) hR);rw[HP.out] at HR;obtain⟨P,gP⟩:=ay (dn (Vs.map vS) (a1,a2,a3) (d1,d2,d3));rw[gP] at HR ⊢;clear h hr gu bB fp sK Lh HP gP ji tV Ex;show Ζ _ _ _ _ fun e w'=>∃A' c' B' k' Ws,e=.returned (φ #[γ A' n c',γ B' m k'])∧aR w' A' n c' Ws B' m k' Es∧Ws.map vS=P∧(∀a,A'=ζ a→W.heap.size≤a.block)∧c'≤Jap∧k'≤Jap∧σ W.heap.size W w'
 go_enter Tryz.func78,Tryz.ntmps78;go_upto_region 1 with fail
 have kM:Whole ((((W.alloc (δ #[γ A n c,γ B m k] 25)).alloc (δ #[J a1,J a2,J a3] 32)).alloc (δ #[J d1,J d2,J d3] 32)).alloc (δ #[γ ε 0 0,γ ε 0 0] 25)) (W.heap.size) 25 [γ A n c,γ B m k]:=((((Whole.new_ W 25 [γ A n c,γ B m k]).al (δ #[J a1,J a2,J a3] 32)).al (δ #[J d1,J d2,J d3] 32)).al (δ #[γ ε 0 0,γ ε 0 0] 25));have lj:Whole ((((W.alloc (δ #[γ A n c,γ B m k] 25)).alloc (δ #[J a1,J a2,J a3] 32)).alloc (δ #[J d1,J d2,J d3] 32)).alloc (δ #[γ ε 0 0,γ ε 0 0] 25)) (W.heap.size+1) 32 [J a1,J a2,J a3]:=(((Whole.new2 (w:=(W.alloc (δ #[γ A n c,γ B m k] 25))) (cs:=[J a1,J a2,J a3]) (by simp)).al (δ #[J d1,J d2,J d3] 32)).al (δ #[γ ε 0 0,γ ε 0 0] 25));have uN:Whole ((((W.alloc (δ #[γ A n c,γ B m k] 25)).alloc (δ #[J a1,J a2,J a3] 32)).alloc (δ #[J d1,J d2,J d3] 32)).alloc (δ #[γ ε 0 0,γ ε 0 0] 25)) (W.heap.size+1+1) 32 [J d1,J d2,J d3]:=((Whole.new2 (w:=((W.alloc (δ #[γ A n c,γ B m k] 25)).alloc (δ #[J a1,J a2,J a3] 32))) (cs:=[J d1,J d2,J d3]) (by simp)).al (δ #[γ ε 0 0,γ ε 0 0] 25))
 have IN:Whole ((((W.alloc (δ #[γ A n c,γ B m k] 25)).alloc (δ #[J a1,J a2,J a3] 32)).alloc (δ #[J d1,J d2,J d3] 32)).alloc (δ #[γ ε 0 0,γ ε 0 0] 25)) (W.heap.size+1+1+1) 25 [γ ε 0 0,γ ε 0 0]:=(Whole.new2 (w:=(((W.alloc (δ #[γ A n c,γ B m k] 25)).alloc (δ #[J a1,J a2,J a3] 32)).alloc (δ #[J d1,J d2,J d3] 32))) (cs:=[γ ε 0 0,γ ε 0 0]) (by simp));have qL:σ W.heap.size W ((((W.alloc (δ #[γ A n c,γ B m k] 25)).alloc (δ #[J a1,J a2,J a3] 32)).alloc (δ #[J d1,J d2,J d3] 32)).alloc (δ #[γ ε 0 0,γ ε 0 0] 25)):=(aE (aE (aE (ax W _) _) _) _);obtain⟨W0,bP⟩:=ay (((((W.alloc (δ #[γ A n c,γ B m k] 25)).alloc (δ #[J a1,J a2,J a3] 32)).alloc (δ #[J d1,J d2,J d3] 32)).alloc (δ #[γ ε 0 0,γ ε 0 0] 25)));rw[bP] at kM lj uN IN qL ⊢;obtain⟨b3,p9⟩:=ay (W.heap.size+1+1+1);rw[p9] at IN ⊢;obtain⟨b2,dN⟩:=ay (W.heap.size+1+1);rw[dN] at uN ⊢;obtain⟨b1,cX⟩:=ay (W.heap.size+1);rw[cX] at lj ⊢;obtain⟨b0,bK⟩:=ay W.heap.size;rw[bK] at kM ⊢;have aN:=qh kM;have aI:=qh lj;have aV:=qh uN;have dp:=qh IN;have a8:=qh qL;have kQ:Hid (W.heap.size≤b0):=qh (by omega);have jK:Hid (W.heap.size≤b1):=qh (by omega)
 have bz:Hid (W.heap.size≤b2):=qh (by omega);have mg:Hid (W.heap.size≤b3):=qh (by omega);have mj:Hid (b0≠b1):=qh (by omega);have oK:Hid (b0≠b2):=qh (by omega);have N03:Hid (b0≠b3):=qh (by omega);have km:Hid (b1≠b2):=qh (by omega);have N13:Hid (b1≠b3):=qh (by omega);have Wi:Hid (b2≠b3):=qh (by omega);clear bP qL kM lj uN IN bK cX dN p9;have x0:=aN.out.cell (i:=0) rfl;have x1:=aN.out.cell (i:=1) rfl;have y0:=aI.out.cell (i:=0) rfl;have y1:=aI.out.cell (i:=1) rfl;have y2:=aI.out.cell (i:=2) rfl;have z0:=aV.out.cell (i:=0) rfl;have z1:=aV.out.cell (i:=1) rfl;have z2:=aV.out.cell (i:=2) rfl
 go_upto_region 2 with (first
  |(go_at_call 29
    refine(yF.out _ a8.out).mono ?_
    rintro e w2 ⟨rfl,ar⟩;have cy:=qh ar;clear ar x0 x1 y0 y1 y2 z0 z1 z2))
 have ar:=cy.out;have mG:=qh (aE (af a8.out ar) (δ #[J v1,J v2] 30));have la:=qh ((aN.out.bl ar).al (δ #[J v1,J v2] 30));have mm:=qh ((aI.out.bl ar).al (δ #[J v1,J v2] 30));have ko:=qh ((aV.out.bl ar).al (δ #[J v1,J v2] 30));have Ft:=qh ((dp.out.bl ar).al (δ #[J v1,J v2] 30));have mD:=qh (Whole.new_ w2 30 [J v1,J v2]);obtain⟨Kp,cS⟩:=ay (w2.alloc (δ #[J v1,J v2] 30));obtain⟨b4,dk⟩:=ay w2.heap.size;rw[cS] at mG mD la mm ko Ft ⊢;rw[dk] at mD ⊢;clear cS dk ar cy a8 aN aI aV dp yF;have x0:=la.out.cell (i:=0) rfl;have x1:=la.out.cell (i:=1) rfl;have y0:=mD.out.cell (i:=0) rfl;have y1:=mD.out.cell (i:=1) rfl
 go_upto_region 3 with (first
  |(go_at_call 27
    refine(HV.out _ mG.out).mono ?_
    rintro e w2 ⟨rfl,ar⟩;have cy:=qh ar;clear ar x0 x1 y0 y1))
 have ar:=cy.out;have pU:=qh (aE (af mG.out ar) (δ #[J i1,J i2,γ rA rn bR,μ lb,J at_] 59));have sZ:=qh ((la.out.bl ar).al (δ #[J i1,J i2,γ rA rn bR,μ lb,J at_] 59));have nH:=qh ((mm.out.bl ar).al (δ #[J i1,J i2,γ rA rn bR,μ lb,J at_] 59));have pr:=qh ((ko.out.bl ar).al (δ #[J i1,J i2,γ rA rn bR,μ lb,J at_] 59));have NL:=qh ((Ft.out.bl ar).al (δ #[J i1,J i2,γ rA rn bR,μ lb,J at_] 59));have Bc:=qh ((mD.out.bl ar).al (δ #[J i1,J i2,γ rA rn bR,μ lb,J at_] 59));have q9:=qh (Whole.new_ w2 59 [J i1,J i2,γ rA rn bR,μ lb,J at_]);obtain⟨yz,cS⟩:=ay (w2.alloc (δ #[J i1,J i2,γ rA rn bR,μ lb,J at_] 59));obtain⟨b5,dk⟩:=ay w2.heap.size;rw[cS] at pU q9 sZ nH pr NL Bc ⊢;rw[dk] at q9 ⊢;clear cS dk ar cy mG la mm ko Ft mD HV;have pt:=dm (i:=2) q9.out rfl;refine bT (aF) [8] (by kernel_rfl) ?_;refine fC 0 (hy:=bU (by rfl) 25 (.tmp 3) rfl b0 rfl 25 [γ A n c,γ B m k] _ (fun w' h=>h.whole sZ.out.dr (fun h=>h)) Tryz.underlying25 rfl (by kernel_rfl)) (h:=?_);refine fC 1 (hy:=bU (by rfl) 30 (.tmp 7) rfl b4 rfl 30 [J v1,J v2] _ (fun w' h=>h.whole Bc.out.dr (fun h=>h)) Tryz.underlying30 rfl (by kernel_rfl)) (h:=?_)
 refine bf 2 ?_;refine bf 3 ?_;refine fC 4 (hy:=bU (by rfl) 32 (.tmp 4) rfl b1 rfl 32 [J a1,J a2,J a3] _ (fun w' h=>h.whole nH.out.dr (fun h=>h)) Tryz.underlying32 rfl (by kernel_rfl)) (h:=?_);refine fC 5 (hy:=bU (by rfl) 32 (.tmp 5) rfl b2 rfl 32 [J d1,J d2,J d3] _ (fun w' h=>h.whole pr.out.dr (fun h=>h)) Tryz.underlying32 rfl (by kernel_rfl)) (h:=?_);refine kP 6 ?_;intro w' aB;have hx:=(Θ _ yz).drew.trans aB
 refine(HC.out w' (af pU.out hx)).mono ?_
 rintro e w9 ⟨A9,c9,rfl,o0,o6,Lc⟩
 refine⟨_,rfl,Kept.of_below o6,?_⟩
 have tX:Hid (σ yz.heap.size yz w9):=qh (Ext.trans hx o6);have oa:=qh o0;have S1:=qh Lc;obtain⟨N9,Ik⟩:=ay L9.length;have MA:=qh Ik;rw[Ik] at oa ⊢;clear hx aB o0 o6 Lc Ik HC;simp only[ξ,aq,ak,ao];refine kP 7 ?_;intro w' aB;have hx:σ yz.heap.size yz w':=Ext.trans tX.out aB
 refine(HR.out w' A9 N9 c9 (af pU.out hx) MA.out.symm ⟨S1.out,oa.out.bl aB⟩).mono ?_
 rintro e vB ⟨A5,c5,B5,k5,Ws,rfl,Ld,tC,za,qU,Cm,e6⟩
 refine⟨_,rfl,Kept.of_below e6,?_⟩
 have HD:=qh Ld;have HM:=qh tC;have HF:Hid (∀a,A5=ζ a→yz.heap.size≤a.block):=qh (fun a ha=>Λ hx.size (za a ha));have R6:=qh (Jax qU Cm);have Pb:Hid (σ yz.heap.size yz vB):=qh (Ext.trans hx e6);clear hx aB Ld tC za qU Cm e6 tX oa S1 MA HR;simp only[ξ,aq,ak,ao];refine lK 8 ?_;intro w' aB;have hx:σ yz.heap.size yz w':=Ext.trans Pb.out aB;have hZ:=NL.out.bl hx
 refine⟨w'.setCells b3 0 [γ A5 n c5,γ B5 m k5],eO 25 (.tmp 6) (.tmp 30) rfl b3 0 rfl [γ A5 n c5,γ B5 m k5] rfl (hZ.there_ 0 2 (by decide)) (by kernel_rfl) (by simp[Τ]),?_⟩
 have sY:∀a,A5=ζ a→0<n→a.block≠b3:=fun a ha _=>by
  have h1:=HF.out a ha;have h2:=NL.out.lt;omega
 have sm:Hid (aR (w'.setCells b3 0 [γ A5 n c5,γ B5 m k5]) A5 n c5 Ws B5 m k5 Es):=qh (mv (mv (HD.out.bl aB) (hZ.cell (i:=0) rfl) sY _) ((hZ.set_ 0 _).cell (i:=1) rfl) sY _);have xY:Hid (Whole (w'.setCells b3 0 [γ A5 n c5,γ B5 m k5]) b3 25 [γ A5 n c5,γ B5 m k5]):=qh ((hZ.set_ 0 (γ A5 n c5)).set_ 1 (γ B5 m k5));have gW:Hid (σ W.heap.size W (w'.setCells b3 0 [γ A5 n c5,γ B5 m k5])):=qh (((af pU.out hx).setCell (p:=⟨b3,0,ε⟩) mg.out (γ A5 n c5)).setCell (p:=⟨b3,1,ε⟩) mg.out (γ B5 m k5));obtain⟨V5,s5⟩:=ay (w'.setCells b3 0 [γ A5 n c5,γ B5 m k5]);rw[s5] at sm xY gW ⊢;have ZQ:Hid (∀a,A5=ζ a→W.heap.size≤a.block):=qh (fun a ha=>Λ pU.out.size (HF.out a ha));clear s5 aB hx hZ sY HD Pb HF;(try simp only[ξ,aq,ak,ao]);refine eX (by kernel_rfl) ?_ _;intro w8 cE;have Cf:=qh (sm.out.bl cE);have rY:=qh (xY.out.bl cE);have oR:=qh (af gW.out cE);clear cE sm xY gW;go_wp2;exact bS rfl b3 rfl rY.out Tryz.underlying25 rfl (by kernel_rfl) rfl ⟨A5,c5,B5,k5,Ws,rfl,Cf.out,HM.out,ZQ.out,R6.out.1,R6.out.2,oR.out⟩
theorem tx {W:ο} {A:Option Κ} {n c:Nat} {Vs:List VC} {B:Option Κ} {m k:Nat} {Es:List EC} (h:aR W A n c Vs B m k Es) (hn:n≤1000) (hm:m≤1000) (hr:∀x∈Vs,x.2.1.2.1≤900000) (a1 a2 a3:Int):
 Ζ η 77 #[φ #[γ A n c,γ B m k],φ #[J a1,J a2,J a3]] W (im W n m (bZ (Vs.map vS) (wh (Vs.map vS) (a1,a2,a3)) (aS (rW (cL (Vs.map vS) (wh (Vs.map vS) (a1,a2,a3))) (a1,a2,a3)))) Es):=by
 have yF:Hid (∀X,σ W.heap.size W X→Ζ η 29 #[φ #[γ A n c,γ B m k],φ #[J a1,J a2,J a3]] X fun e w'=>e=.returned (Ξ #[φ #[J (kj Vs (a1,a2,a3)).1.1,J (kj Vs (a1,a2,a3)).1.2],Β (kj Vs (a1,a2,a3)).2])∧σ X.heap.size X w'):=qh (fun X hX=>oN A n c Vs B m k Es a1 a2 a3 X (h.below hX) (by omega) (fun y hy=>by have:=hr y hy;omega));have Ex:=congrArg (·.1) (He Vs (a1,a2,a3));dsimp only at Ex;obtain⟨⟨⟨v1,v2⟩,st⟩,SG⟩:∃z,kj Vs (a1,a2,a3)=z:=⟨_,rfl⟩
 rw[SG] at yF Ex;clear SG;have HV:Hid (∀X,σ W.heap.size W X→Ζ η 27 #[φ #[γ A n c,γ B m k],φ #[J v1,J v2]] X fun e w'=>e=.returned (Ξ #[φ (vC (bu Vs (v1,v2)).1).toArray,Β (bu Vs (v1,v2)).2])∧σ X.heap.size X w'):=qh (fun X hX=>fJ A n c Vs B m k Es v1 v2 X (h.v.bl hX) (by omega));have bB:=(dO Vs (v1,v2)).2
 have fp:RgOk W (bu Vs (v1,v2)).1.2.1∧(bu Vs (v1,v2)).1.2.1.2.1≤900000:=by
  rcases gM (fun v:VC=>v.1) zV Vs (v1,v2) with h1|h1
  ·exact⟨h.r _ h1,hr _ h1⟩
  ·rw[show(bu Vs (v1,v2))=(zV,ρ) from h1];exact⟨⟨by decide,fw W _⟩,by decide⟩
 obtain⟨⟨u,ok⟩,gu⟩:∃z,bu Vs (v1,v2)=z:=⟨_,rfl⟩
 rw[gu] at HV bB fp;obtain⟨⟨i1,i2⟩,⟨rA,rn,bR,rL⟩,lb,at_⟩:=u;replace HV:Hid (∀X,σ W.heap.size W X→Ζ η 27 #[φ #[γ A n c,γ B m k],φ #[J v1,J v2]] X fun e w'=>e=.returned (Ξ #[φ #[J i1,J i2,γ rA rn bR,μ lb,J at_],Β ok])∧σ X.heap.size X w'):=HV;obtain⟨fp,sK⟩:=fp;dsimp only at bB fp sK;have ji:rL.length=rn:=by have:=fp.2.len;rw[bJ] at this;dsimp only at this;omega
 have HC:Hid (∀X,σ W.heap.size W X→Ζ η 102 #[γ rA rn bR,φ #[J a1,J a2,J a3]] X (sC X (aS (rW rL (a1,a2,a3))))):=qh (fun X hX=>zi rA rn bR rL (a1,a2,a3) X (fp.2.bl hX) (by omega))
 have tV:(aS (rW rL (a1,a2,a3))).length≤900001:=by
  rw[dI];exact Λ (List.length_filter_le _ _) (by omega)
 have HP:Hid (bZ (Vs.map vS) (v1,v2) (aS (rW rL (a1,a2,a3)))=bZ (Vs.map vS) (wh (Vs.map vS) (a1,a2,a3)) (aS (rW (cL (Vs.map vS) (wh (Vs.map vS) (a1,a2,a3))) (a1,a2,a3)))):=qh (by
  rw[←Ex,←bB])
 obtain⟨L9,Lh⟩:=ay (aS (rW rL (a1,a2,a3)));rw[Lh] at HC HP tV;have HR:Hid (∀X A9 N9 c9,σ W.heap.size W X→N9=L9.length→RgOk X (A9,N9,c9,L9)→Ζ η 99 #[φ #[γ A n c,γ B m k],φ #[J v1,J v2],γ A9 N9 c9] X (im X n m (bZ (Vs.map vS) (v1,v2) L9) Es)):=qh (fun X A9 N9 c9 hX _ hR=>pB (h.below hX) hn hm (fun x hx=>by have:=hr x hx;omega) (v1,v2) (A9,N9,c9,L9) hR);rw[HP.out] at HR;obtain⟨P,gP⟩:=ay (bZ (Vs.map vS) (wh (Vs.map vS) (a1,a2,a3)) (aS (rW (cL (Vs.map vS) (wh (Vs.map vS) (a1,a2,a3))) (a1,a2,a3))));rw[gP] at HR ⊢;clear h hr gu bB fp sK Lh HP gP ji tV Ex;show Ζ _ _ _ _ fun e w'=>∃A' c' B' k' Ws,e=.returned (φ #[γ A' n c',γ B' m k'])∧aR w' A' n c' Ws B' m k' Es∧Ws.map vS=P∧(∀a,A'=ζ a→W.heap.size≤a.block)∧c'≤Jap∧k'≤Jap∧σ W.heap.size W w'
 go_enter Tryz.func77,Tryz.ntmps77;go_upto_region 1 with fail
 obtain⟨W0,b0,b1,b2,bP,bK,cX,dN,aN,aI,aV,a8,-,-,kQ,-,jK,-,bz,mj,oK,km⟩:=jN W 25 [γ A n c,γ B m k] 32 [J a1,J a2,J a3] 25 [γ ε 0 0,γ ε 0 0];rw[bP,dN,cX,bK];clear bP bK cX dN;have x0:=aN.out.cell (i:=0) rfl;have x1:=aN.out.cell (i:=1) rfl;have y0:=aI.out.cell (i:=0) rfl;have y1:=aI.out.cell (i:=1) rfl;have y2:=aI.out.cell (i:=2) rfl
 go_upto_region 2 with (first
  |(go_at_call 29
    refine(yF.out _ a8.out).mono ?_
    rintro e w2 ⟨rfl,ar⟩;have cy:=qh ar;clear ar x0 x1 y0 y1 y2))
 have ar:=cy.out;have mG:=qh (aE (af a8.out ar) (δ #[J v1,J v2] 30));have la:=qh ((aN.out.bl ar).al (δ #[J v1,J v2] 30));have mm:=qh ((aI.out.bl ar).al (δ #[J v1,J v2] 30));have ko:=qh ((aV.out.bl ar).al (δ #[J v1,J v2] 30));have mD:=qh (Whole.new_ w2 30 [J v1,J v2]);obtain⟨Kp,cS⟩:=ay (w2.alloc (δ #[J v1,J v2] 30));obtain⟨b3,dk⟩:=ay w2.heap.size;rw[cS] at mG mD la mm ko ⊢;rw[dk] at mD ⊢;clear cS dk ar cy a8 aN aI aV yF;have x0:=la.out.cell (i:=0) rfl;have x1:=la.out.cell (i:=1) rfl;have y0:=mD.out.cell (i:=0) rfl;have y1:=mD.out.cell (i:=1) rfl
 go_upto_region 3 with (first
  |(go_at_call 27
    refine(HV.out _ mG.out).mono ?_
    rintro e w2 ⟨rfl,ar⟩;have cy:=qh ar;clear ar x0 x1 y0 y1))
 have ar:=cy.out;have pU:=qh (aE (af mG.out ar) (δ #[J i1,J i2,γ rA rn bR,μ lb,J at_] 59));have sZ:=qh ((la.out.bl ar).al (δ #[J i1,J i2,γ rA rn bR,μ lb,J at_] 59));have nH:=qh ((mm.out.bl ar).al (δ #[J i1,J i2,γ rA rn bR,μ lb,J at_] 59));have pr:=qh ((ko.out.bl ar).al (δ #[J i1,J i2,γ rA rn bR,μ lb,J at_] 59));have Bc:=qh ((mD.out.bl ar).al (δ #[J i1,J i2,γ rA rn bR,μ lb,J at_] 59));have q9:=qh (Whole.new_ w2 59 [J i1,J i2,γ rA rn bR,μ lb,J at_]);obtain⟨yz,cS⟩:=ay (w2.alloc (δ #[J i1,J i2,γ rA rn bR,μ lb,J at_] 59));obtain⟨b4,dk⟩:=ay w2.heap.size;rw[cS] at pU q9 sZ nH pr Bc ⊢;rw[dk] at q9 ⊢;clear cS dk ar cy mG la mm ko mD HV;have pt:=dm (i:=2) q9.out rfl;refine bT (aF) [7] (by kernel_rfl) ?_;refine fC 0 (hy:=bU (by rfl) 25 (.tmp 2) rfl b0 rfl 25 [γ A n c,γ B m k] _ (fun w' h=>h.whole sZ.out.dr (fun h=>h)) Tryz.underlying25 rfl (by kernel_rfl)) (h:=?_);refine fC 1 (hy:=bU (by rfl) 30 (.tmp 5) rfl b3 rfl 30 [J v1,J v2] _ (fun w' h=>h.whole Bc.out.dr (fun h=>h)) Tryz.underlying30 rfl (by kernel_rfl)) (h:=?_);refine bf 2 ?_;refine bf 3 ?_;refine fC 4 (hy:=bU (by rfl) 32 (.tmp 3) rfl b1 rfl 32 [J a1,J a2,J a3] _ (fun w' h=>h.whole nH.out.dr (fun h=>h)) Tryz.underlying32 rfl (by kernel_rfl)) (h:=?_)
 refine kP 5 ?_;intro w' aB;have hx:=(Θ _ yz).drew.trans aB
 refine(HC.out w' (af pU.out hx)).mono ?_
 rintro e w9 ⟨A9,c9,rfl,o0,o6,Lc⟩
 refine⟨_,rfl,Kept.of_below o6,?_⟩
 have tX:Hid (σ yz.heap.size yz w9):=qh (Ext.trans hx o6);have oa:=qh o0;have S1:=qh Lc;obtain⟨N9,Ik⟩:=ay L9.length;have MA:=qh Ik;rw[Ik] at oa ⊢;clear hx aB o0 o6 Lc Ik HC;simp only[ξ,aq,ak,ao];refine kP 6 ?_;intro w' aB;have hx:σ yz.heap.size yz w':=Ext.trans tX.out aB
 refine(HR.out w' A9 N9 c9 (af pU.out hx) MA.out.symm ⟨S1.out,oa.out.bl aB⟩).mono ?_
 rintro e vB ⟨A5,c5,B5,k5,Ws,rfl,Ld,tC,za,qU,Cm,e6⟩
 refine⟨_,rfl,Kept.of_below e6,?_⟩
 have HD:=qh Ld;have HM:=qh tC;have HF:Hid (∀a,A5=ζ a→yz.heap.size≤a.block):=qh (fun a ha=>Λ hx.size (za a ha));have R6:=qh (Jax qU Cm);have Pb:Hid (σ yz.heap.size yz vB):=qh (Ext.trans hx e6);clear hx aB Ld tC za qU Cm e6 tX oa S1 MA HR;simp only[ξ,aq,ak,ao];refine lK 7 ?_;intro w' aB;have hx:σ yz.heap.size yz w':=Ext.trans Pb.out aB;have hZ:=pr.out.bl hx
 refine⟨w'.setCells b2 0 [γ A5 n c5,γ B5 m k5],eO 25 (.tmp 4) (.tmp 27) rfl b2 0 rfl [γ A5 n c5,γ B5 m k5] rfl (hZ.there_ 0 2 (by decide)) (by kernel_rfl) (by simp[Τ]),?_⟩
 have sY:∀a,A5=ζ a→0<n→a.block≠b2:=fun a ha _=>by
  have h1:=HF.out a ha;have h2:=pr.out.lt;omega
 have sm:Hid (aR (w'.setCells b2 0 [γ A5 n c5,γ B5 m k5]) A5 n c5 Ws B5 m k5 Es):=qh (mv (mv (HD.out.bl aB) (hZ.cell (i:=0) rfl) sY _) ((hZ.set_ 0 _).cell (i:=1) rfl) sY _);have xY:Hid (Whole (w'.setCells b2 0 [γ A5 n c5,γ B5 m k5]) b2 25 [γ A5 n c5,γ B5 m k5]):=qh ((hZ.set_ 0 (γ A5 n c5)).set_ 1 (γ B5 m k5));have gW:Hid (σ W.heap.size W (w'.setCells b2 0 [γ A5 n c5,γ B5 m k5])):=qh (((af pU.out hx).setCell (p:=⟨b2,0,ε⟩) bz.out (γ A5 n c5)).setCell (p:=⟨b2,1,ε⟩) bz.out (γ B5 m k5));obtain⟨V5,s5⟩:=ay (w'.setCells b2 0 [γ A5 n c5,γ B5 m k5]);rw[s5] at sm xY gW ⊢;have ZQ:Hid (∀a,A5=ζ a→W.heap.size≤a.block):=qh (fun a ha=>Λ pU.out.size (HF.out a ha));clear s5 aB hx hZ sY HD Pb HF;(try simp only[ξ,aq,ak,ao]);refine eX (by kernel_rfl) ?_ _;intro w8 cE;have Cf:=qh (sm.out.bl cE);have rY:=qh (xY.out.bl cE);have oR:=qh (af gW.out cE);clear cE sm xY gW;go_wp2;exact bS rfl b2 rfl rY.out Tryz.underlying25 rfl (by kernel_rfl) rfl ⟨A5,c5,B5,k5,Ws,rfl,Cf.out,HM.out,ZQ.out,R6.out.1,R6.out.2,oR.out⟩
theorem GS {W:ο} {A:Option Κ} {n c:Nat} {Vs:List VC} {B:Option Κ} {m k:Nat} {Es:List EC} (h:aR W A n c Vs B m k Es) (hn:n≤1000) (hr:∀x∈Vs,x.2.1.2.1≤900000) (a1 a2 a3:Int):
 Ζ η 76 #[φ #[γ A n c,γ B m k],φ #[J a1,J a2,J a3]] W fun e w'=>e=.returned (φ #[J (iI (Vs.map vS) (a1,a2,a3)).1,J (iI (Vs.map vS) (a1,a2,a3)).2.1,J (iI (Vs.map vS) (a1,a2,a3)).2.2])∧σ W.heap.size W w':=by
 have yF:Hid (∀X,σ W.heap.size W X→Ζ η 29 #[φ #[γ A n c,γ B m k],φ #[J a1,J a2,J a3]] X fun e w'=>e=.returned (Ξ #[φ #[J (kj Vs (a1,a2,a3)).1.1,J (kj Vs (a1,a2,a3)).1.2],Β (kj Vs (a1,a2,a3)).2])∧σ X.heap.size X w'):=qh (fun X hX=>oN A n c Vs B m k Es a1 a2 a3 X (h.below hX) (by omega) (fun y hy=>by have:=hr y hy;omega));have Ex:=congrArg (·.1) (He Vs (a1,a2,a3));dsimp only at Ex;obtain⟨⟨⟨v1,v2⟩,st⟩,SG⟩:∃z,kj Vs (a1,a2,a3)=z:=⟨_,rfl⟩
 rw[SG] at yF Ex;clear SG;have HV:Hid (∀X,σ W.heap.size W X→Ζ η 27 #[φ #[γ A n c,γ B m k],φ #[J v1,J v2]] X fun e w'=>e=.returned (Ξ #[φ (vC (bu Vs (v1,v2)).1).toArray,Β (bu Vs (v1,v2)).2])∧σ X.heap.size X w'):=qh (fun X hX=>fJ A n c Vs B m k Es v1 v2 X (h.v.bl hX) (by omega));have bB:=(dO Vs (v1,v2)).2
 have fp:RgOk W (bu Vs (v1,v2)).1.2.1∧(bu Vs (v1,v2)).1.2.1.2.1≤900000:=by
  rcases gM (fun v:VC=>v.1) zV Vs (v1,v2) with h1|h1
  ·exact⟨h.r _ h1,hr _ h1⟩
  ·rw[show(bu Vs (v1,v2))=(zV,ρ) from h1];exact⟨⟨by decide,fw W _⟩,by decide⟩
 obtain⟨⟨u,ok⟩,gu⟩:∃z,bu Vs (v1,v2)=z:=⟨_,rfl⟩
 rw[gu] at HV bB fp;obtain⟨⟨i1,i2⟩,⟨rA,rn,bR,rL⟩,lb,at_⟩:=u;replace HV:Hid (∀X,σ W.heap.size W X→Ζ η 27 #[φ #[γ A n c,γ B m k],φ #[J v1,J v2]] X fun e w'=>e=.returned (Ξ #[φ #[J i1,J i2,γ rA rn bR,μ lb,J at_],Β ok])∧σ X.heap.size X w'):=HV;obtain⟨fp,sK⟩:=fp;dsimp only at bB fp sK;have HP:Hid (∀d1 d2 d3 X,σ W.heap.size W X→Ζ η 35 #[γ rA rn bR,φ #[J d1,J d2,J d3]] X (IS X (mq rL (d1,d2,d3)) (decide ((d1,d2,d3)∈rL)))):=qh (fun d1 d2 d3 X hX=>Gh rA rn bR rL (d1,d2,d3) X (fp.2.bl hX) (by omega))
 have hz:iI (Vs.map vS) (a1,a2,a3)=(let q:=if dS (mq rL (a1,a2,a3))=(a1,a2) then mq rL (mq rL (a1,a2,a3)) else mq rL (a1,a2,a3);if dS q=(a1,a2) then zD else q):=by
  unfold iI;rw[←Ex,←bB];rfl
 have WE:=qh (HP.out a1 a2 a3);obtain⟨⟨p1,p2,p3⟩,gp⟩:∃z,mq rL (a1,a2,a3)=z:=⟨_,rfl⟩
 rw[gp] at hz WE;obtain⟨o1,go1⟩:=ay (decide ((a1,a2,a3)∈rL));rw[go1] at WE;obtain⟨⟨z1,z2,z3⟩,gz⟩:∃z,iI (Vs.map vS) (a1,a2,a3)=z:=⟨_,rfl⟩
 rw[gz] at hz ⊢;have mU:=qh hz;clear h hr gu Ex bB fp sK hz gp go1 gz;go_enter Tryz.func76,Tryz.ntmps76;go_upto_region 1 with fail
 obtain⟨W0,b0,b1,b2,bP,bK,cX,dN,aN,aI,aV,a8,-,-,kQ,-,jK,-,bz,mj,oK,km⟩:=jN W 25 [γ A n c,γ B m k] 32 [J a1,J a2,J a3] 32 [J 0,J 0,J 0];rw[bP,dN,cX,bK];clear bP bK cX dN;have x0:=aN.out.cell (i:=0) rfl;have x1:=aN.out.cell (i:=1) rfl;have s0:=aI.out.cell (i:=0) rfl;have s1:=aI.out.cell (i:=1) rfl;have s2:=aI.out.cell (i:=2) rfl
 go_upto_region 2 with (first
  |(go_at_call 29
    refine(yF.out _ a8.out).mono ?_
    rintro e w2 ⟨rfl,ar⟩;have cy:=qh ar;clear ar x0 x1 s0 s1 s2))
 have ar:=cy.out;have mG:=qh (aE (af a8.out ar) (δ #[J v1,J v2] 30));have la:=qh ((aN.out.bl ar).al (δ #[J v1,J v2] 30));have mm:=qh ((aI.out.bl ar).al (δ #[J v1,J v2] 30));have ko:=qh ((aV.out.bl ar).al (δ #[J v1,J v2] 30));have mD:=qh (Whole.new_ w2 30 [J v1,J v2]);have LN0:Hid (W.heap.size≤w2.heap.size):=qh (af a8.out ar).size;have J8:Hid (b1≠w2.heap.size):=qh (Nat.ne_of_lt (aI.out.bl ar).lt);have JL:Hid (b2≠w2.heap.size):=qh (Nat.ne_of_lt (aV.out.bl ar).lt);obtain⟨Kp,cS⟩:=ay (w2.alloc (δ #[J v1,J v2] 30));obtain⟨b3,dk⟩:=ay w2.heap.size;rw[cS] at mG mD la mm ko ⊢;rw[dk] at mD LN0 J8 JL ⊢;clear cS dk ar cy a8 aN aI aV;have x0:=la.out.cell (i:=0) rfl;have x1:=la.out.cell (i:=1) rfl;have s0:=mD.out.cell (i:=0) rfl;have s1:=mD.out.cell (i:=1) rfl
 go_upto_region 3 with (first
  |(go_at_call 27
    refine(HV.out _ mG.out).mono ?_
    rintro e w2 ⟨rfl,ar⟩;have cy:=qh ar;clear ar x0 x1 s0 s1))
 have ar:=cy.out;have pU:=qh (aE (af mG.out ar) (δ #[J i1,J i2,γ rA rn bR,μ lb,J at_] 59));have sZ:=qh ((la.out.bl ar).al (δ #[J i1,J i2,γ rA rn bR,μ lb,J at_] 59));have nH:=qh ((mm.out.bl ar).al (δ #[J i1,J i2,γ rA rn bR,μ lb,J at_] 59));have pr:=qh ((ko.out.bl ar).al (δ #[J i1,J i2,γ rA rn bR,μ lb,J at_] 59));have Bc:=qh ((mD.out.bl ar).al (δ #[J i1,J i2,γ rA rn bR,μ lb,J at_] 59));have q9:=qh (Whole.new_ w2 59 [J i1,J i2,γ rA rn bR,μ lb,J at_]);have LN1:Hid (W.heap.size≤w2.heap.size):=qh (af mG.out ar).size;have J8:Hid (b1≠w2.heap.size):=qh (Nat.ne_of_lt (mm.out.bl ar).lt);have JL:Hid (b2≠w2.heap.size):=qh (Nat.ne_of_lt (ko.out.bl ar).lt);obtain⟨yz,cS⟩:=ay (w2.alloc (δ #[J i1,J i2,γ rA rn bR,μ lb,J at_] 59));obtain⟨b4,dk⟩:=ay w2.heap.size;rw[cS] at pU q9 sZ nH pr Bc ⊢;rw[dk] at q9 LN1 J8 JL ⊢;clear cS dk ar cy mG la mm ko mD;have x2:=q9.out.cell (i:=2) rfl;have s0:=nH.out.cell (i:=0) rfl;have s1:=nH.out.cell (i:=1) rfl;have s2:=nH.out.cell (i:=2) rfl
 go_upto_region 4 with (first
  |(go_at_call 35
    refine(WE.out _ pU.out).mono ?_
    rintro e w2 ⟨rfl,ar⟩;have cy:=qh ar;clear ar x2 s0 s1 s2))
 have ar:=cy.out;have ND:=qh (aE (af pU.out ar) (δ #[J p1,J p2,J p3] 32));have TF:=qh ((sZ.out.bl ar).al (δ #[J p1,J p2,J p3] 32));have lC:=qh ((nH.out.bl ar).al (δ #[J p1,J p2,J p3] 32));have mL:=qh ((pr.out.bl ar).al (δ #[J p1,J p2,J p3] 32));have Yc:=qh ((Bc.out.bl ar).al (δ #[J p1,J p2,J p3] 32));have XC:=qh ((q9.out.bl ar).al (δ #[J p1,J p2,J p3] 32));have pO:=qh (Whole.new_ w2 32 [J p1,J p2,J p3]);have LN2:Hid (W.heap.size≤w2.heap.size):=qh (af pU.out ar).size;have J8:Hid (b1≠w2.heap.size):=qh (Nat.ne_of_lt (nH.out.bl ar).lt);have JL:Hid (b2≠w2.heap.size):=qh (Nat.ne_of_lt (pr.out.bl ar).lt);obtain⟨Wn2,cS⟩:=ay (w2.alloc (δ #[J p1,J p2,J p3] 32));obtain⟨b5,dk⟩:=ay w2.heap.size;rw[cS] at ND pO TF lC mL Yc XC ⊢;rw[dk] at pO LN2 J8 JL ⊢;clear cS dk ar cy pU sZ nH pr Bc q9
 by_cases Oj:(p1,p2)=(a1,a2)
 ·have he:∀X,(binOp .eql 30 (φ #[J p1,J p2]) (φ #[J a1,J a2])).run η X=.ok (Β true) X:=fun X=>by rw[jv,decide_eq_true Oj]
  have VV:=qh (HP.out p1 p2 p3);have hz:=mU.out;rw[show dS (p1,p2,p3)=(a1,a2) from Oj,if_pos rfl] at hz;obtain⟨⟨q1,q2,q3⟩,gq⟩:∃z,mq rL (p1,p2,p3)=z:=⟨_,rfl⟩
  rw[gq] at VV hz;obtain⟨o2,go2⟩:=ay (decide ((p1,p2,p3)∈rL));rw[go2] at VV;have Ck:=qh hz;clear mU HP WE hz gq go2 Oj;have u0:=pO.out.cell (i:=0) rfl;have u1:=pO.out.cell (i:=1) rfl;have u2:=pO.out.cell (i:=2) rfl;have v0:=lC.out.cell (i:=0) rfl;have v1:=lC.out.cell (i:=1) rfl;have v2:=lC.out.cell (i:=2) rfl;go_upto_region 5 with fail
  clear v0 v1 v2 he;have x2:=XC.out.cell (i:=2) rfl
  go_upto_region 6 with (first
   |(go_at_call 35
     refine(VV.out _ ND.out).mono ?_
     rintro e w7 ⟨rfl,Lt⟩;have Sl:=qh (af ND.out Lt);have BO:=qh (pO.out.bl Lt);have ZS:=qh (lC.out.bl Lt);have sr:=qh (mL.out.bl Lt);have r0:=BO.out.cell (i:=0) rfl;have r1:=BO.out.cell (i:=1) rfl;have r2:=BO.out.cell (i:=2) rfl;have g0:=BO.out.free 0;have g1:=BO.out.free 1;have g2:=BO.out.free 2;clear Lt u0 u1 u2 x2))
  have P5:b1≠b5:=J8.out;have PV:b2≠b5:=JL.out;have vY:=qh (((BO.out.set_ 0 (J q1)).set_ 1 (J q2)).set_ 2 (J q3));have fi:=qh (((ZS.out.far (p:=⟨b5,0,ε⟩) P5 (J q1)).far (p:=⟨b5,1,ε⟩) P5 (J q2)).far (p:=⟨b5,2,ε⟩) P5 (J q3));have eT:=qh (((sr.out.far (p:=⟨b5,0,ε⟩) PV (J q1)).far (p:=⟨b5,1,ε⟩) PV (J q2)).far (p:=⟨b5,2,ε⟩) PV (J q3));have oR:=qh (((Sl.out.setCell (p:=⟨b5,0,ε⟩) LN2.out (J q1)).setCell (p:=⟨b5,1,ε⟩) LN2.out (J q2)).setCell (p:=⟨b5,2,ε⟩) LN2.out (J q3));clear P5 PV r0 r1 r2 g0 g1 g2 BO ZS sr Sl;generalize JbB (JbB (JbB w7 _ _) _ _) _ _=W8 at vY fi eT oR ⊢;have u0:=vY.out.cell (i:=0) rfl;have u1:=vY.out.cell (i:=1) rfl;have u2:=vY.out.cell (i:=2) rfl;have v0:=fi.out.cell (i:=0) rfl;have v1:=fi.out.cell (i:=1) rfl;have v2:=fi.out.cell (i:=2) rfl;have t0:=eT.out.cell (i:=0) rfl;have y0:=eT.out.free 0;have t1:=eT.out.cell (i:=1) rfl;have y1:=eT.out.free 1;have t2:=eT.out.cell (i:=2) rfl;have y2:=eT.out.free 2;have HZ:Hid ((z1,z2,z3)=if (q1,q2)=(a1,a2) then zD else(q1,q2,q3)):=qh (Ck.out)
  by_cases Kf:(q1,q2)=(a1,a2)
  ·have hv:=HZ.out;rw[if_pos Kf] at hv;have he:∀X,(binOp .eql 30 (φ #[J q1,J q2]) (φ #[J a1,J a2])).run η X=.ok (Β true) X:=fun X=>by rw[jv,decide_eq_true Kf]
   clear HZ Kf;have Pr:=qh hv;clear hv;go_wp2;exact bS rfl b2 rfl (((eT.out.set_ 0 (J 0)).set_ 1 (J 0)).set_ 2 (J 0)) Tryz.underlying32 rfl (by kernel_rfl) rfl ⟨by injection Pr.out with k1 k2;injection k2 with k2 k3;rw[k1,k2,k3];rfl,(((oR.out.setCell (p:=⟨b2,0,ε⟩) bz.out (J 0)).setCell (p:=⟨b2,1,ε⟩) bz.out (J 0)).setCell (p:=⟨b2,2,ε⟩) bz.out (J 0))⟩
  ·have hv:=HZ.out;rw[if_neg Kf] at hv;have he:∀X,(binOp .eql 30 (φ #[J q1,J q2]) (φ #[J a1,J a2])).run η X=.ok (Β ρ) X:=fun X=>by rw[jv,decide_eq_false Kf]
   clear HZ Kf;have Pr:=qh hv;clear hv;go_wp2;exact bS rfl b2 rfl (((eT.out.set_ 0 (J q1)).set_ 1 (J q2)).set_ 2 (J q3)) Tryz.underlying32 rfl (by kernel_rfl) rfl ⟨by injection Pr.out with k1 k2;injection k2 with k2 k3;rw[k1,k2,k3];rfl,(((oR.out.setCell (p:=⟨b2,0,ε⟩) bz.out (J q1)).setCell (p:=⟨b2,1,ε⟩) bz.out (J q2)).setCell (p:=⟨b2,2,ε⟩) bz.out (J q3))⟩
 ·have he:∀X,(binOp .eql 30 (φ #[J p1,J p2]) (φ #[J a1,J a2])).run η X=.ok (Β ρ) X:=fun X=>by rw[jv,decide_eq_false Oj]
  have hz:=mU.out;rw[if_neg (show ¬dS (p1,p2,p3)=(a1,a2) from Oj)] at hz;have Ck:=qh hz;clear mU HP WE hz Oj;have u0:=pO.out.cell (i:=0) rfl;have u1:=pO.out.cell (i:=1) rfl;have u2:=pO.out.cell (i:=2) rfl;have v0:=lC.out.cell (i:=0) rfl;have v1:=lC.out.cell (i:=1) rfl;have v2:=lC.out.cell (i:=2) rfl;go_upto_region 6 with fail
  clear u0 u1 u2 v0 v1 v2 he;obtain⟨q1,gq1⟩:=ay p1;obtain⟨q2,gq2⟩:=ay p2;obtain⟨q3,gq3⟩:=ay p3;rw[gq1,gq2,gq3] at pO Ck ⊢;clear gq1 gq2 gq3;have u0:=pO.out.cell (i:=0) rfl;have u1:=pO.out.cell (i:=1) rfl;have u2:=pO.out.cell (i:=2) rfl;have v0:=lC.out.cell (i:=0) rfl;have v1:=lC.out.cell (i:=1) rfl;have v2:=lC.out.cell (i:=2) rfl;have t0:=mL.out.cell (i:=0) rfl;have y0:=mL.out.free 0;have t1:=mL.out.cell (i:=1) rfl;have y1:=mL.out.free 1;have t2:=mL.out.cell (i:=2) rfl;have y2:=mL.out.free 2;have HZ:Hid ((z1,z2,z3)=if (q1,q2)=(a1,a2) then zD else(q1,q2,q3)):=qh (Ck.out)
  by_cases Kf:(q1,q2)=(a1,a2)
  ·have hv:=HZ.out;rw[if_pos Kf] at hv;have he:∀X,(binOp .eql 30 (φ #[J q1,J q2]) (φ #[J a1,J a2])).run η X=.ok (Β true) X:=fun X=>by rw[jv,decide_eq_true Kf]
   clear HZ Kf;have Pr:=qh hv;clear hv;go_wp2;exact bS rfl b2 rfl (((mL.out.set_ 0 (J 0)).set_ 1 (J 0)).set_ 2 (J 0)) Tryz.underlying32 rfl (by kernel_rfl) rfl ⟨by injection Pr.out with k1 k2;injection k2 with k2 k3;rw[k1,k2,k3];rfl,(((ND.out.setCell (p:=⟨b2,0,ε⟩) bz.out (J 0)).setCell (p:=⟨b2,1,ε⟩) bz.out (J 0)).setCell (p:=⟨b2,2,ε⟩) bz.out (J 0))⟩
  ·have hv:=HZ.out;rw[if_neg Kf] at hv;have he:∀X,(binOp .eql 30 (φ #[J q1,J q2]) (φ #[J a1,J a2])).run η X=.ok (Β ρ) X:=fun X=>by rw[jv,decide_eq_false Kf]
   clear HZ Kf;have Pr:=qh hv;clear hv;go_wp2;exact bS rfl b2 rfl (((mL.out.set_ 0 (J q1)).set_ 1 (J q2)).set_ 2 (J q3)) Tryz.underlying32 rfl (by kernel_rfl) rfl ⟨by injection Pr.out with k1 k2;injection k2 with k2 k3;rw[k1,k2,k3];rfl,(((ND.out.setCell (p:=⟨b2,0,ε⟩) bz.out (J q1)).setCell (p:=⟨b2,1,ε⟩) bz.out (J q2)).setCell (p:=⟨b2,2,ε⟩) bz.out (J q3))⟩
theorem we {α:Type} {f:α→List ψ} {L:List α} {W:ο} {Z s n c g:Nat} {A:Option Κ} {T:Υ} {cs:List ψ} (h:aX W Z s A n c (aj f L)) (hs:∀x,(f x).length=s) (h0:0<s) (h1:∀x,∃i:Int,(f x)[0]? =ζ (J i)) (hw:Whole W g T cs) (hc:∀v∈cs,∀i:Int,v≠J i):∀a,A=ζ a→0<n→a.block≠g:=fun a ha hn e=>by
 subst ha;have hl:=h.rlen hs h0;obtain⟨x,hx⟩:∃x,L[0]? =ζ x:=⟨_,List.getElem?_eq_getElem (by omega)⟩
 obtain⟨i,hi⟩:=h1 x;have h2:=j0 f hs L 0 x hx 0 _ hi;have h3:=h.cell a rfl _ _ h2;simp only[Nat.zero_mul,Nat.add_zero] at h3;have h4:a.add 0=a:=by unfold Addr.add;split<;>simp_all
 rw[h4] at h3;have h5:W.heap[g]? =ζ (δ cs.toArray T (0,0)):=hw;subst e;obtain⟨b,o,p⟩:=a;dsimp only at h5;unfold World.cell? at h3;rw[h5] at h3;cases p with
 |none=>
  simp only[List.getElem?_toArray] at h3;exact hc _ (List.mem_of_getElem? h3) i rfl
 |some p=>simp at h3
theorem SY {W:ο} {Z n c g:Nat} {A:Option Κ} {Vs:List VC} {T:Υ} {cs:List ψ} (h:aX W Z 5 A n c (aj vC Vs)) (hw:Whole W g T cs) (hc:∀v∈cs,∀i:Int,v≠J i):∀a,A=ζ a→0<n→a.block≠g:=we h aQ (by decide) (fun x=>⟨x.1.1,rfl⟩) hw hc
theorem RP {W:ο} {Z n c g:Nat} {A:Option Κ} {Es:List EC} {T:Υ} {cs:List ψ} (h:aX W Z 4 A n c (aj eC Es)) (hw:Whole W g T cs) (hc:∀v∈cs,∀i:Int,v≠J i):∀a,A=ζ a→0<n→a.block≠g:=we h bF (by decide) (fun x=>⟨x.1.1,rfl⟩) hw hc
theorem DQ {W:ο} {Z n c g:Nat} {A:Option Κ} {G:List Gn} {T:Υ} {cs:List ψ} (h:aX W Z 6 A n c (aj cB G)) (hw:Whole W g T cs) (hc:∀v∈cs,∀i:Int,v≠J i):∀a,A=ζ a→0<n→a.block≠g:=we h cw (by decide) (fun x=>⟨x.1.1,rfl⟩) hw hc
def XQ (d:D):List ψ:=[J d.1,J d.2.1,J d.2.2]
theorem Ja:∀L:List D,aA L=aj XQ L
 |[]=>rfl
 |d::L=>by rw[show aj XQ (d::L)=XQ d++aj XQ L by simp[aj],←Ja L];rfl
theorem SP {W:ο} {Z n c g:Nat} {A:Option Κ} {L:List D} {T:Υ} {cs:List ψ} (h:aX W Z 3 A n c (aA L)) (hw:Whole W g T cs) (hc:∀v∈cs,∀i:Int,v≠J i):∀a,A=ζ a→0<n→a.block≠g:=we (f:=XQ) (Ja L▸h) (fun _=>rfl) (by decide) (fun x=>⟨x.1,rfl⟩) hw hc
theorem oF {A:Option Κ} {n g:Nat} (h:∀a,A=ζ a→0<n→a.block≠g):∀a,A=ζ a→0<n→ζ a.block≠ζ g:=fun a ha hn e=>h a ha hn (Μ e)
theorem iu {a b:ψ} (ha:∀i:Int,a≠J i) (hb:∀i:Int,b≠J i):∀v∈[a,b],∀i:Int,v≠J i:=fun v hv i=>by
 simp only[Η,Jbh,or_false] at hv;rcases hv with rfl|rfl
 ·exact ha i
 ·exact hb i
theorem aZ {a b d:ψ} (ha:∀i:Int,a≠J i) (hb:∀i:Int,b≠J i) (hd:∀i:Int,d≠J i):∀v∈[a,b,d],∀i:Int,v≠J i:=fun v hv i=>by
 simp only[Η,Jbh,or_false] at hv;rcases hv with rfl|rfl|rfl
 ·exact ha i
 ·exact hb i
 ·exact hd i
theorem xC {W:ο} {A:Option Κ} {n c:Nat} {Vs:List VC} {B:Option Κ} {m k:Nat} {Es:List EC} (h:aR W A n c Vs B m k Es) {g:Nat} {T:Υ} {cs:List ψ} (hw:Whole W g T cs) (hc:∀v∈cs,∀i:Int,v≠J i) (ds:Array ψ):aR (W.setRow g ds) A n c Vs B m k Es:=
 ⟨h.v.row_far (oF (SY h.v hw hc)) ds,h.e.row_far (oF (RP h.e hw hc)) ds,fun x hx=>⟨(h.r x hx).1,(h.r x hx).2.row_far (oF (SP (h.r x hx).2 hw hc)) ds⟩⟩
theorem bA {W:ο} {A:Option Κ} {n c:Nat} {Vs:List VC} {B:Option Κ} {m k:Nat} {Es:List EC} (h:aR W A n c Vs B m k Es) {g:Nat} {T:Υ} {cs:List ψ} (hw:Whole W g T cs) (hc:∀v∈cs,∀i:Int,v≠J i) (i:Nat) (u:ψ):aR (W.setCell ⟨g,i,ε⟩ u) A n c Vs B m k Es:=
 ⟨by rw[size_setCell];exact h.v.far_ (SY h.v hw hc) u,by rw[size_setCell];exact h.e.far_ (RP h.e hw hc) u,fun x hx=>⟨(h.r x hx).1,by rw[size_setCell];exact(h.r x hx).2.far_ (SP (h.r x hx).2 hw hc) u⟩⟩
theorem bL {W:ο} {C:Option Κ} {r rc:Nat} {G:List Gn} (h:aX W W.heap.size 6 C r rc (aj cB G)) {g:Nat} {T:Υ} {cs:List ψ} (hw:Whole W g T cs) (hc:∀v∈cs,∀i:Int,v≠J i) (i:Nat) (u:ψ):aX (W.setCell ⟨g,i,ε⟩ u) (W.setCell ⟨g,i,ε⟩ u).heap.size 6 C r rc (aj cB G):=by
 rw[size_setCell];exact h.far_ (DQ h hw hc) u
def Sr (V:List VS) (E:List EC) (v:ψ) (W:ο):Prop:=
 ∃A n c B m k Ws,v=φ #[γ A n c,γ B m k]∧aR W A n c Ws B m k E∧Ws.map vS=V
theorem Sr.up {V:List VS} {E:List EC} {v:ψ} {W W':ο} (h:Sr V E v W) (hx:Ext W W'):Sr V E v W':=by
 obtain⟨A,n,c,B,m,k,Ws,e,h1,h2⟩:=h;exact⟨A,n,c,B,m,k,Ws,e,h1.bl hx,h2⟩
def II (n m:Nat) (V:List VS) (E:List EC) (v:ψ) (W:ο):Prop:=
 ∃A c B k Ws,v=φ #[γ A n c,γ B m k]∧aR W A n c Ws B m k E∧Ws.map vS=V
theorem II.up {n m:Nat} {V:List VS} {E:List EC} {v:ψ} {W W':ο} (h:II n m V E v W) (hx:Ext W W'):II n m V E v W':=by
 obtain⟨A,c,B,k,Ws,e,h1,h2⟩:=h;exact⟨A,c,B,k,Ws,e,h1.bl hx,h2⟩
def ew (W:ο) (R:SS × Int) (e:Ending) (w':ο):Prop:=
 ∃A n c B m k C r rc Ws,e=.returned (Ξ #[φ #[γ A n c,γ B m k,γ C r rc],J R.2])∧aR w' A n c Ws B m k R.1.2.1∧Ws.map vS=R.1.1∧aX w' w'.heap.size 6 C r rc (aj cB R.1.2.2)∧σ W.heap.size W w'
theorem eE (W:ο):aR W ε 0 0 [] ε 0 0 []:=⟨aX.no W _ _,aX.no W _ _,fun _ q=>by cases q⟩
theorem lG (Es:List EC) (x:Nm):(iw Es x).2=bN Es x:=by
 induction Es with
 |nil=>rfl
 |cons e Es ih=>
  unfold iw Jp bN qg at*
  by_cases h:e.1=x
  ·simp[h]
  ·simp only[List.any_cons,decide_eq_false h,Bool.false_or];rw[←ih];simp[h]
def gQ (V:List VS) (x:D):List VS:=bZ V (wh V x) (aS (rW (cL V (wh V x)) x))
def rr (K:Nat) (V:List VS):Prop:=∀v∈V,v.2.1.length≤K
theorem rr.mono {K K':Nat} {V:List VS} (h:rr K V) (hk:K≤K'):rr K' V:=fun v hv=>Λ (h v hv) hk
theorem rr.ring {K:Nat} {V:List VS} (h:rr K V) (x:Nm):(cL V x).length≤K:=by
 unfold cL;cases hf:V.find? (fun v=>decide (v.1=x)) with
 |none=>simp
 |some v=>exact h v (List.mem_of_find?_eq_some hf)
theorem rr.at_ {K:Nat} {V:List VS} (h:rr K V) (x:Nm) {l:List D} (hl:l.length≤K):rr K (bZ V x l):=fun v hv=>by
 rcases lx hv with⟨h1,-⟩|⟨u,hu,-,rfl⟩
 ·exact h v h1
 ·exact hl
theorem rr.rem {K:Nat} {V:List VS} (h:rr K V) (x:D):rr K (gQ V x):=h.at_ _ (by
 rw[dI];exact Λ (List.length_filter_le _ _) (h.ring _))
theorem rr.ins {K:Nat} {V:List VS} (h:rr K V) (c:Nm × D) (x:D):rr (K+1) (dW V c x):=(h.mono (Nat.le_succ K)).at_ _ (by
 have:=h.ring c.1
 rw[dI];unfold np;split
 ·omega
 ·simp only[Ε,JaH,JaA,Jaz];omega)
theorem rr.swp {K:Nat} {V:List VS} (h:rr K V) (o x:D):rr (K+1) (dn V o x):=(h.mono (Nat.le_succ K)).at_ _ (by
 have:=h.ring (wh V o)
 rw[dI];unfold fo;split
 ·simp only[Ε,JaH,JaA,Jaz];omega
 ·omega)
theorem rr.of {W:ο} {A B:Option Κ} {n c m k K:Nat} {Vs:List VC} {Es:List EC} (h:aR W A n c Vs B m k Es) (hr:∀y∈Vs,y.2.1.2.1≤K):rr K (Vs.map vS):=fun v hv=>by
 obtain⟨y,hy,rfl⟩:=Α.1 hv;have h1:=(h.r y hy).2.len;rw[bJ] at h1
 have:=hr y hy
 show y.2.1.2.2.2.length≤K;omega
theorem rr.to {W:ο} {A B:Option Κ} {n c m k K:Nat} {Vs:List VC} {Es:List EC} (h:aR W A n c Vs B m k Es) (hr:rr K (Vs.map vS)):∀y∈Vs,y.2.1.2.1≤K:=fun y hy=>by
 have h1:=(h.r y hy).2.len;rw[bJ] at h1;have h2:y.2.1.2.2.2.length≤K:=hr (vS y) (Α.2 ⟨y,hy,rfl⟩);omega
end Go.Proofs.YtpdpbfmiahjiiaaGreat
