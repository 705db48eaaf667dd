/- Several texts in one. -/
import Derived.Test.YtpdpbfmiahjiiaaGreatPlAB
import Derived.Test.YtpdpbfmiahjiiaaGreatPlAE
import Derived.Test.YtpdpbfmiahjiiaaGreatPlAI
import Derived.Test.YtpdpbfmiahjiiaaGreatPlAN
set_option linter.unusedSectionVars false
set_option linter.unusedSimpArgs false
set_option linter.unusedVariables false
set_option maxRecDepth 100000
set_option maxHeartbeats 16000000
namespace Go.Proofs.YtpdpbfmiahjiiaaGreat
open Go.RowKit
open _root_.Go.Value renaming slice→γ,string→μ,pointer→υ,agg→φ,bool→Β,tuple→Ξ,oneCell'→Τ
open _root_.Go.Obj renaming cells→δ
open _root_.Option renaming none→ε,some→ζ
open _root_.Go.Proofs.Tryz renaming prog→η
open _root_.List renaming map_cons→ι,map_nil→π,mem_map→Α,mem_cons→Η,getElem?_cons_succ→Jag,getElem?_cons_zero→Jah,getElem?_toArray→Jaj,not_mem_nil→Jbh
open _root_.Go.Act renaming put→ξ
open _root_.Go renaming World→ο,Value→ψ,Calls→Ζ,Addr→Κ
open _root_.Bool renaming false→ρ,true→τ
open _root_.Go.RowKit renaming Below→σ
open _root_.Nat renaming le_refl→Δ,le_trans→Λ
open _root_.Go.RowKit.Below renaming refl→Θ
open _root_.Prod.mk renaming injEq→Jba
section
variable {w W:ο} {lo g:Nat} {A:Option Κ} {n c:Nat} {Vs:List VC} {B:Option Κ} {m k:Nat} {Es:List EC} {C:Option Κ} {r rc:Nat} {G:List Gn}
theorem xB (h:fH w lo g A n c Vs B m k Es C r rc G W) (hn:n≤1000) (tQ:∀v∈Vs,v.2.1.2.1≤1000) (x:D):
 Ζ η 120 #[υ (ζ ⟨g,0,ε⟩),φ #[J x.1,J x.2.1,J x.2.2]] W fun e w'=>e=.returned (φ #[J (dz (Vs.map vS) x).1,J (dz (Vs.map vS) x).2.1,J (dz (Vs.map vS) x).2.2])∧σ W.heap.size W w':=by
 have MM:∀v∈Vs,v.2.1.2.1≤1000000:=fun v hv=>by have:=tQ v hv;omega
 obtain⟨a,ga⟩:=az (uq (Vs.map vS) x);obtain⟨EK,Ui⟩:=az (cF (Vs.map vS) x)
 have HA:Hid (∀X,fH w lo g A n c Vs B m k Es C r rc G X→Ζ η 151 #[φ #[γ A n c,γ B m k],φ #[J x.1,J x.2.1,J x.2.2]] X fun e w'=>e=.returned (Ξ #[φ #[J a.1,J a.2],Β EK])∧σ X.heap.size X w'):=qh (fun X hX=>by
  have:=Q2 A n c Vs B m k Es x.1 x.2.1 x.2.2 X hX.dg (by omega) MM
  rw[Ag,show(x.1,x.2.1,x.2.2)=x from rfl,ga,Ui] at this;exact this)
 obtain⟨⟨u,AU⟩,gu⟩:∃z,aU Vs a=z:=⟨_,rfl⟩
 have HV:Hid (∀X,fH w lo g A n c Vs B m k Es C r rc G X→Ζ η 142 #[φ #[γ A n c,γ B m k],φ #[J a.1,J a.2]] X fun e w'=>∃A' c',e=.returned (Ξ #[φ (vC (u.1,(A',u.2.1.2.1,c',u.2.1.2.2.2),u.2.2)).toArray,Β AU])∧Ow X X.heap.size 32 3 (γ A' u.2.1.2.1 c') u.2.1.2.1 (aA u.2.1.2.2.2) w'):=qh (fun X hX=>Dv A n c Vs B m k Es a.1 a.2 X hX.dg (by omega) MM u AU gu);have aW:=(dh Vs a).2;have hul:=(sS h.dg MM a).2
 have ij:u.2.1.2.1≤1000:=by
  rcases fB (fun v:VC=>v.1) zV Vs a with hm|he
  ·have e:(aU Vs a).1=u:=by rw[gu]
   rw[←e];exact tQ _ hm
  ·have e:aU Vs a=(zV,ρ):=he;rw[gu] at e;injection e with e1 e2
   rw[e1];decide
 rw[gu] at aW;have aW:u.2.1.2.2.2=ck (Vs.map vS) a:=aW;obtain⟨⟨i1,i2⟩,⟨rA,rn,bE,rL⟩,lb,at_⟩:=u;have ij:rn≤1000:=ij;have aW:rL=ck (Vs.map vS) a:=aW
 have HD:Hid (dz (Vs.map vS) x=if cN (if cN (fm rL x)=cN x then fm rL (fm rL x) else fm rL x)=cN x then zD else(if cN (fm rL x)=cN x then fm rL (fm rL x) else fm rL x)):=qh (by
  unfold dz;rw[ga,←aW])
 replace HV:Hid (∀X,fH w lo g A n c Vs B m k Es C r rc G X→Ζ η 142 #[φ #[γ A n c,γ B m k],φ #[J a.1,J a.2]] X fun e w'=>∃A' c',e=.returned (Ξ #[φ #[J i1,J i2,γ A' rn c',μ lb,J at_],Β AU])∧Ow X X.heap.size 32 3 (γ A' rn c') rn (aA rL) w'):=HV;obtain⟨z,gz⟩:=az (dz (Vs.map vS) x);rw[gz] at HD ⊢;have jn:=aF (ax W (δ #[J x.1,J x.2.1,J x.2.2] 32)) (δ #[J 0,J 0,J 0] 32);have H0:=qh (h.up jn);have bn:=qh jn;have aR:Hid (Whole ((W.alloc (δ #[J x.1,J x.2.1,J x.2.2] 32)).alloc (δ #[J 0,J 0,J 0] 32)) W.heap.size 32 [J x.1,J x.2.1,J x.2.2]):=qh ((Whole.new_ _ _ [_,_,_]).al _);have wk:Hid (Whole ((W.alloc (δ #[J x.1,J x.2.1,J x.2.2] 32)).alloc (δ #[J 0,J 0,J 0] 32)) (W.heap.size+1) 32 [J 0,J 0,J 0]):=qh (Whole.new2 (by simp));clear h jn ga Ui gu aW tQ MM hul gz;go_enter Tryz.func120,Tryz.ntmps120;go_upto_region 1 with fail
 obtain⟨W0,bJ⟩:=az ((W.alloc (δ #[J x.1,J x.2.1,J x.2.2] 32)).alloc (δ #[J 0,J 0,J 0] 32));obtain⟨b1,cJ⟩:=az (W.heap.size+1);obtain⟨b0,bS⟩:=az W.heap.size;rw[bJ] at H0 aR wk bn ⊢;rw[cJ] at wk ⊢;rw[bS] at aR ⊢;have fD:Hid (W.heap.size≤b1):=qh (by omega);have Nb:Hid (b0≠b1):=qh (by omega);clear bJ bS cJ
 have mS:Hid (∀y,Ext W0.drew y→y.cell? ⟨g,0,ε⟩=ζ (γ A n c)∧y.cell? ⟨g,1,ε⟩=ζ (γ B m k)∧y.cell? ⟨b0,0,ε⟩=ζ (J x.1)∧y.cell? ⟨b0,1,ε⟩=ζ (J x.2.1)∧y.cell? ⟨b0,2,ε⟩=ζ (J x.2.2)):=qh (fun y hy=>
  ⟨(H0.out.dr.bl hy).s.cell (i:=0) rfl,(H0.out.dr.bl hy).s.cell (i:=1) rfl,(aR.out.dr.bl hy).cell (i:=0) rfl,(aR.out.dr.bl hy).cell (i:=1) rfl,(aR.out.dr.bl hy).cell (i:=2) rfl⟩)
 refine fJ 10 8 (dS W0.heap.size) (yU [fun v W=>v=υ (ζ ⟨g,0,ε⟩),fun v W=>v=υ (ζ ⟨g,0,ε⟩),fun v W=>v=υ (ζ ⟨g,0,ε⟩),fun v W=>v=φ #[γ A n c,γ B m k],fun v W=>v=φ #[J x.1,J x.2.1,J x.2.2],fun v W=>v=Ξ #[φ #[J a.1,J a.2],Β EK],fun v W=>v=Ξ #[φ #[J a.1,J a.2],Β EK],fun v W=>v=φ #[J a.1,J a.2],fun v W=>v=Β EK,fun v W=>∃q,v=υ (ζ ⟨q,0,ε⟩)∧W0.heap.size≤q∧Whole (W) q 30 [J 0,J 0]]) (Ext W0.drew) (by kernel_rfl) (by kernel_rfl) (by kernel_rfl) (by kernel_rfl) (by kernel_rfl) (by kernel_rfl) (by simp only[Jaj,Jag,Jah];exact rfl) (by kernel_rfl) (by kernel_rfl) (by kernel_rfl) ?_ (pw (by
  intro Q hQ v w1 w2 h hx;simp only[Η,Jbh,or_false] at hQ;rcases hQ with rfl|rfl|rfl|rfl|rfl|rfl|rfl|rfl|rfl|rfl
  ·exact(fun v w1 w2 h hx=>h) v w1 w2 h hx
  ·exact(fun v w1 w2 h hx=>h) v w1 w2 h hx
  ·exact(fun v w1 w2 h hx=>h) v w1 w2 h hx
  ·exact(fun v w1 w2 h hx=>h) v w1 w2 h hx
  ·exact(fun v w1 w2 h hx=>h) v w1 w2 h hx
  ·exact(fun v w1 w2 h hx=>h) v w1 w2 h hx
  ·exact(fun v w1 w2 h hx=>h) v w1 w2 h hx
  ·exact(fun v w1 w2 h hx=>h) v w1 w2 h hx
  ·exact(fun v w1 w2 h hx=>h) v w1 w2 h hx
  ·exact(fun v w1 w2 h hx=>(by obtain⟨q,e1,e2,e3⟩:=h;exact⟨q,e1,e2,e3.bl hx⟩)) v w1 w2 h hx)) (fun _ _ h k=>h.trans k) (Ext.refl _) ?_ ?_ ?_
 ·exact fun _ _ _ _ h=>h
 ·intro i Mt;have jc:i=0∨i=1∨i=2∨i=3∨i=4∨i=5∨i=6∨i=7∨i=8∨i=9:=by omega
  rcases jc with rfl|rfl|rfl|rfl|rfl|rfl|rfl|rfl|rfl|rfl
  ·refine aL ?_;intro xf y hg aH;simp only[aM,ι,π,aB,ξ,ak,aj,ah];refine .inl ⟨by rfl,?_⟩;go_simp;exact⟨Ext.refl _,rfl⟩
  ·refine aL ?_;intro xf y hg aH;have d0:xf 0=υ (ζ ⟨g,0,ε⟩):=aH 0 (by decide);simp only[aM,ι,π,aB,ξ,ak,aj,ah];simp only[d0];refine .inl ⟨by rfl,?_⟩;go_simp;exact⟨Ext.refl _,rfl⟩
  ·refine aL ?_;intro xf y hg aH;have d1:xf 1=υ (ζ ⟨g,0,ε⟩):=aH 1 (by decide);simp only[aM,ι,π,aB,ξ,ak,aj,ah];simp only[d1];refine .inl ⟨by rfl,?_⟩;go_simp;exact⟨Ext.refl _,rfl⟩
  ·refine aL ?_;intro xf y hg aH;have d2:xf 2=υ (ζ ⟨g,0,ε⟩):=aH 2 (by decide);obtain⟨tT,pC,nD,tW,Eu⟩:=mS.out _ hg;simp only[aM,ι,π,aB,ξ,ak,aj,ah];simp only[d2];refine .inl ⟨by rfl,?_⟩;go_simp;exact⟨Ext.refl _,rfl⟩
  ·refine aL ?_;intro xf y hg aH;obtain⟨tT,pC,nD,tW,Eu⟩:=mS.out _ hg;simp only[aM,ι,π,aB,ξ,ak,aj,ah];refine .inl ⟨by rfl,?_⟩;go_simp;exact⟨Ext.refl _,rfl⟩
  ·refine aL ?_;intro xf y hg aH;have d3:xf 3=φ #[γ A n c,γ B m k]:=aH 3 (by decide);have d4:xf 4=φ #[J x.1,J x.2.1,J x.2.2]:=aH 4 (by decide);simp only[aM,ι,π,aB,ξ,ak,aj,ah];simp only[d3,d4];refine .inl ⟨by rfl,dy (by go_simp;first|done|exact⟨rfl,rfl⟩|with_reducible rfl) ?_⟩
   refine(HA.out y (H0.out.dr.bl hg)).mono ?_
   rintro e w2 ⟨rfl,hb⟩
   refine⟨_,rfl,hb,?_⟩
   show(_:ψ)=Ξ #[φ #[J a.1,J a.2],Β EK]
   exact rfl
  ·refine aL ?_;intro xf y hg aH;have d5:xf 5=Ξ #[φ #[J a.1,J a.2],Β EK]:=aH 5 (by decide);simp only[aM,ι,π,aB,ξ,ak,aj,ah];simp only[d5];refine .inl ⟨by rfl,?_⟩;go_simp;exact⟨Ext.refl _,rfl⟩
  ·refine aL ?_;intro xf y hg aH;have d6:xf 6=Ξ #[φ #[J a.1,J a.2],Β EK]:=aH 6 (by decide);simp only[aM,ι,π,aB,ξ,ak,aj,ah];simp only[d6];refine .inl ⟨by rfl,?_⟩;go_simp;exact⟨Ext.refl _,rfl⟩
  ·refine aL ?_;intro xf y hg aH;have d6:xf 6=Ξ #[φ #[J a.1,J a.2],Β EK]:=aH 6 (by decide);simp only[aM,ι,π,aB,ξ,ak,aj,ah];simp only[d6];refine .inl ⟨by rfl,?_⟩;go_simp;exact⟨Ext.refl _,rfl⟩
  ·refine aL ?_;intro xf y hg aH;simp only[aM,ι,π,aB,ξ,ak,aj,ah];refine .inl ⟨by rfl,gZ (w':=y.alloc (δ #[J 0,J 0] 30)) (by go_simp;first|done|exact rfl|exact⟨rfl,rfl⟩) (ax _ _) ?_⟩;show ∃q,(_:ψ)=υ (ζ ⟨q,0,ε⟩)∧W0.heap.size≤q∧Whole (y.alloc (δ #[J 0,J 0] 30)) q 30 [J 0,J 0]
   exact⟨y.heap.size,rfl,hg.size,Whole.new_ _ _ [J 0,J 0]⟩
 ·intro xf y hg bW;have d6:xf 6=Ξ #[φ #[J a.1,J a.2],Β EK]:=bW 6 (by decide) (by decide);simp only[aM,ι,π,aB,ξ,ak,aj,ah];simp only[d6]
  refine⟨Β EK,?_,rfl⟩
  apply dm;rfl;intro w' aC;go_simp;(try with_reducible rfl)
 intro xf y hg bW;have d7:xf 7=φ #[J a.1,J a.2]:=bW 7 (by decide);have d8:xf 8=Β EK:=bW 8 (by decide);obtain⟨gr,d9,AD,wT⟩:∃q,xf 9=υ (ζ ⟨q,0,ε⟩)∧W0.heap.size≤q∧Whole (y) q 30 [J 0,J 0]:=bW 9 (by decide)
 simp only[aM,ι,π,aB,ξ,ak,aj,ah];simp only[d7,d8,d9];clear bW d7 d8 d9;have mV:=qh wT;have tg:=qh (af (ba (Θ _ W0)) hg);have jD:Hid (W0.heap.size≤gr):=qh AD;clear AD wT;refine lp 10 ?_;intro w' aC
 refine⟨w'.setRow gr #[J a.1,J a.2],cn 30 (.tmp 5) (.tmp 18) rfl gr rfl [J a.1,J a.2] rfl 30 [J 0,J 0] (mV.out.bl aC) (by kernel_rfl) rfl (by simp[Τ]),eD (show W0.heap.size≤gr from jD.out) _,?_⟩
 have qp:Hid (Whole (w'.setRow gr #[J a.1,J a.2]) gr 30 [J a.1,J a.2]):=qh (Whole.row (mV.out.bl aC) [J a.1,J a.2]);have j6:Hid (σ W0.heap.size W0 (w'.setRow gr #[J a.1,J a.2])):=qh (eB (af tg.out aC) jD.out _);obtain⟨V1,jr⟩:=az (w'.setRow gr #[J a.1,J a.2]);rw[jr] at qp j6 ⊢;clear aC jr mV tg;refine aq 11 ?_;refine aG (by kernel_rfl) ?_ _;intro W8 ch;have pG:=qh (qp.out.bl ch);have jX:=qh (af j6.out ch);clear ch qp j6;have H8:=qh (H0.out.bl jX.out);have xq:=qh (aR.out.bl jX.out);have og:=qh (wk.out.bl jX.out);have pH:=qh (af bn.out jX.out);clear H0 aR wk bn jX mS jD;go_upto_region 2 with fail
 obtain⟨W9,MF⟩:=az W8;rw[MF] at H8 xq og pH pG ⊢;clear MF W8
 have mS:Hid (∀y,Ext W9.drew y→y.cell? ⟨g,0,ε⟩=ζ (γ A n c)∧y.cell? ⟨g,1,ε⟩=ζ (γ B m k)∧y.cell? ⟨gr,0,ε⟩=ζ (J a.1)∧y.cell? ⟨gr,1,ε⟩=ζ (J a.2)):=qh (fun y hy=>
  ⟨(H8.out.dr.bl hy).s.cell (i:=0) rfl,(H8.out.dr.bl hy).s.cell (i:=1) rfl,(pG.out.dr.bl hy).cell (i:=0) rfl,(pG.out.dr.bl hy).cell (i:=1) rfl⟩)
 refine fJ 10 8 (dS W9.heap.size) (yU [fun v W=>v=υ (ζ ⟨g,0,ε⟩),fun v W=>v=υ (ζ ⟨g,0,ε⟩),fun v W=>v=υ (ζ ⟨g,0,ε⟩),fun v W=>v=φ #[γ A n c,γ B m k],fun v W=>v=φ #[J a.1,J a.2],fun v W=>∃A' c',v=Ξ #[φ #[J i1,J i2,γ A' rn c',μ lb,J at_],Β AU]∧lj W (A',rn,c',rL),fun v W=>∃A' c',v=Ξ #[φ #[J i1,J i2,γ A' rn c',μ lb,J at_],Β AU]∧lj W (A',rn,c',rL),fun v W=>∃A' c',v=φ #[J i1,J i2,γ A' rn c',μ lb,J at_]∧lj W (A',rn,c',rL),fun v W=>v=Β AU,fun v W=>∃q,v=υ (ζ ⟨q,0,ε⟩)∧W9.heap.size≤q∧Whole (W) q 59 [J 0,J 0,γ ε 0 0,μ {data:=#[]},J 0]]) (Ext W9.drew) (by kernel_rfl) (by kernel_rfl) (by kernel_rfl) (by kernel_rfl) (by kernel_rfl) (by kernel_rfl) (by simp only[Jaj,Jag,Jah];exact rfl) (by kernel_rfl) (by kernel_rfl) (by kernel_rfl) ?_ (pw (by
  intro Q hQ v w1 w2 h hx;simp only[Η,Jbh,or_false] at hQ;rcases hQ with rfl|rfl|rfl|rfl|rfl|rfl|rfl|rfl|rfl|rfl
  ·exact(fun v w1 w2 h hx=>h) v w1 w2 h hx
  ·exact(fun v w1 w2 h hx=>h) v w1 w2 h hx
  ·exact(fun v w1 w2 h hx=>h) v w1 w2 h hx
  ·exact(fun v w1 w2 h hx=>h) v w1 w2 h hx
  ·exact(fun v w1 w2 h hx=>h) v w1 w2 h hx
  ·exact(fun v w1 w2 h hx=>(by obtain⟨A',c',e,h⟩:=h;exact⟨A',c',e,h.bl hx⟩)) v w1 w2 h hx
  ·exact(fun v w1 w2 h hx=>(by obtain⟨A',c',e,h⟩:=h;exact⟨A',c',e,h.bl hx⟩)) v w1 w2 h hx
  ·exact(fun v w1 w2 h hx=>(by obtain⟨A',c',e,h⟩:=h;exact⟨A',c',e,h.bl hx⟩)) v w1 w2 h hx
  ·exact(fun v w1 w2 h hx=>h) v w1 w2 h hx
  ·exact(fun v w1 w2 h hx=>(by obtain⟨q,e1,e2,e3⟩:=h;exact⟨q,e1,e2,e3.bl hx⟩)) v w1 w2 h hx)) (fun _ _ h k=>h.trans k) (Ext.refl _) ?_ ?_ ?_
 ·exact fun _ _ _ _ h=>h
 ·intro i Mt;have jc:i=0∨i=1∨i=2∨i=3∨i=4∨i=5∨i=6∨i=7∨i=8∨i=9:=by omega
  rcases jc with rfl|rfl|rfl|rfl|rfl|rfl|rfl|rfl|rfl|rfl
  ·refine aL ?_;intro xf y hg aH;simp only[aM,ι,π,aB,ξ,ak,aj,ah];refine .inl ⟨by rfl,?_⟩;go_simp;exact⟨Ext.refl _,rfl⟩
  ·refine aL ?_;intro xf y hg aH;have d0:xf 0=υ (ζ ⟨g,0,ε⟩):=aH 0 (by decide);simp only[aM,ι,π,aB,ξ,ak,aj,ah];simp only[d0];refine .inl ⟨by rfl,?_⟩;go_simp;exact⟨Ext.refl _,rfl⟩
  ·refine aL ?_;intro xf y hg aH;have d1:xf 1=υ (ζ ⟨g,0,ε⟩):=aH 1 (by decide);simp only[aM,ι,π,aB,ξ,ak,aj,ah];simp only[d1];refine .inl ⟨by rfl,?_⟩;go_simp;exact⟨Ext.refl _,rfl⟩
  ·refine aL ?_;intro xf y hg aH;have d2:xf 2=υ (ζ ⟨g,0,ε⟩):=aH 2 (by decide);obtain⟨tT,pC,nD,tW⟩:=mS.out _ hg;simp only[aM,ι,π,aB,ξ,ak,aj,ah];simp only[d2];refine .inl ⟨by rfl,?_⟩;go_simp;exact⟨Ext.refl _,rfl⟩
  ·refine aL ?_;intro xf y hg aH;obtain⟨tT,pC,nD,tW⟩:=mS.out _ hg;simp only[aM,ι,π,aB,ξ,ak,aj,ah];refine .inl ⟨by rfl,?_⟩;go_simp;exact⟨Ext.refl _,rfl⟩
  ·refine aL ?_;intro xf y hg aH;have d3:xf 3=φ #[γ A n c,γ B m k]:=aH 3 (by decide);have d4:xf 4=φ #[J a.1,J a.2]:=aH 4 (by decide);simp only[aM,ι,π,aB,ξ,ak,aj,ah];simp only[d3,d4];refine .inl ⟨by rfl,dy (by go_simp;first|done|exact⟨rfl,rfl⟩|with_reducible rfl) ?_⟩
   refine(HV.out y (H8.out.dr.bl hg)).mono ?_
   rintro e w2 ⟨A5,c5,rfl,ho⟩;have hb:=ho.below
   refine⟨_,rfl,hb,?_⟩
   show ∃A' c',(_:ψ)=Ξ #[φ #[J i1,J i2,γ A' rn c',μ lb,J at_],Β AU]∧lj w2 (A',rn,c',rL)
   exact⟨A5,c5,rfl,lj.of_own ho.own⟩
  ·refine aL ?_;intro xf y hg aH;obtain⟨A5,c5,d5,h5⟩:∃A' c',xf 5=Ξ #[φ #[J i1,J i2,γ A' rn c',μ lb,J at_],Β AU]∧lj y (A',rn,c',rL):=aH 5 (by decide)
   simp only[aM,ι,π,aB,ξ,ak,aj,ah];simp only[d5];refine .inl ⟨by rfl,?_⟩;go_simp
   refine⟨Ext.refl _,?_⟩
   show ∃A' c',(_:ψ)=Ξ #[φ #[J i1,J i2,γ A' rn c',μ lb,J at_],Β AU]∧lj y (A',rn,c',rL)
   exact⟨A5,c5,rfl,h5⟩
  ·refine aL ?_;intro xf y hg aH;obtain⟨A6,c6,d6,h6⟩:∃A' c',xf 6=Ξ #[φ #[J i1,J i2,γ A' rn c',μ lb,J at_],Β AU]∧lj y (A',rn,c',rL):=aH 6 (by decide)
   simp only[aM,ι,π,aB,ξ,ak,aj,ah];simp only[d6];refine .inl ⟨by rfl,?_⟩;go_simp
   refine⟨Ext.refl _,?_⟩
   show ∃A' c',(_:ψ)=φ #[J i1,J i2,γ A' rn c',μ lb,J at_]∧lj y (A',rn,c',rL)
   exact⟨A6,c6,rfl,h6⟩
  ·refine aL ?_;intro xf y hg aH;obtain⟨A6,c6,d6,h6⟩:∃A' c',xf 6=Ξ #[φ #[J i1,J i2,γ A' rn c',μ lb,J at_],Β AU]∧lj y (A',rn,c',rL):=aH 6 (by decide)
   simp only[aM,ι,π,aB,ξ,ak,aj,ah];simp only[d6];refine .inl ⟨by rfl,?_⟩;go_simp;exact⟨Ext.refl _,rfl⟩
  ·refine aL ?_;intro xf y hg aH;simp only[aM,ι,π,aB,ξ,ak,aj,ah];refine .inl ⟨by rfl,gZ (w':=y.alloc (δ #[J 0,J 0,γ ε 0 0,μ {data:=#[]},J 0] 59)) (by go_simp;first|done|exact rfl|exact⟨rfl,rfl⟩) (ax _ _) ?_⟩;show ∃q,(_:ψ)=υ (ζ ⟨q,0,ε⟩)∧W9.heap.size≤q∧Whole (y.alloc (δ #[J 0,J 0,γ ε 0 0,μ {data:=#[]},J 0] 59)) q 59 [J 0,J 0,γ ε 0 0,μ {data:=#[]},J 0]
   exact⟨y.heap.size,rfl,hg.size,Whole.new_ _ _ [J 0,J 0,γ ε 0 0,μ {data:=#[]},J 0]⟩
 ·intro xf y hg bW;obtain⟨A6,c6,d6,h6⟩:∃A' c',xf 6=Ξ #[φ #[J i1,J i2,γ A' rn c',μ lb,J at_],Β AU]∧lj y (A',rn,c',rL):=bW 6 (by decide) (by decide)
  simp only[aM,ι,π,aB,ξ,ak,aj,ah];simp only[d6]
  refine⟨Β AU,?_,rfl⟩
  apply dm;rfl;intro w' aC;go_simp;(try with_reducible rfl)
 intro xf y hg bW;obtain⟨A7,c7,d7,h7⟩:∃A' c',xf 7=φ #[J i1,J i2,γ A' rn c',μ lb,J at_]∧lj y (A',rn,c',rL):=bW 7 (by decide)
 have d8:xf 8=Β AU:=bW 8 (by decide);obtain⟨gv,d9,hlv,hwv⟩:∃q,xf 9=υ (ζ ⟨q,0,ε⟩)∧W9.heap.size≤q∧Whole (y) q 59 [J 0,J 0,γ ε 0 0,μ {data:=#[]},J 0]:=bW 9 (by decide)
 simp only[aM,ι,π,aB,ξ,ak,aj,ah];simp only[d7,d8,d9];clear bW d7 d8 d9;have Of:=qh h7;clear h7;have mV:=qh hwv;have tg:=qh (af (ba (Θ _ W9)) hg);have X8:Hid (W9.heap.size≤gv):=qh hlv;clear hlv hwv;refine lp 10 ?_;intro w' aC
 refine⟨w'.setRow gv #[J i1,J i2,γ A7 rn c7,μ lb,J at_],cn 59 (.tmp 7) (.tmp 27) rfl gv rfl [J i1,J i2,γ A7 rn c7,μ lb,J at_] rfl 59 [J 0,J 0,γ ε 0 0,μ {data:=#[]},J 0] (mV.out.bl aC) (by kernel_rfl) rfl (by simp[Τ]),eD (show W9.heap.size≤gv from X8.out) _,?_⟩
 have qp:Hid (Whole (w'.setRow gv #[J i1,J i2,γ A7 rn c7,μ lb,J at_]) gv 59 [J i1,J i2,γ A7 rn c7,μ lb,J at_]):=qh (Whole.row (mV.out.bl aC) [J i1,J i2,γ A7 rn c7,μ lb,J at_]);have j6:Hid (σ W9.heap.size W9 (w'.setRow gv #[J i1,J i2,γ A7 rn c7,μ lb,J at_])):=qh (eB (af tg.out aC) X8.out _);have I7:=qh ((Of.out.bl aC).row (mV.out.bl aC) (by decide) #[J i1,J i2,γ A7 rn c7,μ lb,J at_]);obtain⟨V1,jr⟩:=az (w'.setRow gv #[J i1,J i2,γ A7 rn c7,μ lb,J at_]);rw[jr] at qp j6 I7 ⊢;clear aC jr mV tg;refine aq 11 ?_;refine aG (by kernel_rfl) ?_ _;intro W8 ch;have Tb:=qh (qp.out.bl ch);have Xh:=qh (af j6.out ch);have Of:=qh (I7.out.bl ch);clear I7;clear ch qp j6;have tG:=qh (xq.out.bl Xh.out);have Dm:=qh (og.out.bl Xh.out);have uz:=qh (af pH.out Xh.out);clear H8 xq og pH Xh mS X8 pG HA HV;obtain⟨V9,T9⟩:=az W8;rw[T9] at tG Dm uz Tb Of ⊢;clear T9 W8;obtain⟨p,gp⟩:=az (fm rL x);rw[gp] at HD
 have NY:Hid (∀X,lj X (A7,rn,c7,rL)→Ζ η 152 #[γ A7 rn c7,φ #[J x.1,J x.2.1,J x.2.2]] X fun e w'=>e=.returned (Ξ #[φ #[J p.1,J p.2.1,J p.2.2],Β (decide (x∈rL))])∧σ X.heap.size X w'):=qh (fun X hX=>by
  have:=xo A7 rn c7 rL x X hX.2.1 (by omega)
  rw[gp] at this;exact this)
 obtain⟨k1,Td⟩:=az (decide (x∈rL));rw[Td] at NY;obtain⟨q,gq⟩:=az (fm rL p);rw[gq] at HD
 have SL:Hid (∀X,lj X (A7,rn,c7,rL)→Ζ η 152 #[γ A7 rn c7,φ #[J p.1,J p.2.1,J p.2.2]] X fun e w'=>e=.returned (Ξ #[φ #[J q.1,J q.2.1,J q.2.2],Β (decide (p∈rL))])∧σ X.heap.size X w'):=qh (fun X hX=>by
  have:=xo A7 rn c7 rL p X hX.2.1 (by omega)
  rw[gq] at this;exact this)
 obtain⟨k2,gk2⟩:=az (decide (p∈rL));rw[gk2] at SL;clear gp Td gq gk2;obtain⟨x1,x2,x3⟩:=x;obtain⟨p1,p2,p3⟩:=p;obtain⟨q1,q2,q3⟩:=q;obtain⟨z1,z2,z3⟩:=z;have o0:=tG.out.cell (i:=0) rfl;have o1:=tG.out.cell (i:=1) rfl;have o2:=tG.out.cell (i:=2) rfl;have o3:=Tb.out.cell (i:=2) rfl
 by_cases e1:p1=x1∧p2=x2
 ·have hz:=HD.out;rw[if_pos (show cN (p1,p2,p3)=cN (x1,x2,x3) from Prod.ext e1.1 e1.2)] at hz;obtain⟨rfl,rfl⟩:=e1;have HZz:=qh hz;clear HD hz
  go_upto_region 5 with (first
   |(go_at_call 152
     refine(NY.out _ Of.out).mono ?_
     rintro e tZ ⟨rfl,dU⟩;have M0:=qh ((Of.out.bl dU).bl (ax tZ (δ #[J p1,J p2,J p3] 32)));have kR:=qh ((tG.out.bl dU).al (δ #[J p1,J p2,J p3] 32));have nW:=qh ((Dm.out.bl dU).al (δ #[J p1,J p2,J p3] 32));have NN:=qh ((Tb.out.bl dU).al (δ #[J p1,J p2,J p3] 32));have cp:=qh (aF (af uz.out dU) (δ #[J p1,J p2,J p3] 32));have zr:Hid (Whole (tZ.alloc (δ #[J p1,J p2,J p3] 32)) tZ.heap.size 32 [J p1,J p2,J p3]):=qh (Whole.new_ _ _ _);have ZZ:=Dm.out.lt;have Yk:=tG.out.lt;have Nq:b0≠tZ.heap.size:=by have:=dU.size;omega
     have Oe:b1≠tZ.heap.size:=by have:=dU.size;omega
     have Lt:Hid (W.heap.size≤tZ.heap.size):=qh (af uz.out dU).size;have a0:=kR.out.cell (i:=0) rfl;have a1:=kR.out.cell (i:=1) rfl;have a2:=kR.out.cell (i:=2) rfl;have z0_:=nW.out.cell (i:=0) rfl;have z1_:=nW.out.cell (i:=1) rfl;have Zk:=nW.out.cell (i:=2) rfl;have XG:=nW.out.free 0;have Xp:=nW.out.free 1;have X3:=nW.out.free 2;clear dU Of tG Dm Tb uz ZZ Yk o0 o1 o2 o3))
  clear a0 a1 a2 z0_ z1_ Zk XG Xp X3;obtain⟨o9,LD⟩:=az (tZ.alloc (δ #[J p1,J p2,J p3] 32));obtain⟨bt,Se⟩:=az tZ.heap.size;rw[LD] at M0 kR nW NN cp zr ⊢;rw[Se] at zr Nq Oe Lt ⊢;have Nx:=qh Nq;have Nz:=qh Oe;clear LD Se Nq Oe;have l0:=NN.out.cell (i:=2) rfl;have l1:=zr.out.cell (i:=0) rfl;have l2:=zr.out.cell (i:=1) rfl;have l3:=zr.out.cell (i:=2) rfl
  go_upto_region 6 with (first
   |(go_at_call 152
     refine(SL.out _ M0.out).mono ?_
     rintro e w12 ⟨rfl,KH⟩;have ll:=qh (kR.out.bl KH);have UA:=qh (nW.out.bl KH);have AP:=qh (zr.out.bl KH);have jP:=qh (af cp.out KH);have t0_:=AP.out.cell (i:=0) rfl;have t1_:=AP.out.cell (i:=1) rfl;have t2_:=AP.out.cell (i:=2) rfl;have u0_:=AP.out.free 0;have u1_:=AP.out.free 1;have u2_:=AP.out.free 2;clear KH kR nW zr cp M0 NN l0 l1 l2 l3))
  have fY:=qh (((ll.out.far (p:=⟨bt,0,ε⟩) Nx.out (J q1)).far (p:=⟨bt,1,ε⟩) Nx.out (J q2)).far (p:=⟨bt,2,ε⟩) Nx.out (J q3));have zh:=qh (((UA.out.far (p:=⟨bt,0,ε⟩) Nz.out (J q1)).far (p:=⟨bt,1,ε⟩) Nz.out (J q2)).far (p:=⟨bt,2,ε⟩) Nz.out (J q3));have Ot:=qh (((AP.out.set_ 0 (J q1)).set_ 1 (J q2)).set_ 2 (J q3));have jq:=qh (((jP.out.setCell (p:=⟨bt,0,ε⟩) Lt.out (J q1)).setCell (p:=⟨bt,1,ε⟩) Lt.out (J q2)).setCell (p:=⟨bt,2,ε⟩) Lt.out (J q3));obtain⟨pF,Wj⟩:=az (((w12.setCell ⟨bt,0,ε⟩ (J q1)).setCell ⟨bt,1,ε⟩ (J q2)).setCell ⟨bt,2,ε⟩ (J q3));rw[Wj] at fY zh Ot jq ⊢;clear Wj ll UA AP jP t0_ t1_ t2_ u0_ u1_ u2_;have agy:=Nx.out;have af9:=Nz.out;have o0:=fY.out.cell (i:=0) rfl;have o1:=fY.out.cell (i:=1) rfl;have u0:=Ot.out.cell (i:=0) rfl;have u1:=Ot.out.cell (i:=1) rfl;have u2:=Ot.out.cell (i:=2) rfl;have z0:=zh.out.cell (i:=0) rfl;have z1_:=zh.out.cell (i:=1) rfl;have Zk:=zh.out.cell (i:=2) rfl;have y0:=zh.out.free 0;have y1:=zh.out.free 1;have y2:=zh.out.free 2;have hz:=HZz.out;clear HZz
  by_cases e2:q1=p1∧q2=p2
  ·rw[if_pos (show cN (q1,q2,q3)=cN (p1,p2,x3) from Prod.ext e2.1 e2.2)] at hz;unfold zD at hz;simp only[Jba] at hz;obtain⟨rfl,rfl,rfl⟩:=hz;obtain⟨rfl,rfl⟩:=e2;go_wp2_with fail
   exact uI rfl b1 rfl (((zh.out.set_ 0 (J 0)).set_ 1 (J 0)).set_ 2 (J 0)) Tryz.underlying32 rfl (by kernel_rfl) rfl ⟨rfl,(((jq.out.setCell (p:=⟨b1,0,ε⟩) fD.out (J 0)).setCell (p:=⟨b1,1,ε⟩) fD.out (J 0)).setCell (p:=⟨b1,2,ε⟩) fD.out (J 0))⟩
  ·rw[if_neg (fun h:cN (q1,q2,q3)=cN (p1,p2,x3)=>e2 (by injection h with h1 h2;exact⟨h1,h2⟩))] at hz;simp only[Jba] at hz;obtain⟨rfl,rfl,rfl⟩:=hz
   have hq8:∀X:ο,(binOp .eql 30 (φ #[J z1,J z2]) (φ #[J p1,J p2])).run η X=.ok (Β ρ) X:=fun X=>by
    by_cases h1:z1=p1
    ·have h2:¬z2=p2:=fun h2=>e2 ⟨h1,h2⟩
     simp[go_sem,h1,h2]
    ·simp[go_sem,h1]
   clear e2;go_wp2_with fail
   exact uI rfl b1 rfl (((zh.out.set_ 0 (J z1)).set_ 1 (J z2)).set_ 2 (J z3)) Tryz.underlying32 rfl (by kernel_rfl) rfl ⟨rfl,(((jq.out.setCell (p:=⟨b1,0,ε⟩) fD.out (J z1)).setCell (p:=⟨b1,1,ε⟩) fD.out (J z2)).setCell (p:=⟨b1,2,ε⟩) fD.out (J z3))⟩
 ·have hz:=HD.out;have Dd:¬cN (p1,p2,p3)=cN (x1,x2,x3):=fun h=>e1 (by injection h with h1 h2;exact⟨h1,h2⟩)
  rw[if_neg Dd,if_neg Dd] at hz;simp only[Jba] at hz;obtain⟨rfl,rfl,rfl⟩:=hz
  have hq8:∀X:ο,(binOp .eql 30 (φ #[J z1,J z2]) (φ #[J x1,J x2])).run η X=.ok (Β ρ) X:=fun X=>by
   by_cases h1:z1=x1
   ·have h2:¬z2=x2:=fun h2=>e1 ⟨h1,h2⟩
    simp[go_sem,h1,h2]
   ·simp[go_sem,h1]
  clear HD e1 Dd
  go_wp2_with (first
   |(go_at_call 152
     refine(NY.out _ Of.out).mono ?_
     rintro e tZ ⟨rfl,dU⟩;have M0:=qh ((Of.out.bl dU).bl (ax tZ (δ #[J z1,J z2,J z3] 32)));have kR:=qh ((tG.out.bl dU).al (δ #[J z1,J z2,J z3] 32));have nW:=qh ((Dm.out.bl dU).al (δ #[J z1,J z2,J z3] 32));have NN:=qh ((Tb.out.bl dU).al (δ #[J z1,J z2,J z3] 32));have cp:=qh (aF (af uz.out dU) (δ #[J z1,J z2,J z3] 32));have zr:Hid (Whole (tZ.alloc (δ #[J z1,J z2,J z3] 32)) tZ.heap.size 32 [J z1,J z2,J z3]):=qh (Whole.new_ _ _ _);have ZZ:=Dm.out.lt;have Yk:=tG.out.lt;have Nq:b0≠tZ.heap.size:=by have:=dU.size;omega
     have Oe:b1≠tZ.heap.size:=by have:=dU.size;omega
     have Lt:Hid (W.heap.size≤tZ.heap.size):=qh (af uz.out dU).size;have a0:=kR.out.cell (i:=0) rfl;have a1:=kR.out.cell (i:=1) rfl;have a2:=kR.out.cell (i:=2) rfl;have z0_:=nW.out.cell (i:=0) rfl;have z1_:=nW.out.cell (i:=1) rfl;have Zk:=nW.out.cell (i:=2) rfl;have XG:=nW.out.free 0;have Xp:=nW.out.free 1;have X3:=nW.out.free 2;clear dU Of tG Dm Tb uz ZZ Yk o0 o1 o2 o3))
  exact uI rfl b1 rfl (((nW.out.set_ 0 (J z1)).set_ 1 (J z2)).set_ 2 (J z3)) Tryz.underlying32 rfl (by kernel_rfl) rfl ⟨rfl,(((cp.out.setCell (p:=⟨b1,0,ε⟩) fD.out (J z1)).setCell (p:=⟨b1,1,ε⟩) fD.out (J z2)).setCell (p:=⟨b1,2,ε⟩) fD.out (J z3))⟩
end
def qU (V:List VS) (x:Nm) (G:List Gn):Nat→List Gn
 |0=>G
 |j+1=>eA (qU V x G j) (bg x (j:Int),dz V (bg x (j:Int)))
def yT (V:List VS) (x:Nm):Nat→List VS
 |0=>V
 |j+1=>rings (yT V x j) (fun l=>aJ (ft l (bg x (j:Int))))
theorem rJ (V:List VS) (x:Nm) {G:List Gn} (h:fi G) (hl:G.length≤400):∀j,fi (qU V x G j)∧(qU V x G j).length≤400
 |0=>⟨h,hl⟩
 |j+1=>⟨fx _ (rJ V x h hl j).1,kS _ _ (rJ V x h hl j).2 (rJ V x h hl j).1⟩
theorem uK (V:List VS) (x:Nm) (q:Nat) (h:∀v∈V,v.2.1.length≤q):∀j,∀v∈yT V x j,v.2.1.length≤q
 |0=>h
 |j+1=>fun v hv=>by
  obtain⟨u,hu,rfl⟩:=Α.1 (show v∈(yT V x j).map _ from hv);have h1:=uK V x q h j u hu
  show(aJ (ft u.2.1 _)).length≤q
  rw[G7,kW]
  have:=(List.erase_sublist (a:=bg x (j:Int)) (l:=u.2.1)).length_le
  omega
theorem IW {S:SS} (h:eK S) {x:Nm} (hx:cx S.2.1 x=τ):yT S.1 x 2=dK (dK S.1 (bg x 0)) (bg x 1):=by
 obtain⟨h0,h1⟩:=h.end_ hx;obtain⟨r1,m1⟩:=h.rg.rem h0
 have bQ:bg x 1≠bg x 0:=fun e=>by
  unfold bg at e;injection e with _ e
  injection e with _ e
  exact absurd e (by decide)
 show rings (rings S.1 (fun l=>aJ (ft l (bg x 0)))) (fun l=>aJ (ft l (bg x 1)))=_;rw[nk h.rg.keys h.rg.once h.rg.turned h0,nk r1.keys r1.once r1.turned ((m1 _).2 ⟨bQ,h1⟩)]
theorem BF {A B C:Option Κ} {w W:ο} {lo g n c m k r rc:Nat} {Us:List VC} {Es:List EC} {G:List Gn} (h:fH w lo g A n c Us B m k Es C r rc G W) {q:Nat} {V:List VS} (e:Us.map vS=V) (hv:∀v∈V,v.2.1.length≤q):∀u∈Us,u.2.1.2.1≤q:=fun u hu=>by
 have h1:=hv (vS u) (e▸Α.2 ⟨u,hu,rfl⟩);have h2:u.2.1.2.2.2.length=u.2.1.2.1:=(h.rg u hu).2.1.dlen;rw[←h2];exact h1
section
variable {w W:ο} {lo g:Nat} {A:Option Κ} {n c:Nat} {Vs:List VC} {B:Option Κ} {m k:Nat} {Es:List EC} {C:Option Κ} {r rc:Nat} {G:List Gn}
theorem FL (h:fH w lo g A n c Vs B m k Es C r rc G W) (hS:il (Vs.map vS,Es,G)) (x1 x2:Int):Ζ η 93 #[υ (ζ ⟨g,0,ε⟩),φ #[J x1,J x2]] W (mj w W lo g (iJ (Vs.map vS,Es,G) (x1,x2))):=by
 obtain⟨hn,hm,hr,tQ⟩:=hS.n24 h;have KT:(Vs.map (·.1)).Nodup:=kx Vs▸hS.fit.vup.nodup;have jn:=ax W (δ #[J x1,J x2] 30);have HE:Hid (∀X,fH w lo g A n c Vs B m k Es C r rc G X→Ζ η 113 #[υ (ζ ⟨g,0,ε⟩),φ #[J x1,J x2]] X fun e w'=>e=.returned (J (oD (fun v:EC=>v.1) Es (x1,x2)))∧σ X.heap.size X w'):=qh (fun X hX=>NG g A n c B m k C r rc x1 x2 Es X hX.s (bk hX.e) (by omega));have H0:=qh (h.up jn);have HQ:=H0;have aR:Hid (Whole (W.alloc (δ #[J x1,J x2] 30)) W.heap.size 30 [J x1,J x2]):=qh (Whole.new_ _ _ [_,_]);have zm:=qh (bc.of_below (g:=g) jn);have yO:=qh hS;have MA:=aR.out.cell (i:=0) rfl;have Fe:=aR.out.cell (i:=1) rfl;cases hh:cx Es (x1,x2) with
 |false=>
  have e1:=rp (k:=fun v:EC=>v.1) (l:=Es) hh;rw[e1] at HE;have HR:Hid (iJ (Vs.map vS,Es,G) (x1,x2)=(cC,13)):=qh (by unfold iJ;rw[if_pos hh]);clear h hS tQ KT hh e1 jn;go_enter Tryz.func93,Tryz.ntmps93
  go_wp2_with (first
   |(go_at_call 113
     refine(HE.out _ HQ.out).mono ?_
     rintro e w2 ⟨rfl,ar⟩;have su:=qh (H0.out.bl ar);have bj:=qh (aR.out.bl ar);have ss:=qh (zm.out.trans (bc.of_below ar));have c0:=bj.out.cell (i:=0) rfl;have c1:=bj.out.cell (i:=1) rfl;have s0:=su.out.s.cell (i:=0) rfl;clear ar H0 aR zm MA Fe))
  go_ret;exact mj.no HR.out (by decide) rfl su.out.below ss.out
 |true=>
  obtain⟨i,v,e1,e2,e3,e4⟩:=uB (k:=fun v:EC=>v.1) (l:=Es) hh;rw[e1] at HE;have hi:i<m:=by rw[←h.elen];exact e4
  have e3:v.1=(x1,x2):=e3;have Rb:=qh ((NR hS.fit.eup e2).trans (by rw[e3]));have Vo:Hid (i<m):=qh hi
  have HR:Hid (iJ (Vs.map vS,Es,G) (x1,x2)=((yT (Vs.map vS) (x1,x2) 2,eI Es (x1,x2),qU (Vs.map vS) (x1,x2) G 2),0)):=qh (by
   unfold iJ;rw[if_neg (by rw[hh];decide),IW hS.fit hh];rfl)
  have HT:Hid (∀j,fi (qU (Vs.map vS) (x1,x2) G j)∧(qU (Vs.map vS) (x1,x2) G j).length≤400):=qh (rJ (Vs.map vS) (x1,x2) hS.gr (by rw[h.glen];omega));have za:Hid (∀j,∀v∈yT (Vs.map vS) (x1,x2) j,v.2.1.length≤80):=qh (uK (Vs.map vS) (x1,x2) 80 hS.short);have SX:Hid (∀v∈Vs,v.2.1.2.1≤1000):=qh (fun v hv=>Λ (tQ v hv) (by decide));have VD:Hid (Sv 122):=qh (uQ Tryz.func122 (by kernel_rfl) rfl);clear h hS tQ KT hh e1 jn e2 e3 e4;go_enter Tryz.func93,Tryz.ntmps93
  go_wp2_with (first
   |(go_at_call 113
     refine(HE.out _ HQ.out).mono ?_
     rintro e w2 ⟨rfl,ar⟩;have su:=qh (H0.out.bl ar);have bj:=qh (aR.out.bl ar);have ss:=qh (zm.out.trans (bc.of_below ar));have c0:=bj.out.cell (i:=0) rfl;have c1:=bj.out.cell (i:=1) rfl;have s0:=su.out.s.cell (i:=0) rfl;clear ar H0 aR zm MA Fe)
   |(go_at_call 115
     refine(tj x1 x2 _).mono ?_
     rintro e w3 ⟨rfl,bw⟩;have ye:=qh (su.out.bl bw);have ff:=qh (bj.out.bl bw);have DK:=qh (ss.out.trans (bc.of_below bw));clear bw su bj ss c0 c1 s0 hi))
  obtain⟨w0,Oi⟩:=az w3;obtain⟨bx,gbx⟩:=az W.heap.size;have gh:Hid (W.heap.size≠g):=qh (ff.out.ne_ ye.out.s (by decide));rw[Oi] at ye ff DK;rw[gbx] at ff gh ⊢;clear gbx;go_loopw [17] (fun i wr=>∃(j:Nat) (C:Option Κ) (r rc:Nat),j≤2∧i=J (j:Int)∧Hid (fH w lo g A n c Vs B m k Es C r rc (qU (Vs.map vS) (x1,x2) G j) wr)∧Hid (bc g w0 wr)) (fun i _=>2 - (intOf i).toNat)
  case atStart=>subst Oi;exact⟨0,C,r,rc,by omega,rfl,ye,qh (bc.refl g _)⟩
  case round=>
   clear Oi;obtain⟨j,C,r,rc,eS,rfl,HS,HK⟩:=hrel;have U6:Hid (fi (qU (Vs.map vS) (x1,x2) G j)∧r≤400):=qh ⟨(HT.out j).1,by rw[←HS.out.glen];exact(HT.out j).2⟩;have hj:j=0∨j=1∨j=2:=by omega
   rcases hj with rfl|rfl|rfl
   ·clear eS;have ix0:∀w:ο,(Instr.index 141 (φ #[J x1,J x2,J 0,J x1,J x2,J 1]) (J 0)).run η w=.ok (φ #[J x1,J x2,J 0]) w:=fun _=>by kernel_rfl
    go_upto_region 7 with fail
    have sm:=qh (HS.out.al (δ #[J x1,J x2,J 0] 32));have zn:=qh (HK.out.trans (bc.of_below (ax wr (δ #[J x1,J x2,J 0] 32))));have ob:Hid (Whole (wr.alloc (δ #[J x1,J x2,J 0] 32)) wr.heap.size 32 [J x1,J x2,J 0]):=qh (Whole.new_ _ _ [_,_,_]);have Nd:Hid (wr.heap.size≠g):=qh (ob.out.ne_ sm.out.s (by decide));obtain⟨W5,tA⟩:=az (wr.alloc (δ #[J x1,J x2,J 0] 32));obtain⟨bd,KY⟩:=az wr.heap.size;rw[tA] at sm zn ob ⊢;rw[KY] at ob Nd ⊢;clear tA KY HS HK;have nd:=Nd.out;have q0:∀w',Kept (fun b=>b=g) W5.drew w'→w'.cell? ⟨bd,0,ε⟩=ζ (J x1):=fun w' h=>h.cell (ob.out.dr.cell (i:=0) rfl) nd
    have q1:∀w',Kept (fun b=>b=g) W5.drew w'→w'.cell? ⟨bd,1,ε⟩=ζ (J x2):=fun w' h=>h.cell (ob.out.dr.cell (i:=1) rfl) nd
    have q2:∀w',Kept (fun b=>b=g) W5.drew w'→w'.cell? ⟨bd,2,ε⟩=ζ (J 0):=fun w' h=>h.cell (ob.out.dr.cell (i:=2) rfl) nd
    obtain⟨td,Qc⟩:=az (dz (Vs.map vS) (bg (x1,x2) 0))
    have MB:Hid (∀X C r rc G,fH w lo g A n c Vs B m k Es C r rc G X→Ζ η 120 #[υ (ζ ⟨g,0,ε⟩),φ #[J x1,J x2,J 0]] X fun e w'=>e=.returned (φ #[J td.1,J td.2.1,J td.2.2])∧σ X.heap.size X w'):=qh (fun X C r rc G hX=>by
     have:=xB hX (by omega) SX.out (bg (x1,x2) 0)
     rw[Qc] at this;exact this)
    have GTd:=qh Qc;clear Qc;refine aw (fun b=>b=g) (by kernel_rfl) ?_;refine aq 0 ?_;refine aq 1 ?_;refine aq 2 ?_;refine aq 3 ?_;refine rU 4 ?_;intro w' aC
    refine(MB.out w' _ _ _ _ (sm.out.dr.bl aC)).mono ?_
    rintro e w6 ⟨rfl,dO⟩
    refine⟨_,rfl,Kept.of_below dO,?_⟩
    have TT:=qh ((sm.out.dr.bl aC).bl dO);have Ia:=qh (zn.out.trans ((bc.of_below ((Θ _ W5).drew.trans (aC.mono (Δ _)))).trans (bc.of_below dO)));clear aC dO sm zn ob MB q0 q1 q2;simp only[ξ,ak,aj,ah];refine rU 5 ?_;intro w' aC
    refine(zv (TT.out.bl aC) (bg (x1,x2) 0) td U6.out.2 U6.out.1).mono ?_
    rintro e w9 ⟨rfl,C9,r9,pL,AO,Mj,BH,TC⟩
    refine⟨_,rfl,TC,?_⟩
    have BJ:=qh AO;have Mm:=qh (Ia.out.trans ((bc.of_below aC).trans BH));rw[←GTd.out] at BJ;clear AO Mj BH TC aC TT Ia;simp only[ξ,ak,aj,ah];refine aG (by kernel_rfl) ?_ _;intro w8 ch;have ID:=qh (BJ.out.bl ch);have Cq:=qh (Mm.out.trans (bc.of_below ch));clear ch BJ Mm;go_wp2;go_roundw
    case rel=>exact⟨1,_,_,_,by omega,by go_num,ID,Cq⟩
    case measure=>simp[intOf]
   ·clear eS;have ix1:∀w:ο,(Instr.index 141 (φ #[J x1,J x2,J 0,J x1,J x2,J 1]) (J 1)).run η w=.ok (φ #[J x1,J x2,J 1]) w:=fun _=>by kernel_rfl
    go_upto_region 7 with fail
    have sm:=qh (HS.out.al (δ #[J x1,J x2,J 1] 32));have zn:=qh (HK.out.trans (bc.of_below (ax wr (δ #[J x1,J x2,J 1] 32))));have ob:Hid (Whole (wr.alloc (δ #[J x1,J x2,J 1] 32)) wr.heap.size 32 [J x1,J x2,J 1]):=qh (Whole.new_ _ _ [_,_,_]);have Nd:Hid (wr.heap.size≠g):=qh (ob.out.ne_ sm.out.s (by decide));obtain⟨W5,tA⟩:=az (wr.alloc (δ #[J x1,J x2,J 1] 32));obtain⟨bd,KY⟩:=az wr.heap.size;rw[tA] at sm zn ob ⊢;rw[KY] at ob Nd ⊢;clear tA KY HS HK;have nd:=Nd.out;have q0:∀w',Kept (fun b=>b=g) W5.drew w'→w'.cell? ⟨bd,0,ε⟩=ζ (J x1):=fun w' h=>h.cell (ob.out.dr.cell (i:=0) rfl) nd
    have q1:∀w',Kept (fun b=>b=g) W5.drew w'→w'.cell? ⟨bd,1,ε⟩=ζ (J x2):=fun w' h=>h.cell (ob.out.dr.cell (i:=1) rfl) nd
    have q2:∀w',Kept (fun b=>b=g) W5.drew w'→w'.cell? ⟨bd,2,ε⟩=ζ (J 1):=fun w' h=>h.cell (ob.out.dr.cell (i:=2) rfl) nd
    obtain⟨td,Qc⟩:=az (dz (Vs.map vS) (bg (x1,x2) 1))
    have MB:Hid (∀X C r rc G,fH w lo g A n c Vs B m k Es C r rc G X→Ζ η 120 #[υ (ζ ⟨g,0,ε⟩),φ #[J x1,J x2,J 1]] X fun e w'=>e=.returned (φ #[J td.1,J td.2.1,J td.2.2])∧σ X.heap.size X w'):=qh (fun X C r rc G hX=>by
     have:=xB hX (by omega) SX.out (bg (x1,x2) 1)
     rw[Qc] at this;exact this)
    have GTd:=qh Qc;clear Qc;refine aw (fun b=>b=g) (by kernel_rfl) ?_;refine aq 0 ?_;refine aq 1 ?_;refine aq 2 ?_;refine aq 3 ?_;refine rU 4 ?_;intro w' aC
    refine(MB.out w' _ _ _ _ (sm.out.dr.bl aC)).mono ?_
    rintro e w6 ⟨rfl,dO⟩
    refine⟨_,rfl,Kept.of_below dO,?_⟩
    have TT:=qh ((sm.out.dr.bl aC).bl dO);have Ia:=qh (zn.out.trans ((bc.of_below ((Θ _ W5).drew.trans (aC.mono (Δ _)))).trans (bc.of_below dO)));clear aC dO sm zn ob MB q0 q1 q2;simp only[ξ,ak,aj,ah];refine rU 5 ?_;intro w' aC
    refine(zv (TT.out.bl aC) (bg (x1,x2) 1) td U6.out.2 U6.out.1).mono ?_
    rintro e w9 ⟨rfl,C9,r9,pL,AO,Mj,BH,TC⟩
    refine⟨_,rfl,TC,?_⟩
    have BJ:=qh AO;have Mm:=qh (Ia.out.trans ((bc.of_below aC).trans BH));rw[←GTd.out] at BJ;clear AO Mj BH TC aC TT Ia;simp only[ξ,ak,aj,ah];refine aG (by kernel_rfl) ?_ _;intro w8 ch;have ID:=qh (BJ.out.bl ch);have Cq:=qh (Mm.out.trans (bc.of_below ch));clear ch BJ Mm;go_wp2;go_roundw
    case rel=>exact⟨2,_,_,_,by omega,by go_num,ID,Cq⟩
    case measure=>simp[intOf]
   ·have mK:=qh (HK.out.w _ _ _ ff.out gh.out (by decide) (by decide) (by decide));have HK4:=qh (DK.out.trans HK.out);have Cn:=HS;have c0:=mK.out.cell (i:=0) rfl;have c1:=mK.out.cell (i:=1) rfl;clear HS HK ff DK ye eS U6
    go_wp2_with (first
     |(go_at_call 115
       refine(tj x1 x2 _).mono ?_
       rintro e w5 ⟨rfl,fM⟩;have sm:=qh (Cn.out.bl fM);have zn:=qh (HK4.out.trans (bc.of_below fM));clear fM Cn mK HK4 c0 c1))
    go_loopw [29] (fun i wr=>∃(j:Nat) (Us:List VC),j≤2∧i=J (j:Int)∧Hid (fH w lo g A n c Us B m k Es C r rc (qU (Vs.map vS) (x1,x2) G 2) wr)∧Hid (Us.map vS=yT (Vs.map vS) (x1,x2) j)∧Hid (bc g W wr)) (fun i _=>2 - (intOf i).toNat)
    case atStart=>exact⟨0,Vs,by omega,rfl,sm,qh rfl,zn⟩
    case round=>
     clear sm zn;obtain⟨j,Us,eS,rfl,HS,HU,HK⟩:=hrel;have hj:j=0∨j=1∨j=2:=by omega
     rcases hj with rfl|rfl|rfl
     ·clear eS;have ix0:∀w:ο,(Instr.index 141 (φ #[J x1,J x2,J 0,J x1,J x2,J 1]) (J 0)).run η w=.ok (φ #[J x1,J x2,J 0]) w:=fun _=>by kernel_rfl
      go_upto_region 12 with fail
      have sm:=qh (HS.out.al (δ #[J x1,J x2,J 0] 32));have zn:=qh (HK.out.trans (bc.of_below (ax wr (δ #[J x1,J x2,J 0] 32))));have ob:Hid (Whole (wr.alloc (δ #[J x1,J x2,J 0] 32)) wr.heap.size 32 [J x1,J x2,J 0]):=qh (Whole.new_ _ _ [_,_,_]);have Nd:Hid (wr.heap.size≠g):=qh (ob.out.ne_ sm.out.s (by decide));obtain⟨W5,tA⟩:=az (wr.alloc (δ #[J x1,J x2,J 0] 32));obtain⟨bd,KY⟩:=az wr.heap.size;rw[tA] at sm zn ob ⊢;rw[KY] at ob Nd ⊢;clear tA KY HS HK
      go_wp2_with (first
       |(go_at_call 121
         refine(uW sm.out (by omega) (fun u hu=>Λ (BF sm.out HU.out (za.out 0) u hu) (by decide)) 122 (ζ ⟨bd,0,ε⟩) (fun l=>aJ (ft l (bg (x1,x2) 0))) (fun X=>Whole X bd 32 [J x1,J x2,J 0]) ob.out (fun X Y hx hk=>hk.w _ _ _ hx Nd.out (by decide) (by decide) (by decide)) VD.out (fun X A n c L hx hr hn=>zt A n c bd L (bg (x1,x2) 0) X hr hx hn)).mono ?_
         rintro e w9 ⟨rfl,Us9,AO,TS,BH⟩;have ID:=qh AO;have Cq:=qh (zn.out.trans BH);have QQ:Hid (Us9.map vS=yT (Vs.map vS) (x1,x2) 1):=qh (by rw[TS,HU.out];rfl);clear AO TS BH sm zn ob HU))
      go_roundw
      case rel=>exact⟨1,_,by omega,by go_num,ID,QQ,Cq⟩
      case measure=>simp[intOf]
     ·clear eS;have ix1:∀w:ο,(Instr.index 141 (φ #[J x1,J x2,J 0,J x1,J x2,J 1]) (J 1)).run η w=.ok (φ #[J x1,J x2,J 1]) w:=fun _=>by kernel_rfl
      go_upto_region 12 with fail
      have sm:=qh (HS.out.al (δ #[J x1,J x2,J 1] 32));have zn:=qh (HK.out.trans (bc.of_below (ax wr (δ #[J x1,J x2,J 1] 32))));have ob:Hid (Whole (wr.alloc (δ #[J x1,J x2,J 1] 32)) wr.heap.size 32 [J x1,J x2,J 1]):=qh (Whole.new_ _ _ [_,_,_]);have Nd:Hid (wr.heap.size≠g):=qh (ob.out.ne_ sm.out.s (by decide));obtain⟨W5,tA⟩:=az (wr.alloc (δ #[J x1,J x2,J 1] 32));obtain⟨bd,KY⟩:=az wr.heap.size;rw[tA] at sm zn ob ⊢;rw[KY] at ob Nd ⊢;clear tA KY HS HK
      go_wp2_with (first
       |(go_at_call 121
         refine(uW sm.out (by omega) (fun u hu=>Λ (BF sm.out HU.out (za.out 1) u hu) (by decide)) 122 (ζ ⟨bd,0,ε⟩) (fun l=>aJ (ft l (bg (x1,x2) 1))) (fun X=>Whole X bd 32 [J x1,J x2,J 1]) ob.out (fun X Y hx hk=>hk.w _ _ _ hx Nd.out (by decide) (by decide) (by decide)) VD.out (fun X A n c L hx hr hn=>zt A n c bd L (bg (x1,x2) 1) X hr hx hn)).mono ?_
         rintro e w9 ⟨rfl,Us9,AO,TS,BH⟩;have ID:=qh AO;have Cq:=qh (zn.out.trans BH);have QQ:Hid (Us9.map vS=yT (Vs.map vS) (x1,x2) 2):=qh (by rw[TS,HU.out];rfl);clear AO TS BH sm zn ob HU))
      go_roundw
      case rel=>exact⟨2,_,by omega,by go_num,ID,QQ,Cq⟩
      case measure=>simp[intOf]
     ·go_wp2_with (first
       |(go_at_call 124
         refine(KM HS.out i Vo.out (by omega)).mono ?_
         rintro e w9 ⟨rfl,B9,k9,AO,BH⟩;have BJ:=qh AO;have Mm:=qh (HK.out.trans BH);clear AO BH HS HK))
      go_ret;exact mj.yes HR.out rfl Mm.out BJ.out (by rw[HU.out,Rb.out])
end
theorem EI (a b x y:Int) (X:ο):(binOp .eql 30 (φ #[J a,J b]) (φ #[J x,J y])).run η X=.ok (Β (decide ((a,b)=(x,y)))) X:=by
 by_cases h1:a=x
 ·by_cases h2:b=y
  ·simp[go_sem,h1,h2]
  ·simp[go_sem,h1,h2]
 ·simp[go_sem,h1]
theorem ud (a b c x y z:Int) (X:ο):(binOp .eql 32 (φ #[J a,J b,J c]) (φ #[J x,J y,J z])).run η X=.ok (Β (decide ((a,b,c)=(x,y,z)))) X:=by
 by_cases h1:a=x
 ·by_cases h2:b=y
  ·by_cases h3:c=z
   ·simp[go_sem,h1,h2,h3]
   ·simp[go_sem,h1,h2,h3]
  ·simp[go_sem,h1,h2]
 ·simp[go_sem,h1]
theorem il.linked {S:SS} (h:il S) {x:Nm} (m1:bB x.1 x.2=τ) (hE:cx S.2.1 x=ρ) (hl:¬40≤S.2.1.length) {a b:Nm × D} (ha:bH S.1 a.1=τ) (hb:bH S.1 b.1=τ):
 il (dw (dw S.1 a (bg x 0)) b (bg x 1),iZ S.2.1 (x,ByteArray.empty,0),S.2.2):=by
 refine⟨h.fit.link hE ha hb _,by show(dw _ _ _).length≤24;unfold dw;rw[fb,fb];exact h.v24,by show(iZ _ _).length≤40;unfold iZ;rw[jS];omega,h.g400,?_,fun e he=>?_,h.gr⟩
 ·exact jQ (P:=fun x t=>bB x.1 x.2=τ∧dv t.1=τ∧kt t.2=τ) (jQ (P:=fun x t=>bB x.1 x.2=τ∧dv t.1=τ∧kt t.2=τ) h.vm)
 ·rcases dL.1 he with rfl|he
  ·exact⟨m1,nR,oW⟩
  ·exact h.em e he
section
variable {w W:ο} {lo g:Nat} {A:Option Κ} {n c:Nat} {Vs:List VC} {B:Option Κ} {m k:Nat} {Es:List EC} {C:Option Κ} {r rc:Nat} {G:List Gn}
theorem Jg (h:fH w lo g A n c Vs B m k Es C r rc G W) (hS:il (Vs.map vS,Es,G)) (o:cO) (hk:o.k=1):Ζ η 68 #[υ (ζ ⟨g,0,ε⟩),φ (aa o).toArray] W (mj w W lo g (bO (Vs.map vS,Es,G) o)):=by
 have yO:=qh hS;have HR:Hid (bO (Vs.map vS,Es,G) o=jk (Vs.map vS,Es,G) (bC o)):=qh (by unfold bO;rw[if_pos hk]);clear hS;have H:=qh h;clear h;go_enter Tryz.func68,Tryz.ntmps68;go_upto_region 1 with fail
 obtain⟨W1,a7⟩:=az (W.alloc (δ (aa o).toArray 36));have aQ:Hid (Whole W1 W.heap.size 36 (aa o)):=qh (by rw[←a7];exact Whole.new_ _ _ _);have BS:Hid (fH w lo g A n c Vs B m k Es C r rc G W1):=qh (by rw[←a7];exact H.out.al _);have iT:Hid (σ W.heap.size W W1):=qh (by rw[←a7];exact ax _ _);rw[a7];clear a7 H;have Nb:Hid (W.heap.size≠g):=qh (aQ.out.ne_ BS.out.s (by decide));obtain⟨b0,bS⟩:=az W.heap.size;rw[bS] at aQ Nb ⊢;clear bS;have IE:=qh (bc.of_below (g:=g) iT.out);have lw0:=aQ.out.cell (i:=0) rfl;have ks:=aQ.out.cell (i:=1) rfl;have ko:=aQ.out.cell (i:=2) rfl;go_upto_region 3 with fail
 go_wp2_with (first
  |(go_at_call 90
    refine(Gh BS.out yO.out o.s o.n).mono ?_
    rintro e w2 ⟨rfl,ar,F4,xN⟩;have cL:=qh ar;have tC:=qh xN;have ss:=qh (IE.out.trans F4);clear ar xN F4 BS aQ iT))
 go_ret;rw[HR.out];exact⟨rfl,cL.out,ss.out,tC.out⟩
theorem Li (h:fH w lo g A n c Vs B m k Es C r rc G W) (hS:il (Vs.map vS,Es,G)) (o:cO) (hk:o.k=2):Ζ η 68 #[υ (ζ ⟨g,0,ε⟩),φ (aa o).toArray] W (mj w W lo g (bO (Vs.map vS,Es,G) o)):=by
 have yO:=qh hS;have HR:Hid (bO (Vs.map vS,Es,G) o=fX (Vs.map vS,Es,G) (bC o)):=qh (by unfold bO;rw[if_neg (by rw[hk];decide),if_pos hk]);clear hS;have H:=qh h;clear h;go_enter Tryz.func68,Tryz.ntmps68;go_upto_region 1 with fail
 obtain⟨W1,a7⟩:=az (W.alloc (δ (aa o).toArray 36));have aQ:Hid (Whole W1 W.heap.size 36 (aa o)):=qh (by rw[←a7];exact Whole.new_ _ _ _);have BS:Hid (fH w lo g A n c Vs B m k Es C r rc G W1):=qh (by rw[←a7];exact H.out.al _);have iT:Hid (σ W.heap.size W W1):=qh (by rw[←a7];exact ax _ _);rw[a7];clear a7 H;have Nb:Hid (W.heap.size≠g):=qh (aQ.out.ne_ BS.out.s (by decide));obtain⟨b0,bS⟩:=az W.heap.size;rw[bS] at aQ Nb ⊢;clear bS;have IE:=qh (bc.of_below (g:=g) iT.out);have lw0:=aQ.out.cell (i:=0) rfl;have ks:=aQ.out.cell (i:=1) rfl;have ko:=aQ.out.cell (i:=2) rfl;have n1:¬o.k=1:=by rw[hk];decide
 go_upto_region 5 with fail
 go_wp2_with (first
  |(go_at_call 91
    refine(FZ BS.out yO.out o.s o.n).mono ?_
    rintro e w2 ⟨rfl,ar,F4,xN⟩;have cL:=qh ar;have tC:=qh xN;have ss:=qh (IE.out.trans F4);clear ar xN F4 BS aQ iT))
 go_ret;rw[HR.out];exact⟨rfl,cL.out,ss.out,tC.out⟩
theorem LU (h:fH w lo g A n c Vs B m k Es C r rc G W) (hS:il (Vs.map vS,Es,G)) (o:cO) (hk:o.k=4):Ζ η 68 #[υ (ζ ⟨g,0,ε⟩),φ (aa o).toArray] W (mj w W lo g (bO (Vs.map vS,Es,G) o)):=by
 have yO:=qh hS;have HR:Hid (bO (Vs.map vS,Es,G) o=iJ (Vs.map vS,Es,G) (bC o)):=qh (by unfold bO;rw[if_neg (by rw[hk];decide),if_neg (by rw[hk];decide),if_neg (by rw[hk];decide),if_pos hk]);clear hS;have H:=qh h;clear h;go_enter Tryz.func68,Tryz.ntmps68;go_upto_region 1 with fail
 obtain⟨W1,a7⟩:=az (W.alloc (δ (aa o).toArray 36));have aQ:Hid (Whole W1 W.heap.size 36 (aa o)):=qh (by rw[←a7];exact Whole.new_ _ _ _);have BS:Hid (fH w lo g A n c Vs B m k Es C r rc G W1):=qh (by rw[←a7];exact H.out.al _);have iT:Hid (σ W.heap.size W W1):=qh (by rw[←a7];exact ax _ _);rw[a7];clear a7 H;have Nb:Hid (W.heap.size≠g):=qh (aQ.out.ne_ BS.out.s (by decide));obtain⟨b0,bS⟩:=az W.heap.size;rw[bS] at aQ Nb ⊢;clear bS;have IE:=qh (bc.of_below (g:=g) iT.out);have lw0:=aQ.out.cell (i:=0) rfl;have ks:=aQ.out.cell (i:=1) rfl;have ko:=aQ.out.cell (i:=2) rfl;have n1:¬o.k=1:=by rw[hk];decide
 have n2:¬o.k=2:=by rw[hk];decide
 have n3:¬o.k=3:=by rw[hk];decide
 go_upto_region 9 with fail
 go_wp2_with (first
  |(go_at_call 93
    refine(FL BS.out yO.out o.s o.n).mono ?_
    rintro e w2 ⟨rfl,ar,F4,xN⟩;have cL:=qh ar;have tC:=qh xN;have ss:=qh (IE.out.trans F4);clear ar xN F4 BS aQ iT))
 go_ret;rw[HR.out];exact⟨rfl,cL.out,ss.out,tC.out⟩
end
structure wY (W:ο) (lo:Nat) (A:Option Κ) (n c:Nat) (Vs:List VC) (B:Option Κ) (m k:Nat) (Es:List EC) (C:Option Κ) (r rc:Nat) (G:List Gn):Prop where
 v:W.ownsRow lo 59 5 (γ A n c) n (ao vC Vs)
 e:W.ownsRow lo 67 4 (γ B m k) m (ao eC Es)
 rg:∀x∈Vs,lj W x.2.1
 gn:W.ownsRow lo 98 6 (γ C r rc) r (ao cj G)
theorem oP {W:ο} {lo k n c g:Nat} {A:Option Κ} {T T':TypeId} {xs cs:List ψ} (h:W.ownsRow lo T k (γ A n c) n xs) (hw:Whole W g T' cs) (hT:T'≠T) (qN:Array ψ):(W.setRow g qN).ownsRow lo T k (γ A n c) n xs:=
 h.kept (iL (eD (S:=fun x=>x=g) rfl qN)) (.inr (Ne.symm (bM h hw hT)))
section
variable {W W':ο} {lo:Nat} {A:Option Κ} {n c:Nat} {Vs:List VC} {B:Option Κ} {m k:Nat} {Es:List EC} {C:Option Κ} {r rc:Nat} {G:List Gn}
theorem wY.up (h:wY W lo A n c Vs B m k Es C r rc G) (hb:σ W.heap.size W W'):wY W' lo A n c Vs B m k Es C r rc G:=
 ⟨bF h.v hb,bF h.e hb,fun x hx=>(h.rg x hx).bl hb,bF h.gn hb⟩
theorem wY.row {g:Nat} {cs:List ψ} (h:wY W lo A n c Vs B m k Es C r rc G) (hw:Whole W g 28 cs) (qN:Array ψ):wY (W.setRow g qN) lo A n c Vs B m k Es C r rc G:=
 ⟨oP h.v hw (by decide) _,oP h.e hw (by decide) _,fun x hx=>(h.rg x hx).row hw (by decide) _,oP h.gn hw (by decide) _⟩
theorem Bd (h:aO W A n c Vs B m k Es) (hg:aS W W.heap.size 6 C r rc (ao cj G)) (hn:n≤1000) (hm:m≤1000) (hr:r≤1000) (tQ:∀x∈Vs,x.2.1.2.1≤1000000):
 Ζ η 55 #[φ #[γ A n c,γ B m k,γ C r rc]] W fun e w'=>∃A' c' B' k' C' p9 Ws,e=.returned (φ #[γ A' n c',γ B' m k',γ C' r p9])∧wY w' W.heap.size A' n c' Ws B' m k' Es C' r p9 G∧Ws.map vS=Vs.map vS∧σ W.heap.size W w':=by
 have jn:σ W.heap.size W ((W.alloc (δ #[γ A n c,γ B m k,γ C r rc] 28)).alloc (δ #[γ ε 0 0,γ ε 0 0,γ ε 0 0] 28)):=aF (ax W _) _;have HH:=qh (h.below jn);have HG:=qh (hg.bl jn);have HB:=qh jn;have aR:Hid (Whole ((W.alloc (δ #[γ A n c,γ B m k,γ C r rc] 28)).alloc (δ #[γ ε 0 0,γ ε 0 0,γ ε 0 0] 28)) W.heap.size 28 [γ A n c,γ B m k,γ C r rc]):=qh ((Whole.new_ _ _ [_,_,_]).al _);have wk:Hid (Whole ((W.alloc (δ #[γ A n c,γ B m k,γ C r rc] 28)).alloc (δ #[γ ε 0 0,γ ε 0 0,γ ε 0 0] 28)) (W.heap.size+1) 28 [γ ε 0 0,γ ε 0 0,γ ε 0 0]):=qh (Whole.new2 (by simp));have SX:=qh tQ;clear h hg jn tQ;go_enter Tryz.func55,Tryz.ntmps55;go_upto_region 1 with fail
 obtain⟨W0,bJ⟩:=az (((W.alloc (δ #[γ A n c,γ B m k,γ C r rc] 28)).alloc (δ #[γ ε 0 0,γ ε 0 0,γ ε 0 0] 28)));obtain⟨b2,dA⟩:=az (W.heap.size+1);obtain⟨b1,cJ⟩:=az W.heap.size;have L2:Hid (W.heap.size≤b2):=qh (by omega);have n12:b1≠b2:=by omega
 rw[bJ] at HH HG HB aR wk ⊢;rw[dA] at wk ⊢;rw[cJ] at aR ⊢;clear bJ cJ dA;have iM:∀w',Kept (fun b=>b=b2) W0.drew w'→w'.cell? ⟨b1,0,ε⟩=ζ (γ A n c):=fun w' h=>h.cell (aR.out.dr.cell (i:=0) rfl) n12
 have ld1:∀w',Kept (fun b=>b=b2) W0.drew w'→w'.cell? ⟨b1,1,ε⟩=ζ (γ B m k):=fun w' h=>h.cell (aR.out.dr.cell (i:=1) rfl) n12
 have rQ:∀w',Kept (fun b=>b=b2) W0.drew w'→w'.cell? ⟨b1,2,ε⟩=ζ (γ C r rc):=fun w' h=>h.cell (aR.out.dr.cell (i:=2) rfl) n12
 refine aw (fun b=>b=b2) (by kernel_rfl) ?_;refine aq 0 ?_;refine aq 1 ?_;refine aq 3 ?_;refine aq 4 ?_;refine rU 2 ?_;intro w' aC
 refine(F6 A n c Vs B m k Es w' (HH.out.below ((Θ _ W0).drew.trans (aC.mono (Δ _)))) (by omega) (by omega) SX.out).mono ?_
 rintro e w5 ⟨A5,c5,B5,k5,Ws,rfl,qH,Jd,fM⟩
 refine⟨_,rfl,Kept.of_below fM,?_⟩
 have cR:=((Θ _ W0).drew.trans (aC.mono (Δ _)));have gi:W.heap.size≤w'.heap.size:=Λ HB.out.size (Λ (by exact Δ _) aC.size);have zI:=qh (e8 qH.v gi);have HE5:=qh (e8 qH.e gi);have PH:Hid (∀x∈Ws,lj w5 x.2.1):=qh (fun x hx=>lj.of_own (qH.r.own x hx));have XC:=qh Jd;have Mz:=qh ((HG.out.bl cR).bl fM);have SF:=qh ((wk.out.bl cR).bl fM);have js:=qh (af (af HB.out cR) fM);clear aC cR gi qH Jd fM HH HG wk HB aR iM ld1 rQ;simp only[ξ,ak,aj,ah];refine rU 5 ?_;intro w' aC
 refine(EX C r rc (ao cj G) w' (Mz.out.bl aC) (cS cj jC G) (by omega)).mono ?_
 rintro e w8 ⟨C8,tw,rfl,Pd⟩
 refine⟨_,rfl,Kept.of_below Pd.below,?_⟩
 have ID:Hid (wY w8 W.heap.size A5 n c5 Ws B5 m k5 Es C8 r tw G):=qh ⟨bF (bF zI.out aC) Pd.below,bF (bF HE5.out aC) Pd.below,fun x hx=>((PH.out x hx).bl aC).bl Pd.below,e8 Pd.own (Λ js.out.size aC.size)⟩;have og:=qh ((SF.out.bl aC).bl Pd.below);have pH:=qh (af (af js.out aC) Pd.below);clear aC Pd zI HE5 PH Mz SF js;simp only[ξ,ak,aj,ah];refine aq 6 ?_;refine lp 7 ?_;intro w' aC
 refine⟨w'.setRow b2 #[γ A5 n c5,γ B5 m k5,γ C8 r tw],cn 28 (.tmp 2) (.tmp 9) rfl b2 rfl [γ A5 n c5,γ B5 m k5,γ C8 r tw] rfl 28 [γ ε 0 0,γ ε 0 0,γ ε 0 0] (og.out.bl aC) (by kernel_rfl) rfl (by simp[Τ]),eD (S:=fun b=>b=b2) rfl _,?_⟩
 have BJ:=qh ((ID.out.up aC).row (og.out.bl aC) #[γ A5 n c5,γ B5 m k5,γ C8 r tw]);have Ks:=qh (Whole.row (og.out.bl aC) [γ A5 n c5,γ B5 m k5,γ C8 r tw]);have yB:=qh (eB (af pH.out aC) L2.out #[γ A5 n c5,γ B5 m k5,γ C8 r tw]);obtain⟨V3,xi⟩:=az (w'.setRow b2 #[γ A5 n c5,γ B5 m k5,γ C8 r tw]);rw[xi] at BJ Ks yB ⊢;clear aC xi ID og pH;(try simp only[ξ,ak,aj,ah]);refine aG (by kernel_rfl) ?_ _;intro wa BN;have HSa:=qh (BJ.out.up BN);have UH:=qh (Ks.out.bl BN);have zq:=qh (af yB.out BN);clear BN BJ Ks yB;go_wp2;exact uI rfl b2 rfl UH.out Tryz.underlying28 rfl (by kernel_rfl) rfl ⟨A5,c5,B5,k5,C8,tw,Ws,rfl,HSa.out,XC.out,zq.out⟩
end
end Go.Proofs.YtpdpbfmiahjiiaaGreat
