/- Several texts in one. -/
import Derived.Test.YtpdpbfmiahjiiaaGreatPpAB
import Derived.Test.YtpdpbfmiahjiiaaGreatPpAS
set_option linter.unusedSectionVars false
set_option linter.unusedSimpArgs false
set_option linter.unusedVariables false
set_option maxRecDepth 100000
set_option maxHeartbeats 16000000
namespace Go.Proofs.YtpdpbfmiahjiiaaGreat
open Go.RowKit
open _root_.Go.Value renaming slice→γ,string→μ,agg→φ,bool→Β,tuple→Ξ
open _root_.Go.Obj renaming cells→δ
open _root_.Option renaming none→ε,some→ζ
open _root_.Go.Proofs.Tryz renaming prog→η
open _root_.List renaming getElem?_eq_getElem→θ,getElem?_eq_some_iff→ν,mem_cons→Η,drop_eq_getElem_cons→Χ,mem_cons_of_mem→Jad,mem_cons_self→Jai,drop_of_length_le→Jak,not_mem_nil→Jbh
open _root_.Go.Act renaming put→ξ
open _root_.Go renaming World→ο,Value→ψ,Calls→Ζ,Addr→Κ,TypeId→Υ,wp_region_lit→Jam,maxLen→Jap
open _root_.Bool renaming false→ρ,true→τ
open _root_.Go.RowKit renaming Below→σ
open _root_.Go.RowKit.Below renaming refl→Θ
open _root_.Nat renaming le_trans→Λ,add_zero→Jac,zero_le→Jas,lt_of_lt_of_le→JaK
open _root_.Go.Addr renaming add_lit→Ν
open _root_.Go.Builtin renaming append_→JaY
theorem CG {Vs:List VC} {x:Nm} (h:(bu Vs x).2=τ):(bu Vs x).1∈Vs:=by
 rcases gM (fun v:VC=>v.1) zV Vs x with h1|h1
 ·exact h1
 ·have h2:(bu Vs x).2=ρ:=congrArg (·.2) h1;rw[h2] at h;cases h
section
variable {W:ο} {A:Option Κ} {n c:Nat} {Vs:List VC} {B:Option Κ} {m k:Nat} {Es:List EC} {C:Option Κ} {r rc:Nat} {G:List Gn}
theorem N5 (h:aR W A n c Vs B m k Es) (hg:aX W W.heap.size 6 C r rc (aj cB G)) (hn:n≤1000) (hr:∀y∈Vs,y.2.1.2.1≤1000000) (ji:r≤1000) (v1 v2 a1 a2 a3:Int) (hv:bo (Vs.map vS) (v1,v2)=ρ):Ζ η 72 #[φ #[γ A n c,γ B m k,γ C r rc],φ #[J v1,J v2,J a1,J a2,J a3]] W fun e w'=>e=.returned (Ξ #[φ #[J 0,J 0,J 0,J 0,J 0],J 13])∧σ W.heap.size W w':=by
 have HV:Hid (∀X,σ W.heap.size W X→Ζ η 27 #[φ #[γ A n c,γ B m k],φ #[J v1,J v2]] X fun e w'=>e=.returned (Ξ #[φ (vC (bu Vs (v1,v2)).1).toArray,Β (bu Vs (v1,v2)).2])∧σ X.heap.size X w'):=qh (fun X hX=>fJ A n c Vs B m k Es v1 v2 X (h.v.bl hX) (by omega));have iN:=(dO Vs (v1,v2)).1.trans hv;obtain⟨⟨u,ok⟩,gu⟩:∃z,bu Vs (v1,v2)=z:=⟨_,rfl⟩
 rw[gu] at HV iN;obtain rfl:ok=ρ:=iN;obtain⟨⟨i1,i2⟩,⟨rA,rn,bR,rL⟩,lb,at_⟩:=u;replace HV:Hid (∀X,σ W.heap.size W X→Ζ η 27 #[φ #[γ A n c,γ B m k],φ #[J v1,J v2]] X fun e w'=>e=.returned (Ξ #[φ #[J i1,J i2,γ rA rn bR,μ lb,J at_],Β ρ])∧σ X.heap.size X w'):=HV;clear h hg hr hv gu;go_enter Tryz.func72,Tryz.ntmps72;go_upto_region 1 with fail
 obtain⟨W0,b0,b1,b2,bP,bK,cX,dN,aN,aI,aV,a8,-,-,kQ,-,jK,-,bz,mj,oK,km⟩:=jN W 28 [γ A n c,γ B m k,γ C r rc] 34 [J v1,J v2,J a1,J a2,J a3] 34 [J 0,J 0,J 0,J 0,J 0];rw[bP,dN,cX,bK];clear bP bK cX dN;have x0:=aN.out.cell (i:=0) rfl;have x1:=aN.out.cell (i:=1) rfl;have x2:=aN.out.cell (i:=2) rfl;have p0:=aI.out.cell (i:=0) rfl;have p1:=aI.out.cell (i:=1) rfl;have p2:=aI.out.cell (i:=2) rfl;have p3:=aI.out.cell (i:=3) rfl;have p4:=aI.out.cell (i:=4) rfl
 go_upto_region 2 with (first
  |(go_at_call 27
    refine(HV.out _ a8.out).mono ?_
    rintro e w2 ⟨rfl,ar⟩;have bX:=qh (aE (af a8.out ar) (δ #[J i1,J i2,γ rA rn bR,μ lb,J at_] 59));have sr:=qh ((aV.out.bl ar).al (δ #[J i1,J i2,γ rA rn bR,μ lb,J at_] 59));clear ar aN aI aV a8 x0 x1 x2 p0 p1 p2 p3 p4))
 obtain⟨w3,sX⟩:=ay (w2.alloc (δ #[J i1,J i2,γ rA rn bR,μ lb,J at_] 59));rw[sX] at bX sr ⊢;clear sX;have z0:=sr.out.cell (i:=0) rfl;have z1:=sr.out.cell (i:=1) rfl;have z2:=sr.out.cell (i:=2) rfl;have z3:=sr.out.cell (i:=3) rfl;have z4:=sr.out.cell (i:=4) rfl;have y0:=sr.out.free 0;have y1:=sr.out.free 1;have y2:=sr.out.free 2;have y3:=sr.out.free 3;have y4:=sr.out.free 4;go_wp2;exact aG rfl b2 rfl rfl (((((sr.out.set_ 0 (J 0)).set_ 1 (J 0)).set_ 2 (J 0)).set_ 3 (J 0)).set_ 4 (J 0)) Tryz.underlying34 rfl (by kernel_rfl) rfl ⟨rfl,(((((bX.out.setCell (p:=⟨b2,0,ε⟩) bz.out (J 0)).setCell (p:=⟨b2,1,ε⟩) bz.out (J 0)).setCell (p:=⟨b2,2,ε⟩) bz.out (J 0)).setCell (p:=⟨b2,3,ε⟩) bz.out (J 0)).setCell (p:=⟨b2,4,ε⟩) bz.out (J 0))⟩
theorem NK (h:aR W A n c Vs B m k Es) (hg:aX W W.heap.size 6 C r rc (aj cB G)) (hn:n≤1000) (hr:∀y∈Vs,y.2.1.2.1≤1000000) (ji:r≤1000) (v1 v2 a1 a2 a3:Int) (hv:bo (Vs.map vS) (v1,v2)=τ) (Pw:G.length=r):Ζ η 72 #[φ #[γ A n c,γ B m k,γ C r rc],φ #[J v1,J v2,J a1,J a2,J a3]] W fun e w'=>e=.returned (Ξ #[φ #[J (nG (Vs.map vS) G ((v1,v2),(a1,a2,a3))).1.1,J (nG (Vs.map vS) G ((v1,v2),(a1,a2,a3))).1.2,J (nG (Vs.map vS) G ((v1,v2),(a1,a2,a3))).2.1,J (nG (Vs.map vS) G ((v1,v2),(a1,a2,a3))).2.2.1,J (nG (Vs.map vS) G ((v1,v2),(a1,a2,a3))).2.2.2],J 0])∧σ W.heap.size W w':=by
 have HV:Hid (∀X,σ W.heap.size W X→Ζ η 27 #[φ #[γ A n c,γ B m k],φ #[J v1,J v2]] X fun e w'=>e=.returned (Ξ #[φ (vC (bu Vs (v1,v2)).1).toArray,Β (bu Vs (v1,v2)).2])∧σ X.heap.size X w'):=qh (fun X hX=>fJ A n c Vs B m k Es v1 v2 X (h.v.bl hX) (by omega));have iN:=(dO Vs (v1,v2)).1.trans hv;have bB:=(dO Vs (v1,v2)).2;have kW:=CG iN;obtain⟨⟨u,ok⟩,gu⟩:∃z,bu Vs (v1,v2)=z:=⟨_,rfl⟩
 rw[gu] at HV iN bB kW;obtain rfl:ok=τ:=iN;obtain⟨⟨i1,i2⟩,⟨rA,rn,bR,rL⟩,lb,at_⟩:=u;replace HV:Hid (∀X,σ W.heap.size W X→Ζ η 27 #[φ #[γ A n c,γ B m k],φ #[J v1,J v2]] X fun e w'=>e=.returned (Ξ #[φ #[J i1,J i2,γ rA rn bR,μ lb,J at_],Β τ])∧σ X.heap.size X w'):=HV;have bB:rL=cL (Vs.map vS) (v1,v2):=bB;have fp:RgOk W (rA,rn,bR,rL):=h.r _ kW;have sK:rn≤1000000:=hr _ kW;obtain⟨t,gt⟩:=ay (ml (Hh Vs) G r (a1,a2,a3));obtain⟨⟨c1,q⟩,gq⟩:∃z,nG (Vs.map vS) G ((v1,v2),(a1,a2,a3))=z:=⟨_,rfl⟩
 have hc:(if t∈rL then t else zD)=q∧c1=(v1,v2):=by
  unfold nG at gq;rw[←Xu,Pw,gt,←bB] at gq;exact⟨congrArg (·.2) gq,(congrArg (·.1) gq).symm⟩
 rw[gq]
 have EL:Hid (∀X,σ W.heap.size W X→Ζ η 98 #[φ #[γ A n c,γ B m k,γ C r rc],φ #[J a1,J a2,J a3]] X fun e w'=>e=.returned (φ #[J t.1,J t.2.1,J t.2.2])∧σ X.heap.size X w'):=qh (fun X hX=>by
  have:=Nx (h.below hX) (hg.bl hX) hn hr ji (a1,a2,a3)
  rwa [gt] at this)
 have HI:Hid (∀X,σ W.heap.size W X→Ζ η 33 #[γ rA rn bR,φ #[J t.1,J t.2.1,J t.2.2]] X fun e w'=>e=.returned (J (iM rL t))∧σ X.heap.size X w'):=qh (fun X hX=>gZ rA rn bR rL t X (fp.2.bl hX) (by omega));have VX:(t∈rL→0≤iM rL t)∧(¬t∈rL→iM rL t= -1):=⟨fun h=>by rw[(ib h).1];omega,fun h=>j8 h⟩;obtain⟨ix,gx⟩:=ay (iM rL t);rw[gx] at HI VX;obtain⟨t1,t2,t3⟩:=t;obtain⟨q1,q2,q3⟩:=q;obtain⟨c11,c12⟩:=c1;obtain⟨hc,yH⟩:=hc;injection yH with k1 k2
 obtain rfl:v1=c11:=k1.symm;obtain rfl:v2=c12:=k2.symm;have HC:=qh hc;have Pk:=qh VX;clear h hg hr hv gu bB kW fp gt gq gx hc VX;go_enter Tryz.func72,Tryz.ntmps72;go_upto_region 1 with fail
 obtain⟨W0,b0,b1,b2,bP,bK,cX,dN,aN,aI,aV,a8,-,-,kQ,-,jK,-,bz,mj,oK,km⟩:=jN W 28 [γ A n c,γ B m k,γ C r rc] 34 [J v1,J v2,J a1,J a2,J a3] 34 [J 0,J 0,J 0,J 0,J 0];rw[bP,dN,cX,bK];clear bP bK cX dN;have x0:=aN.out.cell (i:=0) rfl;have x1:=aN.out.cell (i:=1) rfl;have x2:=aN.out.cell (i:=2) rfl;have p0:=aI.out.cell (i:=0) rfl;have p1:=aI.out.cell (i:=1) rfl;have p2:=aI.out.cell (i:=2) rfl;have p3:=aI.out.cell (i:=3) rfl;have p4:=aI.out.cell (i:=4) rfl
 go_upto_region 4 with (first
  |(go_at_call 27
    refine(HV.out _ a8.out).mono ?_
    rintro e w2 ⟨rfl,ar⟩;have bX:=qh (aE (af a8.out ar) (δ #[J i1,J i2,γ rA rn bR,μ lb,J at_] 59));have vQ:=qh ((aN.out.bl ar).al (δ #[J i1,J i2,γ rA rn bR,μ lb,J at_] 59));have lW:=qh ((aI.out.bl ar).al (δ #[J i1,J i2,γ rA rn bR,μ lb,J at_] 59));have tK:=qh ((aV.out.bl ar).al (δ #[J i1,J i2,γ rA rn bR,μ lb,J at_] 59));have P7:=qh (Whole.new_ w2 59 [J i1,J i2,γ rA rn bR,μ lb,J at_]);clear ar aN aI aV a8 HV x0 x1 x2 p0 p1 p2 p3 p4))
 obtain⟨w3,sX⟩:=ay (w2.alloc (δ #[J i1,J i2,γ rA rn bR,μ lb,J at_] 59));obtain⟨b3,p9⟩:=ay w2.heap.size;rw[sX] at bX vQ lW tK P7 ⊢;rw[p9] at P7 ⊢;clear sX p9;have x0:=vQ.out.cell (i:=0) rfl;have x1:=vQ.out.cell (i:=1) rfl;have x2:=vQ.out.cell (i:=2) rfl;have p0:=lW.out.cell (i:=0) rfl;have p1:=lW.out.cell (i:=1) rfl;have p2:=lW.out.cell (i:=2) rfl;have p3:=lW.out.cell (i:=3) rfl;have p4:=lW.out.cell (i:=4) rfl
 go_upto_region 5 with (first
  |(go_at_call 98
    refine(EL.out _ bX.out).mono ?_
    rintro e w4 ⟨rfl,kv⟩;have gW:=qh (aE (af bX.out kv) (δ #[J t1,J t2,J t3] 32));have oD:=qh ((lW.out.bl kv).al (δ #[J t1,J t2,J t3] 32));have qZ:=qh ((tK.out.bl kv).al (δ #[J t1,J t2,J t3] 32));have Ci:=qh ((P7.out.bl kv).al (δ #[J t1,J t2,J t3] 32));have DI:=qh (Whole.new_ w4 32 [J t1,J t2,J t3]);have Lt4:Hid (W.heap.size≤w4.heap.size):=qh (af bX.out kv).size;clear kv bX vQ lW tK P7 EL x0 x1 x2 p0 p1 p2 p3 p4))
 obtain⟨w5,Xv⟩:=ay (w4.alloc (δ #[J t1,J t2,J t3] 32));obtain⟨b5,Np⟩:=ay w4.heap.size;rw[Xv] at gW oD qZ Ci DI ⊢;rw[Np] at DI Lt4 ⊢;clear Xv Np
 have N52:Hid (b2≠b5):=qh (fun e=>by
  have h1:_=_:=qZ.out;have h2:_=_:=DI.out;rw[e] at h1;rw[h1] at h2;cases h2)
 have N51:Hid (b1≠b5):=qh (fun e=>by
  have h1:_=_:=oD.out;have h2:_=_:=DI.out;rw[e] at h1;rw[h1] at h2;cases h2)
 have v2_:=Ci.out.cell (i:=2) rfl;have U9:=DI.out.cell (i:=0) rfl;have UG:=DI.out.cell (i:=1) rfl;have UP:=DI.out.cell (i:=2) rfl
 by_cases hm:(t1,t2,t3)∈rL
 ·have hi:¬ix<0:=by have:=Pk.out.1 hm;omega
  have hq:=HC.out;rw[if_pos hm] at hq;injection hq with k1 k2
  injection k2 with k2 k3
  subst k1 k2 k3;clear hm HC Pk
  go_upto_region 7 with (first
   |(go_at_call 33
     refine(HI.out _ gW.out).mono ?_
     rintro e w6 ⟨rfl,eP⟩;have kF:=qh (af gW.out eP);have zh:=qh (oD.out.bl eP);have kf:=qh (qZ.out.bl eP);have oT:=qh (DI.out.bl eP);clear eP gW oD qZ Ci DI HI v2_ U9 UG UP))
  have p0:=zh.out.cell (i:=0) rfl;have p1:=zh.out.cell (i:=1) rfl;have U9:=oT.out.cell (i:=0) rfl;have UG:=oT.out.cell (i:=1) rfl;have UP:=oT.out.cell (i:=2) rfl;have zz0:=kf.out.cell (i:=0) rfl;have zz1:=kf.out.cell (i:=1) rfl;have zz2:=kf.out.cell (i:=2) rfl;have zz3:=kf.out.cell (i:=3) rfl;have zz4:=kf.out.cell (i:=4) rfl;have y0:=kf.out.free 0;have y1:=kf.out.free 1;have y2:=kf.out.free 2;have y3:=kf.out.free 3;have y4:=kf.out.free 4;go_wp2;exact aG rfl b2 rfl rfl (((((kf.out.set_ 0 (J v1)).set_ 1 (J v2)).set_ 2 (J t1)).set_ 3 (J t2)).set_ 4 (J t3)) Tryz.underlying34 rfl (by kernel_rfl) rfl ⟨rfl,(((((kF.out.setCell (p:=⟨b2,0,ε⟩) bz.out (J v1)).setCell (p:=⟨b2,1,ε⟩) bz.out (J v2)).setCell (p:=⟨b2,2,ε⟩) bz.out (J t1)).setCell (p:=⟨b2,3,ε⟩) bz.out (J t2)).setCell (p:=⟨b2,4,ε⟩) bz.out (J t3))⟩
 ·have hi:ix<0:=by have:=Pk.out.2 hm;omega
  have hq:=HC.out;rw[if_neg hm] at hq;injection hq with k1 k2
  injection k2 with k2 k3
  subst k1 k2 k3;clear hm HC Pk
  go_upto_region 6 with (first
   |(go_at_call 33
     refine(HI.out _ gW.out).mono ?_
     rintro e w6 ⟨rfl,eP⟩;have kF:=qh (af gW.out eP);have zh:=qh (oD.out.bl eP);have kf:=qh (qZ.out.bl eP);have oT:=qh (DI.out.bl eP);clear eP gW oD qZ Ci DI HI v2_ U9 UG UP))
  have U9:=oT.out.cell (i:=0) rfl;have UG:=oT.out.cell (i:=1) rfl;have UP:=oT.out.cell (i:=2) rfl;have ft0:=oT.out.free 0;have ft1:=oT.out.free 1;have ft2:=oT.out.free 2;go_upto_region 7 with fail
  have kF:=qh (((kF.out.setCell (p:=⟨b5,0,ε⟩) Lt4.out (J 0)).setCell (p:=⟨b5,1,ε⟩) Lt4.out (J 0)).setCell (p:=⟨b5,2,ε⟩) Lt4.out (J 0));have zh:=qh (((zh.out.set_far' (i:=0) N51.out (J 0)).set_far' (i:=1) N51.out (J 0)).set_far' (i:=2) N51.out (J 0));have kf:=qh (((kf.out.set_far' (i:=0) N52.out (J 0)).set_far' (i:=1) N52.out (J 0)).set_far' (i:=2) N52.out (J 0));have oT:=qh (((oT.out.set_ 0 (J 0)).set_ 1 (J 0)).set_ 2 (J 0));obtain⟨w7,gw7⟩:=ay (((w6.setCell ⟨b5,0,ε⟩ (J 0)).setCell ⟨b5,1,ε⟩ (J 0)).setCell ⟨b5,2,ε⟩ (J 0));rw[gw7] at kF zh kf oT ⊢;clear gw7 U9 UG UP ft0 ft1 ft2;have p0:=zh.out.cell (i:=0) rfl;have p1:=zh.out.cell (i:=1) rfl;have U9:=oT.out.cell (i:=0) rfl;have UG:=oT.out.cell (i:=1) rfl;have UP:=oT.out.cell (i:=2) rfl;have zz0:=kf.out.cell (i:=0) rfl;have zz1:=kf.out.cell (i:=1) rfl;have zz2:=kf.out.cell (i:=2) rfl;have zz3:=kf.out.cell (i:=3) rfl;have zz4:=kf.out.cell (i:=4) rfl;have y0:=kf.out.free 0;have y1:=kf.out.free 1;have y2:=kf.out.free 2;have y3:=kf.out.free 3;have y4:=kf.out.free 4;go_wp2;exact aG rfl b2 rfl rfl (((((kf.out.set_ 0 (J v1)).set_ 1 (J v2)).set_ 2 (J 0)).set_ 3 (J 0)).set_ 4 (J 0)) Tryz.underlying34 rfl (by kernel_rfl) rfl ⟨rfl,(((((kF.out.setCell (p:=⟨b2,0,ε⟩) bz.out (J v1)).setCell (p:=⟨b2,1,ε⟩) bz.out (J v2)).setCell (p:=⟨b2,2,ε⟩) bz.out (J 0)).setCell (p:=⟨b2,3,ε⟩) bz.out (J 0)).setCell (p:=⟨b2,4,ε⟩) bz.out (J 0))⟩
end
def Bx (W:ο):List (Nat × Υ × List ψ)→Prop
 |[]=>True
 |p::l=>Whole W p.1 p.2.1 p.2.2∧Bx W l
theorem Bx.up {W W':ο}:∀{l:List (Nat × Υ × List ψ)},Bx W l→σ W.heap.size W W'→Bx W' l
 |[],_,_=>trivial
 |_::_,h,hb=>⟨h.1.bl hb,Bx.up h.2 hb⟩
theorem Bx.gr {W W':ο} {lo:Nat} (hb:σ lo W W'):∀{l:List (Nat × Υ × List ψ)},Bx W l→(∀p∈l,p.1<lo)→Bx W' l
 |[],_,_=>trivial
 |p::_,h,hl=>⟨h.1.at_ (hb.block _ (hl p Jai)),Bx.gr hb h.2 (fun q hq=>hl q (Jad _ hq))⟩
theorem Bx.st {W:ο} {g i:Nat} (u:ψ):∀{l:List (Nat × Υ × List ψ)},Bx W l→(∀p∈l,p.1≠g)→Bx (W.setCell ⟨g,i,ε⟩ u) l
 |[],_,_=>trivial
 |p::_,h,hl=>⟨h.1.set_far' (hl p Jai) u,Bx.st u h.2 (fun q hq=>hl q (Jad _ hq))⟩
def pH {α:Type} (nm:α→Nm) (x:α):Bool→List α→List α
 |p,[]=>if p=τ then[] else[x]
 |p,y::l=>(if p=ρ∧dF (nm x) (nm y)<0 then[x] else[])++(y::pH nm x (p||decide (dF (nm x) (nm y)<0)) l)
theorem Ej {α:Type} (nm:α→Nm) (x:α):∀l:List α,pH nm x τ l=l
 |[]=>rfl
 |y::l=>by
  show(if τ=ρ∧_ then[x] else[])++(y::pH nm x (τ||_) l)=y::l
  rw[if_neg (by simp),Bool.true_or,Ej nm x l];rfl
theorem AP {α:Type} (nm:α→Nm) (x:α):∀l:List α,pH nm x ρ l=eS nm l x
 |[]=>rfl
 |y::l=>by
  show(if ρ=ρ∧dF (nm x) (nm y)<0 then[x] else[])++(y::pH nm x (ρ||decide (dF (nm x) (nm y)<0)) l)=if dF (nm x) (nm y)<0 then x::y::l else y::eS nm l x
  by_cases h:dF (nm x) (nm y)<0
  ·rw[if_pos ⟨rfl,h⟩,decide_eq_true h,Bool.or_true,Ej,if_pos h];rfl
  ·rw[if_neg (fun q=>h q.2),decide_eq_false h,Bool.or_false,AP nm x l,if_neg h];rfl
theorem RN {w W:ο} {lo:Nat} {A:Option Κ} {n c:Nat} {T:List VC} (fz:Ow w lo 59 5 (γ A n c) n (aj vC T) W) (x:VC) (hn:n≤2000):
 ∃A' c' W',(JaY #[22,22] 22 #[γ A n c,γ (ζ ⟨W.heap.size,0,ε⟩) 1 1]).run η (W.alloc (δ (vC x).toArray 59))=.ok (γ A' (n+1) c') W'∧Ow w lo 59 5 (γ A' (n+1) c') (n+1) (aj vC (T++[x])) W'∧σ lo W W':=by
 obtain⟨i,hi,oX,jL,kd⟩:=aW hU;obtain⟨v',W',cj,ho,hb⟩:=Ow.app (P:=η) 22 22 59 i _ 5 64 lo Tryz.underlying22 hi oX jL kd rfl (by decide) _ _ _ (fz.up (ax W (δ (vC x).toArray 59))) _ _ 1 1 _ (aX.of_whole (Whole.new_ W 59 (vC x)) rfl) (kA x) (by unfold Jap;omega) (by omega);rw[show aj vC T++vC x=aj vC (T++[x]) by rw[bV];simp[aj]] at ho;obtain⟨A',c',rfl,-⟩:=ho.rds;exact⟨A',c',W',cj,ho,((ax W _).mono fz.hi).trans hb⟩
theorem pushE {w W:ο} {lo:Nat} {A:Option Κ} {n c:Nat} {T:List EC} (fz:Ow w lo 67 4 (γ A n c) n (aj eC T) W) (x:EC) (hn:n≤2000):
 ∃A' c' W',(JaY #[23,23] 23 #[γ A n c,γ (ζ ⟨W.heap.size,0,ε⟩) 1 1]).run η (W.alloc (δ (eC x).toArray 67))=.ok (γ A' (n+1) c') W'∧Ow w lo 67 4 (γ A' (n+1) c') (n+1) (aj eC (T++[x])) W'∧σ lo W W':=by
 obtain⟨i,hi,oX,jL,kd⟩:=aW jQ;obtain⟨v',W',cj,ho,hb⟩:=Ow.app (P:=η) 23 23 67 i _ 4 40 lo Tryz.underlying23 hi oX jL kd rfl (by decide) _ _ _ (fz.up (ax W (δ (eC x).toArray 67))) _ _ 1 1 _ (aX.of_whole (Whole.new_ W 67 (eC x)) rfl) (jX x) (by unfold Jap;omega) (by omega);rw[show aj eC T++eC x=aj eC (T++[x]) by rw[bV];simp[aj]] at ho;obtain⟨A',c',rfl,-⟩:=ho.rds;exact⟨A',c',W',cj,ho,((ax W _).mono fz.hi).trans hb⟩
theorem zq {W:ο} {A:Option Κ} {n c:Nat} {Vs:List VC} {B:Option Κ} {m k:Nat} {Es:List EC} (h:aR W A n c Vs B m k Es) (x:VC) (hn:n≤1000):
 Ζ η 46 #[φ #[γ A n c,γ B m k],φ (vC x).toArray] W fun e w'=>∃A' n' c',e=.returned (φ #[γ A' n' c',γ B m k])∧aX w' w'.heap.size 5 A' n' c' (aj vC (eS (fun v:VC=>v.1) Vs x))∧c'≤Jap∧σ W.heap.size W w':=by
 obtain⟨iv,YS,LO,Nf,O5⟩:=aW hU;have H:=qh h.v;have HL:=qh (h.v.rlen aQ (by decide));clear h;go_enter Tryz.func46,Tryz.ntmps46;go_upto_region 1 with fail
 obtain⟨W0,b0,b1,b2,bP,bK,cX,dN,aN,aI,aV,a8,-,-,kQ,-,jK,-,bz,mj,oK,km⟩:=jN W 25 [γ A n c,γ B m k] 59 (vC x) 25 [γ ε 0 0,γ ε 0 0];rw[bP,dN,cX,bK];clear bP bK cX dN;have c0:=aN.out.cell (i:=1) rfl;go_upto_region 2 with fail
 have cI:=qh (aE a8.out (δ #[γ ε 0 0,γ B m k] 25));have HX:Hid (Bx (W0.alloc (δ #[γ ε 0 0,γ B m k] 25)) [(b0,25,[γ A n c,γ B m k]),(b1,59,vC x),(b2,25,[γ ε 0 0,γ ε 0 0])]):=qh ⟨aN.out.al _,aI.out.al _,aV.out.al _,trivial⟩;have H3:=qh (Whole.new_ W0 25 [γ ε 0 0,γ B m k])
 have xe:Hid (∀p∈[(b0,25,[γ A n c,γ B m k]),(b1,59,vC x),(b2,25,[γ ε 0 0,γ ε 0 0])],p.1<W0.heap.size+1∧p.1≠W0.heap.size):=qh (fun p hp=>by
  have h0:=aN.out.lt;have h1:=aI.out.lt;have h2:=aV.out.lt;simp only[Η,Jbh,or_false] at hp;rcases hp with rfl|rfl|rfl
  ·exact⟨by show b0<_;omega,by show b0≠_;omega⟩
  ·exact⟨by show b1<_;omega,by show b1≠_;omega⟩
  ·exact⟨by show b2<_;omega,by show b2≠_;omega⟩)
 have JP:Hid (Ow W (W0.heap.size+1) 59 5 (γ ε 0 0) 0 (aj vC []) (W0.alloc (δ #[γ ε 0 0,γ B m k] 25))):=qh ⟨World.ownsRow_nil _ _ _ _,cI.out,Λ a8.out.size (Nat.le_succ _),by simp⟩;have LW:Hid (W.heap.size≤W0.heap.size+1):=qh (Λ a8.out.size (Nat.le_succ _));have mg:Hid (W.heap.size≤W0.heap.size):=qh a8.out.size;have L3:Hid (W0.heap.size<W0.heap.size+1):=qh (Nat.lt_succ_self _);obtain⟨lo,Ah⟩:=ay (W0.heap.size+1);obtain⟨w3,sX⟩:=ay (W0.alloc (δ #[γ ε 0 0,γ B m k] 25));obtain⟨b3,p9⟩:=ay W0.heap.size;rw[sX] at HX H3 JP ⊢;rw[Ah] at xe JP LW L3;rw[p9] at H3 xe mg L3 ⊢;have mD:Hid (eS (fun v:VC=>v.1) Vs x=[]++pH (fun v:VC=>v.1) x ρ (Vs.drop 0)):=qh (AP _ _ _).symm;clear sX Ah p9 aN aI aV a8 cI c0;have L2:Hid (b2<lo):=qh (xe.out (b2,25,[γ ε 0 0,γ ε 0 0]) (by simp)).1;go_upto_region 4 with fail
 go_loopw [6,7] (fun vp vi wr=>∃(j:Nat) (p:Bool) (A2:Option Κ) (n2 c2:Nat) (T:List VC),j≤n∧n2≤j+1∧(p=ρ→n2≤j)∧vp=Β p∧vi=J (j:Int)∧Hid (Bx wr [(b0,25,[γ A n c,γ B m k]),(b1,59,vC x),(b2,25,[γ ε 0 0,γ ε 0 0])])∧Hid (Whole wr b3 25 [γ A2 n2 c2,γ B m k])∧Hid (Ow W lo 59 5 (γ A2 n2 c2) n2 (aj vC T) wr)∧Hid (eS (fun v:VC=>v.1) Vs x=T++pH (fun v:VC=>v.1) x p (Vs.drop j))) (fun _ vi _=>n - (intOf vi).toNat)
 case atStart=>exact⟨0,ρ,ε,0,0,[],Jas _,Jas _,fun _=>Jas _,rfl,rfl,HX,H3,JP,mD⟩
 case round=>
  clear HX H3 JP mD;obtain⟨j,p,A2,n2,c2,T,hj,PE,ub,rfl,rfl,HX,H3,HO,HN⟩:=hrel;obtain⟨wo,ec⟩:=ay wr;rw[ec] at HX H3 HO ⊢;clear ec;have c0:=HX.out.1.cell (i:=0) rfl
  by_cases o4:j<n
  ·have rD:(j:Int)<(n:Int):=by omega
   obtain⟨y,hy⟩:∃y,Vs[j]? =ζ y:=⟨_,θ (by have:=HL.out;omega)⟩
   have pO:Hid (eS (fun v:VC=>v.1) Vs x=T++((if p=ρ∧dF x.1 y.1<0 then[x] else[])++(y::pH (fun v:VC=>v.1) x (p||decide (dF x.1 y.1<0)) (Vs.drop (j+1))))):=qh (by
    have:=HN.out
    rw[Χ (ν.1 hy).1,(ν.1 hy).2] at this;exact this)
   obtain⟨bb,off,rfl,bD,bM⟩:=H.out.place aQ (by decide) (by omega);have L0_:=qh (by have q:=bM j _ hy 0 _ rfl;simp only[Ν,Jac] at q;exact q);have L1_:=qh (by have q:=bM j _ hy 1 _ rfl;simp only[Ν,Jac] at q;exact q);have HP:=qh (bM j _ hy);obtain⟨o,go⟩:=ay (dF x.1 y.1);have HOr:Hid (∀X,Ζ η 71 #[φ #[J x.1.1,J x.1.2],φ #[J y.1.1,J y.1.2]] X fun e w'=>e=.returned (J o)∧σ X.heap.size X w'):=qh (fun X=>go▸rP x.1.1 x.1.2 y.1.1 y.1.2 X);rw[go] at pO;clear hy bM go HN;go_upto_region 6 with fail
   go_cut [31] (fun v z=>∃b:Bool,v=Β b∧Hid (b=(!p && decide (o<0)))∧Hid (σ wo.heap.size wo z))
   case first=>
    clear c0;cases p with
    |true=>
     refine aw (aF) (by kernel_rfl) ?_;refine ag 0 ?_;refine ag 1 ?_;refine ag 2 ?_;refine bg 3 ?_;refine bg 4 ?_;refine bg 5 ?_;refine bg 6 ?_;refine bg 7 ?_;refine bg 8 ?_;refine bg 9 ?_;refine bg 10 ?_;refine bg 11 ?_;refine bg 12 ?_;refine ag 13 ?_;refine aD (by kernel_rfl) ?_ _;intro w8 cE;go_wp2;go_meet;exact⟨ρ,rfl,qh rfl,qh (af (aL (Θ _ wo)) cE)⟩
    |false=>
     have qC:∀w',Kept aF wo.drew w'→w'.cell? ⟨b1,0,ε⟩=ζ (J x.1.1):=fun w' h=>h.nil_cell (HX.out.2.1.dr.cell (i:=0) rfl)
     have qw:∀w',Kept aF wo.drew w'→w'.cell? ⟨b1,1,ε⟩=ζ (J x.1.2):=fun w' h=>h.nil_cell (HX.out.2.1.dr.cell (i:=1) rfl)
     have fv:∀w',Kept aF wo.drew w'→w'.cell? ⟨b0,0,ε⟩=ζ (γ (ζ ⟨bb,off,ε⟩) n c):=fun w' h=>h.nil_cell (HX.out.1.dr.cell (i:=0) rfl)
     have ly0:∀w',Kept aF wo.drew w'→w'.cell? ⟨bb,off+j*5,ε⟩=ζ (J y.1.1):=fun w' h=>h.nil_cell ((HO.out.below.cell (p:=⟨bb,off+j*5,ε⟩) bD).trans L0_.out)
     have ly1:∀w',Kept aF wo.drew w'→w'.cell? ⟨bb,off+j*5+1,ε⟩=ζ (J y.1.2):=fun w' h=>h.nil_cell ((HO.out.below.cell (p:=⟨bb,off+j*5+1,ε⟩) bD).trans L1_.out)
     refine aw (aF) (by kernel_rfl) ?_;refine ag 0 ?_;refine ag 1 ?_;refine ag 2 ?_;refine ag 3 ?_;refine ag 4 ?_;refine ag 5 ?_;refine ag 6 ?_;refine ag 7 ?_;refine ag 8 ?_;refine ag 9 ?_;refine ag 10 ?_;refine bY 11 (hy:=by apply ck;rfl;rotate_left;intro w' aB;exact HOr.out w';intro w';go_simp) (h:=?_);refine ag 12 ?_;refine ag 13 ?_;refine aD (by kernel_rfl) ?_ _;intro w8 cE;go_wp2;go_meet;exact⟨decide (o<0),rfl,qh (by simp),qh (af (aL (Θ _ wo)) cE)⟩
   case rest=>
    obtain⟨b,rfl,hb,hz⟩:=hcut;have oW:=qh (HO.out.up hz.out);have gS:=qh (HX.out.up hz.out);have vy:=qh (H3.out.bl hz.out)
    have Tz:b=τ→p=ρ:=fun h=>by
     have e:=hb.out;rw[h] at e;cases p with
     |true=>cases e
     |false=>rfl
    have O4:Hid (eS (fun v:VC=>v.1) Vs x=(T++if b=τ then[x] else[])++(y::pH (fun v:VC=>v.1) x (p||b) (Vs.drop (j+1)))):=qh (by
     have e:=hb.out;have h:=pO.out;cases p with
     |true=>
      rw[e,h,if_neg (by simp)];simp
     |false=>
      by_cases ho:o<0
      ·rw[if_pos ⟨rfl,ho⟩] at h;rw[e,h,decide_eq_true ho];simp
      ·rw[if_neg (fun q=>ho q.2)] at h;rw[e,h,decide_eq_false ho];simp)
    clear hz hb pO HO HX H3 HOr c0;go_upto_if 31 with fail
    go_cut [6] (fun vp z=>∃(A3:Option Κ) (n3 c3:Nat) (T3:List VC),vp=Β (p||b)∧n3≤j+1∧((p||b)=ρ→n3≤j)∧Hid (Bx z [(b0,25,[γ (ζ ⟨bb,off,ε⟩) n c,γ B m k]),(b1,59,vC x),(b2,25,[γ ε 0 0,γ ε 0 0])])∧Hid (Whole z b3 25 [γ A3 n3 c3,γ B m k])∧Hid (Ow W lo 59 5 (γ A3 n3 c3) n3 (aj vC T3) z)∧Hid (eS (fun v:VC=>v.1) Vs x=T3++(y::pH (fun v:VC=>v.1) x (p||b) (Vs.drop (j+1)))))
    case first=>
     cases b with
     |false=>
      have AD:=O4;go_wp2_with fail
      go_meet;exact⟨A2,n2,c2,T,by simp,PE,(fun h=>ub (by simpa using h)),gS,vy,oW,qh (by have:=AD.out;simpa using this)⟩
     |true=>
      have hp0:=Tz rfl;subst hp0;have abi:=ub rfl;clear Tz ub;obtain⟨A3,c3,W3,cj,yx,bC⟩:=RN oW.out x (by omega);have kB:=qh yx;have mM:=qh (vy.out.at_ (bC.block _ L3.out));have dp:=qh (Bx.gr bC gS.out (fun p hp=>(xe.out p hp).1));clear yx bC;have k0:=vy.out.cell (i:=0) rfl;go_upto_region 7 with fail
      refine Jam ?_;refine ah (v:=?_) (ζ 32) rfl (by rfl) ?_ ?_;rotate_left
      ·go_simp;(try with_reducible rfl)
      simp only[ξ,aq,ak,ao];refine ah (v:=?_) (ζ 33) rfl (by rfl) ?_ ?_;rotate_left
      ·go_simp;(try with_reducible rfl)
      simp only[ξ,aq,ak,ao];refine bw (ζ 34) rfl (by rfl) 59 (.tmp 3) rfl b1 rfl 59 (vC x) _ gS.out.2.1 Tryz.underlying59 rfl (by kernel_rfl) ?_;simp only[ξ,aq,ak,ao];clear k0;refine dz (ζ 35) rfl (by rfl) 22 59 1 #[(0,.tmp 34)] (by rfl) Tryz.underlying22 (vC x).toArray (by kernel_rfl) ?_;simp only[ξ,aq,ak,ao];refine jU (ζ 36) rfl (by rfl) (cA (by rfl) (by rfl) (by rfl) cj) ?_;simp only[ξ,aq,ak,ao];clear cj;have k1:=mM.out.cell (i:=0) rfl;have f1:=mM.out.free 0;go_upto_region 8 with fail
      have ku:=qh (kB.out.set_far (kB.out.low_ne L3.out) mg.out (γ A3 (n2+1) c3) (i:=0));have yf:=qh (mM.out.set_ 0 (γ A3 (n2+1) c3));have dY:=qh (Bx.st (γ A3 (n2+1) c3) (i:=0) dp.out (fun p hp=>(xe.out p hp).2));clear kB mM dp k1 f1;obtain⟨W5,xo⟩:=ay (W3.setCell ⟨b3,0,ε⟩ (γ A3 (n2+1) c3));rw[xo] at ku yf dY ⊢;clear xo;have AD:=O4;go_wp2_with fail
      go_meet;exact⟨A3,n2+1,c3,T++[x],rfl,by omega,(fun h=>by cases h),dY,yf,ku,qh (by have:=AD.out;simpa using this)⟩
    case rest=>
     obtain⟨A2,n2,c2,T,rfl,PE,ub,HX,H3,HO,wg⟩:=hcut;obtain⟨wo,ec⟩:=ay wc;rw[ec] at HX H3 HO ⊢;clear ec O4 oW gS vy Tz;obtain⟨p2,SX⟩:=ay ((p||b));rw[SX] at wg ub ⊢;clear SX;go_upto_region 9 with fail
     have fv:∀w',Kept (de lo) wo.drew w'→w'.cell? ⟨b3,0,ε⟩=ζ (γ A2 n2 c2):=fun w' hk=>hk.from_cell L3.out (H3.out.dr.cell (i:=0) rfl)
     have ld1:∀w',Kept (de lo) wo.drew w'→w'.cell? ⟨b0,0,ε⟩=ζ (γ (ζ ⟨bb,off,ε⟩) n c):=fun w' hk=>hk.from_cell (xe.out _ Jai).1 (HX.out.1.dr.cell (i:=0) rfl)
     have IX:Hid (∀w',Kept (de lo) wo.drew w'→∀i u,(vC y)[i]? =ζ u→w'.cell? ((⟨bb,off+j*5,ε⟩:Κ).add i)=ζ u):=qh (fun w' hk i u hu=>hk.from_cell (by rw[cJ];exact JaK bD LW.out) ((HO.out.below.cell (by rw[cJ];exact bD)).trans (HP.out i u hu)));refine bT (de lo) [10] (by kernel_rfl) ?_;refine bf 0 ?_;refine bf 1 ?_;refine bf 2 ?_;refine bf 3 ?_;refine bf 4 ?_;refine bf 5 ?_;refine fC 6 (hy:=bG (by rfl) 59 (.tmp 43) rfl ⟨bb,off+j*5,ε⟩ rfl (vC y) _ IX.out Tryz.underlying59 rfl (by kernel_rfl)) (h:=?_);refine kn 7 ?_;intro w' aB
     refine⟨γ (ζ ⟨w'.heap.size,0,ε⟩) 1 1,w'.alloc (δ (vC y).toArray 59),fa 22 59 1 #[(0,.tmp 44)] (by rfl) Tryz.underlying22 _ (by kernel_rfl),Kept.of_below (ax _ _),?_⟩
     have yC:Hid (Ext wo.drew (w'.alloc (δ (vC y).toArray 59))):=qh (Ext.trans aB (ax _ _));have kJ:Hid (aX (w'.alloc (δ (vC y).toArray 59)) (w'.alloc (δ (vC y).toArray 59)).heap.size 5 (ζ ⟨w'.heap.size,0,ε⟩) 1 1 (vC y)):=qh (aX.of_whole (Whole.new_ _ _ _) rfl);obtain⟨V3,tL⟩:=ay (w'.alloc (δ (vC y).toArray 59));obtain⟨g3,Ie⟩:=ay w'.heap.size;rw[tL] at yC kJ ⊢;rw[Ie] at kJ ⊢;clear aB tL Ie;simp only[ξ,aq,ak,ao];refine kn 8 ?_;intro w' aB;have hx:=(Θ wo.heap.size wo).drew.trans (Ext.trans yC.out aB);obtain⟨v8,cT,cj,ho,qX⟩:=Ow.app (P:=η) 22 22 59 iv _ 5 64 lo Tryz.underlying22 YS LO Nf O5 rfl (by decide) _ _ _ (HO.out.up hx) _ _ 1 1 _ (kJ.out.bl aB) (kA y) (by unfold Jap;omega) (by omega);rw[show aj vC T++vC y=aj vC (T++[y]) by rw[bV];simp[aj]] at ho;obtain⟨A3,c3,rfl,-⟩:=ho.rds
     refine⟨_,cT,cA (by rfl) (by rfl) (by rfl) cj,Kept.of_from qX,?_⟩
     have kB:=qh ho;have mM:=qh ((H3.out.bl hx).at_ (qX.block _ L3.out));have dp:=qh (Bx.gr qX (HX.out.up hx) (fun p hp=>(xe.out p hp).1));obtain⟨V4,zY⟩:=ay cT;rw[zY] at kB mM dp ⊢;clear aB hx cj ho qX zY yC kJ;simp only[ξ,aq,ak,ao];refine bf 9 ?_;refine lK 10 ?_;intro w' aB;have vP:=(mM.out.bl aB).cell (i:=0) rfl;have ph:=(mM.out.bl aB).free 0
     refine⟨w'.setCell ⟨b3,0,ε⟩ (γ A3 (n2+1) c3),?_,?_⟩
     ·go_simp;first|done|exact rfl
     have oW:=qh ((kB.out.up aB).set_far ((kB.out.up aB).low_ne L3.out) mg.out (γ A3 (n2+1) c3) (i:=0));have vy:=qh ((mM.out.bl aB).set_ 0 (γ A3 (n2+1) c3));have gS:=qh (Bx.st (γ A3 (n2+1) c3) (i:=0) (dp.out.up aB) (fun p hp=>(xe.out p hp).2));obtain⟨V5,s5⟩:=ay (w'.setCell ⟨b3,0,ε⟩ (γ A3 (n2+1) c3));rw[s5] at oW vy gS ⊢;clear aB vP ph s5 kB mM dp;(try simp only[ξ,aq,ak,ao]);refine eX (by kernel_rfl) ?_ _;intro w8 cE;have El:=qh (oW.out.up cE);have vY:=qh (gS.out.up cE);have Ub:=qh (vy.out.bl cE);have xQ:Hid (eS (fun v:VC=>v.1) Vs x=(T++[y])++pH (fun v:VC=>v.1) x p2 (Vs.drop (j+1))):=qh (by rw[wg.out];simp);clear cE HO HX H3 oW gS vy fv ld1 IX wg;go_wp2;go_roundw
     case rel=>exact⟨j+1,p2,A3,n2+1,c3,T++[y],by omega,by omega,(fun h=>by have:=ub h;omega),rfl,by go_num,vY,Ub,El,xQ⟩
     case measure=>simp[intOf];omega
  ·obtain rfl:n=j:=by omega
   have hN:=HN.out;rw[Jak (by have:=HL.out;omega)] at hN;cases p with
   |true=>
    have HT:Hid (eS (fun v:VC=>v.1) Vs x=T):=qh (by rw[hN];show T++(if τ=τ then[] else[x])=T;simp);have z0:=HX.out.2.2.1.cell (i:=0) rfl;have z1:=HX.out.2.2.1.cell (i:=1) rfl;have y0:=HX.out.2.2.1.free 0;have y1:=HX.out.2.2.1.free 1;have k0:=H3.out.cell (i:=0) rfl;have k1:=H3.out.cell (i:=1) rfl;clear hN HN;have cu:=HO.out.low_ne L2.out;go_wp2;exact bS rfl b2 rfl ((HX.out.2.2.1.set_ 0 _).set_ 1 _) Tryz.underlying25 rfl (by kernel_rfl) rfl ⟨A2,n2,c2,rfl,by rw[HT.out];exact aJ ((HO.out.set_far cu bz.out _ (i:=0)).set_far cu bz.out _ (i:=1)).own,fO HO.out.own,(HO.out.below.setCell (p:=⟨b2,0,ε⟩) bz.out _).setCell (p:=⟨b2,1,ε⟩) bz.out _⟩
   |false=>
    have HT:Hid (eS (fun v:VC=>v.1) Vs x=T++[x]):=qh (by rw[hN];rfl);clear hN HN;obtain⟨A3,c3,W3,cj,yx,bC⟩:=RN HO.out x (by omega);have kB:=qh yx;have mM:=qh (H3.out.at_ (bC.block _ L3.out));have dp:=qh (Bx.gr bC HX.out (fun p hp=>(xe.out p hp).1));clear yx bC;have k0:=H3.out.cell (i:=0) rfl;go_upto_region 11 with fail
    refine Jam ?_;refine ah (v:=?_) (ζ 50) rfl (by rfl) ?_ ?_;rotate_left
    ·go_simp;(try with_reducible rfl)
    simp only[ξ,aq,ak,ao];refine ah (v:=?_) (ζ 51) rfl (by rfl) ?_ ?_;rotate_left
    ·go_simp;(try with_reducible rfl)
    simp only[ξ,aq,ak,ao];refine bw (ζ 52) rfl (by rfl) 59 (.tmp 3) rfl b1 rfl 59 (vC x) _ HX.out.2.1 Tryz.underlying59 rfl (by kernel_rfl) ?_;simp only[ξ,aq,ak,ao];clear k0;refine dz (ζ 53) rfl (by rfl) 22 59 1 #[(0,.tmp 52)] (by rfl) Tryz.underlying22 (vC x).toArray (by kernel_rfl) ?_;simp only[ξ,aq,ak,ao];refine jU (ζ 54) rfl (by rfl) (cA (by rfl) (by rfl) (by rfl) cj) ?_;simp only[ξ,aq,ak,ao];clear cj;have k1:=mM.out.cell (i:=0) rfl;have f1:=mM.out.free 0;go_upto_region 12 with fail
    have ku:=qh (kB.out.set_far (kB.out.low_ne L3.out) mg.out (γ A3 (n2+1) c3) (i:=0));have yf:=qh (mM.out.set_ 0 (γ A3 (n2+1) c3));have dY:=qh (Bx.st (γ A3 (n2+1) c3) (i:=0) dp.out (fun p hp=>(xe.out p hp).2));clear kB mM dp k1 f1;obtain⟨W5,xo⟩:=ay (W3.setCell ⟨b3,0,ε⟩ (γ A3 (n2+1) c3));rw[xo] at ku yf dY ⊢;clear xo;have z0:=dY.out.2.2.1.cell (i:=0) rfl;have z1:=dY.out.2.2.1.cell (i:=1) rfl;have y0:=dY.out.2.2.1.free 0;have cu:=ku.out.low_ne L2.out;have y1:=dY.out.2.2.1.free 1;have k0:=yf.out.cell (i:=0) rfl;have k1:=yf.out.cell (i:=1) rfl;go_wp2;exact bS rfl b2 rfl ((dY.out.2.2.1.set_ 0 _).set_ 1 _) Tryz.underlying25 rfl (by kernel_rfl) rfl ⟨A3,n2+1,c3,rfl,by rw[HT.out];exact aJ ((ku.out.set_far cu bz.out _ (i:=0)).set_far cu bz.out _ (i:=1)).own,fO ku.out.own,(ku.out.below.setCell (p:=⟨b2,0,ε⟩) bz.out _).setCell (p:=⟨b2,1,ε⟩) bz.out _⟩
theorem zN {W:ο} {A:Option Κ} {n c:Nat} {Vs:List VC} {B:Option Κ} {m k:Nat} {Es:List EC} (h:aR W A n c Vs B m k Es) (x:EC) (hn:m≤1000):
 Ζ η 73 #[φ #[γ A n c,γ B m k],φ (eC x).toArray] W fun e w'=>∃A' n' c',e=.returned (φ #[γ A n c,γ A' n' c'])∧aX w' w'.heap.size 4 A' n' c' (aj eC (eS (fun v:EC=>v.1) Es x))∧c'≤Jap∧σ W.heap.size W w':=by
 obtain⟨iv,YS,LO,Nf,O5⟩:=aW jQ;have H:=qh h.e;have HL:=qh (h.e.rlen bF (by decide));clear h;go_enter Tryz.func73,Tryz.ntmps73;go_upto_region 1 with fail
 obtain⟨W0,b0,b1,b2,bP,bK,cX,dN,aN,aI,aV,a8,-,-,kQ,-,jK,-,bz,mj,oK,km⟩:=jN W 25 [γ A n c,γ B m k] 67 (eC x) 25 [γ ε 0 0,γ ε 0 0];rw[bP,dN,cX,bK];clear bP bK cX dN;have c0:=aN.out.cell (i:=0) rfl;go_upto_region 2 with fail
 have cI:=qh (aE a8.out (δ #[γ A n c,γ ε 0 0] 25));have HX:Hid (Bx (W0.alloc (δ #[γ A n c,γ ε 0 0] 25)) [(b0,25,[γ A n c,γ B m k]),(b1,67,eC x),(b2,25,[γ ε 0 0,γ ε 0 0])]):=qh ⟨aN.out.al _,aI.out.al _,aV.out.al _,trivial⟩;have H3:=qh (Whole.new_ W0 25 [γ A n c,γ ε 0 0])
 have xe:Hid (∀p∈[(b0,25,[γ A n c,γ B m k]),(b1,67,eC x),(b2,25,[γ ε 0 0,γ ε 0 0])],p.1<W0.heap.size+1∧p.1≠W0.heap.size):=qh (fun p hp=>by
  have h0:=aN.out.lt;have h1:=aI.out.lt;have h2:=aV.out.lt;simp only[Η,Jbh,or_false] at hp;rcases hp with rfl|rfl|rfl
  ·exact⟨by show b0<_;omega,by show b0≠_;omega⟩
  ·exact⟨by show b1<_;omega,by show b1≠_;omega⟩
  ·exact⟨by show b2<_;omega,by show b2≠_;omega⟩)
 have JP:Hid (Ow W (W0.heap.size+1) 67 4 (γ ε 0 0) 0 (aj eC []) (W0.alloc (δ #[γ A n c,γ ε 0 0] 25))):=qh ⟨World.ownsRow_nil _ _ _ _,cI.out,Λ a8.out.size (Nat.le_succ _),by simp⟩;have LW:Hid (W.heap.size≤W0.heap.size+1):=qh (Λ a8.out.size (Nat.le_succ _));have mg:Hid (W.heap.size≤W0.heap.size):=qh a8.out.size;have L3:Hid (W0.heap.size<W0.heap.size+1):=qh (Nat.lt_succ_self _);obtain⟨lo,Ah⟩:=ay (W0.heap.size+1);obtain⟨w3,sX⟩:=ay (W0.alloc (δ #[γ A n c,γ ε 0 0] 25));obtain⟨b3,p9⟩:=ay W0.heap.size;rw[sX] at HX H3 JP ⊢;rw[Ah] at xe JP LW L3;rw[p9] at H3 xe mg L3 ⊢;have mD:Hid (eS (fun v:EC=>v.1) Es x=[]++pH (fun v:EC=>v.1) x ρ (Es.drop 0)):=qh (AP _ _ _).symm;clear sX Ah p9 aN aI aV a8 cI c0;have L2:Hid (b2<lo):=qh (xe.out (b2,25,[γ ε 0 0,γ ε 0 0]) (by simp)).1;go_upto_region 4 with fail
 go_loopw [6,7] (fun vp vi wr=>∃(j:Nat) (p:Bool) (A2:Option Κ) (n2 c2:Nat) (T:List EC),j≤m∧n2≤j+1∧(p=ρ→n2≤j)∧vp=Β p∧vi=J (j:Int)∧Hid (Bx wr [(b0,25,[γ A n c,γ B m k]),(b1,67,eC x),(b2,25,[γ ε 0 0,γ ε 0 0])])∧Hid (Whole wr b3 25 [γ A n c,γ A2 n2 c2])∧Hid (Ow W lo 67 4 (γ A2 n2 c2) n2 (aj eC T) wr)∧Hid (eS (fun v:EC=>v.1) Es x=T++pH (fun v:EC=>v.1) x p (Es.drop j))) (fun _ vi _=>m - (intOf vi).toNat)
 case atStart=>exact⟨0,ρ,ε,0,0,[],Jas _,Jas _,fun _=>Jas _,rfl,rfl,HX,H3,JP,mD⟩
 case round=>
  clear HX H3 JP mD;obtain⟨j,p,A2,n2,c2,T,hj,PE,ub,rfl,rfl,HX,H3,HO,HN⟩:=hrel;obtain⟨wo,ec⟩:=ay wr;rw[ec] at HX H3 HO ⊢;clear ec;have c0:=HX.out.1.cell (i:=1) rfl
  by_cases o4:j<m
  ·have rD:(j:Int)<(m:Int):=by omega
   obtain⟨y,hy⟩:∃y,Es[j]? =ζ y:=⟨_,θ (by have:=HL.out;omega)⟩
   have pO:Hid (eS (fun v:EC=>v.1) Es x=T++((if p=ρ∧dF x.1 y.1<0 then[x] else[])++(y::pH (fun v:EC=>v.1) x (p||decide (dF x.1 y.1<0)) (Es.drop (j+1))))):=qh (by
    have:=HN.out
    rw[Χ (ν.1 hy).1,(ν.1 hy).2] at this;exact this)
   obtain⟨bb,off,rfl,bD,bM⟩:=H.out.place bF (by decide) (by omega);have L0_:=qh (by have q:=bM j _ hy 0 _ rfl;simp only[Ν,Jac] at q;exact q);have L1_:=qh (by have q:=bM j _ hy 1 _ rfl;simp only[Ν,Jac] at q;exact q);have HP:=qh (bM j _ hy);obtain⟨o,go⟩:=ay (dF x.1 y.1);have HOr:Hid (∀X,Ζ η 71 #[φ #[J x.1.1,J x.1.2],φ #[J y.1.1,J y.1.2]] X fun e w'=>e=.returned (J o)∧σ X.heap.size X w'):=qh (fun X=>go▸rP x.1.1 x.1.2 y.1.1 y.1.2 X);rw[go] at pO;clear hy bM go HN;go_upto_region 6 with fail
   go_cut [31] (fun v z=>∃b:Bool,v=Β b∧Hid (b=(!p && decide (o<0)))∧Hid (σ wo.heap.size wo z))
   case first=>
    clear c0;cases p with
    |true=>
     refine aw (aF) (by kernel_rfl) ?_;refine ag 0 ?_;refine ag 1 ?_;refine ag 2 ?_;refine bg 3 ?_;refine bg 4 ?_;refine bg 5 ?_;refine bg 6 ?_;refine bg 7 ?_;refine bg 8 ?_;refine bg 9 ?_;refine bg 10 ?_;refine bg 11 ?_;refine bg 12 ?_;refine ag 13 ?_;refine aD (by kernel_rfl) ?_ _;intro w8 cE;go_wp2;go_meet;exact⟨ρ,rfl,qh rfl,qh (af (aL (Θ _ wo)) cE)⟩
    |false=>
     have qC:∀w',Kept aF wo.drew w'→w'.cell? ⟨b1,0,ε⟩=ζ (J x.1.1):=fun w' h=>h.nil_cell (HX.out.2.1.dr.cell (i:=0) rfl)
     have qw:∀w',Kept aF wo.drew w'→w'.cell? ⟨b1,1,ε⟩=ζ (J x.1.2):=fun w' h=>h.nil_cell (HX.out.2.1.dr.cell (i:=1) rfl)
     have fv:∀w',Kept aF wo.drew w'→w'.cell? ⟨b0,1,ε⟩=ζ (γ (ζ ⟨bb,off,ε⟩) m k):=fun w' h=>h.nil_cell (HX.out.1.dr.cell (i:=1) rfl)
     have ly0:∀w',Kept aF wo.drew w'→w'.cell? ⟨bb,off+j*4,ε⟩=ζ (J y.1.1):=fun w' h=>h.nil_cell ((HO.out.below.cell (p:=⟨bb,off+j*4,ε⟩) bD).trans L0_.out)
     have ly1:∀w',Kept aF wo.drew w'→w'.cell? ⟨bb,off+j*4+1,ε⟩=ζ (J y.1.2):=fun w' h=>h.nil_cell ((HO.out.below.cell (p:=⟨bb,off+j*4+1,ε⟩) bD).trans L1_.out)
     refine aw (aF) (by kernel_rfl) ?_;refine ag 0 ?_;refine ag 1 ?_;refine ag 2 ?_;refine ag 3 ?_;refine ag 4 ?_;refine ag 5 ?_;refine ag 6 ?_;refine ag 7 ?_;refine ag 8 ?_;refine ag 9 ?_;refine ag 10 ?_;refine bY 11 (hy:=by apply ck;rfl;rotate_left;intro w' aB;exact HOr.out w';intro w';go_simp) (h:=?_);refine ag 12 ?_;refine ag 13 ?_;refine aD (by kernel_rfl) ?_ _;intro w8 cE;go_wp2;go_meet;exact⟨decide (o<0),rfl,qh (by simp),qh (af (aL (Θ _ wo)) cE)⟩
   case rest=>
    obtain⟨b,rfl,hb,hz⟩:=hcut;have oW:=qh (HO.out.up hz.out);have gS:=qh (HX.out.up hz.out);have vy:=qh (H3.out.bl hz.out)
    have Tz:b=τ→p=ρ:=fun h=>by
     have e:=hb.out;rw[h] at e;cases p with
     |true=>cases e
     |false=>rfl
    have O4:Hid (eS (fun v:EC=>v.1) Es x=(T++if b=τ then[x] else[])++(y::pH (fun v:EC=>v.1) x (p||b) (Es.drop (j+1)))):=qh (by
     have e:=hb.out;have h:=pO.out;cases p with
     |true=>
      rw[e,h,if_neg (by simp)];simp
     |false=>
      by_cases ho:o<0
      ·rw[if_pos ⟨rfl,ho⟩] at h;rw[e,h,decide_eq_true ho];simp
      ·rw[if_neg (fun q=>ho q.2)] at h;rw[e,h,decide_eq_false ho];simp)
    clear hz hb pO HO HX H3 HOr c0;go_upto_if 31 with fail
    go_cut [6] (fun vp z=>∃(A3:Option Κ) (n3 c3:Nat) (T3:List EC),vp=Β (p||b)∧n3≤j+1∧((p||b)=ρ→n3≤j)∧Hid (Bx z [(b0,25,[γ A n c,γ (ζ ⟨bb,off,ε⟩) m k]),(b1,67,eC x),(b2,25,[γ ε 0 0,γ ε 0 0])])∧Hid (Whole z b3 25 [γ A n c,γ A3 n3 c3])∧Hid (Ow W lo 67 4 (γ A3 n3 c3) n3 (aj eC T3) z)∧Hid (eS (fun v:EC=>v.1) Es x=T3++(y::pH (fun v:EC=>v.1) x (p||b) (Es.drop (j+1)))))
    case first=>
     cases b with
     |false=>
      have AD:=O4;go_wp2_with fail
      go_meet;exact⟨A2,n2,c2,T,by simp,PE,(fun h=>ub (by simpa using h)),gS,vy,oW,qh (by have:=AD.out;simpa using this)⟩
     |true=>
      have hp0:=Tz rfl;subst hp0;have abi:=ub rfl;clear Tz ub;obtain⟨A3,c3,W3,cj,yx,bC⟩:=pushE oW.out x (by omega);have kB:=qh yx;have mM:=qh (vy.out.at_ (bC.block _ L3.out));have dp:=qh (Bx.gr bC gS.out (fun p hp=>(xe.out p hp).1));clear yx bC;have k0:=vy.out.cell (i:=1) rfl;go_upto_region 7 with fail
      refine Jam ?_;refine ah (v:=?_) (ζ 32) rfl (by rfl) ?_ ?_;rotate_left
      ·go_simp;(try with_reducible rfl)
      simp only[ξ,aq,ak,ao];refine ah (v:=?_) (ζ 33) rfl (by rfl) ?_ ?_;rotate_left
      ·go_simp;(try with_reducible rfl)
      simp only[ξ,aq,ak,ao];refine bw (ζ 34) rfl (by rfl) 67 (.tmp 3) rfl b1 rfl 67 (eC x) _ gS.out.2.1 Tryz.underlying67 rfl (by kernel_rfl) ?_;simp only[ξ,aq,ak,ao];clear k0;refine dz (ζ 35) rfl (by rfl) 23 67 1 #[(0,.tmp 34)] (by rfl) Tryz.underlying23 (eC x).toArray (by kernel_rfl) ?_;simp only[ξ,aq,ak,ao];refine jU (ζ 36) rfl (by rfl) (cA (by rfl) (by rfl) (by rfl) cj) ?_;simp only[ξ,aq,ak,ao];clear cj;have k1:=mM.out.cell (i:=1) rfl;have f1:=mM.out.free 1;go_upto_region 8 with fail
      have ku:=qh (kB.out.set_far (kB.out.low_ne L3.out) mg.out (γ A3 (n2+1) c3) (i:=1));have yf:=qh (mM.out.set_ 1 (γ A3 (n2+1) c3));have dY:=qh (Bx.st (γ A3 (n2+1) c3) (i:=1) dp.out (fun p hp=>(xe.out p hp).2));clear kB mM dp k1 f1;obtain⟨W5,xo⟩:=ay (W3.setCell ⟨b3,1,ε⟩ (γ A3 (n2+1) c3));rw[xo] at ku yf dY ⊢;clear xo;have AD:=O4;go_wp2_with fail
      go_meet;exact⟨A3,n2+1,c3,T++[x],rfl,by omega,(fun h=>by cases h),dY,yf,ku,qh (by have:=AD.out;simpa using this)⟩
    case rest=>
     obtain⟨A2,n2,c2,T,rfl,PE,ub,HX,H3,HO,wg⟩:=hcut;obtain⟨wo,ec⟩:=ay wc;rw[ec] at HX H3 HO ⊢;clear ec O4 oW gS vy Tz;obtain⟨p2,SX⟩:=ay ((p||b));rw[SX] at wg ub ⊢;clear SX;go_upto_region 9 with fail
     have fv:∀w',Kept (de lo) wo.drew w'→w'.cell? ⟨b3,1,ε⟩=ζ (γ A2 n2 c2):=fun w' hk=>hk.from_cell L3.out (H3.out.dr.cell (i:=1) rfl)
     have ld1:∀w',Kept (de lo) wo.drew w'→w'.cell? ⟨b0,1,ε⟩=ζ (γ (ζ ⟨bb,off,ε⟩) m k):=fun w' hk=>hk.from_cell (xe.out _ Jai).1 (HX.out.1.dr.cell (i:=1) rfl)
     have IX:Hid (∀w',Kept (de lo) wo.drew w'→∀i u,(eC y)[i]? =ζ u→w'.cell? ((⟨bb,off+j*4,ε⟩:Κ).add i)=ζ u):=qh (fun w' hk i u hu=>hk.from_cell (by rw[cJ];exact JaK bD LW.out) ((HO.out.below.cell (by rw[cJ];exact bD)).trans (HP.out i u hu)));refine bT (de lo) [10] (by kernel_rfl) ?_;refine bf 0 ?_;refine bf 1 ?_;refine bf 2 ?_;refine bf 3 ?_;refine bf 4 ?_;refine bf 5 ?_;refine fC 6 (hy:=bG (by rfl) 67 (.tmp 43) rfl ⟨bb,off+j*4,ε⟩ rfl (eC y) _ IX.out Tryz.underlying67 rfl (by kernel_rfl)) (h:=?_);refine kn 7 ?_;intro w' aB
     refine⟨γ (ζ ⟨w'.heap.size,0,ε⟩) 1 1,w'.alloc (δ (eC y).toArray 67),fa 23 67 1 #[(0,.tmp 44)] (by rfl) Tryz.underlying23 _ (by kernel_rfl),Kept.of_below (ax _ _),?_⟩
     have yC:Hid (Ext wo.drew (w'.alloc (δ (eC y).toArray 67))):=qh (Ext.trans aB (ax _ _));have kJ:Hid (aX (w'.alloc (δ (eC y).toArray 67)) (w'.alloc (δ (eC y).toArray 67)).heap.size 4 (ζ ⟨w'.heap.size,0,ε⟩) 1 1 (eC y)):=qh (aX.of_whole (Whole.new_ _ _ _) rfl);obtain⟨V3,tL⟩:=ay (w'.alloc (δ (eC y).toArray 67));obtain⟨g3,Ie⟩:=ay w'.heap.size;rw[tL] at yC kJ ⊢;rw[Ie] at kJ ⊢;clear aB tL Ie;simp only[ξ,aq,ak,ao];refine kn 8 ?_;intro w' aB;have hx:=(Θ wo.heap.size wo).drew.trans (Ext.trans yC.out aB);obtain⟨v8,cT,cj,ho,qX⟩:=Ow.app (P:=η) 23 23 67 iv _ 4 40 lo Tryz.underlying23 YS LO Nf O5 rfl (by decide) _ _ _ (HO.out.up hx) _ _ 1 1 _ (kJ.out.bl aB) (jX y) (by unfold Jap;omega) (by omega);rw[show aj eC T++eC y=aj eC (T++[y]) by rw[bV];simp[aj]] at ho;obtain⟨A3,c3,rfl,-⟩:=ho.rds
     refine⟨_,cT,cA (by rfl) (by rfl) (by rfl) cj,Kept.of_from qX,?_⟩
     have kB:=qh ho;have mM:=qh ((H3.out.bl hx).at_ (qX.block _ L3.out));have dp:=qh (Bx.gr qX (HX.out.up hx) (fun p hp=>(xe.out p hp).1));obtain⟨V4,zY⟩:=ay cT;rw[zY] at kB mM dp ⊢;clear aB hx cj ho qX zY yC kJ;simp only[ξ,aq,ak,ao];refine bf 9 ?_;refine lK 10 ?_;intro w' aB;have vP:=(mM.out.bl aB).cell (i:=1) rfl;have ph:=(mM.out.bl aB).free 1
     refine⟨w'.setCell ⟨b3,1,ε⟩ (γ A3 (n2+1) c3),?_,?_⟩
     ·go_simp;first|done|exact rfl
     have oW:=qh ((kB.out.up aB).set_far ((kB.out.up aB).low_ne L3.out) mg.out (γ A3 (n2+1) c3) (i:=1));have vy:=qh ((mM.out.bl aB).set_ 1 (γ A3 (n2+1) c3));have gS:=qh (Bx.st (γ A3 (n2+1) c3) (i:=1) (dp.out.up aB) (fun p hp=>(xe.out p hp).2));obtain⟨V5,s5⟩:=ay (w'.setCell ⟨b3,1,ε⟩ (γ A3 (n2+1) c3));rw[s5] at oW vy gS ⊢;clear aB vP ph s5 kB mM dp;(try simp only[ξ,aq,ak,ao]);refine eX (by kernel_rfl) ?_ _;intro w8 cE;have El:=qh (oW.out.up cE);have vY:=qh (gS.out.up cE);have Ub:=qh (vy.out.bl cE);have xQ:Hid (eS (fun v:EC=>v.1) Es x=(T++[y])++pH (fun v:EC=>v.1) x p2 (Es.drop (j+1))):=qh (by rw[wg.out];simp);clear cE HO HX H3 oW gS vy fv ld1 IX wg;go_wp2;go_roundw
     case rel=>exact⟨j+1,p2,A3,n2+1,c3,T++[y],by omega,by omega,(fun h=>by have:=ub h;omega),rfl,by go_num,vY,Ub,El,xQ⟩
     case measure=>simp[intOf];omega
  ·obtain rfl:m=j:=by omega
   have hN:=HN.out;rw[Jak (by have:=HL.out;omega)] at hN;cases p with
   |true=>
    have HT:Hid (eS (fun v:EC=>v.1) Es x=T):=qh (by rw[hN];show T++(if τ=τ then[] else[x])=T;simp);have z0:=HX.out.2.2.1.cell (i:=0) rfl;have z1:=HX.out.2.2.1.cell (i:=1) rfl;have y0:=HX.out.2.2.1.free 0;have y1:=HX.out.2.2.1.free 1;have k0:=H3.out.cell (i:=0) rfl;have k1:=H3.out.cell (i:=1) rfl;clear hN HN;have cu:=HO.out.low_ne L2.out;go_wp2;exact bS rfl b2 rfl ((HX.out.2.2.1.set_ 0 _).set_ 1 _) Tryz.underlying25 rfl (by kernel_rfl) rfl ⟨A2,n2,c2,rfl,by rw[HT.out];exact aJ ((HO.out.set_far cu bz.out _ (i:=0)).set_far cu bz.out _ (i:=1)).own,fO HO.out.own,(HO.out.below.setCell (p:=⟨b2,0,ε⟩) bz.out _).setCell (p:=⟨b2,1,ε⟩) bz.out _⟩
   |false=>
    have HT:Hid (eS (fun v:EC=>v.1) Es x=T++[x]):=qh (by rw[hN];rfl);clear hN HN;obtain⟨A3,c3,W3,cj,yx,bC⟩:=pushE HO.out x (by omega);have kB:=qh yx;have mM:=qh (H3.out.at_ (bC.block _ L3.out));have dp:=qh (Bx.gr bC HX.out (fun p hp=>(xe.out p hp).1));clear yx bC;have k0:=H3.out.cell (i:=1) rfl;go_upto_region 11 with fail
    refine Jam ?_;refine ah (v:=?_) (ζ 50) rfl (by rfl) ?_ ?_;rotate_left
    ·go_simp;(try with_reducible rfl)
    simp only[ξ,aq,ak,ao];refine ah (v:=?_) (ζ 51) rfl (by rfl) ?_ ?_;rotate_left
    ·go_simp;(try with_reducible rfl)
    simp only[ξ,aq,ak,ao];refine bw (ζ 52) rfl (by rfl) 67 (.tmp 3) rfl b1 rfl 67 (eC x) _ HX.out.2.1 Tryz.underlying67 rfl (by kernel_rfl) ?_;simp only[ξ,aq,ak,ao];clear k0;refine dz (ζ 53) rfl (by rfl) 23 67 1 #[(0,.tmp 52)] (by rfl) Tryz.underlying23 (eC x).toArray (by kernel_rfl) ?_;simp only[ξ,aq,ak,ao];refine jU (ζ 54) rfl (by rfl) (cA (by rfl) (by rfl) (by rfl) cj) ?_;simp only[ξ,aq,ak,ao];clear cj;have k1:=mM.out.cell (i:=1) rfl;have f1:=mM.out.free 1;go_upto_region 12 with fail
    have ku:=qh (kB.out.set_far (kB.out.low_ne L3.out) mg.out (γ A3 (n2+1) c3) (i:=1));have yf:=qh (mM.out.set_ 1 (γ A3 (n2+1) c3));have dY:=qh (Bx.st (γ A3 (n2+1) c3) (i:=1) dp.out (fun p hp=>(xe.out p hp).2));clear kB mM dp k1 f1;obtain⟨W5,xo⟩:=ay (W3.setCell ⟨b3,1,ε⟩ (γ A3 (n2+1) c3));rw[xo] at ku yf dY ⊢;clear xo;have z0:=dY.out.2.2.1.cell (i:=0) rfl;have z1:=dY.out.2.2.1.cell (i:=1) rfl;have y0:=dY.out.2.2.1.free 0;have cu:=ku.out.low_ne L2.out;have y1:=dY.out.2.2.1.free 1;have k0:=yf.out.cell (i:=0) rfl;have k1:=yf.out.cell (i:=1) rfl;go_wp2;exact bS rfl b2 rfl ((dY.out.2.2.1.set_ 0 _).set_ 1 _) Tryz.underlying25 rfl (by kernel_rfl) rfl ⟨A3,n2+1,c3,rfl,by rw[HT.out];exact aJ ((ku.out.set_far cu bz.out _ (i:=0)).set_far cu bz.out _ (i:=1)).own,fO ku.out.own,(ku.out.below.setCell (p:=⟨b2,0,ε⟩) bz.out _).setCell (p:=⟨b2,1,ε⟩) bz.out _⟩
end Go.Proofs.YtpdpbfmiahjiiaaGreat
