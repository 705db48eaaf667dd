/- Several texts in one. -/
import Derived.Test.YtpdpbfmiahjiiaaGreatPlAB
import Derived.Test.YtpdpbfmiahjiiaaGreatPlAP
set_option linter.unusedSectionVars false
set_option linter.unusedSimpArgs false
set_option linter.unusedVariables false
set_option maxRecDepth 100000
set_option maxHeartbeats 16000000
namespace Go.Proofs.YtpdpbfmiahjiiaaGreat
open Go.RowKit
open _root_.Go.Value renaming slice→γ,string→μ,agg→φ,bool→Β,tuple→Ξ
open _root_.Go.Obj renaming cells→δ
open _root_.Option renaming none→ε,some→ζ
open _root_.Go.Proofs.Tryz renaming prog→η
open _root_.List renaming getElem?_eq_getElem→θ,getElem?_eq_some_iff→ν,mem_cons→Η,drop_eq_getElem_cons→Χ,mem_cons_of_mem→Jad,mem_cons_self→Jai,drop_of_length_le→Jak,not_mem_nil→Jbh
open _root_.Go.Act renaming put→ξ
open _root_.Go renaming World→ο,Value→ψ,Calls→Ζ,Addr→Κ,TypeId→Υ,wp_region_lit→Jam,maxLen→Jap
open _root_.Bool renaming false→ρ,true→τ
open _root_.Go.RowKit renaming Below→σ
open _root_.Go.RowKit.Below renaming refl→Θ
open _root_.Nat renaming le_trans→Λ,add_zero→Jac,zero_le→Jas,lt_of_lt_of_le→JaK
open _root_.Go.Addr renaming add_lit→Ν
open _root_.Go.Builtin renaming append_→JaY
theorem zT {Vs:List VC} {x:Nm} (h:(aU Vs x).2=τ):(aU Vs x).1∈Vs:=by
 rcases fB (fun v:VC=>v.1) zV Vs x with h1|h1
 ·exact h1
 ·have h2:(aU Vs x).2=ρ:=congrArg (·.2) h1;rw[h2] at h;cases h
section
variable {W:ο} {A:Option Κ} {n c:Nat} {Vs:List VC} {B:Option Κ} {m k:Nat} {Es:List EC} {C:Option Κ} {r rc:Nat} {G:List Gn}
theorem I4 (h:aO W A n c Vs B m k Es) (hg:aS W W.heap.size 6 C r rc (ao cj G)) (hn:n≤1000) (hr:∀y∈Vs,y.2.1.2.1≤1000000) (jd:r≤1000) (v1 v2 a1 a2 a3:Int) (hv:bH (Vs.map vS) (v1,v2)=ρ):Ζ η 72 #[φ #[γ A n c,γ B m k,γ C r rc],φ #[J v1,J v2,J a1,J a2,J a3]] W fun e w'=>e=.returned (Ξ #[φ #[J 0,J 0,J 0,J 0,J 0],J 13])∧σ W.heap.size W w':=by
 have HV:Hid (∀X,σ W.heap.size W X→Ζ η 27 #[φ #[γ A n c,γ B m k],φ #[J v1,J v2]] X fun e w'=>e=.returned (Ξ #[φ (vC (aU Vs (v1,v2)).1).toArray,Β (aU Vs (v1,v2)).2])∧σ X.heap.size X w'):=qh (fun X hX=>fN A n c Vs B m k Es v1 v2 X (h.v.bl hX) (by omega));have iK:=(dh Vs (v1,v2)).1.trans hv;obtain⟨⟨u,ok⟩,gu⟩:∃z,aU Vs (v1,v2)=z:=⟨_,rfl⟩
 rw[gu] at HV iK;obtain rfl:ok=ρ:=iK;obtain⟨⟨i1,i2⟩,⟨rA,rn,bE,rL⟩,lb,at_⟩:=u;replace HV:Hid (∀X,σ W.heap.size W X→Ζ η 27 #[φ #[γ A n c,γ B m k],φ #[J v1,J v2]] X fun e w'=>e=.returned (Ξ #[φ #[J i1,J i2,γ rA rn bE,μ lb,J at_],Β ρ])∧σ X.heap.size X w'):=HV;clear h hg hr hv gu;go_enter Tryz.func72,Tryz.ntmps72;go_upto_region 1 with fail
 obtain⟨W0,b0,b1,b2,bJ,bS,cJ,dA,aR,aQ,bj,bn,-,-,j4,-,fD,-,a8,kY,mJ,ni⟩:=jm W 28 [γ A n c,γ B m k,γ C r rc] 34 [J v1,J v2,J a1,J a2,J a3] 34 [J 0,J 0,J 0,J 0,J 0];rw[bJ,dA,cJ,bS];clear bJ bS cJ dA;have x0:=aR.out.cell (i:=0) rfl;have x1:=aR.out.cell (i:=1) rfl;have x2:=aR.out.cell (i:=2) rfl;have p0:=aQ.out.cell (i:=0) rfl;have p1:=aQ.out.cell (i:=1) rfl;have p2:=aQ.out.cell (i:=2) rfl;have p3:=aQ.out.cell (i:=3) rfl;have p4:=aQ.out.cell (i:=4) rfl
 go_upto_region 2 with (first
  |(go_at_call 27
    refine(HV.out _ bn.out).mono ?_
    rintro e w2 ⟨rfl,ar⟩;have cL:=qh (aF (af bn.out ar) (δ #[J i1,J i2,γ rA rn bE,μ lb,J at_] 59));have qw:=qh ((bj.out.bl ar).al (δ #[J i1,J i2,γ rA rn bE,μ lb,J at_] 59));clear ar aR aQ bj bn x0 x1 x2 p0 p1 p2 p3 p4))
 obtain⟨w3,qK⟩:=az (w2.alloc (δ #[J i1,J i2,γ rA rn bE,μ lb,J at_] 59));rw[qK] at cL qw ⊢;clear qK;have z0:=qw.out.cell (i:=0) rfl;have z1:=qw.out.cell (i:=1) rfl;have z2:=qw.out.cell (i:=2) rfl;have z3:=qw.out.cell (i:=3) rfl;have z4:=qw.out.cell (i:=4) rfl;have y0:=qw.out.free 0;have y1:=qw.out.free 1;have y2:=qw.out.free 2;have y3:=qw.out.free 3;have y4:=qw.out.free 4;go_wp2;exact aE rfl b2 rfl rfl (((((qw.out.set_ 0 (J 0)).set_ 1 (J 0)).set_ 2 (J 0)).set_ 3 (J 0)).set_ 4 (J 0)) Tryz.underlying34 rfl (by kernel_rfl) rfl ⟨rfl,(((((cL.out.setCell (p:=⟨b2,0,ε⟩) a8.out (J 0)).setCell (p:=⟨b2,1,ε⟩) a8.out (J 0)).setCell (p:=⟨b2,2,ε⟩) a8.out (J 0)).setCell (p:=⟨b2,3,ε⟩) a8.out (J 0)).setCell (p:=⟨b2,4,ε⟩) a8.out (J 0))⟩
theorem KU (h:aO W A n c Vs B m k Es) (hg:aS W W.heap.size 6 C r rc (ao cj G)) (hn:n≤1000) (hr:∀y∈Vs,y.2.1.2.1≤1000000) (jd:r≤1000) (v1 v2 a1 a2 a3:Int) (hv:bH (Vs.map vS) (v1,v2)=τ) (Ss:G.length=r):Ζ η 72 #[φ #[γ A n c,γ B m k,γ C r rc],φ #[J v1,J v2,J a1,J a2,J a3]] W fun e w'=>e=.returned (Ξ #[φ #[J (ml (Vs.map vS) G ((v1,v2),(a1,a2,a3))).1.1,J (ml (Vs.map vS) G ((v1,v2),(a1,a2,a3))).1.2,J (ml (Vs.map vS) G ((v1,v2),(a1,a2,a3))).2.1,J (ml (Vs.map vS) G ((v1,v2),(a1,a2,a3))).2.2.1,J (ml (Vs.map vS) G ((v1,v2),(a1,a2,a3))).2.2.2],J 0])∧σ W.heap.size W w':=by
 have HV:Hid (∀X,σ W.heap.size W X→Ζ η 27 #[φ #[γ A n c,γ B m k],φ #[J v1,J v2]] X fun e w'=>e=.returned (Ξ #[φ (vC (aU Vs (v1,v2)).1).toArray,Β (aU Vs (v1,v2)).2])∧σ X.heap.size X w'):=qh (fun X hX=>fN A n c Vs B m k Es v1 v2 X (h.v.bl hX) (by omega));have iK:=(dh Vs (v1,v2)).1.trans hv;have aW:=(dh Vs (v1,v2)).2;have ij:=zT iK;obtain⟨⟨u,ok⟩,gu⟩:∃z,aU Vs (v1,v2)=z:=⟨_,rfl⟩
 rw[gu] at HV iK aW ij;obtain rfl:ok=τ:=iK;obtain⟨⟨i1,i2⟩,⟨rA,rn,bE,rL⟩,lb,at_⟩:=u;replace HV:Hid (∀X,σ W.heap.size W X→Ζ η 27 #[φ #[γ A n c,γ B m k],φ #[J v1,J v2]] X fun e w'=>e=.returned (Ξ #[φ #[J i1,J i2,γ rA rn bE,μ lb,J at_],Β τ])∧σ X.heap.size X w'):=HV;have aW:rL=ck (Vs.map vS) (v1,v2):=aW;have eV:RgOk W (rA,rn,bE,rL):=h.r _ ij;have nP:rn≤1000000:=hr _ ij;obtain⟨t,gt⟩:=az (ln (EM Vs) G r (a1,a2,a3));obtain⟨⟨c1,q⟩,gq⟩:∃z,ml (Vs.map vS) G ((v1,v2),(a1,a2,a3))=z:=⟨_,rfl⟩
 have hc:(if t∈rL then t else zD)=q∧c1=(v1,v2):=by
  unfold ml at gq;rw[←TO,Ss,gt,←aW] at gq;exact⟨congrArg (·.2) gq,(congrArg (·.1) gq).symm⟩
 rw[gq]
 have za:Hid (∀X,σ W.heap.size W X→Ζ η 98 #[φ #[γ A n c,γ B m k,γ C r rc],φ #[J a1,J a2,J a3]] X fun e w'=>e=.returned (φ #[J t.1,J t.2.1,J t.2.2])∧σ X.heap.size X w'):=qh (fun X hX=>by
  have:=Lx (h.below hX) (hg.bl hX) hn hr jd (a1,a2,a3)
  rwa [gt] at this)
 have HI:Hid (∀X,σ W.heap.size W X→Ζ η 33 #[γ rA rn bE,φ #[J t.1,J t.2.1,J t.2.2]] X fun e w'=>e=.returned (J (fI rL t))∧σ X.heap.size X w'):=qh (fun X hX=>gJ rA rn bE rL t X (eV.2.bl hX) (by omega));have Zc:(t∈rL→0≤fI rL t)∧(¬t∈rL→fI rL t= -1):=⟨fun h=>by rw[(gO h).1];omega,fun h=>jE h⟩;obtain⟨ix,gx⟩:=az (fI rL t);rw[gx] at HI Zc;obtain⟨t1,t2,t3⟩:=t;obtain⟨q1,q2,q3⟩:=q;obtain⟨c11,Xd⟩:=c1;obtain⟨hc,wy⟩:=hc;injection wy with k1 k2
 obtain rfl:v1=c11:=k1.symm;obtain rfl:v2=Xd:=k2.symm;have HC:=qh hc;have Mw:=qh Zc;clear h hg hr hv gu aW ij eV gt gq gx hc Zc;go_enter Tryz.func72,Tryz.ntmps72;go_upto_region 1 with fail
 obtain⟨W0,b0,b1,b2,bJ,bS,cJ,dA,aR,aQ,bj,bn,-,-,j4,-,fD,-,a8,kY,mJ,ni⟩:=jm W 28 [γ A n c,γ B m k,γ C r rc] 34 [J v1,J v2,J a1,J a2,J a3] 34 [J 0,J 0,J 0,J 0,J 0];rw[bJ,dA,cJ,bS];clear bJ bS cJ dA;have x0:=aR.out.cell (i:=0) rfl;have x1:=aR.out.cell (i:=1) rfl;have x2:=aR.out.cell (i:=2) rfl;have p0:=aQ.out.cell (i:=0) rfl;have p1:=aQ.out.cell (i:=1) rfl;have p2:=aQ.out.cell (i:=2) rfl;have p3:=aQ.out.cell (i:=3) rfl;have p4:=aQ.out.cell (i:=4) rfl
 go_upto_region 4 with (first
  |(go_at_call 27
    refine(HV.out _ bn.out).mono ?_
    rintro e w2 ⟨rfl,ar⟩;have cL:=qh (aF (af bn.out ar) (δ #[J i1,J i2,γ rA rn bE,μ lb,J at_] 59));have tV:=qh ((aR.out.bl ar).al (δ #[J i1,J i2,γ rA rn bE,μ lb,J at_] 59));have ll:=qh ((aQ.out.bl ar).al (δ #[J i1,J i2,γ rA rn bE,μ lb,J at_] 59));have rW:=qh ((bj.out.bl ar).al (δ #[J i1,J i2,γ rA rn bE,μ lb,J at_] 59));have Qj:=qh (Whole.new_ w2 59 [J i1,J i2,γ rA rn bE,μ lb,J at_]);clear ar aR aQ bj bn HV x0 x1 x2 p0 p1 p2 p3 p4))
 obtain⟨w3,qK⟩:=az (w2.alloc (δ #[J i1,J i2,γ rA rn bE,μ lb,J at_] 59));obtain⟨b3,oR⟩:=az w2.heap.size;rw[qK] at cL tV ll rW Qj ⊢;rw[oR] at Qj ⊢;clear qK oR;have x0:=tV.out.cell (i:=0) rfl;have x1:=tV.out.cell (i:=1) rfl;have x2:=tV.out.cell (i:=2) rfl;have p0:=ll.out.cell (i:=0) rfl;have p1:=ll.out.cell (i:=1) rfl;have p2:=ll.out.cell (i:=2) rfl;have p3:=ll.out.cell (i:=3) rfl;have p4:=ll.out.cell (i:=4) rfl
 go_upto_region 5 with (first
  |(go_at_call 98
    refine(za.out _ cL.out).mono ?_
    rintro e w4 ⟨rfl,s5⟩;have jJ:=qh (aF (af cL.out s5) (δ #[J t1,J t2,J t3] 32));have fY:=qh ((ll.out.bl s5).al (δ #[J t1,J t2,J t3] 32));have ji:=qh ((rW.out.bl s5).al (δ #[J t1,J t2,J t3] 32));have FN:=qh ((Qj.out.bl s5).al (δ #[J t1,J t2,J t3] 32));have Bj:=qh (Whole.new_ w4 32 [J t1,J t2,J t3]);have WK:Hid (W.heap.size≤w4.heap.size):=qh (af cL.out s5).size;clear s5 cL tV ll rW Qj za x0 x1 x2 p0 p1 p2 p3 p4))
 obtain⟨w5,UB⟩:=az (w4.alloc (δ #[J t1,J t2,J t3] 32));obtain⟨b5,JO⟩:=az w4.heap.size;rw[UB] at jJ fY ji FN Bj ⊢;rw[JO] at Bj WK ⊢;clear UB JO
 have Yh:Hid (b2≠b5):=qh (fun e=>by
  have h1:_=_:=ji.out;have h2:_=_:=Bj.out;rw[e] at h1;rw[h1] at h2;cases h2)
 have Zg:Hid (b1≠b5):=qh (fun e=>by
  have h1:_=_:=fY.out;have h2:_=_:=Bj.out;rw[e] at h1;rw[h1] at h2;cases h2)
 have v2_:=FN.out.cell (i:=2) rfl;have Qu:=Bj.out.cell (i:=0) rfl;have Qk:=Bj.out.cell (i:=1) rfl;have Sa:=Bj.out.cell (i:=2) rfl
 by_cases hm:(t1,t2,t3)∈rL
 ·have hi:¬ix<0:=by have:=Mw.out.1 hm;omega
  have hq:=HC.out;rw[if_pos hm] at hq;injection hq with k1 k2
  injection k2 with k2 k3
  subst k1 k2 k3;clear hm HC Mw
  go_upto_region 7 with (first
   |(go_at_call 33
     refine(HI.out _ jJ.out).mono ?_
     rintro e w6 ⟨rfl,dO⟩;have qX:=qh (af jJ.out dO);have wJ:=qh (fY.out.bl dO);have jO:=qh (ji.out.bl dO);have BM:=qh (Bj.out.bl dO);clear dO jJ fY ji FN Bj HI v2_ Qu Qk Sa))
  have p0:=wJ.out.cell (i:=0) rfl;have p1:=wJ.out.cell (i:=1) rfl;have Qu:=BM.out.cell (i:=0) rfl;have Qk:=BM.out.cell (i:=1) rfl;have Sa:=BM.out.cell (i:=2) rfl;have XY:=jO.out.cell (i:=0) rfl;have XE:=jO.out.cell (i:=1) rfl;have XA:=jO.out.cell (i:=2) rfl;have zz3:=jO.out.cell (i:=3) rfl;have zz4:=jO.out.cell (i:=4) rfl;have y0:=jO.out.free 0;have y1:=jO.out.free 1;have y2:=jO.out.free 2;have y3:=jO.out.free 3;have y4:=jO.out.free 4;go_wp2;exact aE rfl b2 rfl rfl (((((jO.out.set_ 0 (J v1)).set_ 1 (J v2)).set_ 2 (J t1)).set_ 3 (J t2)).set_ 4 (J t3)) Tryz.underlying34 rfl (by kernel_rfl) rfl ⟨rfl,(((((qX.out.setCell (p:=⟨b2,0,ε⟩) a8.out (J v1)).setCell (p:=⟨b2,1,ε⟩) a8.out (J v2)).setCell (p:=⟨b2,2,ε⟩) a8.out (J t1)).setCell (p:=⟨b2,3,ε⟩) a8.out (J t2)).setCell (p:=⟨b2,4,ε⟩) a8.out (J t3))⟩
 ·have hi:ix<0:=by have:=Mw.out.2 hm;omega
  have hq:=HC.out;rw[if_neg hm] at hq;injection hq with k1 k2
  injection k2 with k2 k3
  subst k1 k2 k3;clear hm HC Mw
  go_upto_region 6 with (first
   |(go_at_call 33
     refine(HI.out _ jJ.out).mono ?_
     rintro e w6 ⟨rfl,dO⟩;have qX:=qh (af jJ.out dO);have wJ:=qh (fY.out.bl dO);have jO:=qh (ji.out.bl dO);have BM:=qh (Bj.out.bl dO);clear dO jJ fY ji FN Bj HI v2_ Qu Qk Sa))
  have Qu:=BM.out.cell (i:=0) rfl;have Qk:=BM.out.cell (i:=1) rfl;have Sa:=BM.out.cell (i:=2) rfl;have ft0:=BM.out.free 0;have ft1:=BM.out.free 1;have ft2:=BM.out.free 2;go_upto_region 7 with fail
  have qX:=qh (((qX.out.setCell (p:=⟨b5,0,ε⟩) WK.out (J 0)).setCell (p:=⟨b5,1,ε⟩) WK.out (J 0)).setCell (p:=⟨b5,2,ε⟩) WK.out (J 0));have wJ:=qh (((wJ.out.set_far' (i:=0) Zg.out (J 0)).set_far' (i:=1) Zg.out (J 0)).set_far' (i:=2) Zg.out (J 0));have jO:=qh (((jO.out.set_far' (i:=0) Yh.out (J 0)).set_far' (i:=1) Yh.out (J 0)).set_far' (i:=2) Yh.out (J 0));have BM:=qh (((BM.out.set_ 0 (J 0)).set_ 1 (J 0)).set_ 2 (J 0));obtain⟨w7,gw7⟩:=az (((w6.setCell ⟨b5,0,ε⟩ (J 0)).setCell ⟨b5,1,ε⟩ (J 0)).setCell ⟨b5,2,ε⟩ (J 0));rw[gw7] at qX wJ jO BM ⊢;clear gw7 Qu Qk Sa ft0 ft1 ft2;have p0:=wJ.out.cell (i:=0) rfl;have p1:=wJ.out.cell (i:=1) rfl;have Qu:=BM.out.cell (i:=0) rfl;have Qk:=BM.out.cell (i:=1) rfl;have Sa:=BM.out.cell (i:=2) rfl;have XY:=jO.out.cell (i:=0) rfl;have XE:=jO.out.cell (i:=1) rfl;have XA:=jO.out.cell (i:=2) rfl;have zz3:=jO.out.cell (i:=3) rfl;have zz4:=jO.out.cell (i:=4) rfl;have y0:=jO.out.free 0;have y1:=jO.out.free 1;have y2:=jO.out.free 2;have y3:=jO.out.free 3;have y4:=jO.out.free 4;go_wp2;exact aE rfl b2 rfl rfl (((((jO.out.set_ 0 (J v1)).set_ 1 (J v2)).set_ 2 (J 0)).set_ 3 (J 0)).set_ 4 (J 0)) Tryz.underlying34 rfl (by kernel_rfl) rfl ⟨rfl,(((((qX.out.setCell (p:=⟨b2,0,ε⟩) a8.out (J v1)).setCell (p:=⟨b2,1,ε⟩) a8.out (J v2)).setCell (p:=⟨b2,2,ε⟩) a8.out (J 0)).setCell (p:=⟨b2,3,ε⟩) a8.out (J 0)).setCell (p:=⟨b2,4,ε⟩) a8.out (J 0))⟩
end
def Bx (W:ο):List (Nat × Υ × List ψ)→Prop
 |[]=>True
 |p::l=>Whole W p.1 p.2.1 p.2.2∧Bx W l
theorem Bx.up {W W':ο}:∀{l:List (Nat × Υ × List ψ)},Bx W l→σ W.heap.size W W'→Bx W' l
 |[],_,_=>trivial
 |_::_,h,hb=>⟨h.1.bl hb,Bx.up h.2 hb⟩
theorem Bx.gr {W W':ο} {lo:Nat} (hb:σ lo W W'):∀{l:List (Nat × Υ × List ψ)},Bx W l→(∀p∈l,p.1<lo)→Bx W' l
 |[],_,_=>trivial
 |p::_,h,hl=>⟨h.1.at_ (hb.block _ (hl p Jai)),Bx.gr hb h.2 (fun q hq=>hl q (Jad _ hq))⟩
theorem Bx.st {W:ο} {g i:Nat} (u:ψ):∀{l:List (Nat × Υ × List ψ)},Bx W l→(∀p∈l,p.1≠g)→Bx (W.setCell ⟨g,i,ε⟩ u) l
 |[],_,_=>trivial
 |p::_,h,hl=>⟨h.1.set_far' (hl p Jai) u,Bx.st u h.2 (fun q hq=>hl q (Jad _ hq))⟩
def oU {α:Type} (nm:α→Nm) (x:α):Bool→List α→List α
 |p,[]=>if p=τ then[] else[x]
 |p,y::l=>(if p=ρ∧eN (nm x) (nm y)<0 then[x] else[])++(y::oU nm x (p||decide (eN (nm x) (nm y)<0)) l)
theorem AG {α:Type} (nm:α→Nm) (x:α):∀l:List α,oU nm x τ l=l
 |[]=>rfl
 |y::l=>by
  show(if τ=ρ∧_ then[x] else[])++(y::oU nm x (τ||_) l)=y::l
  rw[if_neg (by simp),Bool.true_or,AG nm x l];rfl
theorem yr {α:Type} (nm:α→Nm) (x:α):∀l:List α,oU nm x ρ l=fp nm l x
 |[]=>rfl
 |y::l=>by
  show(if ρ=ρ∧eN (nm x) (nm y)<0 then[x] else[])++(y::oU nm x (ρ||decide (eN (nm x) (nm y)<0)) l)=if eN (nm x) (nm y)<0 then x::y::l else y::fp nm l x
  by_cases h:eN (nm x) (nm y)<0
  ·rw[if_pos ⟨rfl,h⟩,decide_eq_true h,Bool.or_true,AG,if_pos h];rfl
  ·rw[if_neg (fun q=>h q.2),decide_eq_false h,Bool.or_false,yr nm x l,if_neg h];rfl
theorem PB {w W:ο} {lo:Nat} {A:Option Κ} {n c:Nat} {T:List VC} (fu:Ow w lo 59 5 (γ A n c) n (ao vC T) W) (x:VC) (hn:n≤2000):
 ∃A' c' W',(JaY #[22,22] 22 #[γ A n c,γ (ζ ⟨W.heap.size,0,ε⟩) 1 1]).run η (W.alloc (δ (vC x).toArray 59))=.ok (γ A' (n+1) c') W'∧Ow w lo 59 5 (γ A' (n+1) c') (n+1) (ao vC (T++[x])) W'∧σ lo W W':=by
 obtain⟨i,hi,nz,j7,kZ⟩:=a6 gU;obtain⟨v',W',bL,ho,hb⟩:=Ow.app (P:=η) 22 22 59 i _ 5 64 lo Tryz.underlying22 hi nz j7 kZ rfl (by decide) _ _ _ (fu.up (ax W (δ (vC x).toArray 59))) _ _ 1 1 _ (aS.of_whole (Whole.new_ W 59 (vC x)) rfl) (j3 x) (by unfold Jap;omega) (by omega);rw[show ao vC T++vC x=ao vC (T++[x]) by rw[bX];simp[ao]] at ho;obtain⟨A',c',rfl,-⟩:=ho.rds;exact⟨A',c',W',bL,ho,((ax W _).mono fu.hi).trans hb⟩
theorem pushE {w W:ο} {lo:Nat} {A:Option Κ} {n c:Nat} {T:List EC} (fu:Ow w lo 67 4 (γ A n c) n (ao eC T) W) (x:EC) (hn:n≤2000):
 ∃A' c' W',(JaY #[23,23] 23 #[γ A n c,γ (ζ ⟨W.heap.size,0,ε⟩) 1 1]).run η (W.alloc (δ (eC x).toArray 67))=.ok (γ A' (n+1) c') W'∧Ow w lo 67 4 (γ A' (n+1) c') (n+1) (ao eC (T++[x])) W'∧σ lo W W':=by
 obtain⟨i,hi,nz,j7,kZ⟩:=a6 jB;obtain⟨v',W',bL,ho,hb⟩:=Ow.app (P:=η) 23 23 67 i _ 4 40 lo Tryz.underlying23 hi nz j7 kZ rfl (by decide) _ _ _ (fu.up (ax W (δ (eC x).toArray 67))) _ _ 1 1 _ (aS.of_whole (Whole.new_ W 67 (eC x)) rfl) (qg x) (by unfold Jap;omega) (by omega);rw[show ao eC T++eC x=ao eC (T++[x]) by rw[bX];simp[ao]] at ho;obtain⟨A',c',rfl,-⟩:=ho.rds;exact⟨A',c',W',bL,ho,((ax W _).mono fu.hi).trans hb⟩
theorem xc {W:ο} {A:Option Κ} {n c:Nat} {Vs:List VC} {B:Option Κ} {m k:Nat} {Es:List EC} (h:aO W A n c Vs B m k Es) (x:VC) (hn:n≤1000):
 Ζ η 46 #[φ #[γ A n c,γ B m k],φ (vC x).toArray] W fun e w'=>∃A' n' c',e=.returned (φ #[γ A' n' c',γ B m k])∧aS w' w'.heap.size 5 A' n' c' (ao vC (fp (fun v:VC=>v.1) Vs x))∧c'≤Jap∧σ W.heap.size W w':=by
 obtain⟨iv,TP,JY,Jt,Kq⟩:=a6 gU;have H:=qh h.v;have HL:=qh (h.v.rlen aN (by decide));clear h;go_enter Tryz.func46,Tryz.ntmps46;go_upto_region 1 with fail
 obtain⟨W0,b0,b1,b2,bJ,bS,cJ,dA,aR,aQ,bj,bn,-,-,j4,-,fD,-,a8,kY,mJ,ni⟩:=jm W 25 [γ A n c,γ B m k] 59 (vC x) 25 [γ ε 0 0,γ ε 0 0];rw[bJ,dA,cJ,bS];clear bJ bS cJ dA;have c0:=aR.out.cell (i:=1) rfl;go_upto_region 2 with fail
 have cY:=qh (aF bn.out (δ #[γ ε 0 0,γ B m k] 25));have HX:Hid (Bx (W0.alloc (δ #[γ ε 0 0,γ B m k] 25)) [(b0,25,[γ A n c,γ B m k]),(b1,59,vC x),(b2,25,[γ ε 0 0,γ ε 0 0])]):=qh ⟨aR.out.al _,aQ.out.al _,bj.out.al _,trivial⟩;have H3:=qh (Whole.new_ W0 25 [γ ε 0 0,γ B m k])
 have sG:Hid (∀p∈[(b0,25,[γ A n c,γ B m k]),(b1,59,vC x),(b2,25,[γ ε 0 0,γ ε 0 0])],p.1<W0.heap.size+1∧p.1≠W0.heap.size):=qh (fun p hp=>by
  have h0:=aR.out.lt;have h1:=aQ.out.lt;have h2:=bj.out.lt;simp only[Η,Jbh,or_false] at hp;rcases hp with rfl|rfl|rfl
  ·exact⟨by show b0<_;omega,by show b0≠_;omega⟩
  ·exact⟨by show b1<_;omega,by show b1≠_;omega⟩
  ·exact⟨by show b2<_;omega,by show b2≠_;omega⟩)
 have H9:Hid (Ow W (W0.heap.size+1) 59 5 (γ ε 0 0) 0 (ao vC []) (W0.alloc (δ #[γ ε 0 0,γ B m k] 25))):=qh ⟨World.ownsRow_nil _ _ _ _,cY.out,Λ bn.out.size (Nat.le_succ _),by simp⟩;have LW:Hid (W.heap.size≤W0.heap.size+1):=qh (Λ bn.out.size (Nat.le_succ _));have la:Hid (W.heap.size≤W0.heap.size):=qh bn.out.size;have L3:Hid (W0.heap.size<W0.heap.size+1):=qh (Nat.lt_succ_self _);obtain⟨lo,xK⟩:=az (W0.heap.size+1);obtain⟨w3,qK⟩:=az (W0.alloc (δ #[γ ε 0 0,γ B m k] 25));obtain⟨b3,oR⟩:=az W0.heap.size;rw[qK] at HX H3 H9 ⊢;rw[xK] at sG H9 LW L3;rw[oR] at H3 sG la L3 ⊢;have lD:Hid (fp (fun v:VC=>v.1) Vs x=[]++oU (fun v:VC=>v.1) x ρ (Vs.drop 0)):=qh (yr _ _ _).symm;clear qK xK oR aR aQ bj bn cY c0;have L2:Hid (b2<lo):=qh (sG.out (b2,25,[γ ε 0 0,γ ε 0 0]) (by simp)).1;go_upto_region 4 with fail
 go_loopw [6,7] (fun vp vi wr=>∃(j:Nat) (p:Bool) (A2:Option Κ) (n2 c2:Nat) (T:List VC),j≤n∧n2≤j+1∧(p=ρ→n2≤j)∧vp=Β p∧vi=J (j:Int)∧Hid (Bx wr [(b0,25,[γ A n c,γ B m k]),(b1,59,vC x),(b2,25,[γ ε 0 0,γ ε 0 0])])∧Hid (Whole wr b3 25 [γ A2 n2 c2,γ B m k])∧Hid (Ow W lo 59 5 (γ A2 n2 c2) n2 (ao vC T) wr)∧Hid (fp (fun v:VC=>v.1) Vs x=T++oU (fun v:VC=>v.1) x p (Vs.drop j))) (fun _ vi _=>n - (intOf vi).toNat)
 case atStart=>exact⟨0,ρ,ε,0,0,[],Jas _,Jas _,fun _=>Jas _,rfl,rfl,HX,H3,H9,lD⟩
 case round=>
  clear HX H3 H9 lD;obtain⟨j,p,A2,n2,c2,T,hj,Fi,sM,rfl,rfl,HX,H3,HO,HN⟩:=hrel;obtain⟨wo,dB⟩:=az wr;rw[dB] at HX H3 HO ⊢;clear dB;have c0:=HX.out.1.cell (i:=0) rfl
  by_cases nF:j<n
  ·have qd:(j:Int)<(n:Int):=by omega
   obtain⟨y,hy⟩:∃y,Vs[j]? =ζ y:=⟨_,θ (by have:=HL.out;omega)⟩
   have p7:Hid (fp (fun v:VC=>v.1) Vs x=T++((if p=ρ∧eN x.1 y.1<0 then[x] else[])++(y::oU (fun v:VC=>v.1) x (p||decide (eN x.1 y.1<0)) (Vs.drop (j+1))))):=qh (by
    have:=HN.out
    rw[Χ (ν.1 hy).1,(ν.1 hy).2] at this;exact this)
   obtain⟨bb,off,rfl,bZ,bD⟩:=H.out.place aN (by decide) (by omega);have Yv:=qh (by have q:=bD j _ hy 0 _ rfl;simp only[Ν,Jac] at q;exact q);have Yw:=qh (by have q:=bD j _ hy 1 _ rfl;simp only[Ν,Jac] at q;exact q);have HP:=qh (bD j _ hy);obtain⟨o,go⟩:=az (eN x.1 y.1);have HOr:Hid (∀X,Ζ η 71 #[φ #[J x.1.1,J x.1.2],φ #[J y.1.1,J y.1.2]] X fun e w'=>e=.returned (J o)∧σ X.heap.size X w'):=qh (fun X=>go▸qo x.1.1 x.1.2 y.1.1 y.1.2 X);rw[go] at p7;clear hy bD go HN;go_upto_region 6 with fail
   go_cut [31] (fun v z=>∃b:Bool,v=Β b∧Hid (b=(!p && decide (o<0)))∧Hid (σ wo.heap.size wo z))
   case first=>
    clear c0;cases p with
    |true=>
     refine aw (aT) (by kernel_rfl) ?_;refine aq 0 ?_;refine aq 1 ?_;refine aq 2 ?_;refine bP 3 ?_;refine bP 4 ?_;refine bP 5 ?_;refine bP 6 ?_;refine bP 7 ?_;refine bP 8 ?_;refine bP 9 ?_;refine bP 10 ?_;refine bP 11 ?_;refine bP 12 ?_;refine aq 13 ?_;refine aG (by kernel_rfl) ?_ _;intro w8 ch;go_wp2;go_meet;exact⟨ρ,rfl,qh rfl,qh (af (ba (Θ _ wo)) ch)⟩
    |false=>
     have BE:∀w',Kept aT wo.drew w'→w'.cell? ⟨b1,0,ε⟩=ζ (J x.1.1):=fun w' h=>h.nil_cell (HX.out.2.1.dr.cell (i:=0) rfl)
     have Ap:∀w',Kept aT wo.drew w'→w'.cell? ⟨b1,1,ε⟩=ζ (J x.1.2):=fun w' h=>h.nil_cell (HX.out.2.1.dr.cell (i:=1) rfl)
     have iM:∀w',Kept aT wo.drew w'→w'.cell? ⟨b0,0,ε⟩=ζ (γ (ζ ⟨bb,off,ε⟩) n c):=fun w' h=>h.nil_cell (HX.out.1.dr.cell (i:=0) rfl)
     have Xi:∀w',Kept aT wo.drew w'→w'.cell? ⟨bb,off+j*5,ε⟩=ζ (J y.1.1):=fun w' h=>h.nil_cell ((HO.out.below.cell (p:=⟨bb,off+j*5,ε⟩) bZ).trans Yv.out)
     have XZ:∀w',Kept aT wo.drew w'→w'.cell? ⟨bb,off+j*5+1,ε⟩=ζ (J y.1.2):=fun w' h=>h.nil_cell ((HO.out.below.cell (p:=⟨bb,off+j*5+1,ε⟩) bZ).trans Yw.out)
     refine aw (aT) (by kernel_rfl) ?_;refine aq 0 ?_;refine aq 1 ?_;refine aq 2 ?_;refine aq 3 ?_;refine aq 4 ?_;refine aq 5 ?_;refine aq 6 ?_;refine aq 7 ?_;refine aq 8 ?_;refine aq 9 ?_;refine aq 10 ?_;refine bN 11 (hy:=by apply cz;rfl;rotate_left;intro w' aC;exact HOr.out w';intro w';go_simp) (h:=?_);refine aq 12 ?_;refine aq 13 ?_;refine aG (by kernel_rfl) ?_ _;intro w8 ch;go_wp2;go_meet;exact⟨decide (o<0),rfl,qh (by simp),qh (af (ba (Θ _ wo)) ch)⟩
   case rest=>
    obtain⟨b,rfl,hb,hz⟩:=hcut;have nI:=qh (HO.out.up hz.out);have mK:=qh (HX.out.up hz.out);have tS:=qh (H3.out.bl hz.out)
    have QY:b=τ→p=ρ:=fun h=>by
     have e:=hb.out;rw[h] at e;cases p with
     |true=>cases e
     |false=>rfl
    have JP:Hid (fp (fun v:VC=>v.1) Vs x=(T++if b=τ then[x] else[])++(y::oU (fun v:VC=>v.1) x (p||b) (Vs.drop (j+1)))):=qh (by
     have e:=hb.out;have h:=p7.out;cases p with
     |true=>
      rw[e,h,if_neg (by simp)];simp
     |false=>
      by_cases ho:o<0
      ·rw[if_pos ⟨rfl,ho⟩] at h;rw[e,h,decide_eq_true ho];simp
      ·rw[if_neg (fun q=>ho q.2)] at h;rw[e,h,decide_eq_false ho];simp)
    clear hz hb p7 HO HX H3 HOr c0;go_upto_if 31 with fail
    go_cut [6] (fun vp z=>∃(A3:Option Κ) (n3 c3:Nat) (T3:List VC),vp=Β (p||b)∧n3≤j+1∧((p||b)=ρ→n3≤j)∧Hid (Bx z [(b0,25,[γ (ζ ⟨bb,off,ε⟩) n c,γ B m k]),(b1,59,vC x),(b2,25,[γ ε 0 0,γ ε 0 0])])∧Hid (Whole z b3 25 [γ A3 n3 c3,γ B m k])∧Hid (Ow W lo 59 5 (γ A3 n3 c3) n3 (ao vC T3) z)∧Hid (fp (fun v:VC=>v.1) Vs x=T3++(y::oU (fun v:VC=>v.1) x (p||b) (Vs.drop (j+1)))))
    case first=>
     cases b with
     |false=>
      have DP:=JP;go_wp2_with fail
      go_meet;exact⟨A2,n2,c2,T,by simp,Fi,(fun h=>sM (by simpa using h)),mK,tS,nI,qh (by have:=DP.out;simpa using this)⟩
     |true=>
      have Zy:=QY rfl;subst Zy;have aaC:=sM rfl;clear QY sM;obtain⟨A3,c3,W3,bL,wC,bw⟩:=PB nI.out x (by omega);have j0:=qh wC;have lR:=qh (tS.out.at_ (bw.block _ L3.out));have ff:=qh (Bx.gr bw mK.out (fun p hp=>(sG.out p hp).1));clear wC bw;have k0:=tS.out.cell (i:=0) rfl;go_upto_region 7 with fail
      refine Jam ?_;refine ag (v:=?_) (ζ 32) rfl (by rfl) ?_ ?_;rotate_left
      ·go_simp;(try with_reducible rfl)
      simp only[ξ,ak,aj,ah];refine ag (v:=?_) (ζ 33) rfl (by rfl) ?_ ?_;rotate_left
      ·go_simp;(try with_reducible rfl)
      simp only[ξ,ak,aj,ah];refine bh (ζ 34) rfl (by rfl) 59 (.tmp 3) rfl b1 rfl 59 (vC x) _ mK.out.2.1 Tryz.underlying59 rfl (by kernel_rfl) ?_;simp only[ξ,ak,aj,ah];clear k0;refine cZ (ζ 35) rfl (by rfl) 22 59 1 #[(0,.tmp 34)] (by rfl) Tryz.underlying22 (vC x).toArray (by kernel_rfl) ?_;simp only[ξ,ak,aj,ah];refine jA (ζ 36) rfl (by rfl) (bV (by rfl) (by rfl) (by rfl) bL) ?_;simp only[ξ,ak,aj,ah];clear bL;have k1:=lR.out.cell (i:=0) rfl;have f1:=lR.out.free 0;go_upto_region 8 with fail
      have kr:=qh (j0.out.set_far (j0.out.low_ne L3.out) la.out (γ A3 (n2+1) c3) (i:=0));have vX:=qh (lR.out.set_ 0 (γ A3 (n2+1) c3));have dQ:=qh (Bx.st (γ A3 (n2+1) c3) (i:=0) ff.out (fun p hp=>(sG.out p hp).2));clear j0 lR ff k1 f1;obtain⟨W5,tA⟩:=az (W3.setCell ⟨b3,0,ε⟩ (γ A3 (n2+1) c3));rw[tA] at kr vX dQ ⊢;clear tA;have DP:=JP;go_wp2_with fail
      go_meet;exact⟨A3,n2+1,c3,T++[x],rfl,by omega,(fun h=>by cases h),dQ,vX,kr,qh (by have:=DP.out;simpa using this)⟩
    case rest=>
     obtain⟨A2,n2,c2,T,rfl,Fi,sM,HX,H3,HO,ug⟩:=hcut;obtain⟨wo,dB⟩:=az wc;rw[dB] at HX H3 HO ⊢;clear dB JP nI mK tS QY;obtain⟨p2,OR⟩:=az ((p||b));rw[OR] at ug sM ⊢;clear OR;go_upto_region 9 with fail
     have iM:∀w',Kept (dS lo) wo.drew w'→w'.cell? ⟨b3,0,ε⟩=ζ (γ A2 n2 c2):=fun w' hk=>hk.from_cell L3.out (H3.out.dr.cell (i:=0) rfl)
     have ld1:∀w',Kept (dS lo) wo.drew w'→w'.cell? ⟨b0,0,ε⟩=ζ (γ (ζ ⟨bb,off,ε⟩) n c):=fun w' hk=>hk.from_cell (sG.out _ Jai).1 (HX.out.1.dr.cell (i:=0) rfl)
     have FF:Hid (∀w',Kept (dS lo) wo.drew w'→∀i u,(vC y)[i]? =ζ u→w'.cell? ((⟨bb,off+j*5,ε⟩:Κ).add i)=ζ u):=qh (fun w' hk i u hu=>hk.from_cell (by rw[cA];exact JaK bZ LW.out) ((HO.out.below.cell (by rw[cA];exact bZ)).trans (HP.out i u hu)));refine bK (dS lo) [10] (by kernel_rfl) ?_;refine bm 0 ?_;refine bm 1 ?_;refine bm 2 ?_;refine bm 3 ?_;refine bm 4 ?_;refine bm 5 ?_;refine fw 6 (hy:=bA (by rfl) 59 (.tmp 43) rfl ⟨bb,off+j*5,ε⟩ rfl (vC y) _ FF.out Tryz.underlying59 rfl (by kernel_rfl)) (h:=?_);refine lG 7 ?_;intro w' aC
     refine⟨γ (ζ ⟨w'.heap.size,0,ε⟩) 1 1,w'.alloc (δ (vC y).toArray 59),dV 22 59 1 #[(0,.tmp 44)] (by rfl) Tryz.underlying22 _ (by kernel_rfl),Kept.of_below (ax _ _),?_⟩
     have wE:Hid (Ext wo.drew (w'.alloc (δ (vC y).toArray 59))):=qh (Ext.trans aC (ax _ _));have jD:Hid (aS (w'.alloc (δ (vC y).toArray 59)) (w'.alloc (δ (vC y).toArray 59)).heap.size 5 (ζ ⟨w'.heap.size,0,ε⟩) 1 1 (vC y)):=qh (aS.of_whole (Whole.new_ _ _ _) rfl);obtain⟨V3,xi⟩:=az (w'.alloc (δ (vC y).toArray 59));obtain⟨g3,Eo⟩:=az w'.heap.size;rw[xi] at wE jD ⊢;rw[Eo] at jD ⊢;clear aC xi Eo;simp only[ξ,ak,aj,ah];refine lG 8 ?_;intro w' aC;have hx:=(Θ wo.heap.size wo).drew.trans (Ext.trans wE.out aC);obtain⟨v8,cD,bL,ho,pI⟩:=Ow.app (P:=η) 22 22 59 iv _ 5 64 lo Tryz.underlying22 TP JY Jt Kq rfl (by decide) _ _ _ (HO.out.up hx) _ _ 1 1 _ (jD.out.bl aC) (j3 y) (by unfold Jap;omega) (by omega);rw[show ao vC T++vC y=ao vC (T++[y]) by rw[bX];simp[ao]] at ho;obtain⟨A3,c3,rfl,-⟩:=ho.rds
     refine⟨_,cD,bV (by rfl) (by rfl) (by rfl) bL,Kept.of_from pI,?_⟩
     have j0:=qh ho;have lR:=qh ((H3.out.bl hx).at_ (pI.block _ L3.out));have ff:=qh (Bx.gr pI (HX.out.up hx) (fun p hp=>(sG.out p hp).1));obtain⟨V4,II⟩:=az cD;rw[II] at j0 lR ff ⊢;clear aC hx bL ho pI II wE jD;simp only[ξ,ak,aj,ah];refine bm 9 ?_;refine lA 10 ?_;intro w' aC;have tN:=(lR.out.bl aC).cell (i:=0) rfl;have rF:=(lR.out.bl aC).free 0
     refine⟨w'.setCell ⟨b3,0,ε⟩ (γ A3 (n2+1) c3),?_,?_⟩
     ·go_simp;first|done|exact rfl
     have nI:=qh ((j0.out.up aC).set_far ((j0.out.up aC).low_ne L3.out) la.out (γ A3 (n2+1) c3) (i:=0));have tS:=qh ((lR.out.bl aC).set_ 0 (γ A3 (n2+1) c3));have mK:=qh (Bx.st (γ A3 (n2+1) c3) (i:=0) (ff.out.up aC) (fun p hp=>(sG.out p hp).2));obtain⟨V5,rb⟩:=az (w'.setCell ⟨b3,0,ε⟩ (γ A3 (n2+1) c3));rw[rb] at nI tS mK ⊢;clear aC tN rF rb j0 lR ff;(try simp only[ξ,ak,aj,ah]);refine eU (by kernel_rfl) ?_ _;intro w8 ch;have Bp:=qh (nI.out.up ch);have xq:=qh (mK.out.up ch);have RB:=qh (tS.out.bl ch);have uL:Hid (fp (fun v:VC=>v.1) Vs x=(T++[y])++oU (fun v:VC=>v.1) x p2 (Vs.drop (j+1))):=qh (by rw[ug.out];simp);clear ch HO HX H3 nI mK tS iM ld1 FF ug;go_wp2;go_roundw
     case rel=>exact⟨j+1,p2,A3,n2+1,c3,T++[y],by omega,by omega,(fun h=>by have:=sM h;omega),rfl,by go_num,xq,RB,Bp,uL⟩
     case measure=>simp[intOf];omega
  ·obtain rfl:n=j:=by omega
   have hN:=HN.out;rw[Jak (by have:=HL.out;omega)] at hN;cases p with
   |true=>
    have HT:Hid (fp (fun v:VC=>v.1) Vs x=T):=qh (by rw[hN];show T++(if τ=τ then[] else[x])=T;simp);have z0:=HX.out.2.2.1.cell (i:=0) rfl;have z1:=HX.out.2.2.1.cell (i:=1) rfl;have y0:=HX.out.2.2.1.free 0;have y1:=HX.out.2.2.1.free 1;have k0:=H3.out.cell (i:=0) rfl;have k1:=H3.out.cell (i:=1) rfl;clear hN HN;have bQ:=HO.out.low_ne L2.out;go_wp2;exact bz rfl b2 rfl ((HX.out.2.2.1.set_ 0 _).set_ 1 _) Tryz.underlying25 rfl (by kernel_rfl) rfl ⟨A2,n2,c2,rfl,by rw[HT.out];exact bk ((HO.out.set_far bQ a8.out _ (i:=0)).set_far bQ a8.out _ (i:=1)).own,fV HO.out.own,(HO.out.below.setCell (p:=⟨b2,0,ε⟩) a8.out _).setCell (p:=⟨b2,1,ε⟩) a8.out _⟩
   |false=>
    have HT:Hid (fp (fun v:VC=>v.1) Vs x=T++[x]):=qh (by rw[hN];rfl);clear hN HN;obtain⟨A3,c3,W3,bL,wC,bw⟩:=PB HO.out x (by omega);have j0:=qh wC;have lR:=qh (H3.out.at_ (bw.block _ L3.out));have ff:=qh (Bx.gr bw HX.out (fun p hp=>(sG.out p hp).1));clear wC bw;have k0:=H3.out.cell (i:=0) rfl;go_upto_region 11 with fail
    refine Jam ?_;refine ag (v:=?_) (ζ 50) rfl (by rfl) ?_ ?_;rotate_left
    ·go_simp;(try with_reducible rfl)
    simp only[ξ,ak,aj,ah];refine ag (v:=?_) (ζ 51) rfl (by rfl) ?_ ?_;rotate_left
    ·go_simp;(try with_reducible rfl)
    simp only[ξ,ak,aj,ah];refine bh (ζ 52) rfl (by rfl) 59 (.tmp 3) rfl b1 rfl 59 (vC x) _ HX.out.2.1 Tryz.underlying59 rfl (by kernel_rfl) ?_;simp only[ξ,ak,aj,ah];clear k0;refine cZ (ζ 53) rfl (by rfl) 22 59 1 #[(0,.tmp 52)] (by rfl) Tryz.underlying22 (vC x).toArray (by kernel_rfl) ?_;simp only[ξ,ak,aj,ah];refine jA (ζ 54) rfl (by rfl) (bV (by rfl) (by rfl) (by rfl) bL) ?_;simp only[ξ,ak,aj,ah];clear bL;have k1:=lR.out.cell (i:=0) rfl;have f1:=lR.out.free 0;go_upto_region 12 with fail
    have kr:=qh (j0.out.set_far (j0.out.low_ne L3.out) la.out (γ A3 (n2+1) c3) (i:=0));have vX:=qh (lR.out.set_ 0 (γ A3 (n2+1) c3));have dQ:=qh (Bx.st (γ A3 (n2+1) c3) (i:=0) ff.out (fun p hp=>(sG.out p hp).2));clear j0 lR ff k1 f1;obtain⟨W5,tA⟩:=az (W3.setCell ⟨b3,0,ε⟩ (γ A3 (n2+1) c3));rw[tA] at kr vX dQ ⊢;clear tA;have z0:=dQ.out.2.2.1.cell (i:=0) rfl;have z1:=dQ.out.2.2.1.cell (i:=1) rfl;have y0:=dQ.out.2.2.1.free 0;have bQ:=kr.out.low_ne L2.out;have y1:=dQ.out.2.2.1.free 1;have k0:=vX.out.cell (i:=0) rfl;have k1:=vX.out.cell (i:=1) rfl;go_wp2;exact bz rfl b2 rfl ((dQ.out.2.2.1.set_ 0 _).set_ 1 _) Tryz.underlying25 rfl (by kernel_rfl) rfl ⟨A3,n2+1,c3,rfl,by rw[HT.out];exact bk ((kr.out.set_far bQ a8.out _ (i:=0)).set_far bQ a8.out _ (i:=1)).own,fV kr.out.own,(kr.out.below.setCell (p:=⟨b2,0,ε⟩) a8.out _).setCell (p:=⟨b2,1,ε⟩) a8.out _⟩
theorem xI {W:ο} {A:Option Κ} {n c:Nat} {Vs:List VC} {B:Option Κ} {m k:Nat} {Es:List EC} (h:aO W A n c Vs B m k Es) (x:EC) (hn:m≤1000):
 Ζ η 73 #[φ #[γ A n c,γ B m k],φ (eC x).toArray] W fun e w'=>∃A' n' c',e=.returned (φ #[γ A n c,γ A' n' c'])∧aS w' w'.heap.size 4 A' n' c' (ao eC (fp (fun v:EC=>v.1) Es x))∧c'≤Jap∧σ W.heap.size W w':=by
 obtain⟨iv,TP,JY,Jt,Kq⟩:=a6 jB;have H:=qh h.e;have HL:=qh (h.e.rlen cM (by decide));clear h;go_enter Tryz.func73,Tryz.ntmps73;go_upto_region 1 with fail
 obtain⟨W0,b0,b1,b2,bJ,bS,cJ,dA,aR,aQ,bj,bn,-,-,j4,-,fD,-,a8,kY,mJ,ni⟩:=jm W 25 [γ A n c,γ B m k] 67 (eC x) 25 [γ ε 0 0,γ ε 0 0];rw[bJ,dA,cJ,bS];clear bJ bS cJ dA;have c0:=aR.out.cell (i:=0) rfl;go_upto_region 2 with fail
 have cY:=qh (aF bn.out (δ #[γ A n c,γ ε 0 0] 25));have HX:Hid (Bx (W0.alloc (δ #[γ A n c,γ ε 0 0] 25)) [(b0,25,[γ A n c,γ B m k]),(b1,67,eC x),(b2,25,[γ ε 0 0,γ ε 0 0])]):=qh ⟨aR.out.al _,aQ.out.al _,bj.out.al _,trivial⟩;have H3:=qh (Whole.new_ W0 25 [γ A n c,γ ε 0 0])
 have sG:Hid (∀p∈[(b0,25,[γ A n c,γ B m k]),(b1,67,eC x),(b2,25,[γ ε 0 0,γ ε 0 0])],p.1<W0.heap.size+1∧p.1≠W0.heap.size):=qh (fun p hp=>by
  have h0:=aR.out.lt;have h1:=aQ.out.lt;have h2:=bj.out.lt;simp only[Η,Jbh,or_false] at hp;rcases hp with rfl|rfl|rfl
  ·exact⟨by show b0<_;omega,by show b0≠_;omega⟩
  ·exact⟨by show b1<_;omega,by show b1≠_;omega⟩
  ·exact⟨by show b2<_;omega,by show b2≠_;omega⟩)
 have H9:Hid (Ow W (W0.heap.size+1) 67 4 (γ ε 0 0) 0 (ao eC []) (W0.alloc (δ #[γ A n c,γ ε 0 0] 25))):=qh ⟨World.ownsRow_nil _ _ _ _,cY.out,Λ bn.out.size (Nat.le_succ _),by simp⟩;have LW:Hid (W.heap.size≤W0.heap.size+1):=qh (Λ bn.out.size (Nat.le_succ _));have la:Hid (W.heap.size≤W0.heap.size):=qh bn.out.size;have L3:Hid (W0.heap.size<W0.heap.size+1):=qh (Nat.lt_succ_self _);obtain⟨lo,xK⟩:=az (W0.heap.size+1);obtain⟨w3,qK⟩:=az (W0.alloc (δ #[γ A n c,γ ε 0 0] 25));obtain⟨b3,oR⟩:=az W0.heap.size;rw[qK] at HX H3 H9 ⊢;rw[xK] at sG H9 LW L3;rw[oR] at H3 sG la L3 ⊢;have lD:Hid (fp (fun v:EC=>v.1) Es x=[]++oU (fun v:EC=>v.1) x ρ (Es.drop 0)):=qh (yr _ _ _).symm;clear qK xK oR aR aQ bj bn cY c0;have L2:Hid (b2<lo):=qh (sG.out (b2,25,[γ ε 0 0,γ ε 0 0]) (by simp)).1;go_upto_region 4 with fail
 go_loopw [6,7] (fun vp vi wr=>∃(j:Nat) (p:Bool) (A2:Option Κ) (n2 c2:Nat) (T:List EC),j≤m∧n2≤j+1∧(p=ρ→n2≤j)∧vp=Β p∧vi=J (j:Int)∧Hid (Bx wr [(b0,25,[γ A n c,γ B m k]),(b1,67,eC x),(b2,25,[γ ε 0 0,γ ε 0 0])])∧Hid (Whole wr b3 25 [γ A n c,γ A2 n2 c2])∧Hid (Ow W lo 67 4 (γ A2 n2 c2) n2 (ao eC T) wr)∧Hid (fp (fun v:EC=>v.1) Es x=T++oU (fun v:EC=>v.1) x p (Es.drop j))) (fun _ vi _=>m - (intOf vi).toNat)
 case atStart=>exact⟨0,ρ,ε,0,0,[],Jas _,Jas _,fun _=>Jas _,rfl,rfl,HX,H3,H9,lD⟩
 case round=>
  clear HX H3 H9 lD;obtain⟨j,p,A2,n2,c2,T,hj,Fi,sM,rfl,rfl,HX,H3,HO,HN⟩:=hrel;obtain⟨wo,dB⟩:=az wr;rw[dB] at HX H3 HO ⊢;clear dB;have c0:=HX.out.1.cell (i:=1) rfl
  by_cases nF:j<m
  ·have qd:(j:Int)<(m:Int):=by omega
   obtain⟨y,hy⟩:∃y,Es[j]? =ζ y:=⟨_,θ (by have:=HL.out;omega)⟩
   have p7:Hid (fp (fun v:EC=>v.1) Es x=T++((if p=ρ∧eN x.1 y.1<0 then[x] else[])++(y::oU (fun v:EC=>v.1) x (p||decide (eN x.1 y.1<0)) (Es.drop (j+1))))):=qh (by
    have:=HN.out
    rw[Χ (ν.1 hy).1,(ν.1 hy).2] at this;exact this)
   obtain⟨bb,off,rfl,bZ,bD⟩:=H.out.place cM (by decide) (by omega);have Yv:=qh (by have q:=bD j _ hy 0 _ rfl;simp only[Ν,Jac] at q;exact q);have Yw:=qh (by have q:=bD j _ hy 1 _ rfl;simp only[Ν,Jac] at q;exact q);have HP:=qh (bD j _ hy);obtain⟨o,go⟩:=az (eN x.1 y.1);have HOr:Hid (∀X,Ζ η 71 #[φ #[J x.1.1,J x.1.2],φ #[J y.1.1,J y.1.2]] X fun e w'=>e=.returned (J o)∧σ X.heap.size X w'):=qh (fun X=>go▸qo x.1.1 x.1.2 y.1.1 y.1.2 X);rw[go] at p7;clear hy bD go HN;go_upto_region 6 with fail
   go_cut [31] (fun v z=>∃b:Bool,v=Β b∧Hid (b=(!p && decide (o<0)))∧Hid (σ wo.heap.size wo z))
   case first=>
    clear c0;cases p with
    |true=>
     refine aw (aT) (by kernel_rfl) ?_;refine aq 0 ?_;refine aq 1 ?_;refine aq 2 ?_;refine bP 3 ?_;refine bP 4 ?_;refine bP 5 ?_;refine bP 6 ?_;refine bP 7 ?_;refine bP 8 ?_;refine bP 9 ?_;refine bP 10 ?_;refine bP 11 ?_;refine bP 12 ?_;refine aq 13 ?_;refine aG (by kernel_rfl) ?_ _;intro w8 ch;go_wp2;go_meet;exact⟨ρ,rfl,qh rfl,qh (af (ba (Θ _ wo)) ch)⟩
    |false=>
     have BE:∀w',Kept aT wo.drew w'→w'.cell? ⟨b1,0,ε⟩=ζ (J x.1.1):=fun w' h=>h.nil_cell (HX.out.2.1.dr.cell (i:=0) rfl)
     have Ap:∀w',Kept aT wo.drew w'→w'.cell? ⟨b1,1,ε⟩=ζ (J x.1.2):=fun w' h=>h.nil_cell (HX.out.2.1.dr.cell (i:=1) rfl)
     have iM:∀w',Kept aT wo.drew w'→w'.cell? ⟨b0,1,ε⟩=ζ (γ (ζ ⟨bb,off,ε⟩) m k):=fun w' h=>h.nil_cell (HX.out.1.dr.cell (i:=1) rfl)
     have Xi:∀w',Kept aT wo.drew w'→w'.cell? ⟨bb,off+j*4,ε⟩=ζ (J y.1.1):=fun w' h=>h.nil_cell ((HO.out.below.cell (p:=⟨bb,off+j*4,ε⟩) bZ).trans Yv.out)
     have XZ:∀w',Kept aT wo.drew w'→w'.cell? ⟨bb,off+j*4+1,ε⟩=ζ (J y.1.2):=fun w' h=>h.nil_cell ((HO.out.below.cell (p:=⟨bb,off+j*4+1,ε⟩) bZ).trans Yw.out)
     refine aw (aT) (by kernel_rfl) ?_;refine aq 0 ?_;refine aq 1 ?_;refine aq 2 ?_;refine aq 3 ?_;refine aq 4 ?_;refine aq 5 ?_;refine aq 6 ?_;refine aq 7 ?_;refine aq 8 ?_;refine aq 9 ?_;refine aq 10 ?_;refine bN 11 (hy:=by apply cz;rfl;rotate_left;intro w' aC;exact HOr.out w';intro w';go_simp) (h:=?_);refine aq 12 ?_;refine aq 13 ?_;refine aG (by kernel_rfl) ?_ _;intro w8 ch;go_wp2;go_meet;exact⟨decide (o<0),rfl,qh (by simp),qh (af (ba (Θ _ wo)) ch)⟩
   case rest=>
    obtain⟨b,rfl,hb,hz⟩:=hcut;have nI:=qh (HO.out.up hz.out);have mK:=qh (HX.out.up hz.out);have tS:=qh (H3.out.bl hz.out)
    have QY:b=τ→p=ρ:=fun h=>by
     have e:=hb.out;rw[h] at e;cases p with
     |true=>cases e
     |false=>rfl
    have JP:Hid (fp (fun v:EC=>v.1) Es x=(T++if b=τ then[x] else[])++(y::oU (fun v:EC=>v.1) x (p||b) (Es.drop (j+1)))):=qh (by
     have e:=hb.out;have h:=p7.out;cases p with
     |true=>
      rw[e,h,if_neg (by simp)];simp
     |false=>
      by_cases ho:o<0
      ·rw[if_pos ⟨rfl,ho⟩] at h;rw[e,h,decide_eq_true ho];simp
      ·rw[if_neg (fun q=>ho q.2)] at h;rw[e,h,decide_eq_false ho];simp)
    clear hz hb p7 HO HX H3 HOr c0;go_upto_if 31 with fail
    go_cut [6] (fun vp z=>∃(A3:Option Κ) (n3 c3:Nat) (T3:List EC),vp=Β (p||b)∧n3≤j+1∧((p||b)=ρ→n3≤j)∧Hid (Bx z [(b0,25,[γ A n c,γ (ζ ⟨bb,off,ε⟩) m k]),(b1,67,eC x),(b2,25,[γ ε 0 0,γ ε 0 0])])∧Hid (Whole z b3 25 [γ A n c,γ A3 n3 c3])∧Hid (Ow W lo 67 4 (γ A3 n3 c3) n3 (ao eC T3) z)∧Hid (fp (fun v:EC=>v.1) Es x=T3++(y::oU (fun v:EC=>v.1) x (p||b) (Es.drop (j+1)))))
    case first=>
     cases b with
     |false=>
      have DP:=JP;go_wp2_with fail
      go_meet;exact⟨A2,n2,c2,T,by simp,Fi,(fun h=>sM (by simpa using h)),mK,tS,nI,qh (by have:=DP.out;simpa using this)⟩
     |true=>
      have Zy:=QY rfl;subst Zy;have aaC:=sM rfl;clear QY sM;obtain⟨A3,c3,W3,bL,wC,bw⟩:=pushE nI.out x (by omega);have j0:=qh wC;have lR:=qh (tS.out.at_ (bw.block _ L3.out));have ff:=qh (Bx.gr bw mK.out (fun p hp=>(sG.out p hp).1));clear wC bw;have k0:=tS.out.cell (i:=1) rfl;go_upto_region 7 with fail
      refine Jam ?_;refine ag (v:=?_) (ζ 32) rfl (by rfl) ?_ ?_;rotate_left
      ·go_simp;(try with_reducible rfl)
      simp only[ξ,ak,aj,ah];refine ag (v:=?_) (ζ 33) rfl (by rfl) ?_ ?_;rotate_left
      ·go_simp;(try with_reducible rfl)
      simp only[ξ,ak,aj,ah];refine bh (ζ 34) rfl (by rfl) 67 (.tmp 3) rfl b1 rfl 67 (eC x) _ mK.out.2.1 Tryz.underlying67 rfl (by kernel_rfl) ?_;simp only[ξ,ak,aj,ah];clear k0;refine cZ (ζ 35) rfl (by rfl) 23 67 1 #[(0,.tmp 34)] (by rfl) Tryz.underlying23 (eC x).toArray (by kernel_rfl) ?_;simp only[ξ,ak,aj,ah];refine jA (ζ 36) rfl (by rfl) (bV (by rfl) (by rfl) (by rfl) bL) ?_;simp only[ξ,ak,aj,ah];clear bL;have k1:=lR.out.cell (i:=1) rfl;have f1:=lR.out.free 1;go_upto_region 8 with fail
      have kr:=qh (j0.out.set_far (j0.out.low_ne L3.out) la.out (γ A3 (n2+1) c3) (i:=1));have vX:=qh (lR.out.set_ 1 (γ A3 (n2+1) c3));have dQ:=qh (Bx.st (γ A3 (n2+1) c3) (i:=1) ff.out (fun p hp=>(sG.out p hp).2));clear j0 lR ff k1 f1;obtain⟨W5,tA⟩:=az (W3.setCell ⟨b3,1,ε⟩ (γ A3 (n2+1) c3));rw[tA] at kr vX dQ ⊢;clear tA;have DP:=JP;go_wp2_with fail
      go_meet;exact⟨A3,n2+1,c3,T++[x],rfl,by omega,(fun h=>by cases h),dQ,vX,kr,qh (by have:=DP.out;simpa using this)⟩
    case rest=>
     obtain⟨A2,n2,c2,T,rfl,Fi,sM,HX,H3,HO,ug⟩:=hcut;obtain⟨wo,dB⟩:=az wc;rw[dB] at HX H3 HO ⊢;clear dB JP nI mK tS QY;obtain⟨p2,OR⟩:=az ((p||b));rw[OR] at ug sM ⊢;clear OR;go_upto_region 9 with fail
     have iM:∀w',Kept (dS lo) wo.drew w'→w'.cell? ⟨b3,1,ε⟩=ζ (γ A2 n2 c2):=fun w' hk=>hk.from_cell L3.out (H3.out.dr.cell (i:=1) rfl)
     have ld1:∀w',Kept (dS lo) wo.drew w'→w'.cell? ⟨b0,1,ε⟩=ζ (γ (ζ ⟨bb,off,ε⟩) m k):=fun w' hk=>hk.from_cell (sG.out _ Jai).1 (HX.out.1.dr.cell (i:=1) rfl)
     have FF:Hid (∀w',Kept (dS lo) wo.drew w'→∀i u,(eC y)[i]? =ζ u→w'.cell? ((⟨bb,off+j*4,ε⟩:Κ).add i)=ζ u):=qh (fun w' hk i u hu=>hk.from_cell (by rw[cA];exact JaK bZ LW.out) ((HO.out.below.cell (by rw[cA];exact bZ)).trans (HP.out i u hu)));refine bK (dS lo) [10] (by kernel_rfl) ?_;refine bm 0 ?_;refine bm 1 ?_;refine bm 2 ?_;refine bm 3 ?_;refine bm 4 ?_;refine bm 5 ?_;refine fw 6 (hy:=bA (by rfl) 67 (.tmp 43) rfl ⟨bb,off+j*4,ε⟩ rfl (eC y) _ FF.out Tryz.underlying67 rfl (by kernel_rfl)) (h:=?_);refine lG 7 ?_;intro w' aC
     refine⟨γ (ζ ⟨w'.heap.size,0,ε⟩) 1 1,w'.alloc (δ (eC y).toArray 67),dV 23 67 1 #[(0,.tmp 44)] (by rfl) Tryz.underlying23 _ (by kernel_rfl),Kept.of_below (ax _ _),?_⟩
     have wE:Hid (Ext wo.drew (w'.alloc (δ (eC y).toArray 67))):=qh (Ext.trans aC (ax _ _));have jD:Hid (aS (w'.alloc (δ (eC y).toArray 67)) (w'.alloc (δ (eC y).toArray 67)).heap.size 4 (ζ ⟨w'.heap.size,0,ε⟩) 1 1 (eC y)):=qh (aS.of_whole (Whole.new_ _ _ _) rfl);obtain⟨V3,xi⟩:=az (w'.alloc (δ (eC y).toArray 67));obtain⟨g3,Eo⟩:=az w'.heap.size;rw[xi] at wE jD ⊢;rw[Eo] at jD ⊢;clear aC xi Eo;simp only[ξ,ak,aj,ah];refine lG 8 ?_;intro w' aC;have hx:=(Θ wo.heap.size wo).drew.trans (Ext.trans wE.out aC);obtain⟨v8,cD,bL,ho,pI⟩:=Ow.app (P:=η) 23 23 67 iv _ 4 40 lo Tryz.underlying23 TP JY Jt Kq rfl (by decide) _ _ _ (HO.out.up hx) _ _ 1 1 _ (jD.out.bl aC) (qg y) (by unfold Jap;omega) (by omega);rw[show ao eC T++eC y=ao eC (T++[y]) by rw[bX];simp[ao]] at ho;obtain⟨A3,c3,rfl,-⟩:=ho.rds
     refine⟨_,cD,bV (by rfl) (by rfl) (by rfl) bL,Kept.of_from pI,?_⟩
     have j0:=qh ho;have lR:=qh ((H3.out.bl hx).at_ (pI.block _ L3.out));have ff:=qh (Bx.gr pI (HX.out.up hx) (fun p hp=>(sG.out p hp).1));obtain⟨V4,II⟩:=az cD;rw[II] at j0 lR ff ⊢;clear aC hx bL ho pI II wE jD;simp only[ξ,ak,aj,ah];refine bm 9 ?_;refine lA 10 ?_;intro w' aC;have tN:=(lR.out.bl aC).cell (i:=1) rfl;have rF:=(lR.out.bl aC).free 1
     refine⟨w'.setCell ⟨b3,1,ε⟩ (γ A3 (n2+1) c3),?_,?_⟩
     ·go_simp;first|done|exact rfl
     have nI:=qh ((j0.out.up aC).set_far ((j0.out.up aC).low_ne L3.out) la.out (γ A3 (n2+1) c3) (i:=1));have tS:=qh ((lR.out.bl aC).set_ 1 (γ A3 (n2+1) c3));have mK:=qh (Bx.st (γ A3 (n2+1) c3) (i:=1) (ff.out.up aC) (fun p hp=>(sG.out p hp).2));obtain⟨V5,rb⟩:=az (w'.setCell ⟨b3,1,ε⟩ (γ A3 (n2+1) c3));rw[rb] at nI tS mK ⊢;clear aC tN rF rb j0 lR ff;(try simp only[ξ,ak,aj,ah]);refine eU (by kernel_rfl) ?_ _;intro w8 ch;have Bp:=qh (nI.out.up ch);have xq:=qh (mK.out.up ch);have RB:=qh (tS.out.bl ch);have uL:Hid (fp (fun v:EC=>v.1) Es x=(T++[y])++oU (fun v:EC=>v.1) x p2 (Es.drop (j+1))):=qh (by rw[ug.out];simp);clear ch HO HX H3 nI mK tS iM ld1 FF ug;go_wp2;go_roundw
     case rel=>exact⟨j+1,p2,A3,n2+1,c3,T++[y],by omega,by omega,(fun h=>by have:=sM h;omega),rfl,by go_num,xq,RB,Bp,uL⟩
     case measure=>simp[intOf];omega
  ·obtain rfl:m=j:=by omega
   have hN:=HN.out;rw[Jak (by have:=HL.out;omega)] at hN;cases p with
   |true=>
    have HT:Hid (fp (fun v:EC=>v.1) Es x=T):=qh (by rw[hN];show T++(if τ=τ then[] else[x])=T;simp);have z0:=HX.out.2.2.1.cell (i:=0) rfl;have z1:=HX.out.2.2.1.cell (i:=1) rfl;have y0:=HX.out.2.2.1.free 0;have y1:=HX.out.2.2.1.free 1;have k0:=H3.out.cell (i:=0) rfl;have k1:=H3.out.cell (i:=1) rfl;clear hN HN;have bQ:=HO.out.low_ne L2.out;go_wp2;exact bz rfl b2 rfl ((HX.out.2.2.1.set_ 0 _).set_ 1 _) Tryz.underlying25 rfl (by kernel_rfl) rfl ⟨A2,n2,c2,rfl,by rw[HT.out];exact bk ((HO.out.set_far bQ a8.out _ (i:=0)).set_far bQ a8.out _ (i:=1)).own,fV HO.out.own,(HO.out.below.setCell (p:=⟨b2,0,ε⟩) a8.out _).setCell (p:=⟨b2,1,ε⟩) a8.out _⟩
   |false=>
    have HT:Hid (fp (fun v:EC=>v.1) Es x=T++[x]):=qh (by rw[hN];rfl);clear hN HN;obtain⟨A3,c3,W3,bL,wC,bw⟩:=pushE HO.out x (by omega);have j0:=qh wC;have lR:=qh (H3.out.at_ (bw.block _ L3.out));have ff:=qh (Bx.gr bw HX.out (fun p hp=>(sG.out p hp).1));clear wC bw;have k0:=H3.out.cell (i:=1) rfl;go_upto_region 11 with fail
    refine Jam ?_;refine ag (v:=?_) (ζ 50) rfl (by rfl) ?_ ?_;rotate_left
    ·go_simp;(try with_reducible rfl)
    simp only[ξ,ak,aj,ah];refine ag (v:=?_) (ζ 51) rfl (by rfl) ?_ ?_;rotate_left
    ·go_simp;(try with_reducible rfl)
    simp only[ξ,ak,aj,ah];refine bh (ζ 52) rfl (by rfl) 67 (.tmp 3) rfl b1 rfl 67 (eC x) _ HX.out.2.1 Tryz.underlying67 rfl (by kernel_rfl) ?_;simp only[ξ,ak,aj,ah];clear k0;refine cZ (ζ 53) rfl (by rfl) 23 67 1 #[(0,.tmp 52)] (by rfl) Tryz.underlying23 (eC x).toArray (by kernel_rfl) ?_;simp only[ξ,ak,aj,ah];refine jA (ζ 54) rfl (by rfl) (bV (by rfl) (by rfl) (by rfl) bL) ?_;simp only[ξ,ak,aj,ah];clear bL;have k1:=lR.out.cell (i:=1) rfl;have f1:=lR.out.free 1;go_upto_region 12 with fail
    have kr:=qh (j0.out.set_far (j0.out.low_ne L3.out) la.out (γ A3 (n2+1) c3) (i:=1));have vX:=qh (lR.out.set_ 1 (γ A3 (n2+1) c3));have dQ:=qh (Bx.st (γ A3 (n2+1) c3) (i:=1) ff.out (fun p hp=>(sG.out p hp).2));clear j0 lR ff k1 f1;obtain⟨W5,tA⟩:=az (W3.setCell ⟨b3,1,ε⟩ (γ A3 (n2+1) c3));rw[tA] at kr vX dQ ⊢;clear tA;have z0:=dQ.out.2.2.1.cell (i:=0) rfl;have z1:=dQ.out.2.2.1.cell (i:=1) rfl;have y0:=dQ.out.2.2.1.free 0;have bQ:=kr.out.low_ne L2.out;have y1:=dQ.out.2.2.1.free 1;have k0:=vX.out.cell (i:=0) rfl;have k1:=vX.out.cell (i:=1) rfl;go_wp2;exact bz rfl b2 rfl ((dQ.out.2.2.1.set_ 0 _).set_ 1 _) Tryz.underlying25 rfl (by kernel_rfl) rfl ⟨A3,n2+1,c3,rfl,by rw[HT.out];exact bk ((kr.out.set_far bQ a8.out _ (i:=0)).set_far bQ a8.out _ (i:=1)).own,fV kr.out.own,(kr.out.below.setCell (p:=⟨b2,0,ε⟩) a8.out _).setCell (p:=⟨b2,1,ε⟩) a8.out _⟩
end Go.Proofs.YtpdpbfmiahjiiaaGreat
