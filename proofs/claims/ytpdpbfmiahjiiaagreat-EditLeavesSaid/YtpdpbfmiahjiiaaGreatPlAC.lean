/- Several texts in one. -/
import Derived.Test.YtpdpbfmiahjiiaaGreatPlAA
import Derived.Test.YtpdpbfmiahjiiaaGreatPlAB
import Derived.Laws.ResultCell
import Derived.WalkMore
import Derived.Shelf.Spec.SlicesInsert
import Derived.Shelf.Spec.SlicesInsertGrow
set_option linter.unusedSectionVars false
set_option linter.unusedSimpArgs false
set_option linter.unusedVariables false
set_option maxRecDepth 100000
set_option maxHeartbeats 16000000
namespace Go.Proofs.YtpdpbfmiahjiiaaGreat
open Go.RowKit
open _root_.Go.Value renaming slice→γ,string→μ,agg→φ,bool→Β,tuple→Ξ,slice→Ο,agg→JbL
open _root_.Go.Obj renaming cells→δ
open _root_.Option renaming none→ε,some→ζ
open _root_.Go.Proofs.Tryz renaming prog→η
open _root_.List renaming getElem?_eq_getElem→θ,getElem?_eq_some_iff→ν,mem_of_getElem?→ω,length_append→Ε,take_of_length_le→Ι,drop_eq_getElem_cons→Χ,getElem?_append_left→Jab,drop_of_length_le→Jak,drop_eq_nil_of_le→Jav,append_assoc→Jay,length_drop→Jaz,length_take→JaA,nil_append→JaF,drop_append→JaR,getElem?_drop→JaS,append_nil→Jbi,take_append→Jbt,mem_of_mem_drop→JbC,take_zero→JbQ
open _root_.Go.Act renaming put→ξ
open _root_.Go renaming World→ο,Value→ψ,Calls→Ζ,Addr→Κ,TypeId→Υ,maxLen→Jap,bodyPost_ret→JaN
open _root_.Bool renaming false→ρ,true→τ
open _root_.Go.RowKit renaming Below→σ
open _root_.Nat renaming le_refl→Δ,le_trans→Λ,add_zero→Jac,zero_le→Jas,zero_add→JaI,lt_or_ge→JaM,sub_self→JaP,min_def→JbR
open _root_.Go.RowKit.Below renaming refl→Θ
open _root_.Go.Addr renaming add_lit→Ν
open _root_.Go.IntKind renaming i64→Jaw,wrap_i64→JaT
open _root_.Go.Builtin renaming zeroCells→JaO,copy_→Jbr
open _root_.Prod.mk renaming injEq→Jba
open _root_.Go.Departure renaming mixedOrders→JbG
open _root_.Go.Lib renaming run_eql_slice_nil→JbH
theorem aE {P:Program} {fn:Func} {R:Ending→ο→Prop} {a:Act} {w:ο} {p u:Tmp} {t:Υ} (h:fn.results=#[.cell p t,.tmp u]) (g:Nat) {t':Υ} {cs:List ψ} {d:TypeDesc} {v:ψ}
 (hp:a.tmps.getD p undef=.pointer (ζ ⟨g,0,ε⟩)) (hv:a.tmps.getD u undef=v) (hW:Whole w g t' cs) (hu:P.underlying t=ζ d) (hd:d.isRow=τ) (hi:(P.info? t).map (·.size)=ζ cs.length)
 (Rq:a.defers=[]) (hR:R (.returned (Ξ #[φ cs.toArray,v])) w):bodyPost P fn R .ret a w:=by
 refine JaN (v:=Ξ #[φ cs.toArray,v]) ?_ Rq hR
 have hl:=run_loadVar_mid (P:=P) w g 0 t cs d (fun j v hv=>by
  have:=hW.cell hv
  simpa using this) hu hd hi
 rw[results_cell_tmp h,hp,hv];simp[asAddr,Result.andThen,hl]
def jl (Vs:List VC) (x:D):(Int × Int) × Bool:=match Vs.find? (fun v=>decide (x∈v.2.1.2.2.2)) with|some v=>(v.1,τ)|none=>((0,0),ρ)
theorem yg (v:VC) (r:List VC) (x:D) (h:x∈v.2.1.2.2.2):jl (v::r) x=(v.1,τ):=by simp[jl,h]
theorem Dh (v:VC) (r:List VC) (x:D) (h:¬x∈v.2.1.2.2.2):jl (v::r) x=jl r x:=by simp[jl,h]
theorem Q2 (A:Option Κ) (n c:Nat) (Vs:List VC) (B:Option Κ) (m k:Nat) (Es:List EC) (x1 x2 x3:Int) (w:ο) (h:aO w A n c Vs B m k Es) (hn:n≤1000000) (hr:∀y∈Vs,y.2.1.2.1≤1000000):
 Ζ η 151 #[φ #[γ A n c,γ B m k],φ #[J x1,J x2,J x3]] w fun e w'=>
  e=.returned (Ξ #[φ #[J (jl Vs (x1,x2,x3)).1.1,J (jl Vs (x1,x2,x3)).1.2],Β (jl Vs (x1,x2,x3)).2])∧σ w.heap.size w w':=by
 have HV:=qh h.v;have Dc:=qh h.r;have Sm:=qh hr;have CQ:=qh (h.v.rlen aN (by decide));obtain⟨⟨⟨r1,r2⟩,r3⟩,gr⟩:∃z,jl Vs (x1,x2,x3)=z:=⟨_,rfl⟩
 rw[gr];have HG:=qh gr;clear h hr gr;go_enter Tryz.func151,Tryz.ntmps151;go_wp2;have kI:Whole _ (w.heap.size+1) 32 [J x1,J x2,J x3]:=(Whole.new2 (w:=w.alloc (δ #[γ A n c,γ B m k] 25)) (by simp)).alloc (δ #[J 0,J 0] 30);have qt:Whole _ (w.heap.size+1+1) 30 [J 0,J 0]:=Whole.new2 (w:=(w.alloc (δ #[γ A n c,γ B m k] 25)).alloc (δ #[J x1,J x2,J x3] 32)) (by simp);have nK:=aF (aF (ax w (δ #[γ A n c,γ B m k] 25)) (δ #[J x1,J x2,J x3] 32)) (δ #[J 0,J 0] 30);obtain⟨W0,bJ⟩:=az (((w.alloc (δ #[γ A n c,γ B m k] 25)).alloc (δ #[J x1,J x2,J x3] 32)).alloc (δ #[J 0,J 0] 30));have bn:Hid (σ w.heap.size w W0):=qh (by rw[←bJ];exact nK);have Q5:Whole W0 (w.heap.size+1) 32 [J x1,J x2,J x3]:=by rw[←bJ];exact kI
 have Qb:Whole W0 (w.heap.size+1+1) 30 [J 0,J 0]:=by rw[←bJ];exact qt
 obtain⟨b2,dA⟩:=az (w.heap.size+1+1);obtain⟨b1,cJ⟩:=az (w.heap.size+1);obtain⟨b0,bS⟩:=az w.heap.size;rw[cJ] at Q5;rw[dA] at Qb;have aQ:=qh Q5;have bj:=qh Qb;have WL:Hid (w.heap.size≤b2):=qh (by omega);rw[bJ,dA,cJ,bS];clear kI qt nK Q5 Qb bJ dA cJ bS;go_loopw [11] (fun si wr=>∃j:Nat,j≤n∧si=J j∧Hid (σ w.heap.size w wr)∧Hid (Whole wr b1 32 [J x1,J x2,J x3])∧Hid (Whole wr b2 30 [J 0,J 0])∧Hid (jl (Vs.drop j) (x1,x2,x3)=((r1,r2),r3))) (fun si _=>n - (intOf si).toNat)
 case atStart=>exact⟨0,by omega,rfl,bn,aQ,bj,HG⟩
 case round=>
  clear bn aQ bj HG;obtain⟨j,hj,rfl,HB,aQ,bj,HG⟩:=hrel;obtain⟨wo,dB⟩:=az wr;rw[dB] at HB aQ bj ⊢;clear dB;have f0:=bj.out.free 0;have f1:=bj.out.free 1;have k0:=bj.out.cell (i:=0) rfl;have k1:=bj.out.cell (i:=1) rfl
  by_cases nF:j<n
  ·clear f0 f1 k0 k1;obtain⟨y,hx⟩:∃y,Vs[j]? =ζ y:=⟨_,θ (by have:=CQ.out;omega)⟩
   have qO:Vs.drop j=y::Vs.drop (j+1):=by
    rw[Χ (ν.1 hx).1,(ν.1 hx).2]
   have eV:=Dc.out y (ω hx);have nP:=Sm.out y (ω hx);have fK:=HG.out;rw[qO] at fK;have XL:=qh fK;obtain⟨bb,off,rfl,bZ,bD⟩:=HV.out.place aN (by decide) (by omega);have cR:=HB.out;have q0:=bD j _ hx 0 _ rfl;have q1:=bD j _ hx 1 _ rfl;have q2:=bD j _ hx 2 _ rfl;have q3:=bD j _ hx 3 _ rfl;have q4:=bD j _ hx 4 _ rfl;simp only[Ν,Jac] at q0 q1 q2 q3 q4;have l0:=(cR.cell (p:=⟨bb,off+j*5,ε⟩) bZ).trans q0;have l1:=(cR.cell (p:=⟨bb,off+j*5+1,ε⟩) bZ).trans q1;have l2:=(cR.cell (p:=⟨bb,off+j*5+2,ε⟩) bZ).trans q2;have l3:=(cR.cell (p:=⟨bb,off+j*5+3,ε⟩) bZ).trans q3;have l4:=(cR.cell (p:=⟨bb,off+j*5+4,ε⟩) bZ).trans q4;obtain⟨⟨i1,i2⟩,⟨rA,rn,rc,rL⟩,lb,at_⟩:=y;have hR:aS w w.heap.size 3 rA rn rc (aA rL):=eV.2;replace nP:rn≤1000000:=nP;have zq:=qh (aF HB.out (δ #[J i1,J i2,γ rA rn rc,μ lb,J at_] 59));have HI:=qh (qx rA rn rc rL (x1,x2,x3) _ (hR.bl zq.out) (by omega));have z0:=(aQ.out.alloc (δ #[J i1,J i2,γ rA rn rc,μ lb,J at_] 59)).cell (i:=0) rfl;have z1:=(aQ.out.alloc (δ #[J i1,J i2,γ rA rn rc,μ lb,J at_] 59)).cell (i:=1) rfl;have z2:=(aQ.out.alloc (δ #[J i1,J i2,γ rA rn rc,μ lb,J at_] 59)).cell (i:=2) rfl;clear hx qO fK bD cR q0 q1 q2 q3 q4 bZ HG eV hR;obtain⟨ix,Sb⟩:=az (fI rL (x1,x2,x3));rw[Sb] at HI
   have TJ:=qh Sb;clear Sb;go_wp2_with fail
   refine HI.out.mono ?_;rintro e w3 ⟨rfl,hb⟩;have cY:=qh (af zq.out hb);have iA:=qh ((aQ.out.alloc (δ #[J i1,J i2,γ rA rn rc,μ lb,J at_] 59)).below hb);have eR:=qh ((bj.out.alloc (δ #[J i1,J i2,γ rA rn rc,μ lb,J at_] 59)).below hb);have hy:=(Whole.new_ wo 59 [J i1,J i2,γ rA rn rc,μ lb,J at_]).below hb;have y0:=hy.cell (i:=0) rfl;have y1:=hy.cell (i:=1) rfl;clear hb z0 z1 z2 l0 l1 l2 l3 l4 hy HB aQ bj HI
   by_cases ij:(x1,x2,x3)∈rL
   ·have e1:fI rL (x1,x2,x3)=(rL.idxOf (x1,x2,x3):Int):=by rw[fI,if_pos ij]
    have h0:0≤ix:=by rw[←TJ.out,e1];omega
    have hG:=XL.out;rw[yg _ _ _ ij] at hG;simp only[Jba] at hG;obtain⟨⟨rfl,rfl⟩,rfl⟩:=hG;have f0:=eR.out.free 0;have f1:=eR.out.free 1;have k0:=eR.out.cell (i:=0) rfl;have k1:=eR.out.cell (i:=1) rfl;have HY:=qh ((eR.out.set_ 0 (J i1)).set_ 1 (J i2));have tL:=qh ((cY.out.setCell (p:=⟨b2,0,ε⟩) WL.out (J i1)).setCell (p:=⟨b2,1,ε⟩) WL.out (J i2));clear eR XL;go_wp2;exact aE rfl b2 rfl rfl HY.out Tryz.underlying30 rfl (by kernel_rfl) rfl ⟨rfl,tL.out⟩
   ·have h0:¬0≤ix:=by rw[←TJ.out,show fI rL (x1,x2,x3)= -1 by rw[fI,if_neg ij]];omega
    have hG:=XL.out;rw[Dh _ _ _ ij] at hG;have Kb:=qh hG;clear hG XL y0 y1;go_wp2;go_roundw
    case rel=>exact⟨j+1,by omega,by go_num,cY,iA,eR,Kb⟩
    case measure=>simp[intOf];omega
  ·obtain rfl:n=j:=by omega
   have hG:=HG.out;rw[Jav (by have:=CQ.out;omega)] at hG;replace hG:(((0:Int),(0:Int)),ρ)=((r1,r2),r3):=hG;simp only[Jba] at hG;obtain⟨⟨rfl,rfl⟩,rfl⟩:=hG;have HY:=qh ((bj.out.set_ 0 (J 0)).set_ 1 (J 0));have tL:=qh ((HB.out.setCell (p:=⟨b2,0,ε⟩) WL.out (J 0)).setCell (p:=⟨b2,1,ε⟩) WL.out (J 0));clear HG bj;go_wp2;exact aE rfl b2 rfl rfl HY.out Tryz.underlying30 rfl (by kernel_rfl) rfl ⟨rfl,tL.out⟩
def BL {α:Type} (nm:α→Int × Int) (z:α) (L:List α) (x:Int × Int):α × Bool:=match L.find? (fun v=>decide (nm v=x)) with|some v=>(v,τ)|none=>(z,ρ)
theorem rS {α:Type} (nm:α→Int × Int) (z v:α) (r:List α) (x:Int × Int) (h:nm v=x):BL nm z (v::r) x=(v,τ):=by simp[BL,h]
theorem wb {α:Type} (nm:α→Int × Int) (z v:α) (r:List α) (x:Int × Int) (h:¬nm v=x):BL nm z (v::r) x=BL nm z r x:=by simp[BL,h]
def zV:VC:=((0,0),(ε,0,0,[]),⟨#[]⟩,0)
def zE:EC:=((0,0),⟨#[]⟩,0)
def aU (L:List VC) (x:Int × Int):=BL (fun v:VC=>v.1) zV L x
def iw (L:List EC) (x:Int × Int):=BL (fun v:EC=>v.1) zE L x
theorem fB {α:Type} (nm:α→Int × Int) (z:α) (L:List α) (x:Int × Int):(BL nm z L x).1∈L∨BL nm z L x=(z,ρ):=by
 unfold BL;split
 ·rename_i v h;exact .inl (List.mem_of_find?_eq_some h)
 ·exact .inr rfl
theorem U3 (A:Option Κ) (n c:Nat) (L:List VC) (x1 x2:Int) (w:ο) (h:aS w w.heap.size 5 A n c (ao vC L)) (hn:n≤1000000):
 Ζ η 158 #[γ A n c,.func (.func 159) #[] #[],φ #[J x1,J x2]] w fun e w'=>e=.returned (Ξ #[φ (vC (aU L (x1,x2)).1).toArray,Β (aU L (x1,x2)).2])∧σ w.heap.size w w':=by
 have H:=qh h;have Hl:=qh (h.rlen aN (by decide));obtain⟨⟨r,ok⟩,gr⟩:∃z,aU L (x1,x2)=z:=⟨_,rfl⟩
 rw[gr];have HG:=qh gr;clear h gr;go_enter Tryz.func158,Tryz.ntmps158;go_wp2;obtain⟨W0,b0,b1,bJ,bS,cJ,aR,aQ,bn,uo,zl,j4,zY,fD,kY⟩:=D8 w 30 [J x1,J x2] 59 [J 0,J 0,γ ε 0 0,μ {data:=#[]},J 0];rw[bJ,cJ,bS];clear bJ bS cJ;go_loopw [13] (fun si wr=>∃j:Nat,j≤n∧si=J j∧Hid (σ w.heap.size w wr)∧Hid (Whole wr b0 30 [J x1,J x2])∧Hid (Whole wr b1 59 [J 0,J 0,γ ε 0 0,μ {data:=#[]},J 0])∧Hid (aU (L.drop j) (x1,x2)=(r,ok))) (fun si _=>n - (intOf si).toNat)
 case atStart=>exact⟨0,by omega,rfl,bn,aR,aQ,HG⟩
 case round=>
  clear bn aR aQ HG;obtain⟨j,hj,rfl,HB,aR,aQ,HG⟩:=hrel;obtain⟨wo,dB⟩:=az wr;rw[dB] at HB aR aQ ⊢;clear dB
  by_cases nF:j<n
  ·obtain⟨x,hx⟩:∃x,L[j]? =ζ x:=⟨_,θ (by have:=Hl.out;omega)⟩
   have qO:L.drop j=x::L.drop (j+1):=by
    rw[Χ (ν.1 hx).1,(ν.1 hx).2]
   have lF:=HG.out;rw[qO] at lF;have fK:=qh lF;obtain⟨bb,off,rfl,bZ,bD⟩:=H.out.place aN (by decide) (by omega);have cR:=HB.out;have q0:=bD j _ hx 0 _ rfl;have q1:=bD j _ hx 1 _ rfl;have q2:=bD j _ hx 2 _ rfl;have q3:=bD j _ hx 3 _ rfl;have q4:=bD j _ hx 4 _ rfl;simp only[Ν,Jac] at q0 q1 q2 q3 q4;have l0:=(cR.cell (p:=⟨bb,off+j*5,ε⟩) bZ).trans q0;have l1:=(cR.cell (p:=⟨bb,off+j*5+1,ε⟩) bZ).trans q1;have l2:=(cR.cell (p:=⟨bb,off+j*5+2,ε⟩) bZ).trans q2;have l3:=(cR.cell (p:=⟨bb,off+j*5+3,ε⟩) bZ).trans q3;have l4:=(cR.cell (p:=⟨bb,off+j*5+4,ε⟩) bZ).trans q4;clear cR q0 q1 q2 q3 q4;have hnm:=fun W=>TY x W
   obtain⟨⟨i1,i2⟩,⟨rA,rn,rc,rL⟩,lb,at_⟩:=x;have HNm:Hid (∀W,Ζ η 159 #[φ #[J i1,J i2,γ rA rn rc,μ lb,J at_]] W fun e w'=>e=.returned (φ #[J i1,J i2])∧σ W.heap.size W w'):=qh hnm;clear hx qO lF bD bZ HG hnm;go_upto_region 4 with fail
   have sy:=qh (Whole.new_ wo 59 [J i1,J i2,γ rA rn rc,μ lb,J at_]);have qV:=qh (aR.out.alloc (δ #[J i1,J i2,γ rA rn rc,μ lb,J at_] 59));have kR:=qh (aQ.out.alloc (δ #[J i1,J i2,γ rA rn rc,μ lb,J at_] 59));have iT:=qh (aF HB.out (δ #[J i1,J i2,γ rA rn rc,μ lb,J at_] 59));obtain⟨W1,a7⟩:=az (wo.alloc (δ #[J i1,J i2,γ rA rn rc,μ lb,J at_] 59));obtain⟨g9,gg9⟩:=az wo.heap.size;replace sy:Hid (Whole W1 g9 59 [J i1,J i2,γ rA rn rc,μ lb,J at_]):=qh (by rw[←a7,←gg9];exact sy.out);replace qV:Hid (Whole W1 b0 30 [J x1,J x2]):=qh (by rw[←a7];exact qV.out);replace kR:Hid (Whole W1 b1 59 [J 0,J 0,γ ε 0 0,μ {data:=#[]},J 0]):=qh (by rw[←a7];exact kR.out);replace iT:Hid (σ w.heap.size w W1):=qh (by rw[←a7];exact iT.out);rw[a7,gg9];clear a7 gg9 HB aR aQ l0 l1 l2 l3 l4;have iM:=dX (i:=0) qV.out rfl;have ld1:=dX (i:=1) qV.out rfl;have heq:=fun W=>Ex i1 i2 x1 x2 W
   obtain⟨bq,Eb⟩:=az ((i1==x1 && i2==x2));rw[Eb] at heq;have P0:=qh Eb;clear Eb;refine aw (aT) (by kernel_rfl) ?_;refine aq 0 ?_;refine bN 1 (hy:=bG (by rfl) 59 (.tmp 9) rfl g9 rfl 59 [J i1,J i2,γ rA rn rc,μ lb,J at_] _ (fun w' h=>h.whole sy.out.dr (fun h=>h)) Tryz.underlying59 rfl (by kernel_rfl)) (h:=?_);refine bN 2 (hy:=by apply cz;rfl;rotate_left;intro w' aC;exact HNm.out w';intro w';go_simp) (h:=?_);refine aq 3 ?_;refine aq 4 ?_;refine aG (by kernel_rfl) ?_ _;intro W3 iu;have cY:=qh (af (ba iT.out) iu);have ru:=qh (qV.out.dr.bl iu);have iA:=qh (kR.out.dr.bl iu);have CU:=qh (sy.out.dr.bl iu);clear iu iM ld1 iT qV kR sy heq;cases bq with
   |true=>
    have hq:=P0.out;rw[Bool.and_eq_true,beq_iff_eq,beq_iff_eq] at hq;have hg:=fK.out;rw[aU,rS _ _ _ _ _ (by rw[hq.1,hq.2])] at hg;injection hg with hg1 lF
    subst hg1 lF;have f0:=iA.out.free 0;have y0:=CU.out.cell (i:=0) rfl;have k0:=iA.out.cell (i:=0) rfl;have f1:=iA.out.free 1;have y1:=CU.out.cell (i:=1) rfl;have k1:=iA.out.cell (i:=1) rfl;have f2:=iA.out.free 2;have y2:=CU.out.cell (i:=2) rfl;have k2:=iA.out.cell (i:=2) rfl;have f3:=iA.out.free 3;have y3:=CU.out.cell (i:=3) rfl;have k3:=iA.out.cell (i:=3) rfl;have f4:=iA.out.free 4;have y4:=CU.out.cell (i:=4) rfl;have k4:=iA.out.cell (i:=4) rfl;have HY:=qh (((((iA.out.set_ 0 (J i1)).set_ 1 (J i2)).set_ 2 (γ rA rn rc)).set_ 3 (μ lb)).set_ 4 (J at_));have tL:=qh (((((cY.out.setCell (p:=⟨b1,0,ε⟩) fD.out (J i1)).setCell (p:=⟨b1,1,ε⟩) fD.out (J i2)).setCell (p:=⟨b1,2,ε⟩) fD.out (γ rA rn rc)).setCell (p:=⟨b1,3,ε⟩) fD.out (μ lb)).setCell (p:=⟨b1,4,ε⟩) fD.out (J at_));clear iA fK cY hq;go_wp2;exact aE rfl b1 rfl rfl HY.out Tryz.underlying59 rfl (by kernel_rfl) rfl ⟨rfl,tL.out⟩
   |false=>
    have hg:=fK.out
    rw[aU,wb _ _ _ _ _ (fun e=>by
     have e1:i1=x1:=congrArg Prod.fst e;have e2:i2=x2:=congrArg Prod.snd e
     have:=P0.out
     rw[e1,e2] at this;simp at this)] at hg
    have Kb:=qh hg;clear hg fK CU;go_wp2;go_roundw
    case rel=>exact⟨j+1,by omega,by go_num,cY,ru,iA,Kb⟩
    case measure=>simp[intOf];omega
  ·obtain rfl:n=j:=by omega
   have hg:=HG.out;rw[Jav (by have:=Hl.out;omega)] at hg;replace hg:(zV,ρ)=(r,ok):=hg;injection hg with hg1 lF
   subst hg1 lF;have fY:=qh (aQ.out.alloc (δ #[J 0,J 0,γ ε 0 0,μ {data:=#[]},J 0] 59));have jJ:=qh (aF HB.out (δ #[J 0,J 0,γ ε 0 0,μ {data:=#[]},J 0] 59));have f0:=fY.out.free 0;have k0:=fY.out.cell (i:=0) rfl;have f1:=fY.out.free 1;have k1:=fY.out.cell (i:=1) rfl;have f2:=fY.out.free 2;have k2:=fY.out.cell (i:=2) rfl;have f3:=fY.out.free 3;have k3:=fY.out.cell (i:=3) rfl;have f4:=fY.out.free 4;have k4:=fY.out.cell (i:=4) rfl;have HY:=qh (((((fY.out.set_ 0 (J 0)).set_ 1 (J 0)).set_ 2 (γ ε 0 0)).set_ 3 (μ {data:=#[]})).set_ 4 (J 0));have tL:=qh (((((jJ.out.setCell (p:=⟨b1,0,ε⟩) fD.out (J 0)).setCell (p:=⟨b1,1,ε⟩) fD.out (J 0)).setCell (p:=⟨b1,2,ε⟩) fD.out (γ ε 0 0)).setCell (p:=⟨b1,3,ε⟩) fD.out (μ {data:=#[]})).setCell (p:=⟨b1,4,ε⟩) fD.out (J 0));clear HG aQ fY jJ;go_wp2;exact aE rfl b1 rfl rfl HY.out Tryz.underlying59 rfl (by kernel_rfl) rfl ⟨rfl,tL.out⟩
theorem sS {w:ο} {A B:Option Κ} {n c m k:Nat} {Vs:List VC} {Es:List EC} (h:aO w A n c Vs B m k Es) (hr:∀x∈Vs,x.2.1.2.1≤1000000) (x:Int × Int):
 RgOk w (aU Vs x).1.2.1∧(aU Vs x).1.2.1.2.1≤1000000:=by
 rcases fB (fun v:VC=>v.1) zV Vs x with hm|he
 ·exact⟨h.r _ hm,hr _ hm⟩
 ·have e:aU Vs x=(zV,ρ):=he;rw[e];exact⟨⟨Jas _,aS.no _ _ _⟩,by decide⟩
theorem Dv (A:Option Κ) (n c:Nat) (Vs:List VC) (B:Option Κ) (m k:Nat) (Es:List EC) (x1 x2:Int) (w:ο) (h:aO w A n c Vs B m k Es) (hn:n≤1000000) (hr:∀x∈Vs,x.2.1.2.1≤1000000) (r:VC) (ok:Bool) (gr:aU Vs (x1,x2)=(r,ok)):
 Ζ η 142 #[φ #[γ A n c,γ B m k],φ #[J x1,J x2]] w fun e w'=>∃A' c',e=.returned (Ξ #[φ (vC (r.1,(A',r.2.1.2.1,c',r.2.1.2.2.2),r.2.2)).toArray,Β ok])∧Ow w w.heap.size 32 3 (γ A' r.2.1.2.1 c') r.2.1.2.1 (aA r.2.1.2.2.2) w':=by
 have HF:=qh (fun W (hb:σ w.heap.size w W)=>U3 A n c Vs x1 x2 W (h.v.bl hb) hn);have aW:=sS h hr (x1,x2);rw[gr] at HF aW;have HC:=qh (fun W (hb:σ w.heap.size w W)=>KQ r W (aW.1.below hb) aW.2);obtain⟨⟨i1,i2⟩,⟨rA,rn,rc,rL⟩,lb,at_⟩:=r;clear h gr aW hr;replace HF:Hid (∀W,σ w.heap.size w W→Ζ η 158 #[γ A n c,.func (.func 159) #[] #[],φ #[J x1,J x2]] W fun e w'=>e=.returned (Ξ #[φ #[J i1,J i2,γ rA rn rc,μ lb,J at_],Β ok])∧σ W.heap.size W w'):=HF;replace HC:Hid (∀W,σ w.heap.size w W→Ζ η 106 #[φ #[J i1,J i2,γ rA rn rc,μ lb,J at_]] W fun e w'=>∃A' c',e=.returned (φ #[J i1,J i2,γ A' rn c',μ lb,J at_])∧Ow W W.heap.size 32 3 (γ A' rn c') rn (aA rL) w'):=HC;show Ζ η 142 #[φ #[γ A n c,γ B m k],φ #[J x1,J x2]] w fun e w'=>∃A' c',e=.returned (Ξ #[φ #[J i1,J i2,γ A' rn c',μ lb,J at_],Β ok])∧Ow w w.heap.size 32 3 (γ A' rn c') rn (aA rL) w'
 go_enter Tryz.func142,Tryz.ntmps142;go_wp2_with fail
 have kc:Whole (((w.alloc (δ #[γ A n c,γ B m k] 25)).alloc (δ #[J x1,J x2] 30)).alloc (δ #[J 0,J 0,γ ε 0 0,μ {data:=#[]},J 0] 59)) (w.heap.size) 25 [γ A n c,γ B m k]:=(((Whole.new_ w 25 [γ A n c,γ B m k]).alloc (δ #[J x1,J x2] 30)).alloc (δ #[J 0,J 0,γ ε 0 0,μ {data:=#[]},J 0] 59));have kI:Whole (((w.alloc (δ #[γ A n c,γ B m k] 25)).alloc (δ #[J x1,J x2] 30)).alloc (δ #[J 0,J 0,γ ε 0 0,μ {data:=#[]},J 0] 59)) (w.heap.size+1) 30 [J x1,J x2]:=((Whole.new2 (w:=(w.alloc (δ #[γ A n c,γ B m k] 25))) (by simp)).alloc (δ #[J 0,J 0,γ ε 0 0,μ {data:=#[]},J 0] 59));have qt:Whole (((w.alloc (δ #[γ A n c,γ B m k] 25)).alloc (δ #[J x1,J x2] 30)).alloc (δ #[J 0,J 0,γ ε 0 0,μ {data:=#[]},J 0] 59)) (w.heap.size+1+1) 59 [J 0,J 0,γ ε 0 0,μ {data:=#[]},J 0]:=(Whole.new2 (w:=((w.alloc (δ #[γ A n c,γ B m k] 25)).alloc (δ #[J x1,J x2] 30))) (by simp));have nK:σ w.heap.size w (((w.alloc (δ #[γ A n c,γ B m k] 25)).alloc (δ #[J x1,J x2] 30)).alloc (δ #[J 0,J 0,γ ε 0 0,μ {data:=#[]},J 0] 59)):=(aF (aF (ax w (δ #[γ A n c,γ B m k] 25)) (δ #[J x1,J x2] 30)) (δ #[J 0,J 0,γ ε 0 0,μ {data:=#[]},J 0] 59))
 have mf:w.heap.size+1+1+1≤((((w.alloc (δ #[γ A n c,γ B m k] 25)).alloc (δ #[J x1,J x2] 30)).alloc (δ #[J 0,J 0,γ ε 0 0,μ {data:=#[]},J 0] 59))).heap.size:=by simp
 obtain⟨W0,bJ⟩:=az ((((w.alloc (δ #[γ A n c,γ B m k] 25)).alloc (δ #[J x1,J x2] 30)).alloc (δ #[J 0,J 0,γ ε 0 0,μ {data:=#[]},J 0] 59)));rw[bJ] at kc kI qt nK mf;obtain⟨b2,dA⟩:=az (w.heap.size+1+1);rw[dA] at qt;obtain⟨b1,cJ⟩:=az (w.heap.size+1);rw[cJ] at kI;obtain⟨b0,bS⟩:=az w.heap.size;rw[bS] at kc;have aR:=qh kc;have aQ:=qh kI;have bj:=qh qt;have bn:=qh nK;have uo:=qh mf;have zl:=qh bS;have j4:Hid (w.heap.size≤b0):=qh (by omega);have zY:=qh cJ;have fD:Hid (w.heap.size≤b1):=qh (by omega);have Gb2:=qh dA;have a8:Hid (w.heap.size≤b2):=qh (by omega);have kY:Hid (b0≠b1):=qh (by omega);have mJ:Hid (b0≠b2):=qh (by omega);have ni:Hid (b1≠b2):=qh (by omega);(try rw[bJ,dA,cJ,bS]);clear bJ nK mf kc kI qt bS cJ dA
 refine(HF.out _ bn.out).mono ?_
 rintro e W3 ⟨rfl,hb⟩;have cY:=qh (af bn.out hb);have eR:=qh (bj.out.bl hb);clear hb bj aQ aR bn HF;go_wp2_with fail
 refine(HC.out _ (aF cY.out _)).mono ?_
 rintro e W4 ⟨A',c',rfl,ho⟩;have eS:=eR.out.lt;have bQ:=ho.low_ne (g:=b2) (by simp;omega);have Zl:=af (aF cY.out (δ #[J i1,J i2,γ rA rn rc,μ lb,J at_] 59)) ho.below;have ji:=qh ((eR.out.alloc (δ #[J i1,J i2,γ rA rn rc,μ lb,J at_] 59)).bl ho.below);have hO:Ow w w.heap.size 32 3 (γ A' rn c') rn (aA rL) W4:=⟨se ho.own (by have:=cY.out.size;simp;omega),Zl,Δ _,Zl.size⟩;have HO:=qh (((((hO.set_far (i:=0) bQ a8.out (J i1)).set_far (i:=1) bQ a8.out (J i2)).set_far (i:=2) bQ a8.out (γ A' rn c')).set_far (i:=3) bQ a8.out (μ lb)).set_far (i:=4) bQ a8.out (J at_));have f0:=ji.out.free 0;have k0:=ji.out.cell (i:=0) rfl;have f1:=ji.out.free 1;have k1:=ji.out.cell (i:=1) rfl;have f2:=ji.out.free 2;have k2:=ji.out.cell (i:=2) rfl;have f3:=ji.out.free 3;have k3:=ji.out.cell (i:=3) rfl;have f4:=ji.out.free 4;have k4:=ji.out.cell (i:=4) rfl;have HY:=qh (((((ji.out.set_ 0 (J i1)).set_ 1 (J i2)).set_ 2 (γ A' rn c')).set_ 3 (μ lb)).set_ 4 (J at_));clear eS bQ Zl hO ho eR ji cY HC;go_wp2;exact aE rfl b2 rfl rfl HY.out Tryz.underlying59 rfl (by kernel_rfl) rfl ⟨A',c',rfl,HO.out⟩
def vS (v:VC):(Int × Int) × List D × ByteArray × Int:=(v.1,v.2.1.2.2.2,v.2.2.1,v.2.2.2)
abbrev Gn:=D × D
def cj (g:Gn):List ψ:=[J g.1.1,J g.1.2.1,J g.1.2.2,J g.2.1,J g.2.2.1,J g.2.2.2]
theorem bU (g:Gn):(cj g).length=6:=rfl
theorem jC (g:Gn):∀v∈cj g,v.oneCell'=τ:=by simp[cj,Value.oneCell']
def zD:D:=(0,0,0)
def iq:List Gn→D→D × Bool
 |[],_=>(zD,ρ)
 |g::G,d=>if g.1=d then(g.2,τ) else iq G d
def ln (st:D→Bool) (G:List Gn):Nat→D→D
 |0,d=>if st d=τ then d else zD
 |k+1,d=>if st d=τ then d else if (iq G d).2=τ then ln st G k (iq G d).1 else zD
theorem G0 (st:D→Bool) (G:List Gn) (n:Nat) {d:D} (h:st d=τ):ln st G n d=d:=by
 cases n<;>simp only[ln,if_pos h]
theorem Ih (st:D→Bool) (G:List Gn) (n:Nat) {d:D} (h:¬st d=τ) (ht:(iq G d).2=τ):ln st G (n+1) d=ln st G n (iq G d).1:=by
 simp only[ln,if_neg h,if_pos ht]
theorem FO (st:D→Bool) (G:List Gn) (n:Nat) {d:D} (h:¬st d=τ) (ht:¬(iq G d).2=τ):ln st G n d=zD:=by
 cases n with
 |zero=>simp only[ln,if_neg h]
 |succ n=>simp only[ln,if_neg h,if_neg ht]
theorem Jj (st:D→Bool) (G:List Gn) {d:D} (h:¬st d=τ):ln st G 0 d=zD:=by simp only[ln,if_neg h]
def EM (Vs:List VC) (x:D):Bool:=(jl Vs x).2
theorem cS {α:Type} (f:α→List ψ) (h:∀x,∀u∈f x,u.oneCell'=τ):∀L,∀u∈ao f L,u.oneCell'=τ
 |[],u,hu=>by cases hu
 |x::L,u,hu=>by
  rcases List.mem_append.1 (show u∈f x++ao f L from hu) with q|q
  ·exact h x u q
  ·exact cS f h L u q
theorem mG:(η.info? 98).map (fun i=>(i.zero,i.size,i.bytes))=ζ (ζ (φ #[J 0,J 0,J 0,J 0,J 0,J 0]),6,48):=by kernel_rfl
theorem D4 {α:Type} (f:α→List ψ) (x:α):ao f [x]=f x:=by simp[ao]
def cB (y x:Gn):Int:=lV y.1.1 y.1.2.1 y.1.2.2 x.1.1 x.1.2.1 x.1.2.2
theorem uC (x:Gn) (d1 d2 d3:Int) (w:ο):Ζ η 166 #[φ #[J x.1.1,J x.1.2.1,J x.1.2.2,J x.2.1,J x.2.2.1,J x.2.2.2],φ #[J d1,J d2,J d3]] w fun e w'=>e=.returned (J (lV x.1.1 x.1.2.1 x.1.2.2 d1 d2 d3))∧σ w.heap.size w w':=by
 have HO:=qh (pZ x.1.1 x.1.2.1 x.1.2.2 d1 d2 d3);go_enter Tryz.func166,Tryz.ntmps166
 go_wp2_with (first
  |(go_at_call 167
    refine(HO.out _).mono ?_
    rintro e w2 ⟨rfl,hb⟩;have HB:=qh (af (aF (ax w (δ #[J x.1.1,J x.1.2.1,J x.1.2.2,J x.2.1,J x.2.2.1,J x.2.2.2] 98)) (δ #[J d1,J d2,J d3] 32)) hb);clear hb))
 go_ret;exact⟨rfl,HB.out⟩
theorem Bu (A:Option Κ) (n c:Nat) (G:List Gn) (d1 d2 d3:Int) (w:ο) (h:aS w w.heap.size 6 A n c (ao cj G)) (hn:n≤1000000) (cf:Nat→Int) (LZ:∀t x,G[t]? =ζ x→lV x.1.1 x.1.2.1 x.1.2.2 d1 d2 d3=cf t) (mh:∀a b,a≤b→b<n→cf b<0→cf a<0):
 Ζ η 165 #[γ A n c,φ #[J d1,J d2,J d3],.func (.func 166) #[] #[]] w fun e w'=>∃i:Nat,i≤n∧(∀t,t<i→cf t<0)∧(∀t,i≤t→t<n→0≤cf t)∧e=.returned (Ξ #[J (i:Int),Β (decide (i<n) && decide (cf i=0))])∧σ w.heap.size w w':=by
 have H:=qh h;have Hl:=qh (h.rlen bU (by decide));have HM:=qh mh;have he:Sv 166:=uQ Tryz.func166 (by kernel_rfl) rfl;clear h mh;go_enter Tryz.func165,Tryz.ntmps165;go_wp2;have kc:=Whole.new_ w 32 [J d1,J d2,J d3];have nK:=ax w (δ #[J d1,J d2,J d3] 32);obtain⟨W0,bJ⟩:=az (w.alloc (δ #[J d1,J d2,J d3] 32));replace kc:Whole W0 w.heap.size 32 [J d1,J d2,J d3]:=bJ▸kc;rw[bJ] at nK ⊢;obtain⟨b0,bS⟩:=az w.heap.size;rw[bS] at kc ⊢;have aR:=qh kc;have bn:=qh nK;clear bJ bS kc nK;go_loopw [9,10] (fun s9 Qe wr=>∃lo hi:Nat,s9=J lo∧Qe=J hi∧lo≤hi∧hi≤n∧Hid (Whole wr b0 32 [J d1,J d2,J d3])∧Hid (σ w.heap.size w wr)∧Hid ((∀t,t<lo→cf t<0)∧(∀t,hi≤t→t<n→0≤cf t))) (fun s9 Qe _=>(intOf Qe).toNat - (intOf s9).toNat)
 case atStart=>exact⟨0,n,rfl,rfl,Jas _,Δ _,aR,bn,qh ⟨fun t ht=>absurd ht (Nat.not_lt_zero _),fun t h1 h2=>by omega⟩⟩
 case round=>
  clear aR bn;obtain⟨lo,hi,rfl,rfl,hlh,mA,HX,HB,HI⟩:=hrel;obtain⟨wo,dB⟩:=az wr;rw[dB] at HX HB ⊢;clear dB
  by_cases eS:lo<hi
  ·obtain⟨m,gm⟩:=az ((lo+hi) / 2);have WH:lo≤m:=by omega
   have NW:m<hi:=by omega
   have hmn:m<n:=by omega
   have e1:((lo:Int)+(hi:Int)) / 2=(m:Int):=by omega
   obtain⟨x,hx⟩:∃x,G[m]? =ζ x:=⟨_,θ (by have:=Hl.out;omega)⟩
   obtain⟨b,off,rfl,bZ,bD⟩:=H.out.place bU (by decide) (by omega);have cR:=HB.out;have q0:=bD m _ hx 0 _ rfl;have q1:=bD m _ hx 1 _ rfl;have q2:=bD m _ hx 2 _ rfl;have q3:=bD m _ hx 3 _ rfl;have q4:=bD m _ hx 4 _ rfl;have q5:=bD m _ hx 5 _ rfl;simp only[Ν,Jac] at q0 q1 q2 q3 q4 q5;have l0:=(cR.cell (p:=⟨b,off+m*6,ε⟩) bZ).trans q0;have l1:=(cR.cell (p:=⟨b,off+m*6+1,ε⟩) bZ).trans q1;have l2:=(cR.cell (p:=⟨b,off+m*6+2,ε⟩) bZ).trans q2;have l3:=(cR.cell (p:=⟨b,off+m*6+3,ε⟩) bZ).trans q3;have l4:=(cR.cell (p:=⟨b,off+m*6+4,ε⟩) bZ).trans q4;have l5:=(cR.cell (p:=⟨b,off+m*6+5,ε⟩) bZ).trans q5;have Cz:=LZ m x hx;obtain⟨ov,wO⟩:=az (lV x.1.1 x.1.2.1 x.1.2.2 d1 d2 d3);rw[wO] at Cz;have xz:=uC x d1 d2 d3;rw[wO] at xz;have HC:Hid (∀w',Ζ η 166 #[φ #[J x.1.1,J x.1.2.1,J x.1.2.2,J x.2.1,J x.2.2.1,J x.2.2.2],φ #[J d1,J d2,J d3]] w' fun e cD=>e=.returned (J ov)∧σ w'.heap.size w' cD):=qh xz;have F0:Hid (ov=cf m):=qh Cz;clear hx bD bZ cR q0 q1 q2 q3 q4 q5 Cz wO xz;go_upto_region 5 with fail
   have iM:=dE l0;have ld1:=dE l1;have rQ:=dE l2;have BZ:=dE l3;have B4:=dE l4;have WZ:=dE l5;have BE:=dX (i:=0) HX.out rfl;have Ap:=dX (i:=1) HX.out rfl;have Mb:=dX (i:=2) HX.out rfl;clear l0 l1 l2 l3 l4 l5
   by_cases u7:ov<0
   ·have hq:decide (ov<0)=τ:=decide_eq_true u7;have xU:Hid ((∀t,t<m+1→cf t<0)∧(∀t,hi≤t→t<n→0≤cf t)):=qh ⟨fun t ht=>HM.out t m (by omega) (by omega) (by rw[←F0.out];exact u7),HI.out.2⟩;clear u7 HI F0;refine aw (aT) (by kernel_rfl) ?_;refine aq 0 ?_;refine aq 1 ?_;refine aq 2 ?_;refine aq 3 ?_;refine aq 4 ?_;refine aq 5 ?_;refine bN 6 (hy:=by apply cz;rfl;rotate_left;intro w' aC;exact HC.out w';intro w';go_simp) (h:=?_);refine aq 7 ?_;refine aG (by kernel_rfl) ?_ _;intro W3 iu;have cY:=qh (af (ba HB.out) iu);have ff:=qh (HX.out.dr.bl iu);clear iu HB HX iM ld1 rQ BZ B4 WZ BE Ap Mb HC;go_wp2;go_roundw
    case rel=>exact⟨m+1,hi,by go_num,rfl,by omega,mA,ff,cY,xU⟩
    case measure=>simp[intOf];omega
   ·have hq:decide (ov<0)=ρ:=decide_eq_false u7;have xU:Hid ((∀t,t<lo→cf t<0)∧(∀t,m≤t→t<n→0≤cf t)):=qh ⟨HI.out.1,fun t ht Rx=>Int.not_lt.1 fun h=>by have:=HM.out m t ht Rx h;rw[←F0.out] at this;omega⟩;clear u7 HI F0;refine aw (aT) (by kernel_rfl) ?_;refine aq 0 ?_;refine aq 1 ?_;refine aq 2 ?_;refine aq 3 ?_;refine aq 4 ?_;refine aq 5 ?_;refine bN 6 (hy:=by apply cz;rfl;rotate_left;intro w' aC;exact HC.out w';intro w';go_simp) (h:=?_);refine aq 7 ?_;refine aG (by kernel_rfl) ?_ _;intro W3 iu;have cY:=qh (af (ba HB.out) iu);have ff:=qh (HX.out.dr.bl iu);clear iu HB HX iM ld1 rQ BZ B4 WZ BE Ap Mb HC;go_wp2;go_roundw
    case rel=>exact⟨lo,m,rfl,by first|rfl|go_num,by omega,by omega,ff,cY,xU⟩
    case measure=>simp[intOf];omega
  ·obtain rfl:hi=lo:=by omega
   by_cases rX:hi<n
   ·have e2:(hi:Int)<(n:Int):=by omega
    have e3:¬(hi:Int)<(hi:Int):=by omega
    obtain⟨x,hx⟩:∃x,G[hi]? =ζ x:=⟨_,θ (by have:=Hl.out;omega)⟩
    obtain⟨b,off,rfl,bZ,bD⟩:=H.out.place bU (by decide) (by omega);have cR:=HB.out;have q0:=bD hi _ hx 0 _ rfl;have q1:=bD hi _ hx 1 _ rfl;have q2:=bD hi _ hx 2 _ rfl;have q3:=bD hi _ hx 3 _ rfl;have q4:=bD hi _ hx 4 _ rfl;have q5:=bD hi _ hx 5 _ rfl;simp only[Ν,Jac] at q0 q1 q2 q3 q4 q5;have l0:=(cR.cell (p:=⟨b,off+hi*6,ε⟩) bZ).trans q0;have l1:=(cR.cell (p:=⟨b,off+hi*6+1,ε⟩) bZ).trans q1;have l2:=(cR.cell (p:=⟨b,off+hi*6+2,ε⟩) bZ).trans q2;have l3:=(cR.cell (p:=⟨b,off+hi*6+3,ε⟩) bZ).trans q3;have l4:=(cR.cell (p:=⟨b,off+hi*6+4,ε⟩) bZ).trans q4;have l5:=(cR.cell (p:=⟨b,off+hi*6+5,ε⟩) bZ).trans q5;have Cz:=LZ hi x hx;obtain⟨ov,wO⟩:=az (lV x.1.1 x.1.2.1 x.1.2.2 d1 d2 d3);rw[wO] at Cz;have xz:=uC x d1 d2 d3;rw[wO] at xz;have HC:Hid (∀w',Ζ η 166 #[φ #[J x.1.1,J x.1.2.1,J x.1.2.2,J x.2.1,J x.2.2.1,J x.2.2.2],φ #[J d1,J d2,J d3]] w' fun e cD=>e=.returned (J ov)∧σ w'.heap.size w' cD):=qh xz;have F0:Hid (ov=cf hi):=qh Cz;clear hx bD bZ cR q0 q1 q2 q3 q4 q5 Cz wO xz;obtain⟨bq,Eb⟩:=az ((ov==0))
    have pJ:(decide (hi<n) && decide (cf hi=0))=bq:=by
     rw[decide_eq_true rX,←F0.out,←Eb,Bool.true_and,Bool.eq_iff_iff,decide_eq_true_iff,beq_iff_eq]
    have Cw:=qh pJ;clear pJ;go_upto_region 8 with fail
    have iM:=dE l0;have ld1:=dE l1;have rQ:=dE l2;have BZ:=dE l3;have B4:=dE l4;have WZ:=dE l5;have BE:=dX (i:=0) HX.out rfl;have Ap:=dX (i:=1) HX.out rfl;have Mb:=dX (i:=2) HX.out rfl;clear l0 l1 l2 l3 l4 l5;refine aw (aT) (by kernel_rfl) ?_;refine aq 0 ?_;refine aq 1 ?_;refine aq 2 ?_;refine aq 3 ?_;refine aq 4 ?_;refine aq 5 ?_;refine aq 6 ?_;refine aq 7 ?_;refine aq 8 ?_;refine aq 9 ?_;refine aq 10 ?_;refine bN 11 (hy:=by apply cz;rfl;rotate_left;intro w' aC;exact HC.out w';intro w';go_simp) (h:=?_);refine aq 12 ?_;refine aq 13 ?_;refine aq 14 ?_;refine aq 15 ?_;refine aG (by kernel_rfl) ?_ _;intro W3 iu;have cY:=qh (af (ba HB.out) iu);clear iu HB HX iM ld1 rQ BZ B4 WZ BE Ap Mb HC;go_wp2;refine JaN (v:=Ξ #[J (hi:Int),Β bq]) (by simp[results,Tryz.results165,go_sem]) rfl ?_;exact⟨hi,mA,HI.out.1,HI.out.2,by rw[Cw.out],cY.out⟩
   ·have e2:¬(hi:Int)<(n:Int):=by omega
    have e3:¬(hi:Int)<(hi:Int):=by omega
    have pJ:(decide (hi<n) && decide (cf hi=0))=ρ:=by rw[decide_eq_false rX];rfl
    have Cw:=qh pJ;clear pJ;go_upto_region 8 with fail
    refine aw (aT) (by kernel_rfl) ?_;refine aq 0 ?_;refine aq 1 ?_;refine aq 2 ?_;refine aq 3 ?_;refine aq 4 ?_;refine bP 5 ?_;refine bP 6 ?_;refine bP 7 ?_;refine bP 8 ?_;refine bP 9 ?_;refine bP 10 ?_;refine bP 11 ?_;refine bP 12 ?_;refine aq 13 ?_;refine aq 14 ?_;refine aq 15 ?_;refine aG (by kernel_rfl) ?_ _;intro W3 iu;have cY:=qh (af (ba HB.out) iu);clear iu HB HX;go_wp2;refine JaN (v:=Ξ #[J (hi:Int),Β ρ]) (by simp[results,Tryz.results165,go_sem]) rfl ?_;exact⟨hi,mA,HI.out.1,HI.out.2,by rw[Cw.out],cY.out⟩
theorem fv {P:Program} (w:ο) (dT sT ty elem:Υ) (s b o Ut Zo:Nat) (a:Κ) (TX aan m:Nat) (cs:List ψ)
 (hu:P.underlying dT=ζ (.slice elem)) (hs:(P.info? elem).map (·.size)=ζ s) (hm:Nat.min TX Ut=m) (hn:m*s=cs.length)
 (Ka:∀j v,cs[j]? =ζ v→w.cell? (a.add j)=ζ v) (hc:∀j,j<cs.length→(w.cell? ⟨b,o+j,ε⟩).isSome=τ) (hf:∀j,j<cs.length→w.frozen? ⟨b,o+j,ε⟩=ρ) (h1:∀v∈cs,v.oneCell'=τ):
 (Jbr #[dT,sT] ty #[γ (ζ ⟨b,o,ε⟩) Ut Zo,γ (ζ a) TX aan]).run P w=.ok (goInt m) (w.setCells b o cs):=by
 have hl:=run_loadCells_list (P:=P) w a cs Ka;have Gd:=run_storeCells_cells (P:=P) b o cs 0 w (by simpa using hc) (by simpa using hf) h1;cases hq:P.info? elem with
 |none=>simp[hq] at hs
 |some i=>
  have hi:i.size=s:=by simpa [hq] using hs
  simp[Jbr,run_underlying hu,Builtin.lenOf,Builtin.firstCells,sizeOf,typeInfo,hq,hi,hm,hn,hl,Gd]
theorem Dg {w W:ο} {B:Nat} {A:Option Κ} {n c vb:Nat} {G:List Gn} (x:Gn) (hO:Ow w B 98 6 (γ A n c) n (ao cj G) W) (hx:aS W W.heap.size 6 (ζ ⟨vb,0,ε⟩) 1 1 (ao cj [x])) (hn:n≤1000):
 Ζ η 168 #[γ A n c,J (n:Int),γ (ζ ⟨vb,0,ε⟩) 1 1] W fun e w'=>∃A' c',e=.returned (γ A' (n+1) c')∧Ow w B 98 6 (γ A' (n+1) c') (n+1) (ao cj (G++[x])) w':=by
 obtain⟨iG,Br,vZ,oE,sD⟩:=a6 mG;have HO:=qh hO;have HL:=qh hx;have tH:n≤c:=(bk hO.own).le;have qW:=fV hO.own;unfold Jap at qW;have e1:((n:Int)==(n:Int))=τ:=by simp
 clear hO hx
 by_cases Xj:c=n
 ·go_enter Tryz.func168,Tryz.ntmps168
  go_wp2_with (first
   |(at_builtin
     refine eX rfl (.tmp 23) (.tmp 24) _ rfl _ 98 iG _ 6 48 Tryz.underlying26 Br vZ oE sD rfl (by decide) _ _ _ rfl HO.out _ _ _ _ _ rfl HL.out (cS cj jC [x]) (by unfold Jap;omega) (by omega) ?_;intro v5 W5 mZ fM yf;obtain⟨A5,c5,rfl,-⟩:=mZ.rds;have kr:=qh mZ;clear mZ fM yf))
  go_ret;exact⟨_,_,rfl,by rw[bX];exact kr.out⟩
 ·go_enter Tryz.func168,Tryz.ntmps168
  go_wp2_with (first
   |(at_builtin
     refine eX rfl (.tmp 23) (.tmp 24) _ rfl _ 98 iG _ 6 48 Tryz.underlying26 Br vZ oE sD rfl (by decide) _ _ _ rfl HO.out _ _ _ _ _ rfl HL.out (cS cj jC [x]) (by unfold Jap;omega) (by omega) ?_;intro v5 W5 mZ fM yf;obtain⟨A5,c5,rfl,-⟩:=mZ.rds;have kr:=qh mZ;clear mZ fM yf))
  go_ret;exact⟨_,_,rfl,by rw[bX];exact kr.out⟩
theorem MU (rows junk new:List ψ) (i n:Nat) (hr:rows.length=n*6) (hi:i<n) (hj:6≤junk.length) (hn:new.length=6):
 eF (eF (rows++junk) ((i+1)*6) (rows.drop (i*6))) (i*6) new=(rows.take (i*6)++(new++rows.drop (i*6)))++junk.drop 6:=by
 obtain⟨P,hP⟩:=az (rows.take (i*6));obtain⟨S,hS⟩:=az (rows.drop (i*6));have Yy:rows=P++S:=by rw[←hP,←hS,List.take_append_drop]
 have SD:P.length=i*6:=by rw[←hP,JaA];omega
 have Yj:S.length=(n - i)*6:=by rw[←hS,Jaz];omega
 rw[hP,hS,Yy]
 have e1:eF (P++S++junk) ((i+1)*6) S=P++((S++junk).take 6++(S++junk.drop 6)):=by
  unfold eF;rw[Jay P S junk,Jbt,JaR,SD];rw[Ι (by omega),Jak (by omega),JaF,Jay];rw[show(i+1)*6 - i*6=6 by omega];congr 2;rw[JaR,Jak (by omega),JaF];rw[show(i+1)*6+S.length - i*6 - S.length=6 by omega]
 rw[e1];unfold eF;have EZ:((S++junk).take 6).length=6:=by rw[JaA,Ε];omega
 rw[Jbt,JaR,SD,hn,JaP,JbQ,Jbi,Ι (by omega),Jak (by omega),JaF];rw[show i*6+6 - i*6=6 by omega,JaR,EZ,Jak (by omega),JaF,JaP,List.drop_zero];simp[Jay]
theorem lC {W:ο} {g:Nat} {t:Υ} {cs:List ψ} (h:Whole W g t cs):W.shape? g=ζ (t,cs.length):=by
 have h2:W.heap[g]? =ζ (δ cs.toArray t):=h;simp[World.shape?,h2]
theorem gY {W:ο} {g:Nat} {t:Υ} {cs:List ψ} (h:Whole W g t cs) {j:Nat} (hj:j<cs.length):(W.cell? ⟨g,j,ε⟩).isSome=τ:=by
 rw[h.cell (i:=j) (θ hj)];rfl
theorem o6 {G:List Gn} (i:Nat):(ao cj G).take (i*6)=ao cj (G.take i)∧(ao cj G).drop (i*6)=ao cj (G.drop i):=⟨(jy cj bU G i).symm,(nj cj bU G i).symm⟩
theorem Aw {w W:ο} {B:Nat} {A:Option Κ} {n c vb i:Nat} {G:List Gn} (x:Gn) (hO:Ow w B 98 6 (γ A n c) n (ao cj G) W) (hx:Whole W vb 98 (cj x)) (bQ:ζ vb≠(Ο A n c).ownBlock) (hn:n≤1000) (hi:i<n) (Lo:n+1≤c):
 Ζ η 168 #[γ A n c,J (i:Int),γ (ζ ⟨vb,0,ε⟩) 1 1] W fun e w'=>∃A' c',e=.returned (γ A' (n+1) c')∧Ow w B 98 6 (γ A' (n+1) c') (n+1) (ao cj (G.take i++x::G.drop i)) w':=by
 obtain⟨iG,Br,vZ,oE,sD⟩:=a6 mG;obtain⟨b,junk,rfl,gi,hW,qI,tH,qW,pR⟩:=eT hO.own (by omega);have th:vb≠b:=fun e=>bQ (by rw[e];rfl)
 have Ak:(c - n)*6=junk.length:=by rw[Ε,pR] at qI;rw[Nat.sub_mul];omega
 have UW:6≤junk.length:=by rw[←Ak];omega
 unfold Jap at qW;have FP:(ao cj G++junk).length=c*6:=qI;have pj:(n - i)*6=((ao cj G).drop (i*6)).length:=by rw[Jaz,pR,←Nat.sub_mul]
 have mf:(η.info? 98).map (·.size)=ζ 6:=by rw[Br];simp[oE]
 have MT:∀w,(Go.sizeOf 98).run η w=.ok 6 w:=fun w=>by simp[sizeOf,typeInfo,Br,oE]
 have SH:∀lb cb,(callFunc 177 #[γ (ζ ⟨vb,0,ε⟩) 1 1,γ (ζ ⟨b,(i+1)*6,ε⟩) lb cb]).run η W=.ok (.value (Β ρ)) W:=fun lb cb=>by
  rw[run_callFunc_extern Tryz.func177 (by kernel_rfl) (by kernel_rfl) (by kernel_rfl) (e:=Extern.SlicesOverlaps.overlaps #[26,26] #[4]) (by kernel_rfl),
   Lib.run_overlaps_apart W 26 4 98 Tryz.underlying26 6 MT ⟨vb,0,ε⟩ ⟨b,(i+1)*6,ε⟩ 1 1 lb cb th 98 98 _ _ (lC hx) (lC hW) (by rw[qI];omega) (hx.free 0) (hx.free _)]
  rfl
 have Ic:∀v∈(ao cj G).drop (i*6),v.oneCell'=τ:=fun v hv=>cS cj jC G v (JbC hv)
 have Jf:∀ty dc sc,(Jbr #[26,26] ty #[γ (ζ ⟨b,(i+1)*6,ε⟩) (n - i) dc,γ (ζ ⟨b,i*6,ε⟩) (n+1 - i) sc]).run η W.drew=.ok (goInt (n - i:Nat)) (W.drew.setCells b ((i+1)*6) ((ao cj G).drop (i*6))):=fun ty dc sc=>
  fv W.drew _ _ ty 98 6 b ((i+1)*6) (n - i) dc ⟨b,i*6,ε⟩ (n+1 - i) sc (n - i) _ Tryz.underlying26 mf (by simp only[JbR];split<;>omega) pj
   (fun j v hj=>by
     rw[Ν];rw[JaS] at hj;exact hW.dr.cell (i:=i*6+j) (by rw[Jab (by have:=(ν.1 hj).1;omega)];exact hj))
   (fun j hj=>gY hW.dr (by rw[←pj] at hj;rw[FP];omega)) (fun j hj=>hW.dr.free _) Ic
 have wZ:=hW.dr.cells_ ((ao cj G).drop (i*6)) ((i+1)*6) W.drew _ (by rw[←pj,FP];omega);obtain⟨W1,a7⟩:=az (W.drew.setCells b ((i+1)*6) ((ao cj G).drop (i*6)));have kI:Whole W1 vb 98 (cj x):=a7▸hx.dr.cells_far th _ _;have fe:σ w.heap.size w W1:=a7▸below_setCells hO.below.drew (Λ hO.lo gi) _ _;have EN:W1.heap.size=W.heap.size:=by rw[←a7,cE];rfl
 rw[a7] at Jf wZ;have bD:(eF (ao cj G++junk) ((i+1)*6) ((ao cj G).drop (i*6))).length=c*6:=by rw[iP _ _ _ (by rw[←pj,FP];omega),FP]
 have Qx:∀ty dc,(Jbr #[26,26] ty #[γ (ζ ⟨b,i*6,ε⟩) (n+1 - i) dc,γ (ζ ⟨vb,0,ε⟩) 1 1]).run η W1=.ok (goInt (1:Nat)) (W1.setCells b (i*6) (cj x)):=fun ty dc=>
  fv W1 _ _ ty 98 6 b (i*6) (n+1 - i) dc ⟨vb,0,ε⟩ 1 1 1 _ Tryz.underlying26 mf (by simp only[JbR];split<;>omega) rfl
   (fun j v hj=>by
     rw[Ν,JaI];exact kI.cell hj)
   (fun j hj=>gY wZ (by rw[bD];rw[bU] at hj;omega)) (fun j hj=>wZ.free _) (jC x)
 have OE:=wZ.cells_ (cj x) (i*6) W1 _ (by rw[bD,bU];omega);rw[MU (ao cj G) junk (cj x) i n pR hi UW (bU x),(o6 i).1,(o6 i).2] at OE;have my:ao cj (G.take i)++(cj x++ao cj (G.drop i))=ao cj (G.take i++x::G.drop i):=by rw[bX];rfl
 rw[my] at OE;have Ss:G.length=n:=(bk hO.own).rlen bU (by decide)
 have jd:(ao cj (G.take i++x::G.drop i)).length=(n+1)*6:=by
  rw[←my,Ε,Ε,←(o6 i).1,←(o6 i).2,JaA,Jaz,pR,bU];omega
 have HF:Hid (Ow w B 98 6 (γ (ζ ⟨b,0,ε⟩) (n+1) c) (n+1) (ao cj (G.take i++x::G.drop i)) (W1.setCells b (i*6) (cj x))):=qh
  ⟨lL (junk:=junk.drop 6) OE gi (by rw[Ε,jd,Jaz,←Ak];omega) Lo (by unfold Jap;omega) jd,
   below_setCells fe (Λ hO.lo gi) _ _,hO.lo,by rw[cE,EN];exact hO.hi⟩
 have kZ:¬((i:Int)=(n:Int)):=by omega
 have qL:Jaw.wrap ((i:Int)+1)=(i:Int)+1:=by rw[JaT];omega
 have jU:Jaw.wrap ((n:Int)+1)=(n:Int)+1:=by rw[JaT];omega
 have fe:(0:Int)≤(i:Int)+1:=by omega
 have mA:i≤n:=by omega
 have Rx:((i:Int)+1).toNat=i+1:=by omega
 have ZP:((n:Int)+1).toNat=n+1:=by omega
 have ar:¬(c=i+1):=by omega
 have bw:(i:Int)≤(n:Int)+1:=by omega
 have s5:¬(c=i):=by omega
 have fM:¬(c:Int)<(n:Int)+1:=by omega
 have dO:(n:Int)+1≤(c:Int):=by omega
 have mixed:η.follows JbG=τ:=by kernel_rfl
 clear hO hx bQ hW qI pR th Ak UW FP pj mf MT Ic wZ a7 kI bD OE my Ss jd EN;go_enter Tryz.func168,Tryz.ntmps168;go_wp2_with (simp only[SH])
 go_region_law_o (refine step_copy_runI rfl _ _ 26 26 rfl _ _ (by simp[Act.eval,ξ]) (by simp[Act.eval,ξ]) (Jf _ _ _) ?_);go_wp2_with (at_builtin;refine wpList_copy_runI _ rfl _ _ 26 26 rfl _ _ rfl rfl (Qx _ _) ?_)
 go_ret;exact⟨_,_,rfl,HF.out⟩
theorem K8 (P Z new S:List ψ) (i:Nat) (hP:P.length=i*6) (hn:new.length=6) (hZ:6+S.length≤Z.length):
 eF (eF (P++Z) (i*6) new) ((i+1)*6) S=(P++(new++S))++Z.drop (6+S.length):=by
 have e1:eF (P++Z) (i*6) new=(P++new)++Z.drop 6:=by
  unfold eF;rw[Jbt,JaR,hP,hn,JaP,JbQ,Jbi,Ι (by omega),Jak (by omega),JaF];rw[show i*6+6 - i*6=6 by omega,Jay]
 have hl:(P++new).length=(i+1)*6:=by rw[Ε,hP,hn];omega
 rw[e1];unfold eF;rw[Jbt,JaR,hl,JaP,JbQ,Jbi,Ι (by omega),Jak (by omega),JaF];rw[show(i+1)*6+S.length - (i+1)*6=S.length by omega,List.drop_drop];simp[Jay]
theorem JF (k:Nat):(JaO (JbL #[J 0,J 0,J 0,J 0,J 0,J 0]).cells k).size=k*6:=by
 simp[JaO,Value.cells]
theorem zU {w W:ο} {B:Nat} {A:Option Κ} {n vb i:Nat} {G:List Gn} (x:Gn) (hO:Ow w B 98 6 (γ A n n) n (ao cj G) W) (hx:Whole W vb 98 (cj x)) (hn:n≤1000) (hi:i<n):
 Ζ η 168 #[γ A n n,J (i:Int),γ (ζ ⟨vb,0,ε⟩) 1 1] W fun e w'=>∃A' c',e=.returned (γ A' (n+1) c')∧Ow w B 98 6 (γ A' (n+1) c') (n+1) (ao cj (G.take i++x::G.drop i)) w':=by
 obtain⟨iG,Br,vZ,oE,sD⟩:=a6 mG;obtain⟨b,junk,rfl,gi,hW,qI,tH,qW,pR⟩:=eT hO.own (by omega);have pj:(n - i)*6=((ao cj G).drop (i*6)).length:=by rw[Jaz,pR,←Nat.sub_mul]
 have bD:((ao cj G).take (i*6)).length=i*6:=by rw[JaA,pR];omega
 have mf:(η.info? 98).map (·.size)=ζ 6:=by rw[Br];simp[oE]
 have Sw:i+(n+1 - i)=n+1:=by omega
 have PS:(n:Int)+1 - (i:Int)=((n+1 - i:Nat):Int):=by omega
 have Ic:∀v∈(ao cj G).drop (i*6),v.oneCell'=τ:=fun v hv=>cS cj jC G v (JbC hv)
 have hold:(Builtin.firstCells iG.size i (γ (ζ ⟨b,0,ε⟩) i n)).run η W.drew=.ok ((ao cj G).take (i*6)).toArray W.drew:=by
  rw[oE]
  exact run_firstCells_some W.drew 6 i ⟨b,0,ε⟩ i n _ bD (fun j v hj=>by
   rw[Ν,JaI];rw[List.getElem?_take] at hj;split at hj
   ·exact hW.dr.cell (i:=j) (by rw[Jab (ν.1 hj).1];exact hj)
   ·cases hj)
 obtain⟨g,hg⟩:=az W.heap.size;obtain⟨GC,NK⟩:=az (grownCap W (n+1) n 98);have ZD:n+1≤GC:=by rw[←NK];exact grownCap_ge W _ _ _
 have Lg:GC≤Jap:=by rw[←NK];exact grownCap_le_maxLen W (n+1) n 98 (by unfold Jap;omega)
 obtain⟨xF,Dk⟩:=az (((ao cj G).take (i*6)).toArray++JaO (JbL #[J 0,J 0,J 0,J 0,J 0,J 0]).cells (n+1 - i)++JaO (JbL #[J 0,J 0,J 0,J 0,J 0,J 0]).cells (GC - (n+1)))
 have U7:∀ty,(Builtin.append_ #[26,3] ty #[γ (ζ ⟨b,0,ε⟩) i n,J ((n:Int)+1 - (i:Int))]).run η W=.ok (γ (ζ ⟨g,0,ε⟩) (n+1) GC) (W.drew.alloc (δ xF 98)):=fun ty=>by
  have h:=Lib.run_append_grow_zeros W 26 3 ty 98 iG _ .i64 .i64 Tryz.underlying26 Tryz.underlying3 Br vZ (ζ ⟨b,0,ε⟩) i n _ hold (n+1 - i) (by omega) (by omega) (by omega) (by omega) (by rw[sD];omega) (by rw[sD,Sw];exact growslice_fits (by omega) (by omega));rw[Sw,hg,NK,Dk] at h;rw[PS];exact h
 obtain⟨Z,hZ⟩:=az ((JaO (JbL #[J 0,J 0,J 0,J 0,J 0,J 0]).cells (n+1 - i)++JaO (JbL #[J 0,J 0,J 0,J 0,J 0,J 0]).cells (GC - (n+1))).toList)
 have M6:Z.length=(GC - i)*6:=by
  rw[←hZ,Array.length_toList,Array.size_append,JF,JF];omega
 have Q6:xF=((ao cj G).take (i*6)++Z).toArray:=by
  rw[←Dk,←hZ];simp
 have VX:b≠g:=by have:=hW.lt;omega
 have Y1:vb≠g:=by have:=hx.lt;omega
 obtain⟨P,hP⟩:=az ((ao cj G).take (i*6));obtain⟨S,hS⟩:=az ((ao cj G).drop (i*6));rw[hP] at bD Q6;rw[hS] at pj Ic;have J6:(P++Z).length=GC*6:=by rw[Ε,bD,M6];omega
 have Gc:Whole (W.drew.alloc (δ xF 98)) g 98 (P++Z):=by
  rw[Q6];exact Whole.new2 hg.symm
 have QZ:Whole (W.drew.alloc (δ xF 98)) vb 98 (cj x):=hx.dr.alloc _;have Rn:Whole (W.drew.alloc (δ xF 98)) b 98 (ao cj G++junk):=hW.dr.alloc _;have ZK:=hO.below.size;have pC:σ w.heap.size w (W.drew.alloc (δ xF 98)):=aF (ba hO.below) _;have j7:(W.drew.alloc (δ xF 98)).heap.size=W.heap.size+1:=by simp
 obtain⟨V1,jr⟩:=az (W.drew.alloc (δ xF 98));rw[jr] at Gc QZ Rn pC j7 U7
 have CR:∀V,V=V1→∀ty dc,(Jbr #[26,26] ty #[γ (ζ ⟨g,i*6,ε⟩) (n+1 - i) dc,γ (ζ ⟨vb,0,ε⟩) 1 1]).run η V=.ok (goInt (1:Nat)) (V1.setCells g (i*6) (cj x)):=fun V hV ty dc=>by
  subst hV
  exact fv V _ _ ty 98 6 g (i*6) (n+1 - i) dc ⟨vb,0,ε⟩ 1 1 1 _ Tryz.underlying26 mf (by simp only[JbR];split<;>omega) rfl
   (fun j v hj=>by
     rw[Ν,JaI];exact QZ.cell hj)
   (fun j hj=>gY Gc (by rw[J6];rw[bU] at hj;omega)) (fun j hj=>Gc.free _) (jC x)
 have Lr:=Gc.cells_ (cj x) (i*6) V1 _ (by rw[J6,bU];omega);have QI:Whole (V1.setCells g (i*6) (cj x)) b 98 (ao cj G++junk):=Rn.cells_far VX _ _;have nD:σ w.heap.size w (V1.setCells g (i*6) (cj x)):=below_setCells pC (by omega) _ _;have kZ:(V1.setCells g (i*6) (cj x)).heap.size=W.heap.size+1:=by rw[cE,j7]
 obtain⟨V2,LV⟩:=az (V1.setCells g (i*6) (cj x));rw[LV] at Lr QI nD kZ CR;have Fj:(eF (P++Z) (i*6) (cj x)).length=GC*6:=by rw[iP _ _ _ (by rw[J6,bU];omega),J6]
 have Qz:∀ty dc sc,(Jbr #[26,26] ty #[γ (ζ ⟨g,(i+1)*6,ε⟩) (n - i) dc,γ (ζ ⟨b,i*6,ε⟩) (n - i) sc]).run η V2.drew=.ok (goInt (n - i:Nat)) (V2.drew.setCells g ((i+1)*6) S):=fun ty dc sc=>
  fv V2.drew _ _ ty 98 6 g ((i+1)*6) (n - i) dc ⟨b,i*6,ε⟩ (n - i) sc (n - i) _ Tryz.underlying26 mf (by simp only[JbR];split<;>omega) pj
   (fun j v hj=>by
     rw[Ν];rw[←hS,JaS] at hj;exact QI.dr.cell (i:=i*6+j) (by rw[Jab (ν.1 hj).1];exact hj))
   (fun j hj=>gY Lr.dr (by rw[←pj] at hj;rw[Fj];omega)) (fun j hj=>Lr.dr.free _) Ic
 have RW:=Lr.dr.cells_ S ((i+1)*6) V2.drew _ (by rw[←pj,Fj];omega);rw[K8 P Z (cj x) S i bD (bU x) (by rw[←pj,M6];omega)] at RW;have my:P++(cj x++S)=ao cj (G.take i++x::G.drop i):=by rw[←hP,←hS,(o6 i).1,(o6 i).2,bX];rfl
 have jd:(P++(cj x++S)).length=(n+1)*6:=by rw[Ε,Ε,bD,bU,←pj];omega
 have GS:(Z.drop (6+S.length)).length=(GC - (n+1))*6:=by rw[Jaz,M6,←pj];omega
 have HF:Hid (Ow w B 98 6 (γ (ζ ⟨g,0,ε⟩) (n+1) GC) (n+1) (ao cj (G.take i++x::G.drop i)) (V2.drew.setCells g ((i+1)*6) S)):=qh (by
  rw[←my];exact⟨lL (junk:=Z.drop (6+S.length)) RW (by have:=hO.hi;omega) (by rw[Ε,jd,GS];omega) ZD Lg jd,below_setCells (ba nD) (by omega) _ _,hO.lo,by rw[cE];show B≤V2.heap.size;have:=hO.hi;omega⟩)
 have hz3:¬((i:Int)=(n:Int)):=by omega
 have qL:Jaw.wrap ((i:Int)+1)=(i:Int)+1:=by rw[JaT];omega
 have jU:Jaw.wrap ((n:Int)+1)=(n:Int)+1:=by rw[JaT];omega
 have iu:Jaw.wrap ((n:Int)+1 - (i:Int))=(n:Int)+1 - (i:Int):=by rw[JaT];omega
 have fe:(0:Int)≤(i:Int)+1:=by omega
 have mA:i≤n:=by omega
 have Rx:((i:Int)+1).toNat=i+1:=by omega
 have ar:¬(GC=i+1):=by omega
 have bw:(i:Int)≤(n:Int):=by omega
 have s5:¬(n=i):=by omega
 have fM:¬(GC=i):=by omega
 have dO:(n:Int)<(n:Int)+1:=by omega
 unfold Jap at Lg;have mixed:η.follows JbG=τ:=by kernel_rfl
 subst jr;have Sk:∀ty dc,(Jbr #[26,26] ty #[γ (ζ ⟨g,i*6,ε⟩) (n+1 - i) dc,γ (ζ ⟨vb,0,ε⟩) 1 1]).run η (W.alloc (δ xF 98)).drew=.ok (goInt (1:Nat)) V2:=fun ty dc=>CR _ rfl ty dc
 clear CR LV;clear hO hx hW qI pR Y1 VX pj mf Ic hold bD Sw PS Dk M6 Q6 hZ J6 Gc QZ Rn pC j7 Lr QI nD kZ Fj RW my jd GS hP hS NK ZK;go_enter Tryz.func168,Tryz.ntmps168
 go_wp2_with (first
  |(at_builtin;refine Lib.wpList_append_run _ rfl _ _ _ _ rfl _ _ rfl rfl _ _ (U7 _) ?_)
  |(at_builtin;refine wpList_copy_runI _ rfl _ _ 26 26 rfl _ _ rfl rfl (Sk _ _) ?_))
 go_region_law_o (refine step_copy_runI rfl _ _ 26 26 rfl _ _ (by simp[Act.eval,ξ]) (by simp[Act.eval,ξ]) (Qz _ _ _) ?_);go_wp2;go_ret;exact⟨_,_,rfl,HF.out⟩
theorem Dz {w W:ο} {B:Nat} {A:Option Κ} {n c vb i:Nat} {G:List Gn} (x:Gn) (hO:Ow w B 98 6 (γ A n c) n (ao cj G) W) (hx:Whole W vb 98 (cj x)) (bQ:ζ vb≠(Ο A n c).ownBlock) (hn:n≤1000) (hi:i≤n):
 Ζ η 168 #[γ A n c,J (i:Int),γ (ζ ⟨vb,0,ε⟩) 1 1] W fun e w'=>∃A' c',e=.returned (γ A' (n+1) c')∧Ow w B 98 6 (γ A' (n+1) c') (n+1) (ao cj (G.take i++x::G.drop i)) w':=by
 have tH:n≤c:=(bk hO.own).le;have Ss:G.length=n:=(bk hO.own).rlen bU (by decide);rcases JaM i n with h|h
 ·rcases JaM n c with h2|h2
  ·exact Aw x hO hx bQ hn h h2
  ·obtain rfl:n=c:=by omega
   exact zU x hO hx hn h
 ·obtain rfl:n=i:=by omega
  rw[Ι (by omega),Jak (by omega)];exact Dg x hO (by rw[D4];exact aS.of_whole hx rfl) hn
theorem EX (A:Option Κ) (n c:Nat) (xs:List ψ) (w:ο) (h:aS w w.heap.size 6 A n c xs) (h1:∀u∈xs,u.oneCell'=τ) (hn:n≤1000000):
 Ζ η 81 #[γ A n c] w fun e w'=>∃A' c',e=.returned (γ A' n c')∧Ow w w.heap.size 98 6 (γ A' n c') n xs w':=by
 obtain⟨i0,hi,nz,j7,kZ⟩:=a6 mG;cases A with
 |none=>
  obtain⟨rfl,rfl⟩:=h.none_ rfl;have kg:xs=[]:=List.eq_nil_of_length_eq_zero (by simpa using h.len);subst kg;have kg:∀w',(binOp .eql 26 (γ ε 0 0) (γ ε 0 0)).run η w'=.ok (Β τ) w':=fun w'=>JbH w' _ _ _ _ _ _ _ Tryz.underlying26
  clear h h1;go_enter Tryz.func81,Tryz.ntmps81;go_wp2;go_ret;exact⟨_,_,rfl,Ow.nil_ (Θ _ _) (Δ _) (Δ _)⟩
 |some a=>
  have H:=qh (h.al (δ #[] 98));have HO:Hid (Ow w w.heap.size 98 6 (γ (ζ ⟨w.heap.size,0,ε⟩) 0 0) 0 [] (w.alloc (δ #[] 98))):=qh (Ow.new_ (cs:=#[]) (Θ _ _) (Δ _) (Δ _) (Jas _) rfl);have kg:∀w',(binOp .eql 26 (γ (ζ a) n c) (γ ε 0 0)).run η w'=.ok (Β ρ) w':=fun w'=>JbH w' _ _ _ _ _ _ _ Tryz.underlying26
  clear h;go_enter Tryz.func81,Tryz.ntmps81
  go_wp2_with (first
   |(at_builtin
     refine eX rfl (.tmp 5) (.tmp 6) _ rfl _ 98 i0 _ 6 48 Tryz.underlying26 hi nz j7 kZ rfl (by decide) _ _ _ rfl (by exact HO.out) _ (ζ a) n c xs rfl (by exact H.out) h1 (by unfold Jap;omega) (by omega) ?_;intro v1 w1 eY fe KX;rw[JaI,JaF] at eY;obtain⟨Aq,cq,rfl,-⟩:=eY.rds;have lY:=qh eY;clear eY fe KX))
  go_ret;exact⟨_,_,rfl,lY.out⟩
def nX:List Gn→Gn→List Gn
 |[],x=>[x]
 |y::G,x=>if cB y x<0 then y::nX G x else if cB y x=0 then x::G else x::y::G
theorem EA:∀(G:List Gn) (x:Gn) (i:Nat) (cf:Nat→Int),(∀t y,G[t]? =ζ y→cB y x=cf t)→i≤G.length→(∀t,t<i→cf t<0)→(∀t,i≤t→t<G.length→0≤cf t)→
 nX G x=if i<G.length∧cf i=0 then G.set i x else G.take i++x::G.drop i
 |[],x,i,cf,hc,hi,h1,h2=>by
  obtain rfl:i=0:=by simpa using hi
  rw[if_neg (fun q=>by simp at q)];rfl
 |y::G,x,i,cf,hc,hi,h1,h2=>by
  have h0:cB y x=cf 0:=hc 0 y rfl;cases i with
  |zero=>
   have h3:0≤cf 0:=h2 0 (Δ _) (by simp)
   show(if cB y x<0 then _ else _)=_
   rw[if_neg (by omega)]
   by_cases hz:cf 0=0
   ·rw[if_pos (by omega),if_pos ⟨by simp,hz⟩];rfl
   ·rw[if_neg (by omega),if_neg (fun q=>hz q.2)];rfl
  |succ i=>
   have h3:cf 0<0:=h1 0 (by omega)
   show(if cB y x<0 then _ else _)=_
   rw[if_pos (by omega),EA G x i (fun t=>cf (t+1)) (fun t z hz=>hc (t+1) z hz) (by simpa using hi) (fun t ht=>h1 (t+1) (by omega)) (fun t h4 h5=>h2 (t+1) (by omega) (by simpa using h5))]
   by_cases hq:i<G.length∧cf (i+1)=0
   ·rw[if_pos hq,if_pos ⟨by simpa using hq.1,hq.2⟩];rfl
   ·rw[if_neg hq,if_neg (fun q=>hq ⟨by simpa using q.1,q.2⟩)];rfl
theorem Hz {P:Program} {ops:Array Oper} {Q:Exit→Act→ο→Prop} {o:Oper} {rest:List Oper} {a:Act} {w w':ο} (hd:o.dst=ε) (hw:Region.wanted o (yielded ops a.tmps)=τ) (bL:(execOp a.eval o).run P w=.ok .skip w')
 (h:wpList P ops Q rest a w'):wpList P ops Q (o::rest) a w:=by
 refine wpList_step fun K hK=>?_
 rw[if_pos hw];unfold Oper.wp;rw[bL,Oper.upon_skip,hd];exact hK _ _ h
theorem hD (y x:Gn):cB y x=0↔y.1=x.1:=by
 unfold cB;rw[sP];obtain⟨⟨a,b,c⟩,y2⟩:=y;obtain⟨⟨d,e,f⟩,x2⟩:=x;simp
theorem zG:∀(G:List Gn) (x:Gn),(nX G x).length≤G.length+1
 |[],x=>Δ _
 |y::G,x=>by
  show(if cB y x<0 then y::nX G x else if cB y x=0 then x::G else x::y::G).length≤G.length+1+1
  have:=zG G x
  split
  ·simp only[List.length_cons];omega
  ·split<;>simp
def fi:List Gn→Prop
 |[]=>True
 |[_]=>True
 |y::z::G=>cB y z<0∧fi (z::G)
theorem qm {a b c:Gn} (h:cB a b≤0) (k:cB b c≤0):cB a c≤0:=vL _ _ _ _ _ _ _ _ _ h k
theorem nT (a b:Gn):cB b a= - cB a b:=Bc _ _ _ _ _ _
theorem xO (a:Gn):cB a a=0:=(hD a a).2 rfl
theorem ns {y:Gn} {G:List Gn} (h:fi (y::G)):fi G:=by
 cases G with
 |nil=>trivial
 |cons z G=>exact h.2
theorem lx:∀(G:List Gn) {y z:Gn},fi (y::G)→z∈y::G→cB y z≤0
 |[],y,z,h,hz=>by
  obtain rfl:=List.mem_singleton.1 hz;rw[xO];exact Int.le_refl _
 |z1::G,y,z,h,hz=>by
  rcases List.mem_cons.1 hz with rfl|hz
  ·rw[xO];exact Int.le_refl _
  ·exact qm (Int.le_of_lt h.1) (lx G h.2 hz)
theorem zz:∀(G:List Gn) (a b:Nat) {z y:Gn},fi G→a≤b→G[a]? =ζ z→G[b]? =ζ y→cB z y≤0
 |[],a,b,z,y,h,Ad,hz,hy=>by simp at hz
 |g::G,0,b,z,y,h,Ad,hz,hy=>by
  obtain rfl:g=z:=by simpa using hz
  exact lx G h (ω hy)
 |g::G,a+1,0,z,y,h,Ad,hz,hy=>by omega
 |g::G,a+1,b+1,z,y,h,Ad,hz,hy=>zz G a b (ns h) (by omega) (by simpa using hz) (by simpa using hy)
theorem Cp {G:List Gn} (h:fi G) (x:Gn) {a b:Nat} {z y:Gn} (Ad:a≤b) (hz:G[a]? =ζ z) (hy:G[b]? =ζ y) (hb:cB y x<0):cB z x<0:=by
 have h1:=zz G a b h Ad hz hy;have h2:=qm h1 (Int.le_of_lt hb)
 have h3:cB z x≠0:=fun e=>by
  have e1:=(hD z x).1 e;have e2:cB y x=cB y z:=by unfold cB;rw[e1]
  rw[e2,nT z y] at hb;omega
 omega
def Wb (G:List Gn) (x:Gn) (t:Nat):Int:=cB (G.getD t (zD,zD)) x
theorem vz (G:List Gn) (x:Gn):∀t y,G[t]? =ζ y→cB y x=Wb G x t:=fun t y h=>by
 unfold Wb;rw[List.getD_eq_getElem?_getD,h];rfl
theorem I0 {G:List Gn} (h:fi G) (x:Gn) {n:Nat} (hn:G.length=n):∀a b,a≤b→b<n→Wb G x b<0→Wb G x a<0:=fun a b Ad hb hc=>by
 have ha:=θ (l:=G) (i:=a) (by omega);have ar:=θ (l:=G) (i:=b) (by omega);rw[←vz G x b _ ar] at hc;rw[←vz G x a _ ha];exact Cp h x Ad ha ar hc
theorem qF:∀{G:List Gn},fi G→G.Pairwise (fun a b=>cB a b<0)
 |[],_=>List.Pairwise.nil
 |y::G,h=>by
  refine List.Pairwise.cons (fun z hz=>?_) (qF (ns h));cases G with
  |nil=>cases hz
  |cons g G=>
   have h1:=lx G h.2 hz;have h2:=h.1;have h3:=qm (Int.le_of_lt h2) h1
   have h4:cB y z≠0:=fun e=>by
    have e1:=(hD y z).1 e;have e2:cB g z=cB g y:=by unfold cB;rw[e1]
    rw[e2,nT y g] at h1;omega
   omega
theorem xh:∀(G:List Gn) (x:Gn),fi G→fi (nX G x)
 |[],x,_=>trivial
 |[y],x,_=>by
  show fi (if cB y x<0 then[y,x] else if cB y x=0 then[x] else[x,y])
  by_cases h1:cB y x<0
  ·rw[if_pos h1];exact⟨h1,trivial⟩
  ·rw[if_neg h1]
   by_cases h0:cB y x=0
   ·rw[if_pos h0];trivial
   ·rw[if_neg h0];exact⟨by rw[nT y x];omega,trivial⟩
 |y::z::G,x,h=>by
  have h0:=xh (z::G) x h.2;show fi (if cB y x<0 then y::nX (z::G) x else if cB y x=0 then x::z::G else x::y::z::G)
  by_cases h1:cB y x<0
  ·rw[if_pos h1];have e:nX (z::G) x=if cB z x<0 then z::nX G x else if cB z x=0 then x::G else x::z::G:=rfl
   rw[e] at h0 ⊢;split
   ·rename_i h2;rw[if_pos h2] at h0;exact⟨h.1,h0⟩
   ·rename_i h2;rw[if_neg h2] at h0;split
    ·rename_i h3;rw[if_pos h3] at h0;exact⟨h1,h0⟩
    ·rename_i h3;rw[if_neg h3] at h0;exact⟨h1,h0⟩
  ·rw[if_neg h1]
   by_cases h2:cB y x=0
   ·rw[if_pos h2];have e1:=(hD y x).1 h2;have e2:cB x z=cB y z:=by unfold cB;rw[e1]
    exact⟨by rw[e2];exact h.1,h.2⟩
   ·rw[if_neg h2];exact⟨by rw[nT y x];omega,h⟩
end Go.Proofs.YtpdpbfmiahjiiaaGreat
