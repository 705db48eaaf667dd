/- Several texts in one. -/
import Derived.Test.YtpdpbfmiahjiiaaGreatPsAB
import Derived.Test.YtpdpbfmiahjiiaaGreatPsBA
set_option linter.unusedSectionVars false
set_option linter.unusedSimpArgs false
set_option linter.unusedVariables false
set_option maxRecDepth 100000
set_option maxHeartbeats 16000000
namespace Go.Proofs.YtpdpbfmiahjiiaaGreat
open Go.RowKit
open _root_.Go.Value renaming slice→γ,string→μ,bool→Β
open _root_.Go.Obj renaming cells→δ
open _root_.Option renaming none→ε,some→ζ
open _root_.List renaming getElem?_eq_getElem→θ,getElem?_eq_some_iff→ν,mem_cons→Η,take_of_length_le→Ι,length_map→Ρ,getElem?_map→Ψ,getElem?_append_left→Jab,drop_of_length_le→Jak,length_take→JaA,take_succ_eq_append_getElem→JaQ,not_mem_nil→Jbh,append_nil→Jbi
open _root_.Bool renaming false→ρ,true→τ
open _root_.Go.RowKit renaming Below→σ
open _root_.Go.RowKit.Below renaming refl→Θ
open _root_.Nat renaming le_trans→Λ,zero_le→Jas,sub_self→JaP
open _root_.Go.Addr renaming add_lit→Ν
theorem mapK_next {α:Type} (g:α→α) {V:List α} {j:Nat} {v:α} (h:V[j]? =ζ v):(V.take (j+1)).map g++V.drop (j+1)=((V.take j).map g++V.drop j).set j (g v):=by
 obtain⟨hj,e⟩:=ν.1 h;have hl:((V.take j).map g).length=j:=by rw[Ρ,JaA];omega
 rw[List.set_append,if_neg (by omega),hl,JaP,List.drop_eq_getElem_cons hj,List.set_cons_zero,JaQ hj,e,List.map_append,List.append_assoc];rfl
theorem mapK_at {α:Type} (g:α→α) {V:List α} {j:Nat} {v:α} (h:V[j]? =ζ v):((V.take j).map g++V.drop j)[j]? =ζ v:=by
 obtain⟨hj,e⟩:=ν.1 h;have hl:((V.take j).map g).length=j:=by rw[Ρ,JaA];omega
 rw[List.getElem?_append_right (by omega),hl,JaP,List.getElem?_drop,Nat.add_zero,h]
theorem anyK_next {α:Type} (p:α→Bool) {V:List α} {j:Nat} {v:α} (h:V[j]? =ζ v):(V.take (j+1)).any p=((V.take j).any p||p v):=by
 obtain⟨hj,e⟩:=ν.1 h;rw[JaQ hj,e,List.any_append];simp
section
variable {W:World} {lo:Nat} {A B:Option Addr} {n c m k:Nat} {Us:List VC} {Es:List EC} {g:Nat}
theorem uz.vat (h:uz W lo A n c Us B m k Es) {j:Nat} {x:VC} (hx:Us[j]? =ζ x) (hj:j<n):∃g,A=ζ ⟨g,0,ε⟩∧lo≤g∧(∃cs,Whole W g 59 cs)∧(∀i u,(vC x)[i]? =ζ u→W.cell? ⟨g,j*5+i,ε⟩=ζ u):=by
 obtain⟨g,junk,e,fw,hw,-⟩:=cN h.v (by omega)
 refine⟨g,e,fw,⟨_,hw⟩,fun i u hu=>hw.cell ?_⟩
 have h1:=pQ vC aS Us j x hx i u hu;rw[Jab (ν.1 h1).1];exact h1
theorem uz.eat (h:uz W lo A n c Us B m k Es) {j:Nat} {x:EC} (hx:Es[j]? =ζ x) (hj:j<m):∃g,B=ζ ⟨g,0,ε⟩∧lo≤g∧(∃cs,Whole W g 67 cs)∧(∀i u,(eC x)[i]? =ζ u→W.cell? ⟨g,j*4+i,ε⟩=ζ u):=by
 obtain⟨g,junk,e,fw,hw,-⟩:=cN h.e (by omega)
 refine⟨g,e,fw,⟨_,hw⟩,fun i u hu=>hw.cell ?_⟩
 have h1:=pQ eC bM Es j x hx i u hu;rw[Jab (ν.1 h1).1];exact h1
theorem uz.vset (h:uz W lo (ζ ⟨g,0,ε⟩) n c Us B m k Es) {j i:Nat} {x y:VC} {u:Value} (hx:Us[j]? =ζ x) (hj:j<n) (hi:i<5) (hy:vC y=(vC x).set i u) (hr:y.2.1=x.2.1):W.frozen? ⟨g,j*5+i,ε⟩=ρ∧uz (W.setCell ⟨g,j*5+i,ε⟩ u) lo (ζ ⟨g,0,ε⟩) n c (Us.set j y) B m k Es:=by
 obtain⟨g',junk,e,fw,hw,hc,hf,ho⟩:=eZ aS h.v hx hj hi hy
 obtain rfl:g=g':=by
  injection e with e
  injection e
 refine⟨hf,ho,aT h.e (bD h.e hw (by decide)) _,fun z hz=>?_⟩
 rcases List.mem_or_eq_of_mem_set hz with hz|rfl
 ·exact aT (h.r z hz) (bD (h.r z hz) hw (by decide)) _
 ·rw[hr];have hm:=h.r x (List.mem_of_getElem? hx);exact aT hm (bD hm hw (by decide)) _
theorem uz.eset (h:uz W lo A n c Us (ζ ⟨g,0,ε⟩) m k Es) {j i:Nat} {x y:EC} {u:Value} (hx:Es[j]? =ζ x) (hj:j<m) (hi:i<4) (hy:eC y=(eC x).set i u):W.frozen? ⟨g,j*4+i,ε⟩=ρ∧uz (W.setCell ⟨g,j*4+i,ε⟩ u) lo A n c Us (ζ ⟨g,0,ε⟩) m k (Es.set j y):=by
 obtain⟨g',junk,e,fw,hw,hc,hf,ho⟩:=eZ bM h.e hx hj hi hy
 obtain rfl:g=g':=by
  injection e with e
  injection e
 exact⟨hf,aT h.v (bD h.v hw (by decide)) _,ho,fun z hz=>aT (h.r z hz) (bD (h.r z hz) hw (by decide)) _⟩
end
theorem rset_any {W:World} {A:Option Addr} {n c:Nat} {Vs:List VC} {B:Option Addr} {m k:Nat} {Es:List EC} {C:Option Addr} {r rc:Nat} {G:List Gn} (h:bz W A n c Vs B m k Es) (hg:bg W W.heap.size 6 C r rc (ah cZ G)) (hS:gD (Vs.map vS,Es,G)) (o:dR):
 Calls Tryz.prog 52 #[.agg #[γ A n c,γ B m k,γ C r rc],.agg (ak o).toArray] W (GivesSt W (setS (Vs.map vS,Es,G) (bL o) o.e (fV o))):=by
 have QV:Vs.length=n:=h.v.rlen aS (by decide);have Fb:Es.length=m:=h.e.rlen bM (by decide);have h24:Vs.length≤24:=by have:=hS.v24;rwa [Ρ] at this
 have h40:Es.length≤40:=hS.e40;have hr8:∀y∈Vs,y.2.1.2.1≤80:=RgL.to h hS.short
 have HCl:=qh (fun X (hX:σ W.heap.size W X)=>Gd A n c Vs B m k Es X (h.below hX) (by omega) (by omega) (fun y hy=>by have:=hr8 y hy;omega));have HGo:=qh hg;have HEl:=qh Fb;obtain⟨V,gV⟩:=aB (Vs.map vS);have HLV:Hid (V.length=n):=qh (by rw[←gV,Ρ];exact QV);rw[gV] at HCl ⊢;obtain⟨R,gR⟩:=aB (setS (V,Es,G) (bL o) o.e (fV o));have HR:=qh gR;rw[gR];have P4:n≤24:=by omega
 have RF:m≤40:=by omega
 clear gR gV h hg hS QV Fb h24 h40 hr8;go_enter Tryz.func52,Tryz.ntmps52;go_upto_region 1 with fail
 obtain⟨W0,b0,b1,b2,bO,bp,dE,jc,aQ,aL,aZ,bw,-,-,oa,-,iP,-,eI,uW,RA,tU⟩:=Bs W 28 [γ A n c,γ B m k,γ C r rc] 36 (ak o) 28 [γ ε 0 0,γ ε 0 0,γ ε 0 0];rw[bO,jc,dE,bp];clear bO bp dE jc;have x0:=aQ.out.cell (i:=0) rfl;have x1:=aQ.out.cell (i:=1) rfl
 go_upto_region 4 with (first
  |(go_at_call 23
    refine(HCl.out _ bw.out).mono ?_
    rintro e w2 ⟨A5,c5,B5,k5,Ws,rfl,Ph,S1,fP⟩;have XU:=qh Ph;have Sn:=qh S1;have kF:=qh fP;clear Ph S1 fP x0 x1))
 have Ph:=XU.out;have fP:=kF.out;have HC:=qh (Ph.al (δ #[γ A5 n c5,γ B5 m k5] 25));have HWs:=Sn;have bG:=qh (aI (ag bw.out fP) (δ #[γ A5 n c5,γ B5 m k5] 25));have HX:Hid (Bx (w2.alloc (δ #[γ A5 n c5,γ B5 m k5] 25)) [(b0,28,[γ A n c,γ B m k,γ C r rc]),(b1,36,ak o),(b2,28,[γ ε 0 0,γ ε 0 0,γ ε 0 0]),(w2.heap.size,25,[γ A5 n c5,γ B5 m k5])]):=qh ⟨(aQ.out.bl fP).al _,(aL.out.bl fP).al _,(aZ.out.bl fP).al _,Whole.new_ w2 25 [γ A5 n c5,γ B5 m k5],trivial⟩;have HL0:Hid (W.heap.size≤W0.heap.size):=qh bw.out.size;clear Ph fP XU kF Sn aQ aL aZ bw HCl;obtain⟨w3,gw3⟩:=aB (w2.alloc (δ #[γ A5 n c5,γ B5 m k5] 25));obtain⟨b3,Z6⟩:=aB w2.heap.size;rw[gw3] at HC bG HX ⊢;rw[Z6] at HX ⊢;clear gw3 Z6;obtain⟨lo,Su⟩:=aB W0.heap.size;rw[Su] at HC HL0;clear Su;have HQv:Hid (∀v:VS,decide (v.1=bL o)=decide (v.1=bL o)):=qh (fun _=>rfl);cases he:o.e with
 |false=>
  have HE:=qh he;clear he;go_loopw [7,8] (fun vf vi wr=>∃(j:Nat) (Us:List VC),j≤n∧vf=Β ((V.take j).any (fun v:VS=>decide (v.1=bL o)))∧vi=J (j:Int)∧Hid (Bx wr [(b0,28,[γ A n c,γ B m k,γ C r rc]),(b1,36,ak o),(b2,28,[γ ε 0 0,γ ε 0 0,γ ε 0 0]),(b3,25,[γ A5 n c5,γ B5 m k5])])∧Hid (uz wr lo A5 n c5 Us B5 m k5 Es)∧Hid (σ W.heap.size W wr)∧Hid (Us.map vS=(V.take j).map (fun v:VS=>if v.1=bL o then(v.1,v.2.1,fV o v.2.2) else v)++V.drop j)) (fun _ vi _=>n - (intOf vi).toNat)
  case atStart=>exact⟨0,Ws,Jas _,rfl,rfl,HX,HC,bG,qh (by rw[HWs.out];rfl)⟩
  case round=>
   clear HX HC bG;obtain⟨j,Us,hj,rfl,rfl,HX,HC,HB,HU⟩:=hrel;obtain⟨wo,cS⟩:=aB wr;rw[cS] at HX HC HB ⊢;clear cS;obtain⟨pf,gp⟩:=aB ((V.take j).any (fun v:VS=>decide (v.1=bL o)));rw[gp];have GP:=qh gp;clear gp;have c0:=HX.out.2.2.2.1.cell (i:=0) rfl
   by_cases nT:j<n
   ·have ya:(j:Int)<(n:Int):=by omega
    obtain⟨v,hv⟩:∃v,V[j]? =ζ v:=⟨_,θ (by have:=HLV.out;omega)⟩
    have hUj:=mapK_at (fun v:VS=>if v.1=bL o then(v.1,v.2.1,fV o v.2.2) else v) hv;have hUn:=mapK_next (fun v:VS=>if v.1=bL o then(v.1,v.2.1,fV o v.2.2) else v) hv;have hAn:=anyK_next (fun v:VS=>decide (v.1=bL o)) hv;rw[←HU.out,Ψ] at hUj;rw[←HU.out] at hUn;obtain⟨y,hy,Xj⟩:=Option.map_eq_some_iff.1 hUj;have vW:v.1=y.1:=congrArg (·.1) Xj.symm;have HYv:=qh Xj;obtain⟨g,rfl,fw,⟨cs,hwg⟩,yC⟩:=HC.out.vat hy nT;have HY:=qh hy;have HUn:=qh hUn;have HAn:=qh hAn;have NI:=qh fw;have HWg:=qh hwg;have HCe:=qh yC
    have HPi:Hid (∀w',Kept aO wo.drew w'→∀i u,[J y.1.1,J y.1.2][i]? =ζ u→w'.cell? ((⟨g,j*5,ε⟩:Addr).add i)=ζ u):=qh (fun w' h i u hu=>h.nil_cell (by
     rw[Ν];refine yC i u ?_;rcases i with _|_|i
     ·exact hu
     ·exact hu
     ·simp at hu))
    have hq:=eqlI_run y.1.1 y.1.2 o.s o.n;clear hv hUj hUn hAn hy fw hwg yC Xj
    by_cases Tl:y.1=bL o
    ·have HQ:=qh (fun X=>(hq X).trans (by rw[decide_eq_true (show(y.1.1,y.1.2)=(o.s,o.n) from Tl)]:_=.ok (Β τ) X));have HXY:=qh Tl;clear hq Tl;go_upto_region 6 with fail
     have fL:∀w',Kept aO wo.drew w'→w'.cell? ⟨b3,0,ε⟩=ζ (γ (ζ ⟨g,0,ε⟩) n c5):=fun w' h=>h.nil_cell (HX.out.2.2.2.1.dr.cell (i:=0) rfl)
     have ld1:∀w',Kept aO wo.drew w'→w'.cell? ⟨b1,17,ε⟩=ζ (Β ρ):=fun w' h=>h.nil_cell ((HX.out.2.1.dr.cell (i:=17) rfl).trans (by rw[HE.out]))
     refine ay (aO) (by kernel_rfl) ?_;refine aa 0 ?_;refine aa 1 ?_;refine aa 2 ?_;refine aa 3 ?_;refine aa 4 ?_;refine aa 5 ?_;refine aa 6 ?_;refine aa 7 ?_;refine aa 8 ?_;refine cV 9 (hy:=nS (by rfl) 30 (.tmp 28) rfl ⟨g,j*5,ε⟩ rfl [J y.1.1,J y.1.2] _ HPi.out Tryz.underlying30 rfl (by kernel_rfl)) (h:=?_);refine aa 10 ?_;refine cV 11 (hy:=nS (by rfl) 30 (.tmp 30) rfl ⟨b1,1,ε⟩ rfl [J o.s,J o.n] _ (fun w' h i u hu=>(h.whole HX.out.2.1.dr (fun h=>h)).sub_ (cs:=ak o) (ds:=[J o.s,J o.n]) 1 hu) Tryz.underlying30 rfl (by kernel_rfl)) (h:=?_);refine cV 12 (hy:=dD (by rfl) (fun w' _=>dU .eql 30 (.tmp 29) (.tmp 31) 30 rfl rfl rfl (by kernel_rfl) (HQ.out w'))) (h:=?_);refine aa 13 ?_;refine aF (by kernel_rfl) ?_ _;intro w5 hw5;have hx5:σ wo.heap.size wo w5:=(Θ wo.heap.size wo).drew.trans hw5;have oK:=qh (HX.out.up hx5);have XU:=qh (HC.out.bl hx5);have kF:=qh (ag HB.out hx5);have HWg5:=qh (HWg.out.bl hx5);have HCe5:=qh (fun i u hu=>(hx5.cell (p:=⟨g,j*5+i,ε⟩) HWg.out.lt).trans (HCe.out i u hu):∀i u,(vC y)[i]? =ζ u→w5.cell? ⟨g,j*5+i,ε⟩=ζ u);clear hw5 hx5 HX HC HB HPi c0 HQ fL ld1 HWg HCe
     by_cases xU:o.k=7
     ·have z0:=oK.out.2.1.cell (i:=0) rfl;have z1:=oK.out.2.1.cell (i:=18) rfl;have z2:=oK.out.2.2.2.1.cell (i:=0) rfl;have z3:=HCe5.out 3 _ rfl;obtain⟨z4,hc6⟩:=XU.out.vset (i:=3) (y:=(y.1,y.2.1,o.t,y.2.2.2)) (u:=μ o.t) HY.out nT (by decide) rfl rfl;have tm:=qh hc6;clear hc6;go_upto_region 5 with fail
      clear z0 z1 z2 z3 z4
      have p9:=qh (Bx.st (g:=g) (i:=j*5+3) (μ o.t) oK.out (fun q hq=>by
       simp only[Η,Jbh,or_false] at hq;obtain⟨Xy,Rc⟩:∃Xy,Whole w5 g 59 Xy:=⟨_,HWg5.out⟩
       rcases hq with rfl|rfl|rfl|rfl
       ·exact oK.out.1.ne_ Rc (show 28≠59 by decide)
       ·exact oK.out.2.1.ne_ Rc (show 36≠59 by decide)
       ·exact oK.out.2.2.1.ne_ Rc (show 28≠59 by decide)
       ·exact oK.out.2.2.2.1.ne_ Rc (show 25≠59 by decide)))
      have s7:=qh (kF.out.setCell (p:=⟨g,j*5+3,ε⟩) (Λ HL0.out NI.out) (μ o.t))
      have HU6:Hid ((Us.set j (y.1,y.2.1,o.t,y.2.2.2)).map vS=(V.take (j+1)).map (fun v:VS=>if v.1=bL o then(v.1,v.2.1,fV o v.2.2) else v)++V.drop (j+1)):=qh (by
       rw[HUn.out,List.map_set,if_pos (show v.1=bL o from vW.trans HXY.out),←HYv.out];show _=(List.map vS Us).set j ((vS y).1,(vS y).2.1,fV o (vS y).2.2);unfold fV;rw[if_pos xU];rfl)
      have D1:Hid ((V.take (j+1)).any (fun v:VS=>decide (v.1=bL o))=τ):=qh (by rw[HAn.out,decide_eq_true (show v.1=bL o from vW.trans HXY.out),Bool.or_true]);obtain⟨w6,gw6⟩:=aB (w5.setCell ⟨g,j*5+3,ε⟩ (μ o.t));rw[gw6] at p9 tm s7 ⊢;clear gw6 oK XU kF HWg5 HCe5;go_wp2;go_roundw
      case rel=>exact⟨j+1,_,by omega,by rw[D1.out],by go_num,p9,tm,s7,HU6⟩
      case measure=>simp[intOf];omega
     ·have z0:=oK.out.2.1.cell (i:=0) rfl;have z1:=oK.out.2.1.cell (i:=19) rfl;have z2:=oK.out.2.2.2.1.cell (i:=0) rfl;have z3:=HCe5.out 4 _ rfl;obtain⟨z4,hc6⟩:=XU.out.vset (i:=4) (y:=(y.1,y.2.1,y.2.2.1,o.m)) (u:=J o.m) HY.out nT (by decide) rfl rfl;have tm:=qh hc6;clear hc6;go_upto_region 5 with fail
      clear z0 z1 z2 z3 z4
      have p9:=qh (Bx.st (g:=g) (i:=j*5+4) (J o.m) oK.out (fun q hq=>by
       simp only[Η,Jbh,or_false] at hq;obtain⟨Xy,Rc⟩:∃Xy,Whole w5 g 59 Xy:=⟨_,HWg5.out⟩
       rcases hq with rfl|rfl|rfl|rfl
       ·exact oK.out.1.ne_ Rc (show 28≠59 by decide)
       ·exact oK.out.2.1.ne_ Rc (show 36≠59 by decide)
       ·exact oK.out.2.2.1.ne_ Rc (show 28≠59 by decide)
       ·exact oK.out.2.2.2.1.ne_ Rc (show 25≠59 by decide)))
      have s7:=qh (kF.out.setCell (p:=⟨g,j*5+4,ε⟩) (Λ HL0.out NI.out) (J o.m))
      have HU6:Hid ((Us.set j (y.1,y.2.1,y.2.2.1,o.m)).map vS=(V.take (j+1)).map (fun v:VS=>if v.1=bL o then(v.1,v.2.1,fV o v.2.2) else v)++V.drop (j+1)):=qh (by
       rw[HUn.out,List.map_set,if_pos (show v.1=bL o from vW.trans HXY.out),←HYv.out];show _=(List.map vS Us).set j ((vS y).1,(vS y).2.1,fV o (vS y).2.2);unfold fV;rw[if_neg xU];rfl)
      have D1:Hid ((V.take (j+1)).any (fun v:VS=>decide (v.1=bL o))=τ):=qh (by rw[HAn.out,decide_eq_true (show v.1=bL o from vW.trans HXY.out),Bool.or_true]);obtain⟨w6,gw6⟩:=aB (w5.setCell ⟨g,j*5+4,ε⟩ (J o.m));rw[gw6] at p9 tm s7 ⊢;clear gw6 oK XU kF HWg5 HCe5;go_wp2;go_roundw
      case rel=>exact⟨j+1,_,by omega,by rw[D1.out],by go_num,p9,tm,s7,HU6⟩
      case measure=>simp[intOf];omega
    ·have HQ:=qh (fun X=>(hq X).trans (by rw[decide_eq_false (show ¬(y.1.1,y.1.2)=(o.s,o.n) from Tl)]:_=.ok (Β ρ) X));have HXY:=qh Tl;clear hq Tl;go_upto_region 6 with fail
     have fL:∀w',Kept aO wo.drew w'→w'.cell? ⟨b3,0,ε⟩=ζ (γ (ζ ⟨g,0,ε⟩) n c5):=fun w' h=>h.nil_cell (HX.out.2.2.2.1.dr.cell (i:=0) rfl)
     have ld1:∀w',Kept aO wo.drew w'→w'.cell? ⟨b1,17,ε⟩=ζ (Β ρ):=fun w' h=>h.nil_cell ((HX.out.2.1.dr.cell (i:=17) rfl).trans (by rw[HE.out]))
     refine ay (aO) (by kernel_rfl) ?_;refine aa 0 ?_;refine aa 1 ?_;refine aa 2 ?_;refine aa 3 ?_;refine aa 4 ?_;refine aa 5 ?_;refine aa 6 ?_;refine aa 7 ?_;refine aa 8 ?_;refine cV 9 (hy:=nS (by rfl) 30 (.tmp 28) rfl ⟨g,j*5,ε⟩ rfl [J y.1.1,J y.1.2] _ HPi.out Tryz.underlying30 rfl (by kernel_rfl)) (h:=?_);refine aa 10 ?_;refine cV 11 (hy:=nS (by rfl) 30 (.tmp 30) rfl ⟨b1,1,ε⟩ rfl [J o.s,J o.n] _ (fun w' h i u hu=>(h.whole HX.out.2.1.dr (fun h=>h)).sub_ (cs:=ak o) (ds:=[J o.s,J o.n]) 1 hu) Tryz.underlying30 rfl (by kernel_rfl)) (h:=?_);refine cV 12 (hy:=dD (by rfl) (fun w' _=>dU .eql 30 (.tmp 29) (.tmp 31) 30 rfl rfl rfl (by kernel_rfl) (HQ.out w'))) (h:=?_);refine aa 13 ?_;refine aF (by kernel_rfl) ?_ _;intro w5 hw5;have hx5:σ wo.heap.size wo w5:=(Θ wo.heap.size wo).drew.trans hw5;have oK:=qh (HX.out.up hx5);have XU:=qh (HC.out.bl hx5);have kF:=qh (ag HB.out hx5);have HWg5:=qh (HWg.out.bl hx5);have HCe5:=qh (fun i u hu=>(hx5.cell (p:=⟨g,j*5+i,ε⟩) HWg.out.lt).trans (HCe.out i u hu):∀i u,(vC y)[i]? =ζ u→w5.cell? ⟨g,j*5+i,ε⟩=ζ u);clear hw5 hx5 HX HC HB HPi c0 HQ fL ld1 HWg HCe
     have HU6:Hid (Us.map vS=(V.take (j+1)).map (fun v:VS=>if v.1=bL o then(v.1,v.2.1,fV o v.2.2) else v)++V.drop (j+1)):=qh (by
      rw[HUn.out,if_neg (show ¬v.1=bL o from fun q=>HXY.out (vW.symm.trans q))];exact(set_same_ (by rw[Ψ,HY.out,Option.map_some,HYv.out])).symm)
     have D1:Hid ((V.take (j+1)).any (fun v:VS=>decide (v.1=bL o))=pf):=qh (by rw[HAn.out,GP.out,decide_eq_false (show ¬v.1=bL o from fun q=>HXY.out (vW.symm.trans q)),Bool.or_false]);go_wp2;go_roundw
     case rel=>exact⟨j+1,Us,by omega,by rw[D1.out],by go_num,oK,XU,kF,HU6⟩
     case measure=>simp[intOf];omega
   ·obtain rfl:n=j:=by omega
    have HUe:Hid (Us.map vS=lg V (bL o) (fV o)):=qh (by
     have:=HU.out
     rw[Ι (by have:=HLV.out;omega),Jak (by have:=HLV.out;omega),Jbi] at this;exact this)
    have HPe:Hid (bu V (bL o)=pf):=qh (by
     have:=GP.out
     rw[Ι (by have:=HLV.out;omega)] at this;exact this)
    clear HU GP;go_upto_region 12 with fail
    go_loopw [7,9] (fun vf vi wr=>∃(j:Nat),j≤m∧vf=Β pf∧vi=J (j:Int)∧Hid (Bx wr [(b0,28,[γ A n c,γ B m k,γ C r rc]),(b1,36,ak o),(b2,28,[γ ε 0 0,γ ε 0 0,γ ε 0 0]),(b3,25,[γ A5 n c5,γ B5 m k5])])∧Hid (uz wr lo A5 n c5 Us B5 m k5 Es)∧Hid (σ W.heap.size W wr)) (fun _ vi _=>m - (intOf vi).toNat)
    case atStart=>exact⟨0,Jas _,rfl,rfl,HX,HC,HB⟩
    case round=>
     clear HX HC HB;obtain⟨j,hj,rfl,rfl,HX,HC,HB⟩:=hrel;obtain⟨wo,cS⟩:=aB wr;rw[cS] at HX HC HB ⊢;clear cS;have c0:=HX.out.2.2.2.1.cell (i:=1) rfl
     by_cases nT:j<m
     ·have ya:(j:Int)<(m:Int):=by omega
      go_upto_region 14 with fail
      have ld1:∀w',Kept aO wo.drew w'→w'.cell? ⟨b1,17,ε⟩=ζ (Β ρ):=fun w' h=>h.nil_cell ((HX.out.2.1.dr.cell (i:=17) rfl).trans (by rw[HE.out]))
      refine ay (aO) (by kernel_rfl) ?_;refine aa 0 ?_;refine aa 1 ?_;refine aa 2 ?_;refine cp 3 ?_;refine cp 4 ?_;refine cp 5 ?_;refine cp 6 ?_;refine cp 7 ?_;refine cp 8 ?_;refine cp 9 ?_;refine cp 10 ?_;refine cp 11 ?_;refine aa 12 ?_;refine aF (by kernel_rfl) ?_ _;intro w5 hw5;have hx5:σ wo.heap.size wo w5:=(Θ wo.heap.size wo).drew.trans hw5;have oK:=qh (HX.out.up hx5);have XU:=qh (HC.out.bl hx5);have kF:=qh (ag HB.out hx5);clear hw5 hx5 HX HC HB c0 ld1;go_wp2;go_roundw
      case rel=>exact⟨j+1,by omega,rfl,by go_num,oK,XU,kF⟩
      case measure=>simp[intOf];omega
     ·obtain rfl:m=j:=by omega
      have HDq:=qh HC.out.wr.dg;have HVq:=HUe;cases pf with
      |false=>
       obtain rfl:=(show setS (V,Es,G) (bL o) o.e (fV o)=(dv,13) from by unfold setS;rw[if_neg (by rw[HE.out];decide),if_neg (by rw[HPe.out];decide)]).symm.trans HR.out;have z0:=HX.out.2.2.1.cell (i:=0) rfl;have y0:=HX.out.2.2.1.free 0;have z1:=HX.out.2.2.1.cell (i:=1) rfl;have y1:=HX.out.2.2.1.free 1;have z2:=HX.out.2.2.1.cell (i:=2) rfl;have y2:=HX.out.2.2.1.free 2;go_wp2;exact bS rfl b2 rfl rfl (((HX.out.2.2.1.set_ 0 (γ ε 0 0)).set_ 1 (γ ε 0 0)).set_ 2 (γ ε 0 0)) Tryz.underlying28 rfl (by kernel_rfl) rfl ⟨ε,0,0,ε,0,0,ε,0,0,[],rfl,dg_nil _,rfl,bg.no _ _ _,((HB.out.setCell (p:=⟨b2,0,ε⟩) eI.out (γ ε 0 0)).setCell (p:=⟨b2,1,ε⟩) eI.out (γ ε 0 0)).setCell (p:=⟨b2,2,ε⟩) eI.out (γ ε 0 0)⟩
      |true=>
       have HRr:Hid (setS (V,Es,G) (bL o) o.e (fV o)=((lg V (bL o) (fV o),Es,G),0)):=qh (by unfold setS;rw[if_neg (by rw[HE.out];decide),if_pos HPe.out]);obtain rfl:=HRr.out.symm.trans HR.out;have z0:=HX.out.2.2.1.cell (i:=0) rfl;have y0:=HX.out.2.2.1.free 0;have z1:=HX.out.2.2.1.cell (i:=1) rfl;have y1:=HX.out.2.2.1.free 1;have z2:=HX.out.2.2.1.cell (i:=2) rfl;have y2:=HX.out.2.2.1.free 2;have x0:=HX.out.2.2.2.1.cell (i:=0) rfl;have x1:=HX.out.2.2.2.1.cell (i:=1) rfl;have x2:=HX.out.1.cell (i:=2) rfl;have k0:=sl3_not (a:=γ ε 0 0) (b:=γ ε 0 0) (d:=γ ε 0 0) (fun i=>by simp) (fun i=>by simp) (fun i=>by simp);have k1:=sl3_not (a:=γ A5 n c5) (b:=γ ε 0 0) (d:=γ ε 0 0) (fun i=>by simp) (fun i=>by simp) (fun i=>by simp);have k2_:=sl3_not (a:=γ A5 n c5) (b:=γ B5 m k5) (d:=γ ε 0 0) (fun i=>by simp) (fun i=>by simp) (fun i=>by simp);have HGz:=qh (HGo.out.bl HB.out);go_wp2;have s0:=HX.out.2.2.1;have s1:=s0.set_ 0 (γ A5 n c5);have s2:=s1.set_ 1 (γ B5 m k5);exact bS rfl b2 rfl rfl (s2.set_ 2 (γ C r rc)) Tryz.underlying28 rfl (by kernel_rfl) rfl ⟨A5,n,c5,B5,m,k5,C,r,rc,_,rfl,dg_set (dg_set (dg_set HDq.out s0 k0 0 _) s1 k1 1 _) s2 k2_ 2 _,HVq.out,gn_set (gn_set (gn_set HGz.out s0 k0 0 _) s1 k1 1 _) s2 k2_ 2 _,((HB.out.setCell (p:=⟨b2,0,ε⟩) eI.out (γ A5 n c5)).setCell (p:=⟨b2,1,ε⟩) eI.out (γ B5 m k5)).setCell (p:=⟨b2,2,ε⟩) eI.out (γ C r rc)⟩
 |true=>
  have HE:=qh he;clear he;go_loopw [7,8] (fun vf vi wr=>∃(j:Nat),j≤n∧vf=Β ρ∧vi=J (j:Int)∧Hid (Bx wr [(b0,28,[γ A n c,γ B m k,γ C r rc]),(b1,36,ak o),(b2,28,[γ ε 0 0,γ ε 0 0,γ ε 0 0]),(b3,25,[γ A5 n c5,γ B5 m k5])])∧Hid (uz wr lo A5 n c5 Ws B5 m k5 Es)∧Hid (σ W.heap.size W wr)) (fun _ vi _=>n - (intOf vi).toNat)
  case atStart=>exact⟨0,Jas _,rfl,rfl,HX,HC,bG⟩
  case round=>
   clear HX HC bG;obtain⟨j,hj,rfl,rfl,HX,HC,HB⟩:=hrel;obtain⟨wo,cS⟩:=aB wr;rw[cS] at HX HC HB ⊢;clear cS;have c0:=HX.out.2.2.2.1.cell (i:=0) rfl
   by_cases nT:j<n
   ·have ya:(j:Int)<(n:Int):=by omega
    go_upto_region 6 with fail
    have ld1:∀w',Kept aO wo.drew w'→w'.cell? ⟨b1,17,ε⟩=ζ (Β τ):=fun w' h=>h.nil_cell ((HX.out.2.1.dr.cell (i:=17) rfl).trans (by rw[HE.out]))
    refine ay (aO) (by kernel_rfl) ?_;refine aa 0 ?_;refine aa 1 ?_;refine aa 2 ?_;refine aa 3 ?_;refine cp 4 ?_;refine cp 5 ?_;refine cp 6 ?_;refine cp 7 ?_;refine cp 8 ?_;refine cp 9 ?_;refine cp 10 ?_;refine cp 11 ?_;refine cp 12 ?_;refine aa 13 ?_;refine aF (by kernel_rfl) ?_ _;intro w5 hw5;have hx5:σ wo.heap.size wo w5:=(Θ wo.heap.size wo).drew.trans hw5;have oK:=qh (HX.out.up hx5);have XU:=qh (HC.out.bl hx5);have kF:=qh (ag HB.out hx5);clear hw5 hx5 HX HC HB c0 ld1;go_wp2;go_roundw
    case rel=>exact⟨j+1,by omega,rfl,by go_num,oK,XU,kF⟩
    case measure=>simp[intOf];omega
   ·obtain rfl:n=j:=by omega
    go_upto_region 12 with fail
    go_loopw [7,9] (fun vf vi wr=>∃(j:Nat) (Fs:List EC),j≤m∧vf=Β ((Es.take j).any (fun v:EC=>decide (v.1=bL o)))∧vi=J (j:Int)∧Hid (Bx wr [(b0,28,[γ A n c,γ B m k,γ C r rc]),(b1,36,ak o),(b2,28,[γ ε 0 0,γ ε 0 0,γ ε 0 0]),(b3,25,[γ A5 n c5,γ B5 m k5])])∧Hid (uz wr lo A5 n c5 Ws B5 m k5 Fs)∧Hid (σ W.heap.size W wr)∧Hid (Fs=(Es.take j).map (fun v:EC=>if v.1=bL o then(v.1,fV o v.2) else v)++Es.drop j)) (fun _ vi _=>m - (intOf vi).toNat)
    case atStart=>exact⟨0,Es,Jas _,rfl,rfl,HX,HC,HB,qh (rfl)⟩
    case round=>
     clear HX HC HB;obtain⟨j,Fs,hj,rfl,rfl,HX,HC,HB,HU⟩:=hrel;obtain⟨wo,cS⟩:=aB wr;rw[cS] at HX HC HB ⊢;clear cS;obtain⟨pf,gp⟩:=aB ((Es.take j).any (fun v:EC=>decide (v.1=bL o)));rw[gp];have GP:=qh gp;clear gp;have c0:=HX.out.2.2.2.1.cell (i:=1) rfl
     by_cases nT:j<m
     ·have ya:(j:Int)<(m:Int):=by omega
      obtain⟨y,hv⟩:∃v,Es[j]? =ζ v:=⟨_,θ (by have:=HEl.out;omega)⟩
      have hUj:=mapK_at (fun v:EC=>if v.1=bL o then(v.1,fV o v.2) else v) hv;have hUn:=mapK_next (fun v:EC=>if v.1=bL o then(v.1,fV o v.2) else v) hv;have hAn:=anyK_next (fun v:EC=>decide (v.1=bL o)) hv;rw[←HU.out] at hUj hUn;have hy:=hUj;obtain⟨g,rfl,fw,⟨cs,hwg⟩,yC⟩:=HC.out.eat hy nT;have HY:=qh hy;have HUn:=qh hUn;have HAn:=qh hAn;have NI:=qh fw;have HWg:=qh hwg;have HCe:=qh yC
      have HPi:Hid (∀w',Kept aO wo.drew w'→∀i u,[J y.1.1,J y.1.2][i]? =ζ u→w'.cell? ((⟨g,j*4,ε⟩:Addr).add i)=ζ u):=qh (fun w' h i u hu=>h.nil_cell (by
       rw[Ν];refine yC i u ?_;rcases i with _|_|i
       ·exact hu
       ·exact hu
       ·simp at hu))
      have hq:=eqlI_run y.1.1 y.1.2 o.s o.n;clear hv hUj hUn hAn hy fw hwg yC
      by_cases Tl:y.1=bL o
      ·have HQ:=qh (fun X=>(hq X).trans (by rw[decide_eq_true (show(y.1.1,y.1.2)=(o.s,o.n) from Tl)]:_=.ok (Β τ) X));have HXY:=qh Tl;clear hq Tl;go_upto_region 14 with fail
       have fL:∀w',Kept aO wo.drew w'→w'.cell? ⟨b3,1,ε⟩=ζ (γ (ζ ⟨g,0,ε⟩) m k5):=fun w' h=>h.nil_cell (HX.out.2.2.2.1.dr.cell (i:=1) rfl)
       have ld1:∀w',Kept aO wo.drew w'→w'.cell? ⟨b1,17,ε⟩=ζ (Β τ):=fun w' h=>h.nil_cell ((HX.out.2.1.dr.cell (i:=17) rfl).trans (by rw[HE.out]))
       refine ay (aO) (by kernel_rfl) ?_;refine aa 0 ?_;refine aa 1 ?_;refine aa 2 ?_;refine aa 3 ?_;refine aa 4 ?_;refine aa 5 ?_;refine aa 6 ?_;refine aa 7 ?_;refine cV 8 (hy:=nS (by rfl) 30 (.tmp 65) rfl ⟨g,j*4,ε⟩ rfl [J y.1.1,J y.1.2] _ HPi.out Tryz.underlying30 rfl (by kernel_rfl)) (h:=?_);refine aa 9 ?_;refine cV 10 (hy:=nS (by rfl) 30 (.tmp 67) rfl ⟨b1,1,ε⟩ rfl [J o.s,J o.n] _ (fun w' h i u hu=>(h.whole HX.out.2.1.dr (fun h=>h)).sub_ (cs:=ak o) (ds:=[J o.s,J o.n]) 1 hu) Tryz.underlying30 rfl (by kernel_rfl)) (h:=?_);refine cV 11 (hy:=dD (by rfl) (fun w' _=>dU .eql 30 (.tmp 66) (.tmp 68) 30 rfl rfl rfl (by kernel_rfl) (HQ.out w'))) (h:=?_);refine aa 12 ?_;refine aF (by kernel_rfl) ?_ _;intro w5 hw5;have hx5:σ wo.heap.size wo w5:=(Θ wo.heap.size wo).drew.trans hw5;have oK:=qh (HX.out.up hx5);have XU:=qh (HC.out.bl hx5);have kF:=qh (ag HB.out hx5);have HWg5:=qh (HWg.out.bl hx5);have HCe5:=qh (fun i u hu=>(hx5.cell (p:=⟨g,j*4+i,ε⟩) HWg.out.lt).trans (HCe.out i u hu):∀i u,(eC y)[i]? =ζ u→w5.cell? ⟨g,j*4+i,ε⟩=ζ u);clear hw5 hx5 HX HC HB HPi c0 HQ fL ld1 HWg HCe
       by_cases xU:o.k=7
       ·have z0:=oK.out.2.1.cell (i:=0) rfl;have z1:=oK.out.2.1.cell (i:=18) rfl;have z2:=oK.out.2.2.2.1.cell (i:=1) rfl;have z3:=HCe5.out 2 _ rfl;obtain⟨z4,hc6⟩:=XU.out.eset (i:=2) (y:=(y.1,o.t,y.2.2)) (u:=μ o.t) HY.out nT (by decide) rfl;have tm:=qh hc6;clear hc6;go_upto_region 13 with fail
        clear z0 z1 z2 z3 z4
        have p9:=qh (Bx.st (g:=g) (i:=j*4+2) (μ o.t) oK.out (fun q hq=>by
         simp only[Η,Jbh,or_false] at hq;obtain⟨Xy,Rc⟩:∃Xy,Whole w5 g 67 Xy:=⟨_,HWg5.out⟩
         rcases hq with rfl|rfl|rfl|rfl
         ·exact oK.out.1.ne_ Rc (show 28≠67 by decide)
         ·exact oK.out.2.1.ne_ Rc (show 36≠67 by decide)
         ·exact oK.out.2.2.1.ne_ Rc (show 28≠67 by decide)
         ·exact oK.out.2.2.2.1.ne_ Rc (show 25≠67 by decide)))
        have s7:=qh (kF.out.setCell (p:=⟨g,j*4+2,ε⟩) (Λ HL0.out NI.out) (μ o.t))
        have HU6:Hid (Fs.set j (y.1,o.t,y.2.2)=(Es.take (j+1)).map (fun v:EC=>if v.1=bL o then(v.1,fV o v.2) else v)++Es.drop (j+1)):=qh (by
         rw[HUn.out,if_pos (show y.1=bL o from HXY.out)];unfold fV;rw[if_pos xU])
        have D1:Hid ((Es.take (j+1)).any (fun v:EC=>decide (v.1=bL o))=τ):=qh (by rw[HAn.out,decide_eq_true (show y.1=bL o from HXY.out),Bool.or_true]);obtain⟨w6,gw6⟩:=aB (w5.setCell ⟨g,j*4+2,ε⟩ (μ o.t));rw[gw6] at p9 tm s7 ⊢;clear gw6 oK XU kF HWg5 HCe5;go_wp2;go_roundw
        case rel=>exact⟨j+1,_,by omega,by rw[D1.out],by go_num,p9,tm,s7,HU6⟩
        case measure=>simp[intOf];omega
       ·have z0:=oK.out.2.1.cell (i:=0) rfl;have z1:=oK.out.2.1.cell (i:=19) rfl;have z2:=oK.out.2.2.2.1.cell (i:=1) rfl;have z3:=HCe5.out 3 _ rfl;obtain⟨z4,hc6⟩:=XU.out.eset (i:=3) (y:=(y.1,y.2.1,o.m)) (u:=J o.m) HY.out nT (by decide) rfl;have tm:=qh hc6;clear hc6;go_upto_region 13 with fail
        clear z0 z1 z2 z3 z4
        have p9:=qh (Bx.st (g:=g) (i:=j*4+3) (J o.m) oK.out (fun q hq=>by
         simp only[Η,Jbh,or_false] at hq;obtain⟨Xy,Rc⟩:∃Xy,Whole w5 g 67 Xy:=⟨_,HWg5.out⟩
         rcases hq with rfl|rfl|rfl|rfl
         ·exact oK.out.1.ne_ Rc (show 28≠67 by decide)
         ·exact oK.out.2.1.ne_ Rc (show 36≠67 by decide)
         ·exact oK.out.2.2.1.ne_ Rc (show 28≠67 by decide)
         ·exact oK.out.2.2.2.1.ne_ Rc (show 25≠67 by decide)))
        have s7:=qh (kF.out.setCell (p:=⟨g,j*4+3,ε⟩) (Λ HL0.out NI.out) (J o.m))
        have HU6:Hid (Fs.set j (y.1,y.2.1,o.m)=(Es.take (j+1)).map (fun v:EC=>if v.1=bL o then(v.1,fV o v.2) else v)++Es.drop (j+1)):=qh (by
         rw[HUn.out,if_pos (show y.1=bL o from HXY.out)];unfold fV;rw[if_neg xU])
        have D1:Hid ((Es.take (j+1)).any (fun v:EC=>decide (v.1=bL o))=τ):=qh (by rw[HAn.out,decide_eq_true (show y.1=bL o from HXY.out),Bool.or_true]);obtain⟨w6,gw6⟩:=aB (w5.setCell ⟨g,j*4+3,ε⟩ (J o.m));rw[gw6] at p9 tm s7 ⊢;clear gw6 oK XU kF HWg5 HCe5;go_wp2;go_roundw
        case rel=>exact⟨j+1,_,by omega,by rw[D1.out],by go_num,p9,tm,s7,HU6⟩
        case measure=>simp[intOf];omega
      ·have HQ:=qh (fun X=>(hq X).trans (by rw[decide_eq_false (show ¬(y.1.1,y.1.2)=(o.s,o.n) from Tl)]:_=.ok (Β ρ) X));have HXY:=qh Tl;clear hq Tl;go_upto_region 14 with fail
       have fL:∀w',Kept aO wo.drew w'→w'.cell? ⟨b3,1,ε⟩=ζ (γ (ζ ⟨g,0,ε⟩) m k5):=fun w' h=>h.nil_cell (HX.out.2.2.2.1.dr.cell (i:=1) rfl)
       have ld1:∀w',Kept aO wo.drew w'→w'.cell? ⟨b1,17,ε⟩=ζ (Β τ):=fun w' h=>h.nil_cell ((HX.out.2.1.dr.cell (i:=17) rfl).trans (by rw[HE.out]))
       refine ay (aO) (by kernel_rfl) ?_;refine aa 0 ?_;refine aa 1 ?_;refine aa 2 ?_;refine aa 3 ?_;refine aa 4 ?_;refine aa 5 ?_;refine aa 6 ?_;refine aa 7 ?_;refine cV 8 (hy:=nS (by rfl) 30 (.tmp 65) rfl ⟨g,j*4,ε⟩ rfl [J y.1.1,J y.1.2] _ HPi.out Tryz.underlying30 rfl (by kernel_rfl)) (h:=?_);refine aa 9 ?_;refine cV 10 (hy:=nS (by rfl) 30 (.tmp 67) rfl ⟨b1,1,ε⟩ rfl [J o.s,J o.n] _ (fun w' h i u hu=>(h.whole HX.out.2.1.dr (fun h=>h)).sub_ (cs:=ak o) (ds:=[J o.s,J o.n]) 1 hu) Tryz.underlying30 rfl (by kernel_rfl)) (h:=?_);refine cV 11 (hy:=dD (by rfl) (fun w' _=>dU .eql 30 (.tmp 66) (.tmp 68) 30 rfl rfl rfl (by kernel_rfl) (HQ.out w'))) (h:=?_);refine aa 12 ?_;refine aF (by kernel_rfl) ?_ _;intro w5 hw5;have hx5:σ wo.heap.size wo w5:=(Θ wo.heap.size wo).drew.trans hw5;have oK:=qh (HX.out.up hx5);have XU:=qh (HC.out.bl hx5);have kF:=qh (ag HB.out hx5);have HWg5:=qh (HWg.out.bl hx5);have HCe5:=qh (fun i u hu=>(hx5.cell (p:=⟨g,j*4+i,ε⟩) HWg.out.lt).trans (HCe.out i u hu):∀i u,(eC y)[i]? =ζ u→w5.cell? ⟨g,j*4+i,ε⟩=ζ u);clear hw5 hx5 HX HC HB HPi c0 HQ fL ld1 HWg HCe
       have HU6:Hid (Fs=(Es.take (j+1)).map (fun v:EC=>if v.1=bL o then(v.1,fV o v.2) else v)++Es.drop (j+1)):=qh (by
        rw[HUn.out,if_neg (show ¬y.1=bL o from HXY.out)];exact(set_same_ HY.out).symm)
       have D1:Hid ((Es.take (j+1)).any (fun v:EC=>decide (v.1=bL o))=pf):=qh (by rw[HAn.out,GP.out,decide_eq_false (show ¬y.1=bL o from HXY.out),Bool.or_false]);go_wp2;go_roundw
       case rel=>exact⟨j+1,Fs,by omega,by rw[D1.out],by go_num,oK,XU,kF,HU6⟩
       case measure=>simp[intOf];omega
     ·obtain rfl:m=j:=by omega
      have HUe:Hid (Fs=o6 Es (bL o) (fV o)):=qh (by
       have:=HU.out
       rw[Ι (by have:=HEl.out;omega),Jak (by have:=HEl.out;omega),Jbi] at this;exact this)
      have HPe:Hid (bI Es (bL o)=pf):=qh (by
       have:=GP.out
       rw[Ι (by have:=HEl.out;omega)] at this;exact this)
      clear HU GP;have HDq:=qh (HUe.out▸HC.out.wr.dg);have HVq:=HWs;cases pf with
      |false=>
       obtain rfl:=(show setS (V,Es,G) (bL o) o.e (fV o)=(dv,13) from by unfold setS;rw[if_pos HE.out,if_neg (by rw[HPe.out];decide)]).symm.trans HR.out;have z0:=HX.out.2.2.1.cell (i:=0) rfl;have y0:=HX.out.2.2.1.free 0;have z1:=HX.out.2.2.1.cell (i:=1) rfl;have y1:=HX.out.2.2.1.free 1;have z2:=HX.out.2.2.1.cell (i:=2) rfl;have y2:=HX.out.2.2.1.free 2;go_wp2;exact bS rfl b2 rfl rfl (((HX.out.2.2.1.set_ 0 (γ ε 0 0)).set_ 1 (γ ε 0 0)).set_ 2 (γ ε 0 0)) Tryz.underlying28 rfl (by kernel_rfl) rfl ⟨ε,0,0,ε,0,0,ε,0,0,[],rfl,dg_nil _,rfl,bg.no _ _ _,((HB.out.setCell (p:=⟨b2,0,ε⟩) eI.out (γ ε 0 0)).setCell (p:=⟨b2,1,ε⟩) eI.out (γ ε 0 0)).setCell (p:=⟨b2,2,ε⟩) eI.out (γ ε 0 0)⟩
      |true=>
       have HRr:Hid (setS (V,Es,G) (bL o) o.e (fV o)=((V,o6 Es (bL o) (fV o),G),0)):=qh (by unfold setS;rw[if_pos HE.out,if_pos HPe.out]);obtain rfl:=HRr.out.symm.trans HR.out;have z0:=HX.out.2.2.1.cell (i:=0) rfl;have y0:=HX.out.2.2.1.free 0;have z1:=HX.out.2.2.1.cell (i:=1) rfl;have y1:=HX.out.2.2.1.free 1;have z2:=HX.out.2.2.1.cell (i:=2) rfl;have y2:=HX.out.2.2.1.free 2;have x0:=HX.out.2.2.2.1.cell (i:=0) rfl;have x1:=HX.out.2.2.2.1.cell (i:=1) rfl;have x2:=HX.out.1.cell (i:=2) rfl;have k0:=sl3_not (a:=γ ε 0 0) (b:=γ ε 0 0) (d:=γ ε 0 0) (fun i=>by simp) (fun i=>by simp) (fun i=>by simp);have k1:=sl3_not (a:=γ A5 n c5) (b:=γ ε 0 0) (d:=γ ε 0 0) (fun i=>by simp) (fun i=>by simp) (fun i=>by simp);have k2_:=sl3_not (a:=γ A5 n c5) (b:=γ B5 m k5) (d:=γ ε 0 0) (fun i=>by simp) (fun i=>by simp) (fun i=>by simp);have HGz:=qh (HGo.out.bl HB.out);go_wp2;have s0:=HX.out.2.2.1;have s1:=s0.set_ 0 (γ A5 n c5);have s2:=s1.set_ 1 (γ B5 m k5);exact bS rfl b2 rfl rfl (s2.set_ 2 (γ C r rc)) Tryz.underlying28 rfl (by kernel_rfl) rfl ⟨A5,n,c5,B5,m,k5,C,r,rc,_,rfl,dg_set (dg_set (dg_set HDq.out s0 k0 0 _) s1 k1 1 _) s2 k2_ 2 _,HVq.out,gn_set (gn_set (gn_set HGz.out s0 k0 0 _) s1 k1 1 _) s2 k2_ 2 _,((HB.out.setCell (p:=⟨b2,0,ε⟩) eI.out (γ A5 n c5)).setCell (p:=⟨b2,1,ε⟩) eI.out (γ B5 m k5)).setCell (p:=⟨b2,2,ε⟩) eI.out (γ C r rc)⟩
end Go.Proofs.YtpdpbfmiahjiiaaGreat
