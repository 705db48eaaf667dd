/- Several texts in one. -/
import Derived.Test.YtpdpbfmiahjiiaaGreatPpAB
import Derived.Test.YtpdpbfmiahjiiaaGreatPpBA
set_option linter.unusedSectionVars false
set_option linter.unusedSimpArgs false
set_option linter.unusedVariables false
set_option maxRecDepth 100000
set_option maxHeartbeats 16000000
namespace Go.Proofs.YtpdpbfmiahjiiaaGreat
open Go.RowKit
open _root_.Go.Value renaming slice→γ,string→μ,bool→Β
open _root_.Go.Obj renaming cells→δ
open _root_.Option renaming none→ε,some→ζ
open _root_.List renaming getElem?_eq_getElem→θ,getElem?_eq_some_iff→ν,mem_cons→Η,take_of_length_le→Ι,length_map→Ρ,getElem?_map→Ψ,getElem?_append_left→Jab,drop_of_length_le→Jak,length_take→JaA,take_succ_eq_append_getElem→JaQ,not_mem_nil→Jbh,append_nil→Jbi
open _root_.Bool renaming false→ρ,true→τ
open _root_.Go.RowKit renaming Below→σ
open _root_.Go.RowKit.Below renaming refl→Θ
open _root_.Nat renaming le_trans→Λ,zero_le→Jas,sub_self→JaP
open _root_.Go.Addr renaming add_lit→Ν
theorem zU {α:Type} (g:α→α) {V:List α} {j:Nat} {v:α} (h:V[j]? =ζ v):(V.take (j+1)).map g++V.drop (j+1)=((V.take j).map g++V.drop j).set j (g v):=by
 obtain⟨hj,e⟩:=ν.1 h;have hl:((V.take j).map g).length=j:=by rw[Ρ,JaA];omega
 rw[List.set_append,if_neg (by omega),hl,JaP,List.drop_eq_getElem_cons hj,List.set_cons_zero,JaQ hj,e,List.map_append,List.append_assoc];rfl
theorem I1 {α:Type} (g:α→α) {V:List α} {j:Nat} {v:α} (h:V[j]? =ζ v):((V.take j).map g++V.drop j)[j]? =ζ v:=by
 obtain⟨hj,e⟩:=ν.1 h;have hl:((V.take j).map g).length=j:=by rw[Ρ,JaA];omega
 rw[List.getElem?_append_right (by omega),hl,JaP,List.getElem?_drop,Nat.add_zero,h]
theorem zy {α:Type} (p:α→Bool) {V:List α} {j:Nat} {v:α} (h:V[j]? =ζ v):(V.take (j+1)).any p=((V.take j).any p||p v):=by
 obtain⟨hj,e⟩:=ν.1 h;rw[JaQ hj,e,List.any_append];simp
section
variable {W:World} {lo:Nat} {A B:Option Addr} {n c m k:Nat} {Us:List VC} {Es:List EC} {g:Nat}
theorem nr.vat (h:nr W lo A n c Us B m k Es) {j:Nat} {x:VC} (hx:Us[j]? =ζ x) (hj:j<n):∃g,A=ζ ⟨g,0,ε⟩∧lo≤g∧(∃cs,Whole W g 59 cs)∧(∀i u,(vC x)[i]? =ζ u→W.cell? ⟨g,j*5+i,ε⟩=ζ u):=by
 obtain⟨g,junk,e,fV,hw,-⟩:=dZ h.v (by omega)
 refine⟨g,e,fV,⟨_,hw⟩,fun i u hu=>hw.cell ?_⟩
 have h1:=j0 vC aQ Us j x hx i u hu;rw[Jab (ν.1 h1).1];exact h1
theorem nr.eat (h:nr W lo A n c Us B m k Es) {j:Nat} {x:EC} (hx:Es[j]? =ζ x) (hj:j<m):∃g,B=ζ ⟨g,0,ε⟩∧lo≤g∧(∃cs,Whole W g 67 cs)∧(∀i u,(eC x)[i]? =ζ u→W.cell? ⟨g,j*4+i,ε⟩=ζ u):=by
 obtain⟨g,junk,e,fV,hw,-⟩:=dZ h.e (by omega)
 refine⟨g,e,fV,⟨_,hw⟩,fun i u hu=>hw.cell ?_⟩
 have h1:=j0 eC bF Es j x hx i u hu;rw[Jab (ν.1 h1).1];exact h1
theorem nr.vset (h:nr W lo (ζ ⟨g,0,ε⟩) n c Us B m k Es) {j i:Nat} {x y:VC} {u:Value} (hx:Us[j]? =ζ x) (hj:j<n) (hi:i<5) (hy:vC y=(vC x).set i u) (hr:y.2.1=x.2.1):W.frozen? ⟨g,j*5+i,ε⟩=ρ∧nr (W.setCell ⟨g,j*5+i,ε⟩ u) lo (ζ ⟨g,0,ε⟩) n c (Us.set j y) B m k Es:=by
 obtain⟨g',junk,e,fV,hw,hc,hf,ho⟩:=kh aQ h.v hx hj hi hy
 obtain rfl:g=g':=by
  injection e with e
  injection e
 refine⟨hf,ho,aM h.e (ch h.e hw (by decide)) _,fun z hz=>?_⟩
 rcases List.mem_or_eq_of_mem_set hz with hz|rfl
 ·exact aM (h.r z hz) (ch (h.r z hz) hw (by decide)) _
 ·rw[hr];have hm:=h.r x (List.mem_of_getElem? hx);exact aM hm (ch hm hw (by decide)) _
theorem nr.eset (h:nr W lo A n c Us (ζ ⟨g,0,ε⟩) m k Es) {j i:Nat} {x y:EC} {u:Value} (hx:Es[j]? =ζ x) (hj:j<m) (hi:i<4) (hy:eC y=(eC x).set i u):W.frozen? ⟨g,j*4+i,ε⟩=ρ∧nr (W.setCell ⟨g,j*4+i,ε⟩ u) lo A n c Us (ζ ⟨g,0,ε⟩) m k (Es.set j y):=by
 obtain⟨g',junk,e,fV,hw,hc,hf,ho⟩:=kh bF h.e hx hj hi hy
 obtain rfl:g=g':=by
  injection e with e
  injection e
 exact⟨hf,aM h.v (ch h.v hw (by decide)) _,ho,fun z hz=>aM (h.r z hz) (ch (h.r z hz) hw (by decide)) _⟩
end
theorem NI {W:World} {A:Option Addr} {n c:Nat} {Vs:List VC} {B:Option Addr} {m k:Nat} {Es:List EC} {C:Option Addr} {r rc:Nat} {G:List Gn} (h:aR W A n c Vs B m k Es) (hg:aX W W.heap.size 6 C r rc (aj cB G)) (hS:fA (Vs.map vS,Es,G)) (o:cZ):
 Calls Tryz.prog 52 #[.agg #[γ A n c,γ B m k,γ C r rc],.agg (aa o).toArray] W (ew W (setS (Vs.map vS,Es,G) (bp o) o.e (iO o))):=by
 have mZ:Vs.length=n:=h.v.rlen aQ (by decide);have sS:Es.length=m:=h.e.rlen bF (by decide);have rZ:Vs.length≤24:=by have:=hS.v24;rwa [Ρ] at this
 have Ai:Es.length≤40:=hS.e40;have IB:∀y∈Vs,y.2.1.2.1≤80:=rr.to h hS.short
 have MJ:=qh (fun X (hX:σ W.heap.size W X)=>xl A n c Vs B m k Es X (h.below hX) (by omega) (by omega) (fun y hy=>by have:=IB y hy;omega));have Au:=qh hg;have Cc:=qh sS;obtain⟨V,gV⟩:=ay (Vs.map vS);have Lb:Hid (V.length=n):=qh (by rw[←gV,Ρ];exact mZ);rw[gV] at MJ ⊢;obtain⟨R,gR⟩:=ay (setS (V,Es,G) (bp o) o.e (iO o));have HR:=qh gR;rw[gR];have yQ:n≤24:=by omega
 have UX:m≤40:=by omega
 clear gR gV h hg hS mZ sS rZ Ai IB;go_enter Tryz.func52,Tryz.ntmps52;go_upto_region 1 with fail
 obtain⟨W0,b0,b1,b2,bP,bK,cX,dN,aN,aI,aV,a8,-,-,kQ,-,jK,-,bz,mj,oK,km⟩:=jN W 28 [γ A n c,γ B m k,γ C r rc] 36 (aa o) 28 [γ ε 0 0,γ ε 0 0,γ ε 0 0];rw[bP,dN,cX,bK];clear bP bK cX dN;have x0:=aN.out.cell (i:=0) rfl;have x1:=aN.out.cell (i:=1) rfl
 go_upto_region 4 with (first
  |(go_at_call 23
    refine(MJ.out _ a8.out).mono ?_
    rintro e w2 ⟨A5,c5,B5,k5,Ws,rfl,qU,Mo,fB⟩;have qk:=qh qU;have Ep:=qh Mo;have gI:=qh fB;clear qU Mo fB x0 x1))
 have qU:=qk.out;have fB:=gI.out;have HC:=qh (qU.al (δ #[γ A5 n c5,γ B5 m k5] 25));have XT:=Ep;have bX:=qh (aE (af a8.out fB) (δ #[γ A5 n c5,γ B5 m k5] 25));have HX:Hid (Bx (w2.alloc (δ #[γ A5 n c5,γ B5 m k5] 25)) [(b0,28,[γ A n c,γ B m k,γ C r rc]),(b1,36,aa o),(b2,28,[γ ε 0 0,γ ε 0 0,γ ε 0 0]),(w2.heap.size,25,[γ A5 n c5,γ B5 m k5])]):=qh ⟨(aN.out.bl fB).al _,(aI.out.bl fB).al _,(aV.out.bl fB).al _,Whole.new_ w2 25 [γ A5 n c5,γ B5 m k5],trivial⟩;have P0:Hid (W.heap.size≤W0.heap.size):=qh a8.out.size;clear qU fB qk gI Ep aN aI aV a8 MJ;obtain⟨w3,sX⟩:=ay (w2.alloc (δ #[γ A5 n c5,γ B5 m k5] 25));obtain⟨b3,p9⟩:=ay w2.heap.size;rw[sX] at HC bX HX ⊢;rw[p9] at HX ⊢;clear sX p9;obtain⟨lo,Ah⟩:=ay W0.heap.size;rw[Ah] at HC P0;clear Ah;have HQv:Hid (∀v:VS,decide (v.1=bp o)=decide (v.1=bp o)):=qh (fun _=>rfl);cases he:o.e with
 |false=>
  have HE:=qh he;clear he;go_loopw [7,8] (fun vf vi wr=>∃(j:Nat) (Us:List VC),j≤n∧vf=Β ((V.take j).any (fun v:VS=>decide (v.1=bp o)))∧vi=J (j:Int)∧Hid (Bx wr [(b0,28,[γ A n c,γ B m k,γ C r rc]),(b1,36,aa o),(b2,28,[γ ε 0 0,γ ε 0 0,γ ε 0 0]),(b3,25,[γ A5 n c5,γ B5 m k5])])∧Hid (nr wr lo A5 n c5 Us B5 m k5 Es)∧Hid (σ W.heap.size W wr)∧Hid (Us.map vS=(V.take j).map (fun v:VS=>if v.1=bp o then(v.1,v.2.1,iO o v.2.2) else v)++V.drop j)) (fun _ vi _=>n - (intOf vi).toNat)
  case atStart=>exact⟨0,Ws,Jas _,rfl,rfl,HX,HC,bX,qh (by rw[XT.out];rfl)⟩
  case round=>
   clear HX HC bX;obtain⟨j,Us,hj,rfl,rfl,HX,HC,HB,HU⟩:=hrel;obtain⟨wo,ec⟩:=ay wr;rw[ec] at HX HC HB ⊢;clear ec;obtain⟨pf,gp⟩:=ay ((V.take j).any (fun v:VS=>decide (v.1=bp o)));rw[gp];have GP:=qh gp;clear gp;have c0:=HX.out.2.2.2.1.cell (i:=0) rfl
   by_cases o4:j<n
   ·have rD:(j:Int)<(n:Int):=by omega
    obtain⟨v,hv⟩:∃v,V[j]? =ζ v:=⟨_,θ (by have:=Lb.out;omega)⟩
    have LS:=I1 (fun v:VS=>if v.1=bp o then(v.1,v.2.1,iO o v.2.2) else v) hv;have OM:=zU (fun v:VS=>if v.1=bp o then(v.1,v.2.1,iO o v.2.2) else v) hv;have XB:=zy (fun v:VS=>decide (v.1=bp o)) hv;rw[←HU.out,Ψ] at LS;rw[←HU.out] at OM;obtain⟨y,hy,I3⟩:=Option.map_eq_some_iff.1 LS;have vK:v.1=y.1:=congrArg (·.1) I3.symm;have V8:=qh I3;obtain⟨g,rfl,fV,⟨cs,KH⟩,oS⟩:=HC.out.vat hy o4;have HY:=qh hy;have Pn:=qh OM;have Lr:=qh XB;have Q9:=qh fV;have J5:=qh KH;have EG:=qh oS
    have vF:Hid (∀w',Kept aF wo.drew w'→∀i u,[J y.1.1,J y.1.2][i]? =ζ u→w'.cell? ((⟨g,j*5,ε⟩:Addr).add i)=ζ u):=qh (fun w' h i u hu=>h.nil_cell (by
     rw[Ν];refine oS i u ?_;rcases i with _|_|i
     ·exact hu
     ·exact hu
     ·simp at hu))
    have hq:=jv y.1.1 y.1.2 o.s o.n;clear hv LS OM XB hy fV KH oS I3
    by_cases mO:y.1=bp o
    ·have HQ:=qh (fun X=>(hq X).trans (by rw[decide_eq_true (show(y.1.1,y.1.2)=(o.s,o.n) from mO)]:_=.ok (Β τ) X));have F3:=qh mO;clear hq mO;go_upto_region 6 with fail
     have fv:∀w',Kept aF wo.drew w'→w'.cell? ⟨b3,0,ε⟩=ζ (γ (ζ ⟨g,0,ε⟩) n c5):=fun w' h=>h.nil_cell (HX.out.2.2.2.1.dr.cell (i:=0) rfl)
     have ld1:∀w',Kept aF wo.drew w'→w'.cell? ⟨b1,17,ε⟩=ζ (Β ρ):=fun w' h=>h.nil_cell ((HX.out.2.1.dr.cell (i:=17) rfl).trans (by rw[HE.out]))
     refine aw (aF) (by kernel_rfl) ?_;refine ag 0 ?_;refine ag 1 ?_;refine ag 2 ?_;refine ag 3 ?_;refine ag 4 ?_;refine ag 5 ?_;refine ag 6 ?_;refine ag 7 ?_;refine ag 8 ?_;refine bY 9 (hy:=bG (by rfl) 30 (.tmp 28) rfl ⟨g,j*5,ε⟩ rfl [J y.1.1,J y.1.2] _ vF.out Tryz.underlying30 rfl (by kernel_rfl)) (h:=?_);refine ag 10 ?_;refine bY 11 (hy:=bG (by rfl) 30 (.tmp 30) rfl ⟨b1,1,ε⟩ rfl [J o.s,J o.n] _ (fun w' h i u hu=>(h.whole HX.out.2.1.dr (fun h=>h)).sub_ (cs:=aa o) (ds:=[J o.s,J o.n]) 1 hu) Tryz.underlying30 rfl (by kernel_rfl)) (h:=?_);refine bY 12 (hy:=dG (by rfl) (fun w' _=>bE .eql 30 (.tmp 29) (.tmp 31) 30 rfl rfl rfl (by kernel_rfl) (HQ.out w'))) (h:=?_);refine ag 13 ?_;refine aD (by kernel_rfl) ?_ _;intro w5 pq;have gY:σ wo.heap.size wo w5:=(Θ wo.heap.size wo).drew.trans pq;have dY:=qh (HX.out.up gY);have qk:=qh (HC.out.bl gY);have gI:=qh (af HB.out gY);have xN:=qh (J5.out.bl gY);have wH:=qh (fun i u hu=>(gY.cell (p:=⟨g,j*5+i,ε⟩) J5.out.lt).trans (EG.out i u hu):∀i u,(vC y)[i]? =ζ u→w5.cell? ⟨g,j*5+i,ε⟩=ζ u);clear pq gY HX HC HB vF c0 HQ fv ld1 J5 EG
     by_cases NW:o.k=7
     ·have z0:=dY.out.2.1.cell (i:=0) rfl;have z1:=dY.out.2.1.cell (i:=18) rfl;have z2:=dY.out.2.2.2.1.cell (i:=0) rfl;have z3:=wH.out 3 _ rfl;obtain⟨z4,Pj⟩:=qk.out.vset (i:=3) (y:=(y.1,y.2.1,o.t,y.2.2.2)) (u:=μ o.t) HY.out o4 (by decide) rfl rfl;have J4:=qh Pj;clear Pj;go_upto_region 5 with fail
      clear z0 z1 z2 z3 z4
      have zZ:=qh (Bx.st (g:=g) (i:=j*5+3) (μ o.t) dY.out (fun q hq=>by
       simp only[Η,Jbh,or_false] at hq;obtain⟨Lw,tA⟩:∃Lw,Whole w5 g 59 Lw:=⟨_,xN.out⟩
       rcases hq with rfl|rfl|rfl|rfl
       ·exact dY.out.1.ne_ tA (show 28≠59 by decide)
       ·exact dY.out.2.1.ne_ tA (show 36≠59 by decide)
       ·exact dY.out.2.2.1.ne_ tA (show 28≠59 by decide)
       ·exact dY.out.2.2.2.1.ne_ tA (show 25≠59 by decide)))
      have kF:=qh (gI.out.setCell (p:=⟨g,j*5+3,ε⟩) (Λ P0.out Q9.out) (μ o.t))
      have Gx:Hid ((Us.set j (y.1,y.2.1,o.t,y.2.2.2)).map vS=(V.take (j+1)).map (fun v:VS=>if v.1=bp o then(v.1,v.2.1,iO o v.2.2) else v)++V.drop (j+1)):=qh (by
       rw[Pn.out,List.map_set,if_pos (show v.1=bp o from vK.trans F3.out),←V8.out];show _=(List.map vS Us).set j ((vS y).1,(vS y).2.1,iO o (vS y).2.2);unfold iO;rw[if_pos NW];rfl)
      have NJ:Hid ((V.take (j+1)).any (fun v:VS=>decide (v.1=bp o))=τ):=qh (by rw[Lr.out,decide_eq_true (show v.1=bp o from vK.trans F3.out),Bool.or_true]);obtain⟨w6,MZ⟩:=ay (w5.setCell ⟨g,j*5+3,ε⟩ (μ o.t));rw[MZ] at zZ J4 kF ⊢;clear MZ dY qk gI xN wH;go_wp2;go_roundw
      case rel=>exact⟨j+1,_,by omega,by rw[NJ.out],by go_num,zZ,J4,kF,Gx⟩
      case measure=>simp[intOf];omega
     ·have z0:=dY.out.2.1.cell (i:=0) rfl;have z1:=dY.out.2.1.cell (i:=19) rfl;have z2:=dY.out.2.2.2.1.cell (i:=0) rfl;have z3:=wH.out 4 _ rfl;obtain⟨z4,Pj⟩:=qk.out.vset (i:=4) (y:=(y.1,y.2.1,y.2.2.1,o.m)) (u:=J o.m) HY.out o4 (by decide) rfl rfl;have J4:=qh Pj;clear Pj;go_upto_region 5 with fail
      clear z0 z1 z2 z3 z4
      have zZ:=qh (Bx.st (g:=g) (i:=j*5+4) (J o.m) dY.out (fun q hq=>by
       simp only[Η,Jbh,or_false] at hq;obtain⟨Lw,tA⟩:∃Lw,Whole w5 g 59 Lw:=⟨_,xN.out⟩
       rcases hq with rfl|rfl|rfl|rfl
       ·exact dY.out.1.ne_ tA (show 28≠59 by decide)
       ·exact dY.out.2.1.ne_ tA (show 36≠59 by decide)
       ·exact dY.out.2.2.1.ne_ tA (show 28≠59 by decide)
       ·exact dY.out.2.2.2.1.ne_ tA (show 25≠59 by decide)))
      have kF:=qh (gI.out.setCell (p:=⟨g,j*5+4,ε⟩) (Λ P0.out Q9.out) (J o.m))
      have Gx:Hid ((Us.set j (y.1,y.2.1,y.2.2.1,o.m)).map vS=(V.take (j+1)).map (fun v:VS=>if v.1=bp o then(v.1,v.2.1,iO o v.2.2) else v)++V.drop (j+1)):=qh (by
       rw[Pn.out,List.map_set,if_pos (show v.1=bp o from vK.trans F3.out),←V8.out];show _=(List.map vS Us).set j ((vS y).1,(vS y).2.1,iO o (vS y).2.2);unfold iO;rw[if_neg NW];rfl)
      have NJ:Hid ((V.take (j+1)).any (fun v:VS=>decide (v.1=bp o))=τ):=qh (by rw[Lr.out,decide_eq_true (show v.1=bp o from vK.trans F3.out),Bool.or_true]);obtain⟨w6,MZ⟩:=ay (w5.setCell ⟨g,j*5+4,ε⟩ (J o.m));rw[MZ] at zZ J4 kF ⊢;clear MZ dY qk gI xN wH;go_wp2;go_roundw
      case rel=>exact⟨j+1,_,by omega,by rw[NJ.out],by go_num,zZ,J4,kF,Gx⟩
      case measure=>simp[intOf];omega
    ·have HQ:=qh (fun X=>(hq X).trans (by rw[decide_eq_false (show ¬(y.1.1,y.1.2)=(o.s,o.n) from mO)]:_=.ok (Β ρ) X));have F3:=qh mO;clear hq mO;go_upto_region 6 with fail
     have fv:∀w',Kept aF wo.drew w'→w'.cell? ⟨b3,0,ε⟩=ζ (γ (ζ ⟨g,0,ε⟩) n c5):=fun w' h=>h.nil_cell (HX.out.2.2.2.1.dr.cell (i:=0) rfl)
     have ld1:∀w',Kept aF wo.drew w'→w'.cell? ⟨b1,17,ε⟩=ζ (Β ρ):=fun w' h=>h.nil_cell ((HX.out.2.1.dr.cell (i:=17) rfl).trans (by rw[HE.out]))
     refine aw (aF) (by kernel_rfl) ?_;refine ag 0 ?_;refine ag 1 ?_;refine ag 2 ?_;refine ag 3 ?_;refine ag 4 ?_;refine ag 5 ?_;refine ag 6 ?_;refine ag 7 ?_;refine ag 8 ?_;refine bY 9 (hy:=bG (by rfl) 30 (.tmp 28) rfl ⟨g,j*5,ε⟩ rfl [J y.1.1,J y.1.2] _ vF.out Tryz.underlying30 rfl (by kernel_rfl)) (h:=?_);refine ag 10 ?_;refine bY 11 (hy:=bG (by rfl) 30 (.tmp 30) rfl ⟨b1,1,ε⟩ rfl [J o.s,J o.n] _ (fun w' h i u hu=>(h.whole HX.out.2.1.dr (fun h=>h)).sub_ (cs:=aa o) (ds:=[J o.s,J o.n]) 1 hu) Tryz.underlying30 rfl (by kernel_rfl)) (h:=?_);refine bY 12 (hy:=dG (by rfl) (fun w' _=>bE .eql 30 (.tmp 29) (.tmp 31) 30 rfl rfl rfl (by kernel_rfl) (HQ.out w'))) (h:=?_);refine ag 13 ?_;refine aD (by kernel_rfl) ?_ _;intro w5 pq;have gY:σ wo.heap.size wo w5:=(Θ wo.heap.size wo).drew.trans pq;have dY:=qh (HX.out.up gY);have qk:=qh (HC.out.bl gY);have gI:=qh (af HB.out gY);have xN:=qh (J5.out.bl gY);have wH:=qh (fun i u hu=>(gY.cell (p:=⟨g,j*5+i,ε⟩) J5.out.lt).trans (EG.out i u hu):∀i u,(vC y)[i]? =ζ u→w5.cell? ⟨g,j*5+i,ε⟩=ζ u);clear pq gY HX HC HB vF c0 HQ fv ld1 J5 EG
     have Gx:Hid (Us.map vS=(V.take (j+1)).map (fun v:VS=>if v.1=bp o then(v.1,v.2.1,iO o v.2.2) else v)++V.drop (j+1)):=qh (by
      rw[Pn.out,if_neg (show ¬v.1=bp o from fun q=>F3.out (vK.symm.trans q))];exact(ua (by rw[Ψ,HY.out,Option.map_some,V8.out])).symm)
     have NJ:Hid ((V.take (j+1)).any (fun v:VS=>decide (v.1=bp o))=pf):=qh (by rw[Lr.out,GP.out,decide_eq_false (show ¬v.1=bp o from fun q=>F3.out (vK.symm.trans q)),Bool.or_false]);go_wp2;go_roundw
     case rel=>exact⟨j+1,Us,by omega,by rw[NJ.out],by go_num,dY,qk,gI,Gx⟩
     case measure=>simp[intOf];omega
   ·obtain rfl:n=j:=by omega
    have Yz:Hid (Us.map vS=oP V (bp o) (iO o)):=qh (by
     have:=HU.out
     rw[Ι (by have:=Lb.out;omega),Jak (by have:=Lb.out;omega),Jbi] at this;exact this)
    have Uz:Hid (bo V (bp o)=pf):=qh (by
     have:=GP.out
     rw[Ι (by have:=Lb.out;omega)] at this;exact this)
    clear HU GP;go_upto_region 12 with fail
    go_loopw [7,9] (fun vf vi wr=>∃(j:Nat),j≤m∧vf=Β pf∧vi=J (j:Int)∧Hid (Bx wr [(b0,28,[γ A n c,γ B m k,γ C r rc]),(b1,36,aa o),(b2,28,[γ ε 0 0,γ ε 0 0,γ ε 0 0]),(b3,25,[γ A5 n c5,γ B5 m k5])])∧Hid (nr wr lo A5 n c5 Us B5 m k5 Es)∧Hid (σ W.heap.size W wr)) (fun _ vi _=>m - (intOf vi).toNat)
    case atStart=>exact⟨0,Jas _,rfl,rfl,HX,HC,HB⟩
    case round=>
     clear HX HC HB;obtain⟨j,hj,rfl,rfl,HX,HC,HB⟩:=hrel;obtain⟨wo,ec⟩:=ay wr;rw[ec] at HX HC HB ⊢;clear ec;have c0:=HX.out.2.2.2.1.cell (i:=1) rfl
     by_cases o4:j<m
     ·have rD:(j:Int)<(m:Int):=by omega
      go_upto_region 14 with fail
      have ld1:∀w',Kept aF wo.drew w'→w'.cell? ⟨b1,17,ε⟩=ζ (Β ρ):=fun w' h=>h.nil_cell ((HX.out.2.1.dr.cell (i:=17) rfl).trans (by rw[HE.out]))
      refine aw (aF) (by kernel_rfl) ?_;refine ag 0 ?_;refine ag 1 ?_;refine ag 2 ?_;refine bg 3 ?_;refine bg 4 ?_;refine bg 5 ?_;refine bg 6 ?_;refine bg 7 ?_;refine bg 8 ?_;refine bg 9 ?_;refine bg 10 ?_;refine bg 11 ?_;refine ag 12 ?_;refine aD (by kernel_rfl) ?_ _;intro w5 pq;have gY:σ wo.heap.size wo w5:=(Θ wo.heap.size wo).drew.trans pq;have dY:=qh (HX.out.up gY);have qk:=qh (HC.out.bl gY);have gI:=qh (af HB.out gY);clear pq gY HX HC HB c0 ld1;go_wp2;go_roundw
      case rel=>exact⟨j+1,by omega,rfl,by go_num,dY,qk,gI⟩
      case measure=>simp[intOf];omega
     ·obtain rfl:m=j:=by omega
      have HDq:=qh HC.out.wr.dg;have HVq:=Yz;cases pf with
      |false=>
       obtain rfl:=(show setS (V,Es,G) (bp o) o.e (iO o)=(cp,13) from by unfold setS;rw[if_neg (by rw[HE.out];decide),if_neg (by rw[Uz.out];decide)]).symm.trans HR.out;have z0:=HX.out.2.2.1.cell (i:=0) rfl;have y0:=HX.out.2.2.1.free 0;have z1:=HX.out.2.2.1.cell (i:=1) rfl;have y1:=HX.out.2.2.1.free 1;have z2:=HX.out.2.2.1.cell (i:=2) rfl;have y2:=HX.out.2.2.1.free 2;go_wp2;exact aG rfl b2 rfl rfl (((HX.out.2.2.1.set_ 0 (γ ε 0 0)).set_ 1 (γ ε 0 0)).set_ 2 (γ ε 0 0)) Tryz.underlying28 rfl (by kernel_rfl) rfl ⟨ε,0,0,ε,0,0,ε,0,0,[],rfl,eE _,rfl,aX.no _ _ _,((HB.out.setCell (p:=⟨b2,0,ε⟩) bz.out (γ ε 0 0)).setCell (p:=⟨b2,1,ε⟩) bz.out (γ ε 0 0)).setCell (p:=⟨b2,2,ε⟩) bz.out (γ ε 0 0)⟩
      |true=>
       have vr:Hid (setS (V,Es,G) (bp o) o.e (iO o)=((oP V (bp o) (iO o),Es,G),0)):=qh (by unfold setS;rw[if_neg (by rw[HE.out];decide),if_pos Uz.out]);obtain rfl:=vr.out.symm.trans HR.out;have z0:=HX.out.2.2.1.cell (i:=0) rfl;have y0:=HX.out.2.2.1.free 0;have z1:=HX.out.2.2.1.cell (i:=1) rfl;have y1:=HX.out.2.2.1.free 1;have z2:=HX.out.2.2.1.cell (i:=2) rfl;have y2:=HX.out.2.2.1.free 2;have x0:=HX.out.2.2.2.1.cell (i:=0) rfl;have x1:=HX.out.2.2.2.1.cell (i:=1) rfl;have x2:=HX.out.1.cell (i:=2) rfl;have k0:=aZ (a:=γ ε 0 0) (b:=γ ε 0 0) (d:=γ ε 0 0) (fun i=>by simp) (fun i=>by simp) (fun i=>by simp);have k1:=aZ (a:=γ A5 n c5) (b:=γ ε 0 0) (d:=γ ε 0 0) (fun i=>by simp) (fun i=>by simp) (fun i=>by simp);have mW:=aZ (a:=γ A5 n c5) (b:=γ B5 m k5) (d:=γ ε 0 0) (fun i=>by simp) (fun i=>by simp) (fun i=>by simp);have Ln:=qh (Au.out.bl HB.out);go_wp2;have s0:=HX.out.2.2.1;have s1:=s0.set_ 0 (γ A5 n c5);have s2:=s1.set_ 1 (γ B5 m k5);exact aG rfl b2 rfl rfl (s2.set_ 2 (γ C r rc)) Tryz.underlying28 rfl (by kernel_rfl) rfl ⟨A5,n,c5,B5,m,k5,C,r,rc,_,rfl,bA (bA (bA HDq.out s0 k0 0 _) s1 k1 1 _) s2 mW 2 _,HVq.out,bL (bL (bL Ln.out s0 k0 0 _) s1 k1 1 _) s2 mW 2 _,((HB.out.setCell (p:=⟨b2,0,ε⟩) bz.out (γ A5 n c5)).setCell (p:=⟨b2,1,ε⟩) bz.out (γ B5 m k5)).setCell (p:=⟨b2,2,ε⟩) bz.out (γ C r rc)⟩
 |true=>
  have HE:=qh he;clear he;go_loopw [7,8] (fun vf vi wr=>∃(j:Nat),j≤n∧vf=Β ρ∧vi=J (j:Int)∧Hid (Bx wr [(b0,28,[γ A n c,γ B m k,γ C r rc]),(b1,36,aa o),(b2,28,[γ ε 0 0,γ ε 0 0,γ ε 0 0]),(b3,25,[γ A5 n c5,γ B5 m k5])])∧Hid (nr wr lo A5 n c5 Ws B5 m k5 Es)∧Hid (σ W.heap.size W wr)) (fun _ vi _=>n - (intOf vi).toNat)
  case atStart=>exact⟨0,Jas _,rfl,rfl,HX,HC,bX⟩
  case round=>
   clear HX HC bX;obtain⟨j,hj,rfl,rfl,HX,HC,HB⟩:=hrel;obtain⟨wo,ec⟩:=ay wr;rw[ec] at HX HC HB ⊢;clear ec;have c0:=HX.out.2.2.2.1.cell (i:=0) rfl
   by_cases o4:j<n
   ·have rD:(j:Int)<(n:Int):=by omega
    go_upto_region 6 with fail
    have ld1:∀w',Kept aF wo.drew w'→w'.cell? ⟨b1,17,ε⟩=ζ (Β τ):=fun w' h=>h.nil_cell ((HX.out.2.1.dr.cell (i:=17) rfl).trans (by rw[HE.out]))
    refine aw (aF) (by kernel_rfl) ?_;refine ag 0 ?_;refine ag 1 ?_;refine ag 2 ?_;refine ag 3 ?_;refine bg 4 ?_;refine bg 5 ?_;refine bg 6 ?_;refine bg 7 ?_;refine bg 8 ?_;refine bg 9 ?_;refine bg 10 ?_;refine bg 11 ?_;refine bg 12 ?_;refine ag 13 ?_;refine aD (by kernel_rfl) ?_ _;intro w5 pq;have gY:σ wo.heap.size wo w5:=(Θ wo.heap.size wo).drew.trans pq;have dY:=qh (HX.out.up gY);have qk:=qh (HC.out.bl gY);have gI:=qh (af HB.out gY);clear pq gY HX HC HB c0 ld1;go_wp2;go_roundw
    case rel=>exact⟨j+1,by omega,rfl,by go_num,dY,qk,gI⟩
    case measure=>simp[intOf];omega
   ·obtain rfl:n=j:=by omega
    go_upto_region 12 with fail
    go_loopw [7,9] (fun vf vi wr=>∃(j:Nat) (Fs:List EC),j≤m∧vf=Β ((Es.take j).any (fun v:EC=>decide (v.1=bp o)))∧vi=J (j:Int)∧Hid (Bx wr [(b0,28,[γ A n c,γ B m k,γ C r rc]),(b1,36,aa o),(b2,28,[γ ε 0 0,γ ε 0 0,γ ε 0 0]),(b3,25,[γ A5 n c5,γ B5 m k5])])∧Hid (nr wr lo A5 n c5 Ws B5 m k5 Fs)∧Hid (σ W.heap.size W wr)∧Hid (Fs=(Es.take j).map (fun v:EC=>if v.1=bp o then(v.1,iO o v.2) else v)++Es.drop j)) (fun _ vi _=>m - (intOf vi).toNat)
    case atStart=>exact⟨0,Es,Jas _,rfl,rfl,HX,HC,HB,qh (rfl)⟩
    case round=>
     clear HX HC HB;obtain⟨j,Fs,hj,rfl,rfl,HX,HC,HB,HU⟩:=hrel;obtain⟨wo,ec⟩:=ay wr;rw[ec] at HX HC HB ⊢;clear ec;obtain⟨pf,gp⟩:=ay ((Es.take j).any (fun v:EC=>decide (v.1=bp o)));rw[gp];have GP:=qh gp;clear gp;have c0:=HX.out.2.2.2.1.cell (i:=1) rfl
     by_cases o4:j<m
     ·have rD:(j:Int)<(m:Int):=by omega
      obtain⟨y,hv⟩:∃v,Es[j]? =ζ v:=⟨_,θ (by have:=Cc.out;omega)⟩
      have LS:=I1 (fun v:EC=>if v.1=bp o then(v.1,iO o v.2) else v) hv;have OM:=zU (fun v:EC=>if v.1=bp o then(v.1,iO o v.2) else v) hv;have XB:=zy (fun v:EC=>decide (v.1=bp o)) hv;rw[←HU.out] at LS OM;have hy:=LS;obtain⟨g,rfl,fV,⟨cs,KH⟩,oS⟩:=HC.out.eat hy o4;have HY:=qh hy;have Pn:=qh OM;have Lr:=qh XB;have Q9:=qh fV;have J5:=qh KH;have EG:=qh oS
      have vF:Hid (∀w',Kept aF wo.drew w'→∀i u,[J y.1.1,J y.1.2][i]? =ζ u→w'.cell? ((⟨g,j*4,ε⟩:Addr).add i)=ζ u):=qh (fun w' h i u hu=>h.nil_cell (by
       rw[Ν];refine oS i u ?_;rcases i with _|_|i
       ·exact hu
       ·exact hu
       ·simp at hu))
      have hq:=jv y.1.1 y.1.2 o.s o.n;clear hv LS OM XB hy fV KH oS
      by_cases mO:y.1=bp o
      ·have HQ:=qh (fun X=>(hq X).trans (by rw[decide_eq_true (show(y.1.1,y.1.2)=(o.s,o.n) from mO)]:_=.ok (Β τ) X));have F3:=qh mO;clear hq mO;go_upto_region 14 with fail
       have fv:∀w',Kept aF wo.drew w'→w'.cell? ⟨b3,1,ε⟩=ζ (γ (ζ ⟨g,0,ε⟩) m k5):=fun w' h=>h.nil_cell (HX.out.2.2.2.1.dr.cell (i:=1) rfl)
       have ld1:∀w',Kept aF wo.drew w'→w'.cell? ⟨b1,17,ε⟩=ζ (Β τ):=fun w' h=>h.nil_cell ((HX.out.2.1.dr.cell (i:=17) rfl).trans (by rw[HE.out]))
       refine aw (aF) (by kernel_rfl) ?_;refine ag 0 ?_;refine ag 1 ?_;refine ag 2 ?_;refine ag 3 ?_;refine ag 4 ?_;refine ag 5 ?_;refine ag 6 ?_;refine ag 7 ?_;refine bY 8 (hy:=bG (by rfl) 30 (.tmp 65) rfl ⟨g,j*4,ε⟩ rfl [J y.1.1,J y.1.2] _ vF.out Tryz.underlying30 rfl (by kernel_rfl)) (h:=?_);refine ag 9 ?_;refine bY 10 (hy:=bG (by rfl) 30 (.tmp 67) rfl ⟨b1,1,ε⟩ rfl [J o.s,J o.n] _ (fun w' h i u hu=>(h.whole HX.out.2.1.dr (fun h=>h)).sub_ (cs:=aa o) (ds:=[J o.s,J o.n]) 1 hu) Tryz.underlying30 rfl (by kernel_rfl)) (h:=?_);refine bY 11 (hy:=dG (by rfl) (fun w' _=>bE .eql 30 (.tmp 66) (.tmp 68) 30 rfl rfl rfl (by kernel_rfl) (HQ.out w'))) (h:=?_);refine ag 12 ?_;refine aD (by kernel_rfl) ?_ _;intro w5 pq;have gY:σ wo.heap.size wo w5:=(Θ wo.heap.size wo).drew.trans pq;have dY:=qh (HX.out.up gY);have qk:=qh (HC.out.bl gY);have gI:=qh (af HB.out gY);have xN:=qh (J5.out.bl gY);have wH:=qh (fun i u hu=>(gY.cell (p:=⟨g,j*4+i,ε⟩) J5.out.lt).trans (EG.out i u hu):∀i u,(eC y)[i]? =ζ u→w5.cell? ⟨g,j*4+i,ε⟩=ζ u);clear pq gY HX HC HB vF c0 HQ fv ld1 J5 EG
       by_cases NW:o.k=7
       ·have z0:=dY.out.2.1.cell (i:=0) rfl;have z1:=dY.out.2.1.cell (i:=18) rfl;have z2:=dY.out.2.2.2.1.cell (i:=1) rfl;have z3:=wH.out 2 _ rfl;obtain⟨z4,Pj⟩:=qk.out.eset (i:=2) (y:=(y.1,o.t,y.2.2)) (u:=μ o.t) HY.out o4 (by decide) rfl;have J4:=qh Pj;clear Pj;go_upto_region 13 with fail
        clear z0 z1 z2 z3 z4
        have zZ:=qh (Bx.st (g:=g) (i:=j*4+2) (μ o.t) dY.out (fun q hq=>by
         simp only[Η,Jbh,or_false] at hq;obtain⟨Lw,tA⟩:∃Lw,Whole w5 g 67 Lw:=⟨_,xN.out⟩
         rcases hq with rfl|rfl|rfl|rfl
         ·exact dY.out.1.ne_ tA (show 28≠67 by decide)
         ·exact dY.out.2.1.ne_ tA (show 36≠67 by decide)
         ·exact dY.out.2.2.1.ne_ tA (show 28≠67 by decide)
         ·exact dY.out.2.2.2.1.ne_ tA (show 25≠67 by decide)))
        have kF:=qh (gI.out.setCell (p:=⟨g,j*4+2,ε⟩) (Λ P0.out Q9.out) (μ o.t))
        have Gx:Hid (Fs.set j (y.1,o.t,y.2.2)=(Es.take (j+1)).map (fun v:EC=>if v.1=bp o then(v.1,iO o v.2) else v)++Es.drop (j+1)):=qh (by
         rw[Pn.out,if_pos (show y.1=bp o from F3.out)];unfold iO;rw[if_pos NW])
        have NJ:Hid ((Es.take (j+1)).any (fun v:EC=>decide (v.1=bp o))=τ):=qh (by rw[Lr.out,decide_eq_true (show y.1=bp o from F3.out),Bool.or_true]);obtain⟨w6,MZ⟩:=ay (w5.setCell ⟨g,j*4+2,ε⟩ (μ o.t));rw[MZ] at zZ J4 kF ⊢;clear MZ dY qk gI xN wH;go_wp2;go_roundw
        case rel=>exact⟨j+1,_,by omega,by rw[NJ.out],by go_num,zZ,J4,kF,Gx⟩
        case measure=>simp[intOf];omega
       ·have z0:=dY.out.2.1.cell (i:=0) rfl;have z1:=dY.out.2.1.cell (i:=19) rfl;have z2:=dY.out.2.2.2.1.cell (i:=1) rfl;have z3:=wH.out 3 _ rfl;obtain⟨z4,Pj⟩:=qk.out.eset (i:=3) (y:=(y.1,y.2.1,o.m)) (u:=J o.m) HY.out o4 (by decide) rfl;have J4:=qh Pj;clear Pj;go_upto_region 13 with fail
        clear z0 z1 z2 z3 z4
        have zZ:=qh (Bx.st (g:=g) (i:=j*4+3) (J o.m) dY.out (fun q hq=>by
         simp only[Η,Jbh,or_false] at hq;obtain⟨Lw,tA⟩:∃Lw,Whole w5 g 67 Lw:=⟨_,xN.out⟩
         rcases hq with rfl|rfl|rfl|rfl
         ·exact dY.out.1.ne_ tA (show 28≠67 by decide)
         ·exact dY.out.2.1.ne_ tA (show 36≠67 by decide)
         ·exact dY.out.2.2.1.ne_ tA (show 28≠67 by decide)
         ·exact dY.out.2.2.2.1.ne_ tA (show 25≠67 by decide)))
        have kF:=qh (gI.out.setCell (p:=⟨g,j*4+3,ε⟩) (Λ P0.out Q9.out) (J o.m))
        have Gx:Hid (Fs.set j (y.1,y.2.1,o.m)=(Es.take (j+1)).map (fun v:EC=>if v.1=bp o then(v.1,iO o v.2) else v)++Es.drop (j+1)):=qh (by
         rw[Pn.out,if_pos (show y.1=bp o from F3.out)];unfold iO;rw[if_neg NW])
        have NJ:Hid ((Es.take (j+1)).any (fun v:EC=>decide (v.1=bp o))=τ):=qh (by rw[Lr.out,decide_eq_true (show y.1=bp o from F3.out),Bool.or_true]);obtain⟨w6,MZ⟩:=ay (w5.setCell ⟨g,j*4+3,ε⟩ (J o.m));rw[MZ] at zZ J4 kF ⊢;clear MZ dY qk gI xN wH;go_wp2;go_roundw
        case rel=>exact⟨j+1,_,by omega,by rw[NJ.out],by go_num,zZ,J4,kF,Gx⟩
        case measure=>simp[intOf];omega
      ·have HQ:=qh (fun X=>(hq X).trans (by rw[decide_eq_false (show ¬(y.1.1,y.1.2)=(o.s,o.n) from mO)]:_=.ok (Β ρ) X));have F3:=qh mO;clear hq mO;go_upto_region 14 with fail
       have fv:∀w',Kept aF wo.drew w'→w'.cell? ⟨b3,1,ε⟩=ζ (γ (ζ ⟨g,0,ε⟩) m k5):=fun w' h=>h.nil_cell (HX.out.2.2.2.1.dr.cell (i:=1) rfl)
       have ld1:∀w',Kept aF wo.drew w'→w'.cell? ⟨b1,17,ε⟩=ζ (Β τ):=fun w' h=>h.nil_cell ((HX.out.2.1.dr.cell (i:=17) rfl).trans (by rw[HE.out]))
       refine aw (aF) (by kernel_rfl) ?_;refine ag 0 ?_;refine ag 1 ?_;refine ag 2 ?_;refine ag 3 ?_;refine ag 4 ?_;refine ag 5 ?_;refine ag 6 ?_;refine ag 7 ?_;refine bY 8 (hy:=bG (by rfl) 30 (.tmp 65) rfl ⟨g,j*4,ε⟩ rfl [J y.1.1,J y.1.2] _ vF.out Tryz.underlying30 rfl (by kernel_rfl)) (h:=?_);refine ag 9 ?_;refine bY 10 (hy:=bG (by rfl) 30 (.tmp 67) rfl ⟨b1,1,ε⟩ rfl [J o.s,J o.n] _ (fun w' h i u hu=>(h.whole HX.out.2.1.dr (fun h=>h)).sub_ (cs:=aa o) (ds:=[J o.s,J o.n]) 1 hu) Tryz.underlying30 rfl (by kernel_rfl)) (h:=?_);refine bY 11 (hy:=dG (by rfl) (fun w' _=>bE .eql 30 (.tmp 66) (.tmp 68) 30 rfl rfl rfl (by kernel_rfl) (HQ.out w'))) (h:=?_);refine ag 12 ?_;refine aD (by kernel_rfl) ?_ _;intro w5 pq;have gY:σ wo.heap.size wo w5:=(Θ wo.heap.size wo).drew.trans pq;have dY:=qh (HX.out.up gY);have qk:=qh (HC.out.bl gY);have gI:=qh (af HB.out gY);have xN:=qh (J5.out.bl gY);have wH:=qh (fun i u hu=>(gY.cell (p:=⟨g,j*4+i,ε⟩) J5.out.lt).trans (EG.out i u hu):∀i u,(eC y)[i]? =ζ u→w5.cell? ⟨g,j*4+i,ε⟩=ζ u);clear pq gY HX HC HB vF c0 HQ fv ld1 J5 EG
       have Gx:Hid (Fs=(Es.take (j+1)).map (fun v:EC=>if v.1=bp o then(v.1,iO o v.2) else v)++Es.drop (j+1)):=qh (by
        rw[Pn.out,if_neg (show ¬y.1=bp o from F3.out)];exact(ua HY.out).symm)
       have NJ:Hid ((Es.take (j+1)).any (fun v:EC=>decide (v.1=bp o))=pf):=qh (by rw[Lr.out,GP.out,decide_eq_false (show ¬y.1=bp o from F3.out),Bool.or_false]);go_wp2;go_roundw
       case rel=>exact⟨j+1,Fs,by omega,by rw[NJ.out],by go_num,dY,qk,gI,Gx⟩
       case measure=>simp[intOf];omega
     ·obtain rfl:m=j:=by omega
      have Yz:Hid (Fs=tl Es (bp o) (iO o)):=qh (by
       have:=HU.out
       rw[Ι (by have:=Cc.out;omega),Jak (by have:=Cc.out;omega),Jbi] at this;exact this)
      have Uz:Hid (bN Es (bp o)=pf):=qh (by
       have:=GP.out
       rw[Ι (by have:=Cc.out;omega)] at this;exact this)
      clear HU GP;have HDq:=qh (Yz.out▸HC.out.wr.dg);have HVq:=XT;cases pf with
      |false=>
       obtain rfl:=(show setS (V,Es,G) (bp o) o.e (iO o)=(cp,13) from by unfold setS;rw[if_pos HE.out,if_neg (by rw[Uz.out];decide)]).symm.trans HR.out;have z0:=HX.out.2.2.1.cell (i:=0) rfl;have y0:=HX.out.2.2.1.free 0;have z1:=HX.out.2.2.1.cell (i:=1) rfl;have y1:=HX.out.2.2.1.free 1;have z2:=HX.out.2.2.1.cell (i:=2) rfl;have y2:=HX.out.2.2.1.free 2;go_wp2;exact aG rfl b2 rfl rfl (((HX.out.2.2.1.set_ 0 (γ ε 0 0)).set_ 1 (γ ε 0 0)).set_ 2 (γ ε 0 0)) Tryz.underlying28 rfl (by kernel_rfl) rfl ⟨ε,0,0,ε,0,0,ε,0,0,[],rfl,eE _,rfl,aX.no _ _ _,((HB.out.setCell (p:=⟨b2,0,ε⟩) bz.out (γ ε 0 0)).setCell (p:=⟨b2,1,ε⟩) bz.out (γ ε 0 0)).setCell (p:=⟨b2,2,ε⟩) bz.out (γ ε 0 0)⟩
      |true=>
       have vr:Hid (setS (V,Es,G) (bp o) o.e (iO o)=((V,tl Es (bp o) (iO o),G),0)):=qh (by unfold setS;rw[if_pos HE.out,if_pos Uz.out]);obtain rfl:=vr.out.symm.trans HR.out;have z0:=HX.out.2.2.1.cell (i:=0) rfl;have y0:=HX.out.2.2.1.free 0;have z1:=HX.out.2.2.1.cell (i:=1) rfl;have y1:=HX.out.2.2.1.free 1;have z2:=HX.out.2.2.1.cell (i:=2) rfl;have y2:=HX.out.2.2.1.free 2;have x0:=HX.out.2.2.2.1.cell (i:=0) rfl;have x1:=HX.out.2.2.2.1.cell (i:=1) rfl;have x2:=HX.out.1.cell (i:=2) rfl;have k0:=aZ (a:=γ ε 0 0) (b:=γ ε 0 0) (d:=γ ε 0 0) (fun i=>by simp) (fun i=>by simp) (fun i=>by simp);have k1:=aZ (a:=γ A5 n c5) (b:=γ ε 0 0) (d:=γ ε 0 0) (fun i=>by simp) (fun i=>by simp) (fun i=>by simp);have mW:=aZ (a:=γ A5 n c5) (b:=γ B5 m k5) (d:=γ ε 0 0) (fun i=>by simp) (fun i=>by simp) (fun i=>by simp);have Ln:=qh (Au.out.bl HB.out);go_wp2;have s0:=HX.out.2.2.1;have s1:=s0.set_ 0 (γ A5 n c5);have s2:=s1.set_ 1 (γ B5 m k5);exact aG rfl b2 rfl rfl (s2.set_ 2 (γ C r rc)) Tryz.underlying28 rfl (by kernel_rfl) rfl ⟨A5,n,c5,B5,m,k5,C,r,rc,_,rfl,bA (bA (bA HDq.out s0 k0 0 _) s1 k1 1 _) s2 mW 2 _,HVq.out,bL (bL (bL Ln.out s0 k0 0 _) s1 k1 1 _) s2 mW 2 _,((HB.out.setCell (p:=⟨b2,0,ε⟩) bz.out (γ A5 n c5)).setCell (p:=⟨b2,1,ε⟩) bz.out (γ B5 m k5)).setCell (p:=⟨b2,2,ε⟩) bz.out (γ C r rc)⟩
end Go.Proofs.YtpdpbfmiahjiiaaGreat
