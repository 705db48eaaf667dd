/- Several texts in one. -/
import Derived.Test.YtpdpbfmiahjiiaaGreatPlAB
import Derived.Test.YtpdpbfmiahjiiaaGreatPlAX
set_option linter.unusedSectionVars false
set_option linter.unusedSimpArgs false
set_option linter.unusedVariables false
set_option maxRecDepth 100000
set_option maxHeartbeats 16000000
namespace Go.Proofs.YtpdpbfmiahjiiaaGreat
open Go.RowKit
open _root_.Go.Value renaming slice→γ,string→μ,bool→Β
open _root_.Go.Obj renaming cells→δ
open _root_.Option renaming none→ε,some→ζ
open _root_.List renaming getElem?_eq_getElem→θ,getElem?_eq_some_iff→ν,mem_cons→Η,take_of_length_le→Ι,length_map→Ρ,getElem?_map→Ψ,getElem?_append_left→Jab,drop_of_length_le→Jak,length_take→JaA,take_succ_eq_append_getElem→JaQ,not_mem_nil→Jbh,append_nil→Jbi
open _root_.Bool renaming false→ρ,true→τ
open _root_.Go.RowKit renaming Below→σ
open _root_.Go.RowKit.Below renaming refl→Θ
open _root_.Nat renaming le_trans→Λ,zero_le→Jas,sub_self→JaP
open _root_.Go.Addr renaming add_lit→Ν
theorem xR {α:Type} (g:α→α) {V:List α} {j:Nat} {v:α} (h:V[j]? =ζ v):(V.take (j+1)).map g++V.drop (j+1)=((V.take j).map g++V.drop j).set j (g v):=by
 obtain⟨hj,e⟩:=ν.1 h;have hl:((V.take j).map g).length=j:=by rw[Ρ,JaA];omega
 rw[List.set_append,if_neg (by omega),hl,JaP,List.drop_eq_getElem_cons hj,List.set_cons_zero,JaQ hj,e,List.map_append,List.append_assoc];rfl
theorem Ej {α:Type} (g:α→α) {V:List α} {j:Nat} {v:α} (h:V[j]? =ζ v):((V.take j).map g++V.drop j)[j]? =ζ v:=by
 obtain⟨hj,e⟩:=ν.1 h;have hl:((V.take j).map g).length=j:=by rw[Ρ,JaA];omega
 rw[List.getElem?_append_right (by omega),hl,JaP,List.getElem?_drop,Nat.add_zero,h]
theorem xL {α:Type} (p:α→Bool) {V:List α} {j:Nat} {v:α} (h:V[j]? =ζ v):(V.take (j+1)).any p=((V.take j).any p||p v):=by
 obtain⟨hj,e⟩:=ν.1 h;rw[JaQ hj,e,List.any_append];simp
section
variable {W:World} {lo:Nat} {A B:Option Addr} {n c m k:Nat} {Us:List VC} {Es:List EC} {g:Nat}
theorem mo.vat (h:mo W lo A n c Us B m k Es) {j:Nat} {x:VC} (hx:Us[j]? =ζ x) (hj:j<n):∃g,A=ζ ⟨g,0,ε⟩∧lo≤g∧(∃cs,Whole W g 59 cs)∧(∀i u,(vC x)[i]? =ζ u→W.cell? ⟨g,j*5+i,ε⟩=ζ u):=by
 obtain⟨g,junk,e,gi,hw,-⟩:=eT h.v (by omega)
 refine⟨g,e,gi,⟨_,hw⟩,fun i u hu=>hw.cell ?_⟩
 have h1:=jv vC aN Us j x hx i u hu;rw[Jab (ν.1 h1).1];exact h1
theorem mo.eat (h:mo W lo A n c Us B m k Es) {j:Nat} {x:EC} (hx:Es[j]? =ζ x) (hj:j<m):∃g,B=ζ ⟨g,0,ε⟩∧lo≤g∧(∃cs,Whole W g 67 cs)∧(∀i u,(eC x)[i]? =ζ u→W.cell? ⟨g,j*4+i,ε⟩=ζ u):=by
 obtain⟨g,junk,e,gi,hw,-⟩:=eT h.e (by omega)
 refine⟨g,e,gi,⟨_,hw⟩,fun i u hu=>hw.cell ?_⟩
 have h1:=jv eC cM Es j x hx i u hu;rw[Jab (ν.1 h1).1];exact h1
theorem mo.vset (h:mo W lo (ζ ⟨g,0,ε⟩) n c Us B m k Es) {j i:Nat} {x y:VC} {u:Value} (hx:Us[j]? =ζ x) (hj:j<n) (hi:i<5) (hy:vC y=(vC x).set i u) (hr:y.2.1=x.2.1):W.frozen? ⟨g,j*5+i,ε⟩=ρ∧mo (W.setCell ⟨g,j*5+i,ε⟩ u) lo (ζ ⟨g,0,ε⟩) n c (Us.set j y) B m k Es:=by
 obtain⟨g',junk,e,gi,hw,hc,hf,ho⟩:=jI aN h.v hx hj hi hy
 obtain rfl:g=g':=by
  injection e with e
  injection e
 refine⟨hf,ho,aI h.e (bM h.e hw (by decide)) _,fun z hz=>?_⟩
 rcases List.mem_or_eq_of_mem_set hz with hz|rfl
 ·exact aI (h.r z hz) (bM (h.r z hz) hw (by decide)) _
 ·rw[hr];have hm:=h.r x (List.mem_of_getElem? hx);exact aI hm (bM hm hw (by decide)) _
theorem mo.eset (h:mo W lo A n c Us (ζ ⟨g,0,ε⟩) m k Es) {j i:Nat} {x y:EC} {u:Value} (hx:Es[j]? =ζ x) (hj:j<m) (hi:i<4) (hy:eC y=(eC x).set i u):W.frozen? ⟨g,j*4+i,ε⟩=ρ∧mo (W.setCell ⟨g,j*4+i,ε⟩ u) lo A n c Us (ζ ⟨g,0,ε⟩) m k (Es.set j y):=by
 obtain⟨g',junk,e,gi,hw,hc,hf,ho⟩:=jI cM h.e hx hj hi hy
 obtain rfl:g=g':=by
  injection e with e
  injection e
 exact⟨hf,aI h.v (bM h.v hw (by decide)) _,ho,fun z hz=>aI (h.r z hz) (bM (h.r z hz) hw (by decide)) _⟩
end
theorem Kc {W:World} {A:Option Addr} {n c:Nat} {Vs:List VC} {B:Option Addr} {m k:Nat} {Es:List EC} {C:Option Addr} {r rc:Nat} {G:List Gn} (h:aO W A n c Vs B m k Es) (hg:aS W W.heap.size 6 C r rc (ao cj G)) (hS:il (Vs.map vS,Es,G)) (o:cO):
 Calls Tryz.prog 52 #[.agg #[γ A n c,γ B m k,γ C r rc],.agg (aa o).toArray] W (dH W (setS (Vs.map vS,Es,G) (bC o) o.e (iF o))):=by
 have lX:Vs.length=n:=h.v.rlen aN (by decide);have qJ:Es.length=m:=h.e.rlen cM (by decide);have qM:Vs.length≤24:=by have:=hS.v24;rwa [Ρ] at this
 have yw:Es.length≤40:=hS.e40;have FH:∀y∈Vs,y.2.1.2.1≤80:=rP.to h hS.short
 have IU:=qh (fun X (hX:σ W.heap.size W X)=>uZ A n c Vs B m k Es X (h.below hX) (by omega) (by omega) (fun y hy=>by have:=FH y hy;omega));have xJ:=qh hg;have BW:=qh qJ;obtain⟨V,gV⟩:=az (Vs.map vS);have IC:Hid (V.length=n):=qh (by rw[←gV,Ρ];exact lX);rw[gV] at IU ⊢;obtain⟨R,gR⟩:=az (setS (V,Es,G) (bC o) o.e (iF o));have HR:=qh gR;rw[gR];have xa:n≤24:=by omega
 have R5:m≤40:=by omega
 clear gR gV h hg hS lX qJ qM yw FH;go_enter Tryz.func52,Tryz.ntmps52;go_upto_region 1 with fail
 obtain⟨W0,b0,b1,b2,bJ,bS,cJ,dA,aR,aQ,bj,bn,-,-,j4,-,fD,-,a8,kY,mJ,ni⟩:=jm W 28 [γ A n c,γ B m k,γ C r rc] 36 (aa o) 28 [γ ε 0 0,γ ε 0 0,γ ε 0 0];rw[bJ,dA,cJ,bS];clear bJ bS cJ dA;have x0:=aR.out.cell (i:=0) rfl;have x1:=aR.out.cell (i:=1) rfl
 go_upto_region 4 with (first
  |(go_at_call 23
    refine(IU.out _ bn.out).mono ?_
    rintro e w2 ⟨A5,c5,B5,k5,Ws,rfl,qH,Jd,fM⟩;have oz:=qh qH;have zI:=qh Jd;have js:=qh fM;clear qH Jd fM x0 x1))
 have qH:=oz.out;have fM:=js.out;have HC:=qh (qH.al (δ #[γ A5 n c5,γ B5 m k5] 25));have UG:=zI;have cL:=qh (aF (af bn.out fM) (δ #[γ A5 n c5,γ B5 m k5] 25));have HX:Hid (Bx (w2.alloc (δ #[γ A5 n c5,γ B5 m k5] 25)) [(b0,28,[γ A n c,γ B m k,γ C r rc]),(b1,36,aa o),(b2,28,[γ ε 0 0,γ ε 0 0,γ ε 0 0]),(w2.heap.size,25,[γ A5 n c5,γ B5 m k5])]):=qh ⟨(aR.out.bl fM).al _,(aQ.out.bl fM).al _,(bj.out.bl fM).al _,Whole.new_ w2 25 [γ A5 n c5,γ B5 m k5],trivial⟩;have OM:Hid (W.heap.size≤W0.heap.size):=qh bn.out.size;clear qH fM oz js zI aR aQ bj bn IU;obtain⟨w3,qK⟩:=az (w2.alloc (δ #[γ A5 n c5,γ B5 m k5] 25));obtain⟨b3,oR⟩:=az w2.heap.size;rw[qK] at HC cL HX ⊢;rw[oR] at HX ⊢;clear qK oR;obtain⟨lo,xK⟩:=az W0.heap.size;rw[xK] at HC OM;clear xK;have HQv:Hid (∀v:VS,decide (v.1=bC o)=decide (v.1=bC o)):=qh (fun _=>rfl);cases he:o.e with
 |false=>
  have HE:=qh he;clear he;go_loopw [7,8] (fun vf vi wr=>∃(j:Nat) (Us:List VC),j≤n∧vf=Β ((V.take j).any (fun v:VS=>decide (v.1=bC o)))∧vi=J (j:Int)∧Hid (Bx wr [(b0,28,[γ A n c,γ B m k,γ C r rc]),(b1,36,aa o),(b2,28,[γ ε 0 0,γ ε 0 0,γ ε 0 0]),(b3,25,[γ A5 n c5,γ B5 m k5])])∧Hid (mo wr lo A5 n c5 Us B5 m k5 Es)∧Hid (σ W.heap.size W wr)∧Hid (Us.map vS=(V.take j).map (fun v:VS=>if v.1=bC o then(v.1,v.2.1,iF o v.2.2) else v)++V.drop j)) (fun _ vi _=>n - (intOf vi).toNat)
  case atStart=>exact⟨0,Ws,Jas _,rfl,rfl,HX,HC,cL,qh (by rw[UG.out];rfl)⟩
  case round=>
   clear HX HC cL;obtain⟨j,Us,hj,rfl,rfl,HX,HC,HB,HU⟩:=hrel;obtain⟨wo,dB⟩:=az wr;rw[dB] at HX HC HB ⊢;clear dB;obtain⟨pf,gp⟩:=az ((V.take j).any (fun v:VS=>decide (v.1=bC o)));rw[gp];have GP:=qh gp;clear gp;have c0:=HX.out.2.2.2.1.cell (i:=0) rfl
   by_cases nF:j<n
   ·have qd:(j:Int)<(n:Int):=by omega
    obtain⟨v,hv⟩:∃v,V[j]? =ζ v:=⟨_,θ (by have:=IC.out;omega)⟩
    have JS:=Ej (fun v:VS=>if v.1=bC o then(v.1,v.2.1,iF o v.2.2) else v) hv;have KW:=xR (fun v:VS=>if v.1=bC o then(v.1,v.2.1,iF o v.2.2) else v) hv;have U0:=xL (fun v:VS=>decide (v.1=bC o)) hv;rw[←HU.out,Ψ] at JS;rw[←HU.out] at KW;obtain⟨y,hy,Q4⟩:=Option.map_eq_some_iff.1 JS;have tR:v.1=y.1:=congrArg (·.1) Q4.symm;have SU:=qh Q4;obtain⟨g,rfl,gi,⟨cs,He⟩,nA⟩:=HC.out.vat hy nF;have HY:=qh hy;have Mn:=qh KW;have Ip:=qh U0;have N0:=qh gi;have FU:=qh He;have Fv:=qh nA
    have tK:Hid (∀w',Kept aT wo.drew w'→∀i u,[J y.1.1,J y.1.2][i]? =ζ u→w'.cell? ((⟨g,j*5,ε⟩:Addr).add i)=ζ u):=qh (fun w' h i u hu=>h.nil_cell (by
     rw[Ν];refine nA i u ?_;rcases i with _|_|i
     ·exact hu
     ·exact hu
     ·simp at hu))
    have hq:=ja y.1.1 y.1.2 o.s o.n;clear hv JS KW U0 hy gi He nA Q4
    by_cases py:y.1=bC o
    ·have HQ:=qh (fun X=>(hq X).trans (by rw[decide_eq_true (show(y.1.1,y.1.2)=(o.s,o.n) from py)]:_=.ok (Β τ) X));have CE:=qh py;clear hq py;go_upto_region 6 with fail
     have iM:∀w',Kept aT wo.drew w'→w'.cell? ⟨b3,0,ε⟩=ζ (γ (ζ ⟨g,0,ε⟩) n c5):=fun w' h=>h.nil_cell (HX.out.2.2.2.1.dr.cell (i:=0) rfl)
     have ld1:∀w',Kept aT wo.drew w'→w'.cell? ⟨b1,17,ε⟩=ζ (Β ρ):=fun w' h=>h.nil_cell ((HX.out.2.1.dr.cell (i:=17) rfl).trans (by rw[HE.out]))
     refine aw (aT) (by kernel_rfl) ?_;refine aq 0 ?_;refine aq 1 ?_;refine aq 2 ?_;refine aq 3 ?_;refine aq 4 ?_;refine aq 5 ?_;refine aq 6 ?_;refine aq 7 ?_;refine aq 8 ?_;refine bN 9 (hy:=bA (by rfl) 30 (.tmp 28) rfl ⟨g,j*5,ε⟩ rfl [J y.1.1,J y.1.2] _ tK.out Tryz.underlying30 rfl (by kernel_rfl)) (h:=?_);refine aq 10 ?_;refine bN 11 (hy:=bA (by rfl) 30 (.tmp 30) rfl ⟨b1,1,ε⟩ rfl [J o.s,J o.n] _ (fun w' h i u hu=>(h.whole HX.out.2.1.dr (fun h=>h)).sub_ (cs:=aa o) (ds:=[J o.s,J o.n]) 1 hu) Tryz.underlying30 rfl (by kernel_rfl)) (h:=?_);refine bN 12 (hy:=dm (by rfl) (fun w' _=>bo .eql 30 (.tmp 29) (.tmp 31) 30 rfl rfl rfl (by kernel_rfl) (HQ.out w'))) (h:=?_);refine aq 13 ?_;refine aG (by kernel_rfl) ?_ _;intro w5 oL;have gM:σ wo.heap.size wo w5:=(Θ wo.heap.size wo).drew.trans oL;have dQ:=qh (HX.out.up gM);have oz:=qh (HC.out.bl gM);have js:=qh (af HB.out gM);have vH:=qh (FU.out.bl gM);have uX:=qh (fun i u hu=>(gM.cell (p:=⟨g,j*5+i,ε⟩) FU.out.lt).trans (Fv.out i u hu):∀i u,(vC y)[i]? =ζ u→w5.cell? ⟨g,j*5+i,ε⟩=ζ u);clear oL gM HX HC HB tK c0 HQ iM ld1 FU Fv
     by_cases Vj:o.k=7
     ·have z0:=dQ.out.2.1.cell (i:=0) rfl;have z1:=dQ.out.2.1.cell (i:=18) rfl;have z2:=dQ.out.2.2.2.1.cell (i:=0) rfl;have z3:=uX.out 3 _ rfl;obtain⟨z4,Ke⟩:=oz.out.vset (i:=3) (y:=(y.1,y.2.1,o.t,y.2.2.2)) (u:=μ o.t) HY.out nF (by decide) rfl rfl;have FQ:=qh Ke;clear Ke;go_upto_region 5 with fail
      clear z0 z1 z2 z3 z4
      have BO:=qh (Bx.st (g:=g) (i:=j*5+3) (μ o.t) dQ.out (fun q hq=>by
       simp only[Η,Jbh,or_false] at hq;obtain⟨IF,yM⟩:∃IF,Whole w5 g 59 IF:=⟨_,vH.out⟩
       rcases hq with rfl|rfl|rfl|rfl
       ·exact dQ.out.1.ne_ yM (show 28≠59 by decide)
       ·exact dQ.out.2.1.ne_ yM (show 36≠59 by decide)
       ·exact dQ.out.2.2.1.ne_ yM (show 28≠59 by decide)
       ·exact dQ.out.2.2.2.1.ne_ yM (show 25≠59 by decide)))
      have qX:=qh (js.out.setCell (p:=⟨g,j*5+3,ε⟩) (Λ OM.out N0.out) (μ o.t))
      have CZ:Hid ((Us.set j (y.1,y.2.1,o.t,y.2.2.2)).map vS=(V.take (j+1)).map (fun v:VS=>if v.1=bC o then(v.1,v.2.1,iF o v.2.2) else v)++V.drop (j+1)):=qh (by
       rw[Mn.out,List.map_set,if_pos (show v.1=bC o from tR.trans CE.out),←SU.out];show _=(List.map vS Us).set j ((vS y).1,(vS y).2.1,iF o (vS y).2.2);unfold iF;rw[if_pos Vj];rfl)
      have Lp:Hid ((V.take (j+1)).any (fun v:VS=>decide (v.1=bC o))=τ):=qh (by rw[Ip.out,decide_eq_true (show v.1=bC o from tR.trans CE.out),Bool.or_true]);obtain⟨w6,KR⟩:=az (w5.setCell ⟨g,j*5+3,ε⟩ (μ o.t));rw[KR] at BO FQ qX ⊢;clear KR dQ oz js vH uX;go_wp2;go_roundw
      case rel=>exact⟨j+1,_,by omega,by rw[Lp.out],by go_num,BO,FQ,qX,CZ⟩
      case measure=>simp[intOf];omega
     ·have z0:=dQ.out.2.1.cell (i:=0) rfl;have z1:=dQ.out.2.1.cell (i:=19) rfl;have z2:=dQ.out.2.2.2.1.cell (i:=0) rfl;have z3:=uX.out 4 _ rfl;obtain⟨z4,Ke⟩:=oz.out.vset (i:=4) (y:=(y.1,y.2.1,y.2.2.1,o.m)) (u:=J o.m) HY.out nF (by decide) rfl rfl;have FQ:=qh Ke;clear Ke;go_upto_region 5 with fail
      clear z0 z1 z2 z3 z4
      have BO:=qh (Bx.st (g:=g) (i:=j*5+4) (J o.m) dQ.out (fun q hq=>by
       simp only[Η,Jbh,or_false] at hq;obtain⟨IF,yM⟩:∃IF,Whole w5 g 59 IF:=⟨_,vH.out⟩
       rcases hq with rfl|rfl|rfl|rfl
       ·exact dQ.out.1.ne_ yM (show 28≠59 by decide)
       ·exact dQ.out.2.1.ne_ yM (show 36≠59 by decide)
       ·exact dQ.out.2.2.1.ne_ yM (show 28≠59 by decide)
       ·exact dQ.out.2.2.2.1.ne_ yM (show 25≠59 by decide)))
      have qX:=qh (js.out.setCell (p:=⟨g,j*5+4,ε⟩) (Λ OM.out N0.out) (J o.m))
      have CZ:Hid ((Us.set j (y.1,y.2.1,y.2.2.1,o.m)).map vS=(V.take (j+1)).map (fun v:VS=>if v.1=bC o then(v.1,v.2.1,iF o v.2.2) else v)++V.drop (j+1)):=qh (by
       rw[Mn.out,List.map_set,if_pos (show v.1=bC o from tR.trans CE.out),←SU.out];show _=(List.map vS Us).set j ((vS y).1,(vS y).2.1,iF o (vS y).2.2);unfold iF;rw[if_neg Vj];rfl)
      have Lp:Hid ((V.take (j+1)).any (fun v:VS=>decide (v.1=bC o))=τ):=qh (by rw[Ip.out,decide_eq_true (show v.1=bC o from tR.trans CE.out),Bool.or_true]);obtain⟨w6,KR⟩:=az (w5.setCell ⟨g,j*5+4,ε⟩ (J o.m));rw[KR] at BO FQ qX ⊢;clear KR dQ oz js vH uX;go_wp2;go_roundw
      case rel=>exact⟨j+1,_,by omega,by rw[Lp.out],by go_num,BO,FQ,qX,CZ⟩
      case measure=>simp[intOf];omega
    ·have HQ:=qh (fun X=>(hq X).trans (by rw[decide_eq_false (show ¬(y.1.1,y.1.2)=(o.s,o.n) from py)]:_=.ok (Β ρ) X));have CE:=qh py;clear hq py;go_upto_region 6 with fail
     have iM:∀w',Kept aT wo.drew w'→w'.cell? ⟨b3,0,ε⟩=ζ (γ (ζ ⟨g,0,ε⟩) n c5):=fun w' h=>h.nil_cell (HX.out.2.2.2.1.dr.cell (i:=0) rfl)
     have ld1:∀w',Kept aT wo.drew w'→w'.cell? ⟨b1,17,ε⟩=ζ (Β ρ):=fun w' h=>h.nil_cell ((HX.out.2.1.dr.cell (i:=17) rfl).trans (by rw[HE.out]))
     refine aw (aT) (by kernel_rfl) ?_;refine aq 0 ?_;refine aq 1 ?_;refine aq 2 ?_;refine aq 3 ?_;refine aq 4 ?_;refine aq 5 ?_;refine aq 6 ?_;refine aq 7 ?_;refine aq 8 ?_;refine bN 9 (hy:=bA (by rfl) 30 (.tmp 28) rfl ⟨g,j*5,ε⟩ rfl [J y.1.1,J y.1.2] _ tK.out Tryz.underlying30 rfl (by kernel_rfl)) (h:=?_);refine aq 10 ?_;refine bN 11 (hy:=bA (by rfl) 30 (.tmp 30) rfl ⟨b1,1,ε⟩ rfl [J o.s,J o.n] _ (fun w' h i u hu=>(h.whole HX.out.2.1.dr (fun h=>h)).sub_ (cs:=aa o) (ds:=[J o.s,J o.n]) 1 hu) Tryz.underlying30 rfl (by kernel_rfl)) (h:=?_);refine bN 12 (hy:=dm (by rfl) (fun w' _=>bo .eql 30 (.tmp 29) (.tmp 31) 30 rfl rfl rfl (by kernel_rfl) (HQ.out w'))) (h:=?_);refine aq 13 ?_;refine aG (by kernel_rfl) ?_ _;intro w5 oL;have gM:σ wo.heap.size wo w5:=(Θ wo.heap.size wo).drew.trans oL;have dQ:=qh (HX.out.up gM);have oz:=qh (HC.out.bl gM);have js:=qh (af HB.out gM);have vH:=qh (FU.out.bl gM);have uX:=qh (fun i u hu=>(gM.cell (p:=⟨g,j*5+i,ε⟩) FU.out.lt).trans (Fv.out i u hu):∀i u,(vC y)[i]? =ζ u→w5.cell? ⟨g,j*5+i,ε⟩=ζ u);clear oL gM HX HC HB tK c0 HQ iM ld1 FU Fv
     have CZ:Hid (Us.map vS=(V.take (j+1)).map (fun v:VS=>if v.1=bC o then(v.1,v.2.1,iF o v.2.2) else v)++V.drop (j+1)):=qh (by
      rw[Mn.out,if_neg (show ¬v.1=bC o from fun q=>CE.out (tR.symm.trans q))];exact(sK (by rw[Ψ,HY.out,Option.map_some,SU.out])).symm)
     have Lp:Hid ((V.take (j+1)).any (fun v:VS=>decide (v.1=bC o))=pf):=qh (by rw[Ip.out,GP.out,decide_eq_false (show ¬v.1=bC o from fun q=>CE.out (tR.symm.trans q)),Bool.or_false]);go_wp2;go_roundw
     case rel=>exact⟨j+1,Us,by omega,by rw[Lp.out],by go_num,dQ,oz,js,CZ⟩
     case measure=>simp[intOf];omega
   ·obtain rfl:n=j:=by omega
    have T7:Hid (Us.map vS=nG V (bC o) (iF o)):=qh (by
     have:=HU.out
     rw[Ι (by have:=IC.out;omega),Jak (by have:=IC.out;omega),Jbi] at this;exact this)
    have RU:Hid (bH V (bC o)=pf):=qh (by
     have:=GP.out
     rw[Ι (by have:=IC.out;omega)] at this;exact this)
    clear HU GP;go_upto_region 12 with fail
    go_loopw [7,9] (fun vf vi wr=>∃(j:Nat),j≤m∧vf=Β pf∧vi=J (j:Int)∧Hid (Bx wr [(b0,28,[γ A n c,γ B m k,γ C r rc]),(b1,36,aa o),(b2,28,[γ ε 0 0,γ ε 0 0,γ ε 0 0]),(b3,25,[γ A5 n c5,γ B5 m k5])])∧Hid (mo wr lo A5 n c5 Us B5 m k5 Es)∧Hid (σ W.heap.size W wr)) (fun _ vi _=>m - (intOf vi).toNat)
    case atStart=>exact⟨0,Jas _,rfl,rfl,HX,HC,HB⟩
    case round=>
     clear HX HC HB;obtain⟨j,hj,rfl,rfl,HX,HC,HB⟩:=hrel;obtain⟨wo,dB⟩:=az wr;rw[dB] at HX HC HB ⊢;clear dB;have c0:=HX.out.2.2.2.1.cell (i:=1) rfl
     by_cases nF:j<m
     ·have qd:(j:Int)<(m:Int):=by omega
      go_upto_region 14 with fail
      have ld1:∀w',Kept aT wo.drew w'→w'.cell? ⟨b1,17,ε⟩=ζ (Β ρ):=fun w' h=>h.nil_cell ((HX.out.2.1.dr.cell (i:=17) rfl).trans (by rw[HE.out]))
      refine aw (aT) (by kernel_rfl) ?_;refine aq 0 ?_;refine aq 1 ?_;refine aq 2 ?_;refine bP 3 ?_;refine bP 4 ?_;refine bP 5 ?_;refine bP 6 ?_;refine bP 7 ?_;refine bP 8 ?_;refine bP 9 ?_;refine bP 10 ?_;refine bP 11 ?_;refine aq 12 ?_;refine aG (by kernel_rfl) ?_ _;intro w5 oL;have gM:σ wo.heap.size wo w5:=(Θ wo.heap.size wo).drew.trans oL;have dQ:=qh (HX.out.up gM);have oz:=qh (HC.out.bl gM);have js:=qh (af HB.out gM);clear oL gM HX HC HB c0 ld1;go_wp2;go_roundw
      case rel=>exact⟨j+1,by omega,rfl,by go_num,dQ,oz,js⟩
      case measure=>simp[intOf];omega
     ·obtain rfl:m=j:=by omega
      have Ua:=qh HC.out.wr.dg;have YP:=T7;cases pf with
      |false=>
       obtain rfl:=(show setS (V,Es,G) (bC o) o.e (iF o)=(cC,13) from by unfold setS;rw[if_neg (by rw[HE.out];decide),if_neg (by rw[RU.out];decide)]).symm.trans HR.out;have z0:=HX.out.2.2.1.cell (i:=0) rfl;have y0:=HX.out.2.2.1.free 0;have z1:=HX.out.2.2.1.cell (i:=1) rfl;have y1:=HX.out.2.2.1.free 1;have z2:=HX.out.2.2.1.cell (i:=2) rfl;have y2:=HX.out.2.2.1.free 2;go_wp2;exact aE rfl b2 rfl rfl (((HX.out.2.2.1.set_ 0 (γ ε 0 0)).set_ 1 (γ ε 0 0)).set_ 2 (γ ε 0 0)) Tryz.underlying28 rfl (by kernel_rfl) rfl ⟨ε,0,0,ε,0,0,ε,0,0,[],rfl,dM _,rfl,aS.no _ _ _,((HB.out.setCell (p:=⟨b2,0,ε⟩) a8.out (γ ε 0 0)).setCell (p:=⟨b2,1,ε⟩) a8.out (γ ε 0 0)).setCell (p:=⟨b2,2,ε⟩) a8.out (γ ε 0 0)⟩
      |true=>
       have tx:Hid (setS (V,Es,G) (bC o) o.e (iF o)=((nG V (bC o) (iF o),Es,G),0)):=qh (by unfold setS;rw[if_neg (by rw[HE.out];decide),if_pos RU.out]);obtain rfl:=tx.out.symm.trans HR.out;have z0:=HX.out.2.2.1.cell (i:=0) rfl;have y0:=HX.out.2.2.1.free 0;have z1:=HX.out.2.2.1.cell (i:=1) rfl;have y1:=HX.out.2.2.1.free 1;have z2:=HX.out.2.2.1.cell (i:=2) rfl;have y2:=HX.out.2.2.1.free 2;have x0:=HX.out.2.2.2.1.cell (i:=0) rfl;have x1:=HX.out.2.2.2.1.cell (i:=1) rfl;have x2:=HX.out.1.cell (i:=2) rfl;have k0:=aP (a:=γ ε 0 0) (b:=γ ε 0 0) (d:=γ ε 0 0) (fun i=>by simp) (fun i=>by simp) (fun i=>by simp);have k1:=aP (a:=γ A5 n c5) (b:=γ ε 0 0) (d:=γ ε 0 0) (fun i=>by simp) (fun i=>by simp) (fun i=>by simp);have lZ:=aP (a:=γ A5 n c5) (b:=γ B5 m k5) (d:=γ ε 0 0) (fun i=>by simp) (fun i=>by simp) (fun i=>by simp);have Ij:=qh (xJ.out.bl HB.out);go_wp2;have s0:=HX.out.2.2.1;have s1:=s0.set_ 0 (γ A5 n c5);have s2:=s1.set_ 1 (γ B5 m k5);exact aE rfl b2 rfl rfl (s2.set_ 2 (γ C r rc)) Tryz.underlying28 rfl (by kernel_rfl) rfl ⟨A5,n,c5,B5,m,k5,C,r,rc,_,rfl,bf (bf (bf Ua.out s0 k0 0 _) s1 k1 1 _) s2 lZ 2 _,YP.out,bu (bu (bu Ij.out s0 k0 0 _) s1 k1 1 _) s2 lZ 2 _,((HB.out.setCell (p:=⟨b2,0,ε⟩) a8.out (γ A5 n c5)).setCell (p:=⟨b2,1,ε⟩) a8.out (γ B5 m k5)).setCell (p:=⟨b2,2,ε⟩) a8.out (γ C r rc)⟩
 |true=>
  have HE:=qh he;clear he;go_loopw [7,8] (fun vf vi wr=>∃(j:Nat),j≤n∧vf=Β ρ∧vi=J (j:Int)∧Hid (Bx wr [(b0,28,[γ A n c,γ B m k,γ C r rc]),(b1,36,aa o),(b2,28,[γ ε 0 0,γ ε 0 0,γ ε 0 0]),(b3,25,[γ A5 n c5,γ B5 m k5])])∧Hid (mo wr lo A5 n c5 Ws B5 m k5 Es)∧Hid (σ W.heap.size W wr)) (fun _ vi _=>n - (intOf vi).toNat)
  case atStart=>exact⟨0,Jas _,rfl,rfl,HX,HC,cL⟩
  case round=>
   clear HX HC cL;obtain⟨j,hj,rfl,rfl,HX,HC,HB⟩:=hrel;obtain⟨wo,dB⟩:=az wr;rw[dB] at HX HC HB ⊢;clear dB;have c0:=HX.out.2.2.2.1.cell (i:=0) rfl
   by_cases nF:j<n
   ·have qd:(j:Int)<(n:Int):=by omega
    go_upto_region 6 with fail
    have ld1:∀w',Kept aT wo.drew w'→w'.cell? ⟨b1,17,ε⟩=ζ (Β τ):=fun w' h=>h.nil_cell ((HX.out.2.1.dr.cell (i:=17) rfl).trans (by rw[HE.out]))
    refine aw (aT) (by kernel_rfl) ?_;refine aq 0 ?_;refine aq 1 ?_;refine aq 2 ?_;refine aq 3 ?_;refine bP 4 ?_;refine bP 5 ?_;refine bP 6 ?_;refine bP 7 ?_;refine bP 8 ?_;refine bP 9 ?_;refine bP 10 ?_;refine bP 11 ?_;refine bP 12 ?_;refine aq 13 ?_;refine aG (by kernel_rfl) ?_ _;intro w5 oL;have gM:σ wo.heap.size wo w5:=(Θ wo.heap.size wo).drew.trans oL;have dQ:=qh (HX.out.up gM);have oz:=qh (HC.out.bl gM);have js:=qh (af HB.out gM);clear oL gM HX HC HB c0 ld1;go_wp2;go_roundw
    case rel=>exact⟨j+1,by omega,rfl,by go_num,dQ,oz,js⟩
    case measure=>simp[intOf];omega
   ·obtain rfl:n=j:=by omega
    go_upto_region 12 with fail
    go_loopw [7,9] (fun vf vi wr=>∃(j:Nat) (Fs:List EC),j≤m∧vf=Β ((Es.take j).any (fun v:EC=>decide (v.1=bC o)))∧vi=J (j:Int)∧Hid (Bx wr [(b0,28,[γ A n c,γ B m k,γ C r rc]),(b1,36,aa o),(b2,28,[γ ε 0 0,γ ε 0 0,γ ε 0 0]),(b3,25,[γ A5 n c5,γ B5 m k5])])∧Hid (mo wr lo A5 n c5 Ws B5 m k5 Fs)∧Hid (σ W.heap.size W wr)∧Hid (Fs=(Es.take j).map (fun v:EC=>if v.1=bC o then(v.1,iF o v.2) else v)++Es.drop j)) (fun _ vi _=>m - (intOf vi).toNat)
    case atStart=>exact⟨0,Es,Jas _,rfl,rfl,HX,HC,HB,qh (rfl)⟩
    case round=>
     clear HX HC HB;obtain⟨j,Fs,hj,rfl,rfl,HX,HC,HB,HU⟩:=hrel;obtain⟨wo,dB⟩:=az wr;rw[dB] at HX HC HB ⊢;clear dB;obtain⟨pf,gp⟩:=az ((Es.take j).any (fun v:EC=>decide (v.1=bC o)));rw[gp];have GP:=qh gp;clear gp;have c0:=HX.out.2.2.2.1.cell (i:=1) rfl
     by_cases nF:j<m
     ·have qd:(j:Int)<(m:Int):=by omega
      obtain⟨y,hv⟩:∃v,Es[j]? =ζ v:=⟨_,θ (by have:=BW.out;omega)⟩
      have JS:=Ej (fun v:EC=>if v.1=bC o then(v.1,iF o v.2) else v) hv;have KW:=xR (fun v:EC=>if v.1=bC o then(v.1,iF o v.2) else v) hv;have U0:=xL (fun v:EC=>decide (v.1=bC o)) hv;rw[←HU.out] at JS KW;have hy:=JS;obtain⟨g,rfl,gi,⟨cs,He⟩,nA⟩:=HC.out.eat hy nF;have HY:=qh hy;have Mn:=qh KW;have Ip:=qh U0;have N0:=qh gi;have FU:=qh He;have Fv:=qh nA
      have tK:Hid (∀w',Kept aT wo.drew w'→∀i u,[J y.1.1,J y.1.2][i]? =ζ u→w'.cell? ((⟨g,j*4,ε⟩:Addr).add i)=ζ u):=qh (fun w' h i u hu=>h.nil_cell (by
       rw[Ν];refine nA i u ?_;rcases i with _|_|i
       ·exact hu
       ·exact hu
       ·simp at hu))
      have hq:=ja y.1.1 y.1.2 o.s o.n;clear hv JS KW U0 hy gi He nA
      by_cases py:y.1=bC o
      ·have HQ:=qh (fun X=>(hq X).trans (by rw[decide_eq_true (show(y.1.1,y.1.2)=(o.s,o.n) from py)]:_=.ok (Β τ) X));have CE:=qh py;clear hq py;go_upto_region 14 with fail
       have iM:∀w',Kept aT wo.drew w'→w'.cell? ⟨b3,1,ε⟩=ζ (γ (ζ ⟨g,0,ε⟩) m k5):=fun w' h=>h.nil_cell (HX.out.2.2.2.1.dr.cell (i:=1) rfl)
       have ld1:∀w',Kept aT wo.drew w'→w'.cell? ⟨b1,17,ε⟩=ζ (Β τ):=fun w' h=>h.nil_cell ((HX.out.2.1.dr.cell (i:=17) rfl).trans (by rw[HE.out]))
       refine aw (aT) (by kernel_rfl) ?_;refine aq 0 ?_;refine aq 1 ?_;refine aq 2 ?_;refine aq 3 ?_;refine aq 4 ?_;refine aq 5 ?_;refine aq 6 ?_;refine aq 7 ?_;refine bN 8 (hy:=bA (by rfl) 30 (.tmp 65) rfl ⟨g,j*4,ε⟩ rfl [J y.1.1,J y.1.2] _ tK.out Tryz.underlying30 rfl (by kernel_rfl)) (h:=?_);refine aq 9 ?_;refine bN 10 (hy:=bA (by rfl) 30 (.tmp 67) rfl ⟨b1,1,ε⟩ rfl [J o.s,J o.n] _ (fun w' h i u hu=>(h.whole HX.out.2.1.dr (fun h=>h)).sub_ (cs:=aa o) (ds:=[J o.s,J o.n]) 1 hu) Tryz.underlying30 rfl (by kernel_rfl)) (h:=?_);refine bN 11 (hy:=dm (by rfl) (fun w' _=>bo .eql 30 (.tmp 66) (.tmp 68) 30 rfl rfl rfl (by kernel_rfl) (HQ.out w'))) (h:=?_);refine aq 12 ?_;refine aG (by kernel_rfl) ?_ _;intro w5 oL;have gM:σ wo.heap.size wo w5:=(Θ wo.heap.size wo).drew.trans oL;have dQ:=qh (HX.out.up gM);have oz:=qh (HC.out.bl gM);have js:=qh (af HB.out gM);have vH:=qh (FU.out.bl gM);have uX:=qh (fun i u hu=>(gM.cell (p:=⟨g,j*4+i,ε⟩) FU.out.lt).trans (Fv.out i u hu):∀i u,(eC y)[i]? =ζ u→w5.cell? ⟨g,j*4+i,ε⟩=ζ u);clear oL gM HX HC HB tK c0 HQ iM ld1 FU Fv
       by_cases Vj:o.k=7
       ·have z0:=dQ.out.2.1.cell (i:=0) rfl;have z1:=dQ.out.2.1.cell (i:=18) rfl;have z2:=dQ.out.2.2.2.1.cell (i:=1) rfl;have z3:=uX.out 2 _ rfl;obtain⟨z4,Ke⟩:=oz.out.eset (i:=2) (y:=(y.1,o.t,y.2.2)) (u:=μ o.t) HY.out nF (by decide) rfl;have FQ:=qh Ke;clear Ke;go_upto_region 13 with fail
        clear z0 z1 z2 z3 z4
        have BO:=qh (Bx.st (g:=g) (i:=j*4+2) (μ o.t) dQ.out (fun q hq=>by
         simp only[Η,Jbh,or_false] at hq;obtain⟨IF,yM⟩:∃IF,Whole w5 g 67 IF:=⟨_,vH.out⟩
         rcases hq with rfl|rfl|rfl|rfl
         ·exact dQ.out.1.ne_ yM (show 28≠67 by decide)
         ·exact dQ.out.2.1.ne_ yM (show 36≠67 by decide)
         ·exact dQ.out.2.2.1.ne_ yM (show 28≠67 by decide)
         ·exact dQ.out.2.2.2.1.ne_ yM (show 25≠67 by decide)))
        have qX:=qh (js.out.setCell (p:=⟨g,j*4+2,ε⟩) (Λ OM.out N0.out) (μ o.t))
        have CZ:Hid (Fs.set j (y.1,o.t,y.2.2)=(Es.take (j+1)).map (fun v:EC=>if v.1=bC o then(v.1,iF o v.2) else v)++Es.drop (j+1)):=qh (by
         rw[Mn.out,if_pos (show y.1=bC o from CE.out)];unfold iF;rw[if_pos Vj])
        have Lp:Hid ((Es.take (j+1)).any (fun v:EC=>decide (v.1=bC o))=τ):=qh (by rw[Ip.out,decide_eq_true (show y.1=bC o from CE.out),Bool.or_true]);obtain⟨w6,KR⟩:=az (w5.setCell ⟨g,j*4+2,ε⟩ (μ o.t));rw[KR] at BO FQ qX ⊢;clear KR dQ oz js vH uX;go_wp2;go_roundw
        case rel=>exact⟨j+1,_,by omega,by rw[Lp.out],by go_num,BO,FQ,qX,CZ⟩
        case measure=>simp[intOf];omega
       ·have z0:=dQ.out.2.1.cell (i:=0) rfl;have z1:=dQ.out.2.1.cell (i:=19) rfl;have z2:=dQ.out.2.2.2.1.cell (i:=1) rfl;have z3:=uX.out 3 _ rfl;obtain⟨z4,Ke⟩:=oz.out.eset (i:=3) (y:=(y.1,y.2.1,o.m)) (u:=J o.m) HY.out nF (by decide) rfl;have FQ:=qh Ke;clear Ke;go_upto_region 13 with fail
        clear z0 z1 z2 z3 z4
        have BO:=qh (Bx.st (g:=g) (i:=j*4+3) (J o.m) dQ.out (fun q hq=>by
         simp only[Η,Jbh,or_false] at hq;obtain⟨IF,yM⟩:∃IF,Whole w5 g 67 IF:=⟨_,vH.out⟩
         rcases hq with rfl|rfl|rfl|rfl
         ·exact dQ.out.1.ne_ yM (show 28≠67 by decide)
         ·exact dQ.out.2.1.ne_ yM (show 36≠67 by decide)
         ·exact dQ.out.2.2.1.ne_ yM (show 28≠67 by decide)
         ·exact dQ.out.2.2.2.1.ne_ yM (show 25≠67 by decide)))
        have qX:=qh (js.out.setCell (p:=⟨g,j*4+3,ε⟩) (Λ OM.out N0.out) (J o.m))
        have CZ:Hid (Fs.set j (y.1,y.2.1,o.m)=(Es.take (j+1)).map (fun v:EC=>if v.1=bC o then(v.1,iF o v.2) else v)++Es.drop (j+1)):=qh (by
         rw[Mn.out,if_pos (show y.1=bC o from CE.out)];unfold iF;rw[if_neg Vj])
        have Lp:Hid ((Es.take (j+1)).any (fun v:EC=>decide (v.1=bC o))=τ):=qh (by rw[Ip.out,decide_eq_true (show y.1=bC o from CE.out),Bool.or_true]);obtain⟨w6,KR⟩:=az (w5.setCell ⟨g,j*4+3,ε⟩ (J o.m));rw[KR] at BO FQ qX ⊢;clear KR dQ oz js vH uX;go_wp2;go_roundw
        case rel=>exact⟨j+1,_,by omega,by rw[Lp.out],by go_num,BO,FQ,qX,CZ⟩
        case measure=>simp[intOf];omega
      ·have HQ:=qh (fun X=>(hq X).trans (by rw[decide_eq_false (show ¬(y.1.1,y.1.2)=(o.s,o.n) from py)]:_=.ok (Β ρ) X));have CE:=qh py;clear hq py;go_upto_region 14 with fail
       have iM:∀w',Kept aT wo.drew w'→w'.cell? ⟨b3,1,ε⟩=ζ (γ (ζ ⟨g,0,ε⟩) m k5):=fun w' h=>h.nil_cell (HX.out.2.2.2.1.dr.cell (i:=1) rfl)
       have ld1:∀w',Kept aT wo.drew w'→w'.cell? ⟨b1,17,ε⟩=ζ (Β τ):=fun w' h=>h.nil_cell ((HX.out.2.1.dr.cell (i:=17) rfl).trans (by rw[HE.out]))
       refine aw (aT) (by kernel_rfl) ?_;refine aq 0 ?_;refine aq 1 ?_;refine aq 2 ?_;refine aq 3 ?_;refine aq 4 ?_;refine aq 5 ?_;refine aq 6 ?_;refine aq 7 ?_;refine bN 8 (hy:=bA (by rfl) 30 (.tmp 65) rfl ⟨g,j*4,ε⟩ rfl [J y.1.1,J y.1.2] _ tK.out Tryz.underlying30 rfl (by kernel_rfl)) (h:=?_);refine aq 9 ?_;refine bN 10 (hy:=bA (by rfl) 30 (.tmp 67) rfl ⟨b1,1,ε⟩ rfl [J o.s,J o.n] _ (fun w' h i u hu=>(h.whole HX.out.2.1.dr (fun h=>h)).sub_ (cs:=aa o) (ds:=[J o.s,J o.n]) 1 hu) Tryz.underlying30 rfl (by kernel_rfl)) (h:=?_);refine bN 11 (hy:=dm (by rfl) (fun w' _=>bo .eql 30 (.tmp 66) (.tmp 68) 30 rfl rfl rfl (by kernel_rfl) (HQ.out w'))) (h:=?_);refine aq 12 ?_;refine aG (by kernel_rfl) ?_ _;intro w5 oL;have gM:σ wo.heap.size wo w5:=(Θ wo.heap.size wo).drew.trans oL;have dQ:=qh (HX.out.up gM);have oz:=qh (HC.out.bl gM);have js:=qh (af HB.out gM);have vH:=qh (FU.out.bl gM);have uX:=qh (fun i u hu=>(gM.cell (p:=⟨g,j*4+i,ε⟩) FU.out.lt).trans (Fv.out i u hu):∀i u,(eC y)[i]? =ζ u→w5.cell? ⟨g,j*4+i,ε⟩=ζ u);clear oL gM HX HC HB tK c0 HQ iM ld1 FU Fv
       have CZ:Hid (Fs=(Es.take (j+1)).map (fun v:EC=>if v.1=bC o then(v.1,iF o v.2) else v)++Es.drop (j+1)):=qh (by
        rw[Mn.out,if_neg (show ¬y.1=bC o from CE.out)];exact(sK HY.out).symm)
       have Lp:Hid ((Es.take (j+1)).any (fun v:EC=>decide (v.1=bC o))=pf):=qh (by rw[Ip.out,GP.out,decide_eq_false (show ¬y.1=bC o from CE.out),Bool.or_false]);go_wp2;go_roundw
       case rel=>exact⟨j+1,Fs,by omega,by rw[Lp.out],by go_num,dQ,oz,js,CZ⟩
       case measure=>simp[intOf];omega
     ·obtain rfl:m=j:=by omega
      have T7:Hid (Fs=rR Es (bC o) (iF o)):=qh (by
       have:=HU.out
       rw[Ι (by have:=BW.out;omega),Jak (by have:=BW.out;omega),Jbi] at this;exact this)
      have RU:Hid (cx Es (bC o)=pf):=qh (by
       have:=GP.out
       rw[Ι (by have:=BW.out;omega)] at this;exact this)
      clear HU GP;have Ua:=qh (T7.out▸HC.out.wr.dg);have YP:=UG;cases pf with
      |false=>
       obtain rfl:=(show setS (V,Es,G) (bC o) o.e (iF o)=(cC,13) from by unfold setS;rw[if_pos HE.out,if_neg (by rw[RU.out];decide)]).symm.trans HR.out;have z0:=HX.out.2.2.1.cell (i:=0) rfl;have y0:=HX.out.2.2.1.free 0;have z1:=HX.out.2.2.1.cell (i:=1) rfl;have y1:=HX.out.2.2.1.free 1;have z2:=HX.out.2.2.1.cell (i:=2) rfl;have y2:=HX.out.2.2.1.free 2;go_wp2;exact aE rfl b2 rfl rfl (((HX.out.2.2.1.set_ 0 (γ ε 0 0)).set_ 1 (γ ε 0 0)).set_ 2 (γ ε 0 0)) Tryz.underlying28 rfl (by kernel_rfl) rfl ⟨ε,0,0,ε,0,0,ε,0,0,[],rfl,dM _,rfl,aS.no _ _ _,((HB.out.setCell (p:=⟨b2,0,ε⟩) a8.out (γ ε 0 0)).setCell (p:=⟨b2,1,ε⟩) a8.out (γ ε 0 0)).setCell (p:=⟨b2,2,ε⟩) a8.out (γ ε 0 0)⟩
      |true=>
       have tx:Hid (setS (V,Es,G) (bC o) o.e (iF o)=((V,rR Es (bC o) (iF o),G),0)):=qh (by unfold setS;rw[if_pos HE.out,if_pos RU.out]);obtain rfl:=tx.out.symm.trans HR.out;have z0:=HX.out.2.2.1.cell (i:=0) rfl;have y0:=HX.out.2.2.1.free 0;have z1:=HX.out.2.2.1.cell (i:=1) rfl;have y1:=HX.out.2.2.1.free 1;have z2:=HX.out.2.2.1.cell (i:=2) rfl;have y2:=HX.out.2.2.1.free 2;have x0:=HX.out.2.2.2.1.cell (i:=0) rfl;have x1:=HX.out.2.2.2.1.cell (i:=1) rfl;have x2:=HX.out.1.cell (i:=2) rfl;have k0:=aP (a:=γ ε 0 0) (b:=γ ε 0 0) (d:=γ ε 0 0) (fun i=>by simp) (fun i=>by simp) (fun i=>by simp);have k1:=aP (a:=γ A5 n c5) (b:=γ ε 0 0) (d:=γ ε 0 0) (fun i=>by simp) (fun i=>by simp) (fun i=>by simp);have lZ:=aP (a:=γ A5 n c5) (b:=γ B5 m k5) (d:=γ ε 0 0) (fun i=>by simp) (fun i=>by simp) (fun i=>by simp);have Ij:=qh (xJ.out.bl HB.out);go_wp2;have s0:=HX.out.2.2.1;have s1:=s0.set_ 0 (γ A5 n c5);have s2:=s1.set_ 1 (γ B5 m k5);exact aE rfl b2 rfl rfl (s2.set_ 2 (γ C r rc)) Tryz.underlying28 rfl (by kernel_rfl) rfl ⟨A5,n,c5,B5,m,k5,C,r,rc,_,rfl,bf (bf (bf Ua.out s0 k0 0 _) s1 k1 1 _) s2 lZ 2 _,YP.out,bu (bu (bu Ij.out s0 k0 0 _) s1 k1 1 _) s2 lZ 2 _,((HB.out.setCell (p:=⟨b2,0,ε⟩) a8.out (γ A5 n c5)).setCell (p:=⟨b2,1,ε⟩) a8.out (γ B5 m k5)).setCell (p:=⟨b2,2,ε⟩) a8.out (γ C r rc)⟩
end Go.Proofs.YtpdpbfmiahjiiaaGreat
